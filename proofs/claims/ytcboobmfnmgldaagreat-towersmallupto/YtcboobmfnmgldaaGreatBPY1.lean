/- How far keys rise: package keys' generic function at keys (over layer 4's words). -/
import Derived.Defers
import Derived.Recover
import Derived.RegionDies
import Derived.Test.YtcboobmfnmgldaaGreatBPVo
set_option linter.unusedVariables false
set_option maxHeartbeats 4000000
set_option maxRecDepth 10000
open Go.Proofs.Tryz
namespace Go.Proofs.YtcboobmfnmgldaaGreat
open Go.RowKit
theorem Tz (x:Int) (w:World):Calls prog 141 #[By x] w fun e w'=>e=.returned (By x)/\w'=w:=by
  go_enter func141,ntmps141;go_wp2;go_ret;exact ⟨rfl,rfl⟩
theorem adC (ao:Option Addr) (n c:Nat) (f:Nat->Int) (hn:n<4611686018427387904) (w:World) (h:KS w ao n f) :
    Calls prog 140 #[.slice ao n c,.func (.func 141) #[] #[]] w fun e w'=>(∃ r:Nat,e=.returned (AI r)/\r<=n/\(∀ j,j+1<r->f j<f (j+1))/\(r<n->1<=r/\f r<=f (r-1)))/\Gw w w':=by
  go_enter func140,ntmps140;go_wp2_with fail;go_loopg [5] n (fun gg s5 wr=>∃ i:Nat,s5=AI i/\1<=i/\(i<=n\/i=1)/\n-i<=gg/\ag (∀ j,j+1<i->f j<f (j+1))/\ag (Gw w wr))
  case atStart=>exact ⟨1,rfl,Nat.le_refl _,.inr rfl,by omega,fun j hj=>by omega,Gw.refl w⟩
  case round =>
    obtain ⟨i,rfl,h1,h2,h3,H4,G⟩:=hrel;by_cases ar:i<n
    · obtain ⟨b,off,rfl,hb,hc⟩:=(h.gw G.o).cells (by omega)
      obtain ⟨m,hm⟩:∃ m:Nat,(i:Int)-1=m:=⟨i-1,by omega⟩
      have nj:m<n:=by omega
      have hw:=qu m (by omega)
      have c1:=hc i ar;have c0:=hc m nj;clear hc;generalize iu:f i=y1 at c1;generalize iv:f m=y0 at c0;have Y:ag (f i=y1/\f m=y0/\i=m+1):=⟨iu,iv,by omega⟩
      clear iu iv h h2;by_cases hle:y1<=y0
      · go_wp2_with fail
        go_quiet (first | (go_at_call 141;refine Calls.quiet_of_same (Tz _ _)))
        go_wp2_with fail;go_ret
        obtain ⟨e1,e2,e3⟩:=Y.o;refine ⟨⟨i,rfl,by omega,H4.o,fun _=>⟨h1,?_⟩⟩,?_⟩
        · rw [e1,show i-1=m by omega,e2];exact hle
        · exact G.o.drewN _
      · go_wp2_with fail
        go_quiet (first | (go_at_call 141;refine Calls.quiet_of_same (Tz _ _)))
        go_wp2_with fail;go_roundg (n-(m+2))
        case measure=>omega
        case rel =>
          obtain ⟨e1,e2,e3⟩:=Y.o;refine ⟨m+2,by go_num,by omega,by omega,Nat.le_refl _,(show ag _ from fun j hj=>?_),(show ag _ from G.o.drewN _)⟩
          by_cases kW:j=m
          · subst kW;rw [e2,<-e3,e1];omega
          · exact H4.o j (by omega)
    · go_wp2_with fail
      go_ret
      exact ⟨⟨n,rfl,Nat.le_refl _,fun j hj=>H4.o j (by omega),fun hh=>by omega⟩,G.o⟩
theorem Ir (ao:Option Addr) (n c:Nat) (f:Nat->Int) (hn:n<4611686018427387904) (w:World) (h:KS w ao n f) :
    Calls prog 119 #[.slice ao n c] w fun e w'=>(∃ r:Bool,e=.returned (.bool r)/\(r=true↔Up f n))/\Gw w w':=by
  go_enter func119,ntmps119;go_wp2_with fail;refine (adC ao n c f hn w h).mono ?_;rintro e w1 ⟨⟨r,rfl,h1,h2,h3⟩,g1⟩;have H:ag ((∀ j,j+1<r->f j<f (j+1))/\(r<n->1<=r/\f r<=f (r-1))):=⟨h2,h3⟩;clear h2 h3;go_wp2_with fail;go_ret;obtain ⟨h2,h3⟩:=H.o;refine ⟨⟨_,rfl,?_⟩,g1⟩;unfold Up;by_cases hr:r=n
  · subst hr;simpa using h2
  · have q:=h3 (by omega)
    have:¬ ((r:Int)=n):=by omega
    simp only [beq_iff_eq];constructor
    · intro hh;omega
    · intro hh
      have:=hh (r-1) (by omega)
      rw [show r-1+1=r by omega] at this
      omega
abbrev im (err:Int):List PanicEntry:=[{ v:=.iface 31 (AI err),recovered:=false }]
theorem kh (err:Int) (w:World):Calls prog 92 #[.bool true,AI err] w fun e w'=>e=.returned (.tuple #[])/\w'=w:=by
  go_enter func92,ntmps92;go_wp2_with fail;go_end0;exact ⟨rfl,rfl⟩
theorem oz (err:Int) (w:World):Calls prog 92 #[.bool false,AI err] w fun e w'=>e=.panicked (im err)/\w'=w:=by
  go_enter func92,ntmps92;go_wp2_with fail;exact ⟨rfl,rfl,rfl⟩
theorem adD (err:Int) (xT:TypeId) (w:World):(Instr.typeAssert (.iface 31 (AI err)) xT 31 true).run prog w=.ok (.tuple #[AI err,.bool true]) w:=by kernel_rfl
theorem TC (err:Int) (w:World):Calls prog 52 #[.iface 31 (AI err)] w fun e w'=>e=.returned (AI err)/\w'=w:=by
  have ha:=adD err;go_enter func52,ntmps52;go_wp2_with fail;go_ret;exact ⟨rfl,rfl⟩
theorem Is (eps:Int) (h:2<=eps/\eps<=64) (w:World):Calls prog 93 #[AI eps] w fun e w'=>e=.returned (.bool true)/\w'=w:=by
  have t1:decide (2<=eps)=true:=by simpa using h.1
  have t2:decide (eps<=64)=true:=by simpa using h.2
  clear h;go_enter func93,ntmps93;go_wp2_with fail;go_ret;exact ⟨rfl,rfl⟩
theorem TE (eps:Int) (h:¬ (2<=eps/\eps<=64)) (w:World):Calls prog 93 #[AI eps] w fun e w'=>e=.returned (.bool false)/\w'=w:=by
  by_cases h1:2<=eps
  · have t1:decide (2<=eps)=true:=by simpa using h1
    have t2:decide (eps<=64)=false:=by simp;omega
    clear h h1;go_enter func93,ntmps93;go_wp2_with fail;go_ret;exact ⟨rfl,rfl⟩
  · have t1:decide (2<=eps)=false:=by simpa using h1
    clear h h1;go_enter func93,ntmps93;go_wp2_with fail;go_ret;exact ⟨rfl,rfl⟩
theorem adE (e:Nat) (e2:2<=e) (e64:e<=64):∀ N:Nat,0<N->N<9223372036854775808->∀ w:World,Calls prog 126 #[AI (N:Int),AI (e:Int)] w fun ex w'=>ex=.returned (AI ((gR e N:Nat):Int))/\w'=w:=by
  intro N;induction N using Nat.strongRecOn with
  | ind N ih =>
    intro n0 n1 w;have IH:ag _:=ih;clear ih;have MB:ag (∀ w:World,Calls prog 93 #[AI (e:Int)] w fun e w'=>e=.returned (.bool true)/\w'=w):=fun w=>Is e ⟨by omega,by omega⟩ w
    have t3:decide ((N:Int)<1)=false:=by simp;omega
    have w2:IntKind.i64.wrap (2*(e:Int))=2*(e:Int):=by rw [IntKind.wrap_i64];omega
    have w3:IntKind.i64.wrap (2*(e:Int)-1)=2*(e:Int)-1:=by rw [IntKind.wrap_i64];omega
    have ez:((e:Int) == 0)=false:=by simp;omega
    by_cases c:N<=2*e-1
    · have HR:gR e N=1:=zC n0 c
      rw [HR];have tc:decide ((N:Int)<=2*(e:Int)-1)=true:=by simp;omega
      clear HR c;go_enter func126,ntmps126;go_wp2_with (go_at_call 93;refine (MB.o _).mono ?_;rintro ex w1 ⟨rfl,rfl⟩);go_ret;exact ⟨rfl,rfl⟩
    · have tc:decide ((N:Int)<=2*(e:Int)-1)=false:=by simp;omega
      have dl:=oW e2 c;have HR:=tK e2 c;have hl:=Mb e2 N;rw [HR] at hl ⊢;obtain ⟨d,hd⟩:∃ d,N/e=d:=⟨_,rfl⟩;have td:Int.tdiv (N:Int) (e:Int)=(d:Int):=by rw [<-hd];rfl
      rw [hd] at dl hl ⊢;have TJ:ag (∀ w:World,Calls prog 126 #[AI ((d:Int)+1),AI (e:Int)] w fun ex w'=>ex=.returned (AI ((gR e (d+1):Nat):Int))/\w'=w):=fun w=>IH.o (d+1) dl (Nat.succ_pos _) (by omega) w
      obtain ⟨R,hR⟩:∃ R,gR e (d+1)=R:=⟨_,rfl⟩;rw [hR] at hl TJ ⊢;clear hd HR IH hR;go_enter func126,ntmps126;go_wp2_with (first
        | (go_at_call 93;refine (MB.o _).mono ?_;rintro ex w1 ⟨rfl,rfl⟩)
        | (go_at_call 126;refine (TJ.o _).mono ?_;rintro ex w2 ⟨rfl,rfl⟩))
      go_ret
      exact ⟨by simp;omega,rfl⟩
theorem adF (n eps:Int) (n0:-9223372036854775808<=n) (n1:n<9223372036854775808) (e0:-9223372036854775808<=eps) (e1:eps<9223372036854775808) (w:World) :
    Calls prog 126 #[AI n,AI eps] w fun ex w'=>ex=.returned (AI (mo n eps))/\w'=w:=by
  by_cases h:2<=eps/\eps<=64
  · by_cases h1:1<=n
    · obtain ⟨e,rfl⟩:∃ e:Nat,eps=e:=⟨eps.toNat,by omega⟩
      obtain ⟨N,rfl⟩:∃ N:Nat,n=N:=⟨n.toNat,by omega⟩
      have MX:mo (N:Int) (e:Int)=(gR e N:Nat):=by
        unfold mo;rw [if_pos ⟨h.1,h.2,h1⟩,Int.toNat_natCast,Int.toNat_natCast]
      rw [MX];exact adE e (by omega) (by omega) N (by omega) (by omega) w
    · have t3:decide (n<1)=true:=by simp;omega
      have MX:mo n eps=0:=if_neg (fun q=>h1 q.2.2)
      have MB:ag (∀ w:World,Calls prog 93 #[AI eps] w fun e w'=>e=.returned (.bool true)/\w'=w):=fun w=>Is eps h w
      rw [MX];clear MX h h1;go_enter func126,ntmps126;go_wp2_with (go_at_call 93;refine (MB.o _).mono ?_;rintro ex w1 ⟨rfl,rfl⟩);go_ret;exact ⟨rfl,rfl⟩
  · have MX:mo n eps=0:=if_neg (fun q=>h ⟨q.1,q.2.1⟩)
    have MB:ag (∀ w:World,Calls prog 93 #[AI eps] w fun e w'=>e=.returned (.bool false)/\w'=w):=fun w=>TE eps h w
    rw [MX];clear MX h;go_enter func126,ntmps126;go_wp2_with (go_at_call 93;refine (MB.o _).mono ?_;rintro ex w1 ⟨rfl,rfl⟩);go_ret;exact ⟨rfl,rfl⟩
theorem adG (ao:Option Addr) (n c:Nat) (f:Nat->Int) (hn:n<4611686018427387904) (w:World) (h:KS w ao n f) :
    Calls prog 94 #[.slice ao n c] w fun e w'=>(∃ r:Bool,e=.returned (.bool r)/\(r=true↔Up f n))/\Gw w w':=by
  have HK:ag _:=h;clear h;go_enter func94,ntmps94;go_wp2_with fail;refine (Ir ao n c f hn w HK.o).mono ?_;rintro e w1 ⟨⟨r,rfl,hr⟩,g1⟩;have HR:ag _:=hr;clear hr;go_wp2_with fail;go_ret;exact ⟨⟨r,rfl,HR.o⟩,g1⟩
def Bp (e:Ending) (eps:Int) (f:Nat->Int) (n:Nat):Prop :=
  (¬ (2<=eps/\eps<=64)/\e=.panicked (im 1))\/((2<=eps/\eps<=64)/\¬ Up f n/\e=.panicked (im 80))\/((2<=eps/\eps<=64)/\Up f n/\e=.returned (.tuple #[]))
theorem TM (eps:Int) (ao:Option Addr) (n c:Nat) (f:Nat->Int) (hn:n<4611686018427387904) (w:World) (h:KS w ao n f) :
    Calls prog 53 #[.slice ao n c,AI eps] w fun e w'=>Bp e eps f n/\Gw w w':=by
  have HK:ag _:=h;clear h;by_cases k0:¬ (2<=eps/\eps<=64)
  · have R:ag (Bp (.panicked (im 1)) eps f n):=.inl ⟨k0,rfl⟩
    have MB:ag _:=fun w=>TE eps k0 w
    clear k0;go_enter func53,ntmps53;go_wp2_with fail;refine (MB.o _).mono ?_;rintro e w1 ⟨rfl,rfl⟩;go_wp2_with fail;refine (oz 1 _).mono ?_;rintro e w1 ⟨rfl,rfl⟩;go_wp2_with fail;exact ⟨rfl,R.o,Gw.refl _⟩
  · have KE:ag (2<=eps/\eps<=64):=Classical.not_not.1 k0
    have MB:ag _:=fun w=>Is eps KE.o w
    clear k0;go_enter func53,ntmps53;go_wp2_with fail;refine (MB.o _).mono ?_;rintro e w1 ⟨rfl,rfl⟩;go_wp2_with fail;refine (kh 1 _).mono ?_;rintro e w1 ⟨rfl,rfl⟩;go_wp2_with fail;refine (adG ao n c f hn _ HK.o).mono ?_;rintro e w2 ⟨⟨r,rfl,hr⟩,g2⟩;have HR:ag _:=hr;have G2:ag _:=g2;clear hr g2;cases r with
    | false =>
      have R:ag (Bp (.panicked (im 80)) eps f n):=.inr (.inl ⟨KE.o,fun q=>by have:=HR.o.2 q;simp at this,rfl⟩)
      go_wp2_with fail;refine (oz 80 _).mono ?_
      rintro e w3 ⟨rfl,rfl⟩;go_wp2_with fail;exact ⟨rfl,R.o,G2.o⟩
    | true =>
      have R:ag (Bp (.returned (.tuple #[])) eps f n):=.inr (.inr ⟨KE.o,HR.o.1 rfl,rfl⟩);go_wp2_with fail;refine (kh 80 _).mono ?_;rintro e w3 ⟨rfl,rfl⟩;go_wp2_with fail;go_end0;exact ⟨R.o,G2.o⟩
end Go.Proofs.YtcboobmfnmgldaaGreat
namespace Go.Proofs.YtcboobmfnmgldaaGreat
open Go.RowKit
attribute [local go_sem] iy
theorem adH (n:Nat) (hn:n*8<=140737488351232) (w:World) :
    (Instr.makeSlice 83 (AI (n:Int)) (AI (n:Int))).run prog w=.ok (.slice (some ⟨w.heap.size,0,none⟩) n n) (w.alloc (.cells (madeCells #[By 0] n) 42)):=by
  obtain ⟨i,hi,hz,hs,hb⟩:=info_parts qv;have hr:=run_make (P:=prog) w 83 42 i _ underlying83 hi hz .i64 .i64 (n:Int) (n:Int) (by omega) (Int.le_refl _) (by rw [hb];omega) (by omega)
  rw [hr,hs];have e1:((n:Int)).toNat=n:=by omega
  rw [e1,Nat.mul_one];rfl
theorem adI (w:World) (m:Nat):∃ f,(w.alloc (.cells (madeCells #[By 0] m) 42)).rowIs w.heap.size 42 m f:=by
  refine ⟨fun i=>(madeCells #[By 0] m)[i]!,?_⟩
  have:=World.rowIs_alloc w (madeCells #[By 0] m) 42 (fun i=>(madeCells #[By 0] m)[i]!) (fun i hi=>by simp [hi])
  rw [size_madeCells] at this;exact this
theorem adJ {w:World} {b n:Nat} {f:Nat->Int} (h:w.rowIs b 42 n (fun i=>By (f i))) (bd:∀ i,i<n->0<=f i/\f i<18446744073709551616):KS w (some ⟨b,0,none⟩) n f :=
  ⟨fun h0=>⟨b,0,rfl,h.lt,fun i hi=>by rw [Nat.zero_add,h.cell hi]⟩,bd⟩
theorem TQ (ao:Option Addr) (c:Nat) (l:List Sg) (hl:l.length<=4000000) (w:World) (h:GS w ao l) :
    Calls prog 95 #[.slice ao l.length c] w fun e w'=>(∃ b,e=.returned (.slice (some ⟨b,0,none⟩) l.length l.length)/\w.heap.size<=b/\KS w' (some ⟨b,0,none⟩) l.length (bf l))/\Gw w w':=by
  have HG:ag _:=h;clear h;obtain ⟨n,hn⟩:∃ n,l.length=n:=⟨_,rfl⟩;have LN:ag _:=hn;rw [hn] at hl;rw [hn];clear hn;have zU:=adH n (by omega)
  obtain ⟨g,hR⟩:=adI w n;have R3:ag ((w.alloc (.cells (madeCells #[By 0] n) 42)).rowIs w.heap.size 42 n g):=hR;have G3:ag (Gw w (w.alloc (.cells (madeCells #[By 0] n) 42))):=(Gw.refl w).alloc _ _;clear hR;go_enter func95,ntmps95;go_wp2_with fail;generalize w.alloc (.cells (madeCells #[By 0] n) 42)=w3 at R3 G3 ⊢;obtain ⟨b,hb⟩:∃ b,w.heap.size=b:=⟨_,rfl⟩;have B3:ag (w.heap.size<=b):=by rw [<-hb];exact Nat.le_refl _
  rw [hb] at R3 ⊢;clear hb;go_loopg [11] n (fun gg gV wr=>∃ i:Nat,gV=AI i/\i<=n/\n-i<=gg/\ag (wr.rowIs b 42 n (fun j=>if j<i then By (bf l j) else g j))/\ag (Gw w wr))
  case atStart=>exact ⟨0,rfl,Nat.zero_le _,by omega,(show ag _ from R3.o.congr fun j hj=>by simp),G3⟩
  case round =>
    clear R3 G3;obtain ⟨i,rfl,h1,h2,R,G⟩:=hrel;by_cases ar:i<n
    · obtain ⟨bk,off,rfl,fT,hc⟩:=(HG.o.gw G.o).cells (by rw [LN.o];omega)
      have q:=hc i (by rw [LN.o];exact ar)
      have FI:ag (bf l i=(l.getD i aK).k):=rfl;obtain ⟨s,hs⟩:∃ s,l.getD i aK=s:=⟨_,rfl⟩;rw [hs] at q FI;clear hs hc;obtain ⟨sk,dr,dt,cF,cu⟩:=s;have c0:wr.cell? ⟨bk,off+i*5,none⟩=some (By sk):=q.c0;have c1:wr.cell? ⟨bk,off+i*5+1,none⟩=some (.float .f64 dr):=q.c1;have c2:wr.cell? ⟨bk,off+i*5+2,none⟩=some (.float .f64 dt):=q.c2;have c3:wr.cell? ⟨bk,off+i*5+3,none⟩=some (AI cF):=q.c3;have c4:wr.cell? ⟨bk,off+i*5+4,none⟩=some (AI cu):=q.c4;clear q;have R5:ag ((wr.alloc (.cells #[By sk,.float .f64 dr,.float .f64 dt,AI cF,AI cu] 145)).rowIs b 42 n (fun j=>if j<i then By (bf l j) else g j)):=WK R.o ((Gw.refl wr).alloc _ _)
      have G5:ag (Gw w (wr.alloc (.cells #[By sk,.float .f64 dr,.float .f64 dt,AI cF,AI cu] 145))):=G.o.alloc _ _;have r0:=R5.o.cell (i:=i) ar;have f0:=R5.o.frozen i;clear R G;go_wp2_with fail;go_roundg (n-(i+1))
      case measure=>omega
      case rel=>exact ⟨i+1,by go_num,by omega,Nat.le_refl _,(show ag _ from (R5.o.set i (By sk)).congr fun j hj=>by
          by_cases e:j=i
          · subst e;rw [if_pos rfl,if_pos (by omega),FI.o]
          · rw [if_neg e]
            by_cases q2:j<i
            · rw [if_pos q2,if_pos (by omega)]
            · rw [if_neg q2,if_neg (by omega)]),(show ag _ from G5.o.setCell B3.o _)⟩
    · have e:i=n:=by omega
      subst e;have K8:ag _:=adJ (R.o.congr fun j hj=>by simp [hj]) (fun j hj=>LZ HG.o j (by rw [LN.o];exact hj))
      clear R;go_wp2_with fail;go_ret;exact ⟨⟨b,rfl,B3.o,K8.o⟩,G.o⟩
def lT (e:Ending) (E:Int):Prop:=(E=0/\e=.returned (.tuple #[]))\/(E≠0/\e=.panicked (im E))
theorem adK (ao:Option Addr) (c:Nat) (l:List Sg) (m:Nat) (hl:l.length<=4000000) (hm:m<=4000000) (w:World) (h:GS w ao l) :
    Calls prog 150 #[AI (m:Int),.slice ao l.length c] w fun e w'=>lT e (if dx m 0 l then 0 else 82)/\Gw w w':=by
  have HG:ag _:=h;clear h;obtain ⟨r,hr⟩:∃ r,dx m 0 l=r:=⟨_,rfl⟩;have HR:ag _:=(ZS l 0).trans hr;rw [hr];clear hr;have qW:ag (r=true->lT (.returned (.tuple #[])) (if r then 0 else 82)):=fun q=>by rw [q];exact .inl ⟨rfl,rfl⟩
  have NO:ag (r=false->lT (.panicked (im 82)) (if r then 0 else 82)):=fun q=>by rw [q];exact .inr ⟨by decide,rfl⟩
  generalize (if r then (0:Int) else 82)=E at qW NO ⊢
  have N1:ag _:=fun w=>kh 82 w
  have N2:ag _:=fun w=>oz 82 w
  obtain ⟨n,hn⟩:∃ n,l.length=n:=⟨_,rfl⟩;have LN:ag _:=hn;rw [hn] at hl;rw [hn];clear hn;go_enter func150,ntmps150;go_wp2_with fail;go_loopg [4,9] n (fun gg s4 s9 wr=>∃ (i:Nat) (a:Int),s4=AI a/\s9=AI i/\i<=n/\n-i<=gg/\ag (r=iA m a (l.drop i))/\ag (Gw w wr))
  case atStart=>exact ⟨0,0,rfl,rfl,Nat.zero_le _,by omega,(show ag _ from HR.o.symm),(show ag _ from Gw.refl w)⟩
  case round =>
    obtain ⟨i,a,rfl,rfl,h1,h2,T,G⟩:=hrel;by_cases ar:i<n
    · obtain ⟨bk,off,rfl,fT,hc⟩:=(HG.o.gw G.o).cells (by rw [LN.o];omega)
      have q:=hc i (by rw [LN.o];exact ar)
      have TT:ag (r=iA m a (l.getD i aK::l.drop (i+1))):=by rw [<-Ma (by rw [LN.o];exact ar)];exact T.o
      obtain ⟨s,hs⟩:∃ s,l.getD i aK=s:=⟨_,rfl⟩;rw [hs] at q TT;clear hs hc T;obtain ⟨sk,dr,dt,cF,cu⟩:=s;have c0:wr.cell? ⟨bk,off+i*5,none⟩=some (By sk):=q.c0;have c1:wr.cell? ⟨bk,off+i*5+1,none⟩=some (.float .f64 dr):=q.c1;have c2:wr.cell? ⟨bk,off+i*5+2,none⟩=some (.float .f64 dt):=q.c2;have c3:wr.cell? ⟨bk,off+i*5+3,none⟩=some (AI cF):=q.c3;have c4:wr.cell? ⟨bk,off+i*5+4,none⟩=some (AI cu):=q.c4;clear q;have G5:ag (Gw w (wr.alloc (.cells #[By sk,.float .f64 dr,.float .f64 dt,AI cF,AI cu] 145))):=G.o.alloc _ _;clear G;by_cases d1:cF=a
      · by_cases d2:a<cu
        · have T5:ag (r=iA m cu (l.drop (i+1))):=by
            show r=_;rw [TT.o,DB];show (decide (cF=a)&&decide (a<cu)&&_)=_;rw [decide_eq_true d1,decide_eq_true d2];rfl
          have b1:(cF == a)=true:=by simpa using d1
          have b2:decide (a<cu)=true:=by simpa using d2
          clear TT d1 d2;go_wp2_with fail;refine (N1.o _).mono ?_;rintro e w6 ⟨rfl,rfl⟩;go_wp2_with fail;go_roundg (n-(i+1))
          case measure=>omega
          case rel=>exact ⟨i+1,cu,rfl,by go_num,by omega,Nat.le_refl _,T5,G5⟩
        · have rn:r=false:=by
            rw [TT.o,DB];show (decide (cF=a)&&decide (a<cu)&&_)=_;rw [decide_eq_false d2];simp
          have R5:=NO.o rn;have b1:(cF == a)=true:=by simpa using d1
          have b2:decide (a<cu)=false:=by simpa using d2
          have E5:ag (lT (.panicked (im 82)) E):=R5;clear TT d1 d2 R5 rn;go_wp2_with fail;refine (N2.o _).mono ?_;rintro e w6 ⟨rfl,rfl⟩;go_wp2_with fail;exact ⟨rfl,E5.o,G5.o⟩
      · have rn:r=false:=by
          rw [TT.o,DB];show (decide (cF=a)&&decide (a<cu)&&_)=_;rw [decide_eq_false d1];simp
        have E5:ag (lT (.panicked (im 82)) E):=NO.o rn;have b1:(cF == a)=false:=by simpa using d1
        clear TT d1 rn;go_wp2_with fail;refine (N2.o _).mono ?_;rintro e w6 ⟨rfl,rfl⟩;go_wp2_with fail;exact ⟨rfl,E5.o,G5.o⟩
    · have e:i=n:=by omega
      subst e;have T':ag (r=decide (a=m)):=by
        show r=decide (a=m);rw [T.o,List.drop_eq_nil_of_le (by rw [LN.o];exact Nat.le_refl _)];rfl
      by_cases am:a=m
      · have tb:(a == (m:Int))=true:=by simpa using am
        have E5:ag (lT (.returned (.tuple #[])) E):=qW.o (by rw [T'.o];simpa using am)
        clear am;go_wp2_with fail;refine (N1.o _).mono ?_;rintro e w6 ⟨rfl,rfl⟩;go_wp2_with fail;go_end0;exact ⟨E5.o,G.o⟩
      · have tb:(a == (m:Int))=false:=by simpa using am
        have E5:ag (lT (.panicked (im 82)) E):=NO.o (by rw [T'.o];simpa using am)
        clear am;go_wp2_with fail;refine (N2.o _).mono ?_;rintro e w6 ⟨rfl,rfl⟩;go_wp2_with fail;exact ⟨rfl,E5.o,G.o⟩
end Go.Proofs.YtcboobmfnmgldaaGreat
namespace Go.Proofs.YtcboobmfnmgldaaGreat
open Go.RowKit
attribute [local go_sem] iy
def It (eps:Int) (h:Nat->Int) (m:Nat) (s:Sg):Int :=
  if cg s.sl s.ic s.fr s.te≠0 then cg s.sl s.ic s.fr s.te else if s.k≠h 0 then 83 else if eps<dI (cC s.k s.sl s.ic s.fr s.te h) m then 85 else 0
theorem adL (eps:Int) (f:Nat->Int) (s:Sg):It eps (sh f s.fr.toNat) (s.te-s.fr).toNat s=jh eps f s:=rfl
theorem adM (M:gQ) (eps:Int) (s:Sg) (OK:s.ok) (bk off m c:Nat) (h:Nat->Int) (hm:(m:Int)=s.te-s.fr) (m0:0<m) (m1:m<=4000000) (mc:m<=c) (u:Up h m) (w:World) (k:KS w (some ⟨bk,off,none⟩) m h) :
    Calls prog 151 #[.slice (some ⟨bk,off,none⟩) m c,AI eps,eC s.k s.sl s.ic s.fr s.te] w fun e w'=>lT e (It eps h m s)/\Gw w w':=by
  obtain ⟨sk,dr,dt,cF,cu⟩:=s;have HK:ag _:=k;have UP:ag _:=u;have HM:ag _:=hm;have CK:ag (∀ W,Calls prog 170 #[eC sk dr dt cF cu] W fun e w'=>e=.returned (AI (cg dr dt cF cu))/\Gw W w'):=fun W=>M.check sk dr dt cF cu OK W
  have OF:ag (∀ W,KS W (some ⟨bk,off,none⟩) m h->Calls prog 171 #[eC sk dr dt cF cu,.slice (some ⟨bk,off,none⟩) m c] W fun e w'=>LH e sk dr dt cF cu m h/\Gw W w'):=fun W hk=>M.off sk dr dt cF cu _ m c h OK (by omega) mc W hk
  obtain ⟨E,hE⟩:∃ E,It eps h m ⟨sk,dr,dt,cF,cu⟩=E:=⟨_,rfl⟩;have HE:ag (E=if cg dr dt cF cu≠0 then cg dr dt cF cu else if sk≠h 0 then 83 else if eps<dI (cC sk dr dt cF cu h) m then 85 else 0):=hE.symm
  rw [hE];obtain ⟨X,hX⟩:∃ X,cg dr dt cF cu=X:=⟨_,rfl⟩;have HX:ag _:=hX;rw [hX] at CK HE;have SB:ag (Sb (w.alloc (.cells #[By sk,.float .f64 dr,.float .f64 dt,AI cF,AI cu] 145)) w.heap.size sk dr dt cF cu):=heap_alloc_new w _;have G0:ag (Gw w (w.alloc (.cells #[By sk,.float .f64 dr,.float .f64 dt,AI cF,AI cu] 145))):=(Gw.refl w).alloc _ _;clear hE hX k u hm OK M;go_enter func151,ntmps151;go_wp2_with fail;generalize w.alloc (.cells #[By sk,.float .f64 dr,.float .f64 dt,AI cF,AI cu] 145)=w0 at SB G0 ⊢;obtain ⟨xb,TV⟩:∃ xb,w.heap.size=xb:=⟨_,rfl⟩;rw [TV] at SB ⊢;clear TV;refine (CK.o _).mono ?_;rintro e w1 ⟨rfl,g1⟩;have Iu:ag (Sb w1 xb sk dr dt cF cu):=SB.o.gw g1;have G1:ag _:=G0.o.trans g1;clear g1 SB G0;by_cases x0:X=0
  · subst x0
    have qe:ag (E=if sk≠h 0 then 83 else if eps<dI (cC sk dr dt cF cu h) m then 85 else 0):=by
      have:=HE.o
      rw [if_neg (fun q=>q rfl)] at this
      exact this
    obtain ⟨z0,z1,z2,z3,z4⟩:=Iu.o.cells;have zl:=Iu.o.lt;obtain ⟨kb,kf,ekk,jk,dY⟩:=(HK.o.gw G1.o).cells m0;cases ekk;have kc:=dY 0 m0;rw [Nat.add_zero] at kc;obtain ⟨gf,Iv⟩:∃ y,h 0=y:=⟨_,rfl⟩;have GF:ag _:=Iv;rw [Iv] at kc qe;clear dY Iv HE;go_wp2_with fail;refine (kh 0 _).mono ?_;rintro e w2 ⟨rfl,rfl⟩;by_cases kk:sk=gf
    · have b3:(sk == gf)=true:=by simpa using kk
      have yf:ag (E=if eps<dI (cC sk dr dt cF cu h) m then 85 else 0):=by
        have:=qe.o
        rw [if_neg (fun q=>q kk)] at this
        exact this
      have GK:ag (h 0=sk):=by show _=_;rw [GF.o,kk]
      clear qe GF kk;go_wp2_with fail;go_quiet (first | (go_at_call 92;refine Calls.quiet_of_same (kh 83 _)))
      go_wp2_with fail;have G2:ag (Gw w (w2.drewN nq)):=G1.o.drewN _
      refine (OF.o _ (HK.o.gw G2.o)).mono ?_;rintro e w3 ⟨⟨N,er,rfl,hN⟩,g3⟩;have G3:ag _:=G2.o.trans g3;obtain ⟨rfl,rfl⟩:N=dI (cC sk dr dt cF cu h) m/\er=0:=by
        rcases hN with ⟨a,_⟩ | ⟨_,a,_⟩ | ⟨_,_,a,b⟩
        · exact absurd HX.o a
        · exact absurd ⟨HM.o,GK.o,UP.o⟩ a
        · exact ⟨a,b⟩
      generalize dI (cC sk dr dt cF cu h) m=N at yf hN ⊢;clear hN g3 G2 G1 Iu z0 z1 z2 z3 z4 zl kc jk HX GK UP HM HK OF CK;go_wp2_with fail;refine (kh 0 _).mono ?_;rintro e w4 ⟨rfl,rfl⟩;by_cases cY:eps<N
      · have b4:decide (N<=eps)=false:=by simp;omega
        have E5:E=85:=by rw [yf.o,if_pos cY]
        subst E5;clear yf cY;go_wp2_with fail;refine (oz 85 _).mono ?_;rintro e w5 ⟨rfl,rfl⟩;go_wp2_with fail;exact ⟨rfl,.inr ⟨by decide,rfl⟩,G3.o⟩
      · have b4:decide (N<=eps)=true:=by simp;omega
        have E5:E=0:=by rw [yf.o,if_neg cY]
        subst E5;clear yf cY;go_wp2_with fail;refine (kh 85 _).mono ?_;rintro e w5 ⟨rfl,rfl⟩;go_wp2_with fail;go_end0;exact ⟨.inl ⟨rfl,rfl⟩,G3.o⟩
    · have b3:(sk == gf)=false:=by simpa using kk
      have E5:E=83:=by rw [qe.o,if_pos kk]
      subst E5;clear qe;go_wp2_with fail;go_region_dies
      all_goals go_wp2_with fail
      all_goals refine (oz 83 _).mono ?_
      all_goals rintro e w3 ⟨rfl,rfl⟩
      all_goals go_wp2_with fail
      all_goals exact ⟨rfl,.inr ⟨by decide,rfl⟩,(by repeat (first | exact G1.o | refine Gw.drew ?_ | refine Gw.drewN ?_ _))⟩
  · have tx:(X == 0)=false:=by simpa using x0
    have E5:E=X:=by rw [HE.o,if_pos x0]
    subst E5;clear HE;go_wp2_with fail;refine (oz _ _).mono ?_;rintro e w2 ⟨rfl,rfl⟩;go_wp2_with fail;exact ⟨rfl,.inr ⟨x0,rfl⟩,G1.o⟩
end Go.Proofs.YtcboobmfnmgldaaGreat
namespace Go.Proofs.YtcboobmfnmgldaaGreat
open Go.RowKit
attribute [local go_sem] iy
def Bq (eps:Int) (g:Nat->Int) (m:Nat) (l:List Sg):Int:=if dx m 0 l then dW eps g l else 82
theorem adN (M:gQ) (eps:Int) (bo:Option Addr) (m c:Nat) (g:Nat->Int) (m1:m<=4000000) (mc:m<=c) (u:Up g m) (ao:Option Addr) (cl:Nat) (l:List Sg) (hl:l.length<=4000000) (w:World) (k:KS w bo m g) (h:GS w ao l) :
    Calls prog 128 #[.slice bo m c,AI eps,.slice ao l.length cl] w fun e w'=>lT e (Bq eps g m l)/\Gw w w':=by
  have HG:ag (GS w ao l):=h;have HK:ag (KS w bo m g):=k;have UP:ag (Up g m):=u;have NT:ag (∀ W,GS W ao l->Calls prog 150 #[AI (m:Int),.slice ao l.length cl] W fun e w'=>lT e (if dx m 0 l then 0 else 82)/\Gw W w'):=fun W h=>adK ao cl l m hl m1 W h
  have NS:ag _:=fun (s:Sg) (OK:s.ok) (bk off n c:Nat) (h:Nat->Int) (hm:(n:Int)=s.te-s.fr) (m0:0<n) (m1:n<=4000000) (mc:n<=c) (u:Up h n) (w:World) (k:KS w (some ⟨bk,off,none⟩) n h)=>adM M eps s OK bk off n c h hm m0 m1 mc u w k
  clear h k u M;obtain ⟨E,hE⟩:∃ E,Bq eps g m l=E:=⟨_,rfl⟩;have HE:ag (E=if dx m 0 l then dW eps g l else 82):=hE.symm
  rw [hE];clear hE;obtain ⟨n,hn⟩:∃ n,l.length=n:=⟨_,rfl⟩;have LN:ag (l.length=n):=hn;rw [hn] at hl NT;rw [hn];clear hn;go_enter func128,ntmps128;go_wp2_with fail;refine (NT.o _ HG.o).mono ?_;rintro e w1 ⟨h1,g1⟩;have G1:ag (Gw w w1):=g1;clear g1 NT;by_cases tb:dx m 0 l=true
  · have TI:ag (dx m 0 l=true):=tb
    rw [if_pos tb] at h1;obtain rfl:e=.returned (.tuple #[]):=by
      rcases h1 with ⟨_,q⟩ | ⟨q,_⟩
      · exact q
      · exact absurd rfl q
    have qe:ag (E=dW eps g l):=by
      have:=HE.o
      rw [if_pos tb] at this;exact this
    clear HE tb h1;go_wp2_with fail;go_loopg [14] n (fun gg ru wr=>∃ i:Nat,ru=AI i/\i<=n/\n-i<=gg/\ag (E=dW eps g (l.drop i))/\ag (Gw w wr))
    case atStart=>exact ⟨0,rfl,Nat.zero_le _,by omega,qe,G1⟩
    case round =>
      clear qe G1;obtain ⟨i,rfl,h1,h2,T,G⟩:=hrel;by_cases ar:i<n
      · obtain ⟨sb,sf,rfl,Ps,hc⟩:=(HG.o.gw G.o).cells (by rw [LN.o];omega)
        have q:=hc i (by rw [LN.o];exact ar)
        have TT:ag (E=dW eps g (l.getD i aK::l.drop (i+1))):=by rw [<-Ma (by rw [LN.o];exact ar)];exact T.o
        have TA:=DA TI.o i (by rw [LN.o];exact ar)
        have OK:=HG.o.ok i (by rw [LN.o];exact ar)
        obtain ⟨s,hs⟩:∃ s,l.getD i aK=s:=⟨_,rfl⟩;rw [hs] at q TT TA OK;clear hs hc T;obtain ⟨fa,Iw⟩:∃ fa:Nat,s.fr=fa:=⟨s.fr.toNat,by omega⟩
        obtain ⟨tb,sq⟩:∃ tb:Nat,s.te=tb:=⟨s.te.toNat,by omega⟩
        have fm:fa<m:=by omega
        have ft:fa<tb:=by omega
        have tm:tb<=m:=by omega
        clear TA;obtain ⟨bk,off,rfl,fT,dY⟩:=(HK.o.gw G.o).cells (by omega)
        have CC:ag (∀ W,Gw w W->Calls prog 151 #[.slice (some ⟨bk,off+fa,none⟩) (tb-fa) (c-fa),AI eps,eC s.k s.sl s.ic s.fr s.te] W fun e w'=>lT e (jh eps g s)/\Gw W w'):=fun W gW=>by
          have:=NS.o s OK bk (off+fa) (tb-fa) (c-fa) (sh g fa) (by omega) (by omega) (by omega) (by omega) (oJ UP.o tm) W (DG (HK.o.gw gW) tm)
          rw [<-adL,Iw,sq,Int.toNat_natCast,show ((tb:Int)-(fa:Int)).toNat=tb-fa by omega]
          rw [Iw,sq] at this;exact this
        obtain ⟨X,hX⟩:∃ X,jh eps g s=X:=⟨_,rfl⟩;have TX:ag (E=if X≠0 then X else dW eps g (l.drop (i+1))):=by
          have:=TT.o
          rw [ZW,hX] at this;exact this
        rw [hX] at CC;obtain ⟨sk,dr,dt,cF,cu⟩:=s;obtain rfl:cF=fa:=Iw;obtain rfl:cu=tb:=sq;have c0:wr.cell? ⟨sb,sf+i*5,none⟩=some (By sk):=q.c0;have c1:wr.cell? ⟨sb,sf+i*5+1,none⟩=some (.float .f64 dr):=q.c1;have c2:wr.cell? ⟨sb,sf+i*5+2,none⟩=some (.float .f64 dt):=q.c2;have c3:wr.cell? ⟨sb,sf+i*5+3,none⟩=some (AI (fa:Int)):=q.c3;have c4:wr.cell? ⟨sb,sf+i*5+4,none⟩=some (AI (tb:Int)):=q.c4;have G5:ag (Gw w (wr.alloc (.cells #[By sk,.float .f64 dr,.float .f64 dt,AI (fa:Int),AI (tb:Int)] 145))):=G.o.alloc _ _;clear q hX TT dY G OK;have tc:tb<=c:=by omega
        have fc:¬ fa=c:=by omega
        have cf:¬ c=fa:=by omega
        have i1:(0:Int)<=(fa:Int):=by omega
        have i2:(fa:Int)<=(tb:Int):=by omega
        have i3:(tb:Int)<=(c:Int):=by omega
        have ft':fa<=tb:=by omega
        go_wp2_with fail;go_region_dies
        all_goals refine (CC.o _ G5.o.drew).mono ?_
        all_goals rintro e w6 ⟨he,g6⟩
        all_goals have G6:ag (Gw w w6):=G5.o.drew.trans g6
        all_goals clear g6
        all_goals rcases he with ⟨x0,rfl⟩ | ⟨x0,rfl⟩
        all_goals first
          | (
             have E5:E=X:=by rw [TX.o,if_pos x0]
             subst E5;go_wp2_with fail;exact ⟨rfl,.inr ⟨x0,rfl⟩,G6.o⟩)
          | (have TN:ag (E=dW eps g (l.drop (i+1))):=by
               have:=TX.o
               rw [if_neg (fun q=>q x0)] at this
               exact this
             clear TX;go_wp2_with fail;refine wpAny_done (by kernel_rfl) ?_ _
             go_wp2_with fail;go_roundg (n-(i+1))
             case measure=>omega
             case rel=>exact ⟨i+1,by go_num,by omega,Nat.le_refl _,TN,G6⟩)
      · have e:i=n:=by omega
        subst e;have E0:E=0:=by
          rw [T.o,List.drop_eq_nil_of_le (by rw [LN.o];exact Nat.le_refl _)];rfl
        subst E0;go_wp2_with fail;go_end0;exact ⟨.inl ⟨rfl,rfl⟩,G.o⟩
  · rw [if_neg tb] at h1
    obtain rfl:e=.panicked (im 82):=by
      rcases h1 with ⟨q,_⟩ | ⟨_,q⟩
      · exact absurd q (by decide)
      · exact q
    have E5:E=82:=by rw [HE.o,if_neg tb]
    subst E5;clear HE tb h1;go_wp2_with fail;exact ⟨rfl,.inr ⟨by decide,rfl⟩,G1.o⟩
end Go.Proofs.YtcboobmfnmgldaaGreat
