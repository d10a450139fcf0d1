import Derived.RegionDies
import Derived.Test.YtaemofgeciklkaaGreatEPVo
set_option linter.unusedVariables false
set_option maxHeartbeats 4000000
set_option maxRecDepth 10000
open Go.Proofs.Tryz
namespace Go.Proofs.YtaemofgeciklkaaGreat
open Go.RowKit
theorem Wh (x:Int) (w:World):Calls prog 189 #[BY x] w fun e w'=>e=χ (BY x)/\w'=w:=by go_enter func189,ntmps189;go_wp2;go_ret;exact ⟨rfl,rfl⟩
theorem afN (ao:Option Addr) (n c:Nat) (f:Nat->Int) (hn:n<4611686018427387904) (w:World) (h:KS w ao n f) :
    Calls prog 188 #[.slice ao n c,.func (.func 189) #[] #[]] w fun e w'=>(∃ r:Nat,e=χ (By r)/\r<=n/\(∀ j,j+1<r->f j<f (j+1))/\(r<n->1<=r/\f r<=f (r-1)))/\Gw w w':=by
  go_enter func188,ntmps188;go_wp2_with fail;go_loopg [5] n (fun gg s5 wr=>∃ i:Nat,s5=By i/\1<=i/\(i<=n\/i=1)/\n-i<=gg/\ag (∀ j,j+1<i->f j<f (j+1))/\ag (Gw w wr))
  case atStart=>exact ⟨1,rfl,Yk _,.inr rfl,ω,fun j hj=>ω,Gw.refl w⟩
  case round =>
    obtain ⟨i,rfl,h1,h2,h3,H4,G⟩:=hrel;by_cases ar:i<n
    · obtain ⟨b,off,rfl,hb,hc⟩:=(h.gw G.o).cells ω
      obtain ⟨m,hm⟩:∃ m:Nat,(i:Int)-1=m:=⟨i-1,ω⟩;have pj:m<n:=ω;have hw:=sJ m ω;have c1:=hc i ar;have c0:=hc m pj;clear hc;generalize iS:f i=y1 at c1;generalize iT:f m=y0 at c0;have Y:ag (f i=y1/\f m=y0/\i=m+1):=⟨iS,iT,ω⟩;clear iS iT h h2;by_cases hle:y1<=y0
      · go_wp2_with fail
        go_quiet (first | (go_at_call 189;refine Calls.quiet_of_same (Wh _ _)))
        go_wp2_with fail;go_ret
        obtain ⟨e1,e2,e3⟩:=Y.o;refine ⟨⟨i,rfl,ω,H4.o,fun _=>⟨h1,?_⟩⟩,?_⟩
        · rw [e1,show i-1=m by omega,e2];exact hle
        · exact G.o.drewN _
      · go_wp2_with fail
        go_quiet (first | (go_at_call 189;refine Calls.quiet_of_same (Wh _ _)))
        go_wp2_with fail;go_roundg (n-(m+2))
        case measure=>omega
        case rel =>
          obtain ⟨e1,e2,e3⟩:=Y.o;refine ⟨m+2,by go_num,ω,ω,Yk _,(show ag _ from fun j hj=>?_),(show ag _ from G.o.drewN _)⟩
          by_cases mT:j=m
          · subst mT;rw [e2,<-e3,e1];omega
          · exact H4.o j ω
    · go_wp2_with fail
      go_ret
      exact ⟨⟨n,rfl,Yk _,fun j hj=>H4.o j ω,fun hh=>ω⟩,G.o⟩
theorem Kr (ao:Option Addr) (n c:Nat) (f:Nat->Int) (hn:n<4611686018427387904) (w:World) (h:KS w ao n f) :
    Calls prog 172 #[.slice ao n c] w fun e w'=>(∃ r:Bool,e=χ (.bool r)/\(r=true↔Up f n))/\Gw w w':=by
  go_enter func172,ntmps172;go_wp2_with fail;refine (afN ao n c f hn w h).mono ?_;rintro e w1 ⟨⟨r,rfl,h1,h2,h3⟩,g1⟩;have H:ag ((∀ j,j+1<r->f j<f (j+1))/\(r<n->1<=r/\f r<=f (r-1))):=⟨h2,h3⟩;clear h2 h3;go_wp2_with fail;go_ret;obtain ⟨h2,h3⟩:=H.o;refine ⟨⟨_,rfl,?_⟩,g1⟩;unfold Up;by_cases hr:r=n
  · subst hr;simpa using h2
  · have q:=h3 ω
    have:¬ ((r:Int)=n):=ω
    simp only [beq_iff_eq];constructor
    · intro hh;omega
    · intro hh
      have:=hh (r-1) ω
      rw [show r-1+1=r by omega] at this
      omega
abbrev iP (err:Int):List PanicEntry:=[{ v:=.iface 27 (By err),recovered:=false }]
theorem lN (err:Int) (w:World):Calls prog 153 #[.bool true,By err] w fun e w'=>e=π #[]/\w'=w:=by go_enter func153,ntmps153;go_wp2_with fail;go_end0;exact ⟨rfl,rfl⟩
theorem qv (err:Int) (w:World):Calls prog 153 #[.bool false,By err] w fun e w'=>e=.panicked (iP err)/\w'=w:=by go_enter func153,ntmps153;go_wp2_with fail;exact ⟨rfl,rfl,rfl⟩
theorem afO (err:Int) (xT:TypeId) (w:World):(Instr.typeAssert (.iface 27 (By err)) xT 27 true).run prog w=.ok (.tuple #[By err,.bool true]) w:=η
theorem Wj (err:Int) (w:World):Calls prog 139 #[.iface 27 (By err)] w fun e w'=>e=χ (By err)/\w'=w:=by have ha:=afO err;go_enter func139,ntmps139;go_wp2_with fail;go_ret;exact ⟨rfl,rfl⟩
theorem Ks (eps:Int) (h:2<=eps/\eps<=64) (w:World):Calls prog 154 #[By eps] w fun e w'=>e=χ (.bool true)/\w'=w:=by
  have t1:decide (2<=eps)=true:=by simpa using h.1
  have t2:decide (eps<=64)=true:=by simpa using h.2
  clear h;go_enter func154,ntmps154;go_wp2_with fail;go_ret;exact ⟨rfl,rfl⟩
theorem Wk (eps:Int) (h:¬ (2<=eps/\eps<=64)) (w:World):Calls prog 154 #[By eps] w fun e w'=>e=χ (.bool false)/\w'=w:=by
  by_cases h1:2<=eps
  · have t1:decide (2<=eps)=true:=by simpa using h1
    have t2:decide (eps<=64)=false:=(by simp;omega);clear h h1;go_enter func154,ntmps154;go_wp2_with fail;go_ret;exact ⟨rfl,rfl⟩
  · have t1:decide (2<=eps)=false:=by simpa using h1
    clear h h1;go_enter func154,ntmps154;go_wp2_with fail;go_ret;exact ⟨rfl,rfl⟩
theorem afP (e:Nat) (e2:2<=e) (e64:e<=64):∀ N:Nat,0<N->N<9223372036854775808->∀ w:World,Calls prog 179 #[By (N:Int),By (e:Int)] w fun ex w'=>ex=χ (By ((iE e N:Nat):Int))/\w'=w:=by
  intro N;induction N using Nat.strongRecOn with
  | ind N ih =>
    intro n0 n1 w;have IH:ag _:=ih;clear ih;have MB:ag (∀ w:World,Calls prog 154 #[By (e:Int)] w fun e w'=>e=χ (.bool true)/\w'=w):=fun w=>Ks e ⟨ω,ω⟩ w
    have t3:decide ((N:Int)<1)=false:=(by simp;omega);have w2:IntKind.i64.wrap (2*(e:Int))=2*(e:Int):=(by rw [Δ];omega);have w3:IntKind.i64.wrap (2*(e:Int)-1)=2*(e:Int)-1:=(by rw [Δ];omega);have ez:((e:Int) == 0)=false:=(by simp;omega);by_cases c:N<=2*e-1
    · have HR:iE e N=1:=Bi n0 c
      rw [HR];have tc:decide ((N:Int)<=2*(e:Int)-1)=true:=(by simp;omega);clear HR c;go_enter func179,ntmps179;go_wp2_with (go_at_call 154;refine (MB.o _).mono ?_;rintro ex w1 ⟨rfl,rfl⟩);go_ret;exact ⟨rfl,rfl⟩
    · have tc:decide ((N:Int)<=2*(e:Int)-1)=false:=by simp;omega
      have dl:=qV e2 c;have HR:=vy e2 c;have hl:=OM e2 N;rw [HR] at hl ⊢;obtain ⟨d,hd⟩:=qbr (N/e);have td:Int.tdiv (N:Int) (e:Int)=(d:Int):=(by rw [<-hd];rfl);rw [hd] at dl hl ⊢;have Wl:ag (∀ w:World,Calls prog 179 #[By ((d:Int)+1),By (e:Int)] w fun ex w'=>ex=χ (By ((iE e (d+1):Nat):Int))/\w'=w):=fun w=>IH.o (d+1) dl (Nat.succ_pos _) ω w
      obtain ⟨R,hR⟩:=qbr (iE e (d+1));rw [hR] at hl Wl ⊢;clear hd HR IH hR;go_enter func179,ntmps179;go_wp2_with (first
        | (go_at_call 154;refine (MB.o _).mono ?_;rintro ex w1 ⟨rfl,rfl⟩)
        | (go_at_call 179;refine (Wl.o _).mono ?_;rintro ex w2 ⟨rfl,rfl⟩))
      go_ret
      exact ⟨by simp;omega,rfl⟩
theorem afQ (n eps:Int) (n0:-9223372036854775808<=n) (n1:n<9223372036854775808) (e0:-9223372036854775808<=eps) (e1:eps<9223372036854775808) (w:World) :
    Calls prog 179 #[By n,By eps] w fun ex w'=>ex=χ (By (oo n eps))/\w'=w:=by
  by_cases h:2<=eps/\eps<=64
  · by_cases h1:1<=n
    · obtain ⟨e,rfl⟩:∃ e:Nat,eps=e:=⟨eps.toNat,ω⟩
      obtain ⟨N,rfl⟩:∃ N:Nat,n=N:=⟨n.toNat,ω⟩;have MX:oo (N:Int) (e:Int)=(iE e N:Nat):=(by unfold oo;rw [Ym ⟨h.1,h.2,h1⟩,Int.toNat_natCast,Int.toNat_natCast]);rw [MX];exact afP e ω ω N ω ω w
    · have t3:decide (n<1)=true:=by simp;omega
      have MX:oo n eps=0:=Yl (fun q=>h1 q.2.2)
      have MB:ag (∀ w:World,Calls prog 154 #[By eps] w fun e w'=>e=χ (.bool true)/\w'=w):=fun w=>Ks eps h w
      rw [MX];clear MX h h1;go_enter func179,ntmps179;go_wp2_with (go_at_call 154;refine (MB.o _).mono ?_;rintro ex w1 ⟨rfl,rfl⟩);go_ret;exact ⟨rfl,rfl⟩
  · have MX:oo n eps=0:=Yl (fun q=>h ⟨q.1,q.2.1⟩)
    have MB:ag (∀ w:World,Calls prog 154 #[By eps] w fun e w'=>e=χ (.bool false)/\w'=w):=fun w=>Wk eps h w
    rw [MX];clear MX h;go_enter func179,ntmps179;go_wp2_with (go_at_call 154;refine (MB.o _).mono ?_;rintro ex w1 ⟨rfl,rfl⟩);go_ret;exact ⟨rfl,rfl⟩
theorem afR (ao:Option Addr) (n c:Nat) (f:Nat->Int) (hn:n<4611686018427387904) (w:World) (h:KS w ao n f) :
    Calls prog 155 #[.slice ao n c] w fun e w'=>(∃ r:Bool,e=χ (.bool r)/\(r=true↔Up f n))/\Gw w w':=by
  have HK:ag _:=h;clear h;go_enter func155,ntmps155;go_wp2_with fail;refine (Kr ao n c f hn w HK.o).mono ?_;rintro e w1 ⟨⟨r,rfl,hr⟩,g1⟩;have HR:ag _:=hr;clear hr;go_wp2_with fail;go_ret;exact ⟨⟨r,rfl,HR.o⟩,g1⟩
def DW (e:Ending) (eps:Int) (f:Nat->Int) (n:Nat):Prop :=
  (¬ (2<=eps/\eps<=64)/\e=.panicked (iP 1))\/((2<=eps/\eps<=64)/\¬ Up f n/\e=.panicked (iP 80))\/((2<=eps/\eps<=64)/\Up f n/\e=π #[])
theorem Wm (eps:Int) (ao:Option Addr) (n c:Nat) (f:Nat->Int) (hn:n<4611686018427387904) (w:World) (h:KS w ao n f) :
    Calls prog 140 #[.slice ao n c,By eps] w fun e w'=>DW e eps f n/\Gw w w':=by
  have HK:ag _:=h;clear h;by_cases k0:¬ (2<=eps/\eps<=64)
  · have R:ag (DW (.panicked (iP 1)) eps f n):=.inl ⟨k0,rfl⟩
    have MB:ag _:=fun w=>Wk eps k0 w
    clear k0;go_enter func140,ntmps140;go_wp2_with fail;refine (MB.o _).mono ?_;rintro e w1 ⟨rfl,rfl⟩;go_wp2_with fail;refine (qv 1 _).mono ?_;rintro e w1 ⟨rfl,rfl⟩;go_wp2_with fail;exact ⟨rfl,R.o,Gw.refl _⟩
  · have KE:ag (2<=eps/\eps<=64):=Classical.not_not.1 k0
    have MB:ag _:=fun w=>Ks eps KE.o w
    clear k0;go_enter func140,ntmps140;go_wp2_with fail;refine (MB.o _).mono ?_;rintro e w1 ⟨rfl,rfl⟩;go_wp2_with fail;refine (lN 1 _).mono ?_;rintro e w1 ⟨rfl,rfl⟩;go_wp2_with fail;refine (afR ao n c f hn _ HK.o).mono ?_;rintro e w2 ⟨⟨r,rfl,hr⟩,g2⟩;have HR:ag _:=hr;have G2:ag _:=g2;clear hr g2;cases r with
    | false =>
      have R:ag (DW (.panicked (iP 80)) eps f n):=.inr (.inl ⟨KE.o,fun q=>by have:=HR.o.2 q;simp at this,rfl⟩)
      go_wp2_with fail;refine (qv 80 _).mono ?_
      rintro e w3 ⟨rfl,rfl⟩;go_wp2_with fail;exact ⟨rfl,R.o,G2.o⟩
    | true =>
      have R:ag (DW (π #[]) eps f n):=.inr (.inr ⟨KE.o,HR.o.1 rfl,rfl⟩);go_wp2_with fail;refine (lN 80 _).mono ?_;rintro e w3 ⟨rfl,rfl⟩;go_wp2_with fail;go_end0;exact ⟨R.o,G2.o⟩
end Go.Proofs.YtaemofgeciklkaaGreat
namespace Go.Proofs.YtaemofgeciklkaaGreat
open Go.RowKit
attribute [local go_sem] iV
theorem afS (n:Nat) (hn:n*8<=140737488351232) (w:World) :
    (Instr.makeSlice 143 (By (n:Int)) (By (n:Int))).run prog w=.ok (ψ w.heap.size 0 n n) (w.alloc (.cells (madeCells #[BY 0] n) 35)):=by
  obtain ⟨i,hi,hz,hs,hb⟩:=info_parts qF;have hr:=run_make (P:=prog) w 143 35 i _ underlying143 hi hz .i64 .i64 (n:Int) (n:Int) ω (qaH _) (by rw [hb];omega) ω
  rw [hr,hs];have e1:((n:Int)).toNat=n:=ω;rw [e1,qaE];rfl
theorem afT (w:World) (m:Nat):∃ f,(w.alloc (.cells (madeCells #[BY 0] m) 35)).rowIs w.heap.size 35 m f:=by
  refine ⟨fun i=>(madeCells #[BY 0] m)[i]!,?_⟩
  have:=World.rowIs_alloc w (madeCells #[BY 0] m) 35 (fun i=>(madeCells #[BY 0] m)[i]!) (fun i hi=>by simp [hi])
  rw [size_madeCells] at this;exact this
theorem afU {w:World} {b n:Nat} {f:Nat->Int} (h:w.rowIs b 35 n (fun i=>BY (f i))) (bd:∀ i,i<n->0<=f i/\f i<18446744073709551616):KS w (some (φ b 0)) n f :=
  ⟨fun h0=>⟨b,0,rfl,h.lt,fun i hi=>by rw [qai,h.cell hi]⟩,bd⟩
theorem Wn (ao:Option Addr) (c:Nat) (l:List Sg) (hl:l.length<=4000000) (w:World) (h:GS w ao l) :
    Calls prog 156 #[.slice ao l.length c] w fun e w'=>(∃ b,e=χ (ψ b 0 l.length l.length)/\w.heap.size<=b/\KS w' (some (φ b 0)) l.length (bu l))/\Gw w w':=by
  have HG:ag _:=h;clear h;obtain ⟨n,hn⟩:=qbr l.length;have LN:ag _:=hn;rw [hn] at hl;rw [hn];clear hn;have vF:=afS n ω;obtain ⟨g,hR⟩:=afT w n;have R3:ag ((w.alloc (.cells (madeCells #[BY 0] n) 35)).rowIs w.heap.size 35 n g):=hR;have G3:ag (Gw w (w.alloc (.cells (madeCells #[BY 0] n) 35))):=(Gw.refl w).alloc _ _;clear hR;go_enter func156,ntmps156;go_wp2_with fail;generalize w.alloc (.cells (madeCells #[BY 0] n) 35)=w3 at R3 G3 ⊢;obtain ⟨b,hb⟩:=qbr w.heap.size;have B3:ag (w.heap.size<=b):=by rw [<-hb];exact Yk _
  rw [hb] at R3 ⊢;clear hb;go_loopg [11] n (fun gg lj wr=>∃ i:Nat,lj=By i/\i<=n/\n-i<=gg/\ag (wr.rowIs b 35 n (fun j=>if j<i then BY (bu l j) else g j))/\ag (Gw w wr))
  case atStart=>exact ⟨0,rfl,Γ _,ω,(show ag _ from R3.o.congr fun j hj=>ε),G3⟩
  case round =>
    clear R3 G3;obtain ⟨i,rfl,h1,h2,R,G⟩:=hrel;by_cases ar:i<n
    · obtain ⟨bk,off,rfl,gR,hc⟩:=(HG.o.gw G.o).cells (by rw [LN.o];omega)
      have q:=hc i (by rw [LN.o];exact ar)
      have FI:ag (bu l i=(l.getD i aF).k):=rfl;obtain ⟨s,hs⟩:=qbr (l.getD i aF);rw [hs] at q FI;clear hs hc;obtain ⟨sk,cK,cL,bZ,bQ⟩:=s;have c0:wr.cell? (φ bk (off+i*5))=some (BY sk):=q.c0;have c1:wr.cell? (φ bk (off+i*5+1))=some (.float .f64 cK):=q.c1;have c2:wr.cell? (φ bk (off+i*5+2))=some (.float .f64 cL):=q.c2;have c3:wr.cell? (φ bk (off+i*5+3))=some (By bZ):=q.c3;have c4:wr.cell? (φ bk (off+i*5+4))=some (By bQ):=q.c4;clear q;have R5:ag ((wr.alloc (.cells #[BY sk,.float .f64 cK,.float .f64 cL,By bZ,By bQ] 174)).rowIs b 35 n (fun j=>if j<i then BY (bu l j) else g j)):=Y3 R.o ((Gw.refl wr).alloc _ _)
      have G5:ag (Gw w (wr.alloc (.cells #[BY sk,.float .f64 cK,.float .f64 cL,By bZ,By bQ] 174))):=G.o.alloc _ _;have r0:=R5.o.cell (i:=i) ar;have f0:=R5.o.frozen i;clear R G;go_wp2_with fail;go_roundg (n-(i+1))
      case measure=>omega
      case rel=>exact ⟨i+1,by go_num,ω,Yk _,(show ag _ from (R5.o.set i (BY sk)).congr fun j hj=>by
          by_cases e:j=i
          · subst e;rw [Ym rfl,Ym ω,FI.o]
          · rw [Yl e]
            by_cases q2:j<i
            · rw [Ym q2,Ym ω]
            · rw [Yl q2,Yl ω]),(show ag _ from G5.o.setCell B3.o _)⟩
    · have e:i=n:=by omega
      subst e;have K8:ag _:=afU (R.o.congr fun j hj=>by simp [hj]) (fun j hj=>OI HG.o j (by rw [LN.o];exact hj))
      clear R;go_wp2_with fail;go_ret;exact ⟨⟨b,rfl,B3.o,K8.o⟩,G.o⟩
def nX (e:Ending) (E:Int):Prop:=(E=0/\e=π #[])\/(E≠0/\e=.panicked (iP E))
theorem afV (ao:Option Addr) (c:Nat) (l:List Sg) (m:Nat) (hl:l.length<=4000000) (hm:m<=4000000) (w:World) (h:GS w ao l) :
    Calls prog 198 #[By (m:Int),.slice ao l.length c] w fun e w'=>nX e (if dK m 0 l then 0 else 82)/\Gw w w':=by
  have HG:ag _:=h;clear h;obtain ⟨r,hr⟩:=qbr (dK m 0 l);have HR:ag _:=(abD l 0).trans hr;rw [hr];clear hr;have pK:ag (r=true->nX (π #[]) (if r then 0 else 82)):=fun q=>by rw [q];exact .inl ⟨rfl,rfl⟩
  have NO:ag (r=false->nX (.panicked (iP 82)) (if r then 0 else 82)):=fun q=>by rw [q];exact .inr ⟨γ,rfl⟩
  generalize (if r then (0:Int) else 82)=E at pK NO ⊢
  have N1:ag _:=fun w=>lN 82 w
  have N2:ag _:=fun w=>qv 82 w
  obtain ⟨n,hn⟩:=qbr l.length;have LN:ag _:=hn;rw [hn] at hl;rw [hn];clear hn;go_enter func198,ntmps198;go_wp2_with fail;go_loopg [4,9] n (fun gg s4 s9 wr=>∃ (i:Nat) (a:Int),s4=By a/\s9=By i/\i<=n/\n-i<=gg/\ag (r=iW m a (l.drop i))/\ag (Gw w wr))
  case atStart=>exact ⟨0,0,rfl,rfl,Γ _,ω,(show ag _ from HR.o.symm),(show ag _ from Gw.refl w)⟩
  case round =>
    obtain ⟨i,a,rfl,rfl,h1,h2,T,G⟩:=hrel;by_cases ar:i<n
    · obtain ⟨bk,off,rfl,gR,hc⟩:=(HG.o.gw G.o).cells (by rw [LN.o];omega)
      have q:=hc i (by rw [LN.o];exact ar)
      have TT:ag (r=iW m a (l.getD i aF::l.drop (i+1))):=(by rw [<-OL (by rw [LN.o];exact ar)];exact T.o);obtain ⟨s,hs⟩:=qbr (l.getD i aF);rw [hs] at q TT;clear hs hc T;obtain ⟨sk,cK,cL,bZ,bQ⟩:=s;have c0:wr.cell? (φ bk (off+i*5))=some (BY sk):=q.c0;have c1:wr.cell? (φ bk (off+i*5+1))=some (.float .f64 cK):=q.c1;have c2:wr.cell? (φ bk (off+i*5+2))=some (.float .f64 cL):=q.c2;have c3:wr.cell? (φ bk (off+i*5+3))=some (By bZ):=q.c3;have c4:wr.cell? (φ bk (off+i*5+4))=some (By bQ):=q.c4;clear q;have G5:ag (Gw w (wr.alloc (.cells #[BY sk,.float .f64 cK,.float .f64 cL,By bZ,By bQ] 174))):=G.o.alloc _ _;clear G;by_cases d1:bZ=a
      · by_cases d2:a<bQ
        · have T5:ag (r=iW m bQ (l.drop (i+1))):=by show r=_;rw [TT.o,Gq];show (decide (bZ=a)&&decide (a<bQ)&&_)=_;rw [qaF d1,qaF d2];rfl
          have b1:(bZ == a)=true:=(by simpa using d1);have b2:decide (a<bQ)=true:=(by simpa using d2);clear TT d1 d2;go_wp2_with fail;refine (N1.o _).mono ?_;rintro e w6 ⟨rfl,rfl⟩;go_wp2_with fail;go_roundg (n-(i+1))
          case measure=>omega
          case rel=>exact ⟨i+1,bQ,rfl,by go_num,ω,Yk _,T5,G5⟩
        · have rn:r=false:=by rw [TT.o,Gq];show (decide (bZ=a)&&decide (a<bQ)&&_)=_;rw [qan d2];simp
          have R5:=NO.o rn;have b1:(bZ == a)=true:=(by simpa using d1);have b2:decide (a<bQ)=false:=(by simpa using d2);have E5:ag (nX (.panicked (iP 82)) E):=R5;clear TT d1 d2 R5 rn;go_wp2_with fail;refine (N2.o _).mono ?_;rintro e w6 ⟨rfl,rfl⟩;go_wp2_with fail;exact ⟨rfl,E5.o,G5.o⟩
      · have rn:r=false:=by rw [TT.o,Gq];show (decide (bZ=a)&&decide (a<bQ)&&_)=_;rw [qan d1];simp
        have E5:ag (nX (.panicked (iP 82)) E):=NO.o rn;have b1:(bZ == a)=false:=(by simpa using d1);clear TT d1 rn;go_wp2_with fail;refine (N2.o _).mono ?_;rintro e w6 ⟨rfl,rfl⟩;go_wp2_with fail;exact ⟨rfl,E5.o,G5.o⟩
    · have e:i=n:=by omega
      subst e;have T':ag (r=decide (a=m)):=(by show r=decide (a=m);rw [T.o,qbp (by rw [LN.o];exact Yk _)];rfl);by_cases am:a=m
      · have tb:(a == (m:Int))=true:=by simpa using am
        have E5:ag (nX (π #[]) E):=pK.o (by rw [T'.o];simpa using am)
        clear am;go_wp2_with fail;refine (N1.o _).mono ?_;rintro e w6 ⟨rfl,rfl⟩;go_wp2_with fail;go_end0;exact ⟨E5.o,G.o⟩
      · have tb:(a == (m:Int))=false:=by simpa using am
        have E5:ag (nX (.panicked (iP 82)) E):=NO.o (by rw [T'.o];simpa using am)
        clear am;go_wp2_with fail;refine (N2.o _).mono ?_;rintro e w6 ⟨rfl,rfl⟩;go_wp2_with fail;exact ⟨rfl,E5.o,G.o⟩
end Go.Proofs.YtaemofgeciklkaaGreat
namespace Go.Proofs.YtaemofgeciklkaaGreat
open Go.RowKit
attribute [local go_sem] iV
def Kt (eps:Int) (h:Nat->Int) (m:Nat) (s:Sg):Int :=
  if cG s.sl s.ic s.fr s.te≠0 then cG s.sl s.ic s.fr s.te else if s.k≠h 0 then 83 else if eps<dY (cU s.k s.sl s.ic s.fr s.te h) m then 85 else 0
theorem afW (eps:Int) (f:Nat->Int) (s:Sg):Kt eps (sh f s.fr.toNat) (s.te-s.fr).toNat s=jU eps f s:=rfl
theorem afX (M:iD) (eps:Int) (s:Sg) (OK:s.ok) (bk off m c:Nat) (h:Nat->Int) (hm:(m:Int)=s.te-s.fr) (m0:0<m) (m1:m<=4000000) (mc:m<=c) (u:Up h m) (w:World) (k:KS w (some (φ bk off)) m h) :
    Calls prog 199 #[ψ bk off m c,By eps,fA s.k s.sl s.ic s.fr s.te] w fun e w'=>nX e (Kt eps h m s)/\Gw w w':=by
  obtain ⟨sk,cK,cL,bZ,bQ⟩:=s;have HK:ag _:=k;have UP:ag _:=u;have HM:ag _:=hm;have CK:ag (∀ W,Calls prog 186 #[fA sk cK cL bZ bQ] W fun e w'=>e=χ (By (cG cK cL bZ bQ))/\Gw W w'):=fun W=>M.check sk cK cL bZ bQ OK W
  have OF:ag (∀ W,KS W (some (φ bk off)) m h->Calls prog 221 #[fA sk cK cL bZ bQ,ψ bk off m c] W fun e w'=>OD e sk cK cL bZ bQ m h/\Gw W w'):=fun W hk=>M.off sk cK cL bZ bQ _ m c h OK ω mc W hk
  obtain ⟨E,hE⟩:=qbr (Kt eps h m ⟨sk,cK,cL,bZ,bQ⟩);have HE:ag (E=if cG cK cL bZ bQ≠0 then cG cK cL bZ bQ else if sk≠h 0 then 83 else if eps<dY (cU sk cK cL bZ bQ h) m then 85 else 0):=hE.symm
  rw [hE];obtain ⟨X,hX⟩:=qbr (cG cK cL bZ bQ);have HX:ag _:=hX;rw [hX] at CK HE;have SB:ag (Sb (w.alloc (.cells #[BY sk,.float .f64 cK,.float .f64 cL,By bZ,By bQ] 174)) w.heap.size sk cK cL bZ bQ):=Ω w _;have G0:ag (Gw w (w.alloc (.cells #[BY sk,.float .f64 cK,.float .f64 cL,By bZ,By bQ] 174))):=(Gw.refl w).alloc _ _;clear hE hX k u hm OK M;go_enter func199,ntmps199;go_wp2_with fail;generalize w.alloc (.cells #[BY sk,.float .f64 cK,.float .f64 cL,By bZ,By bQ] 174)=w0 at SB G0 ⊢;obtain ⟨xb,Wo⟩:=qbr w.heap.size;rw [Wo] at SB ⊢;clear Wo;refine (CK.o _).mono ?_;rintro e w1 ⟨rfl,g1⟩;have Ku:ag (Sb w1 xb sk cK cL bZ bQ):=SB.o.gw g1;have G1:ag _:=G0.o.trans g1;clear g1 SB G0;by_cases x0:X=0
  · subst x0
    have sD:ag (E=if sk≠h 0 then 83 else if eps<dY (cU sk cK cL bZ bQ h) m then 85 else 0):=by
      have:=HE.o
      rw [Yl (fun q=>q rfl)] at this
      exact this
    obtain ⟨z0,z1,z2,z3,z4⟩:=Ku.o.cells;have zl:=Ku.o.lt;obtain ⟨kb,kf,ekk,iq,di⟩:=(HK.o.gw G1.o).cells m0;cases ekk;have kc:=di 0 m0;rw [Nat.add_zero] at kc;obtain ⟨gf,Kv⟩:=qbr (h 0);have GF:ag _:=Kv;rw [Kv] at kc sD;clear di Kv HE;go_wp2_with fail;refine (lN 0 _).mono ?_;rintro e w2 ⟨rfl,rfl⟩;by_cases kk:sk=gf
    · have b3:(sk == gf)=true:=by simpa using kk
      have zW:ag (E=if eps<dY (cU sk cK cL bZ bQ h) m then 85 else 0):=by
        have:=sD.o
        rw [Yl (fun q=>q kk)] at this
        exact this
      have GK:ag (h 0=sk):=(by show _=_;rw [GF.o,kk]);clear sD GF kk;go_wp2_with fail;go_quiet (first | (go_at_call 153;refine Calls.quiet_of_same (lN 83 _)))
      go_wp2_with fail;have G2:ag (Gw w (w2.drewN nq)):=G1.o.drewN _
      refine (OF.o _ (HK.o.gw G2.o)).mono ?_;rintro e w3 ⟨⟨N,er,rfl,hN⟩,g3⟩;have G3:ag _:=G2.o.trans g3;obtain ⟨rfl,rfl⟩:N=dY (cU sk cK cL bZ bQ h) m/\er=0:=by
        rcases hN with ⟨a,_⟩ | ⟨_,a,_⟩ | ⟨_,_,a,b⟩
        · exact absurd HX.o a
        · exact absurd ⟨HM.o,GK.o,UP.o⟩ a
        · exact ⟨a,b⟩
      generalize dY (cU sk cK cL bZ bQ h) m=N at zW hN ⊢;clear hN g3 G2 G1 Ku z0 z1 z2 z3 z4 zl kc iq HX GK UP HM HK OF CK;go_wp2_with fail;refine (lN 0 _).mono ?_;rintro e w4 ⟨rfl,rfl⟩;by_cases dx:eps<N
      · have b4:decide (N<=eps)=false:=by simp;omega
        have E5:E=85:=(by rw [zW.o,Ym dx]);subst E5;clear zW dx;go_wp2_with fail;refine (qv 85 _).mono ?_;rintro e w5 ⟨rfl,rfl⟩;go_wp2_with fail;exact ⟨rfl,.inr ⟨γ,rfl⟩,G3.o⟩
      · have b4:decide (N<=eps)=true:=by simp;omega
        have E5:E=0:=(by rw [zW.o,Yl dx]);subst E5;clear zW dx;go_wp2_with fail;refine (lN 85 _).mono ?_;rintro e w5 ⟨rfl,rfl⟩;go_wp2_with fail;go_end0;exact ⟨.inl ⟨rfl,rfl⟩,G3.o⟩
    · have b3:(sk == gf)=false:=by simpa using kk
      have E5:E=83:=(by rw [sD.o,Ym kk]);subst E5;clear sD;go_wp2_with fail;go_region_dies
      all_goals go_wp2_with fail
      all_goals refine (qv 83 _).mono ?_
      all_goals rintro e w3 ⟨rfl,rfl⟩
      all_goals go_wp2_with fail
      all_goals exact ⟨rfl,.inr ⟨γ,rfl⟩,(by repeat (first | exact G1.o | refine Gw.drew ?_ | refine Gw.drewN ?_ _))⟩
  · have tx:(X == 0)=false:=by simpa using x0
    have E5:E=X:=(by rw [HE.o,Ym x0]);subst E5;clear HE;go_wp2_with fail;refine (qv _ _).mono ?_;rintro e w2 ⟨rfl,rfl⟩;go_wp2_with fail;exact ⟨rfl,.inr ⟨x0,rfl⟩,G1.o⟩
end Go.Proofs.YtaemofgeciklkaaGreat
namespace Go.Proofs.YtaemofgeciklkaaGreat
open Go.RowKit
attribute [local go_sem] iV
def DX (eps:Int) (g:Nat->Int) (m:Nat) (l:List Sg):Int:=if dK m 0 l then eR eps g l else 82
theorem afY (M:iD) (eps:Int) (bo:Option Addr) (m c:Nat) (g:Nat->Int) (m1:m<=4000000) (mc:m<=c) (u:Up g m) (ao:Option Addr) (cl:Nat) (l:List Sg) (hl:l.length<=4000000) (w:World) (k:KS w bo m g) (h:GS w ao l) :
    Calls prog 181 #[.slice bo m c,By eps,.slice ao l.length cl] w fun e w'=>nX e (DX eps g m l)/\Gw w w':=by
  have HG:ag (GS w ao l):=h;have HK:ag (KS w bo m g):=k;have UP:ag (Up g m):=u;have NT:ag (∀ W,GS W ao l->Calls prog 198 #[By (m:Int),.slice ao l.length cl] W fun e w'=>nX e (if dK m 0 l then 0 else 82)/\Gw W w'):=fun W h=>afV ao cl l m hl m1 W h
  have NS:ag _:=fun (s:Sg) (OK:s.ok) (bk off n c:Nat) (h:Nat->Int) (hm:(n:Int)=s.te-s.fr) (m0:0<n) (m1:n<=4000000) (mc:n<=c) (u:Up h n) (w:World) (k:KS w (some (φ bk off)) n h)=>afX M eps s OK bk off n c h hm m0 m1 mc u w k
  clear h k u M;obtain ⟨E,hE⟩:=qbr (DX eps g m l);have HE:ag (E=if dK m 0 l then eR eps g l else 82):=hE.symm
  rw [hE];clear hE;obtain ⟨n,hn⟩:=qbr l.length;have LN:ag (l.length=n):=hn;rw [hn] at hl NT;rw [hn];clear hn;go_enter func181,ntmps181;go_wp2_with fail;refine (NT.o _ HG.o).mono ?_;rintro e w1 ⟨h1,g1⟩;have G1:ag (Gw w w1):=g1;clear g1 NT;by_cases tb:dK m 0 l=true
  · have TI:ag (dK m 0 l=true):=tb
    rw [Ym tb] at h1;obtain rfl:e=π #[]:=by
      rcases h1 with ⟨_,q⟩ | ⟨q,_⟩
      · exact q
      · exact absurd rfl q
    have sD:ag (E=eR eps g l):=by
      have:=HE.o
      rw [Ym tb] at this;exact this
    clear HE tb h1;go_wp2_with fail;go_loopg [14] n (fun gg IP wr=>∃ i:Nat,IP=By i/\i<=n/\n-i<=gg/\ag (E=eR eps g (l.drop i))/\ag (Gw w wr))
    case atStart=>exact ⟨0,rfl,Γ _,ω,sD,G1⟩
    case round =>
      clear sD G1;obtain ⟨i,rfl,h1,h2,T,G⟩:=hrel;by_cases ar:i<n
      · obtain ⟨sb,sf,rfl,rE,hc⟩:=(HG.o.gw G.o).cells (by rw [LN.o];omega)
        have q:=hc i (by rw [LN.o];exact ar)
        have TT:ag (E=eR eps g (l.getD i aF::l.drop (i+1))):=(by rw [<-OL (by rw [LN.o];exact ar)];exact T.o);have TA:=Gp TI.o i (by rw [LN.o];exact ar)
        have OK:=HG.o.ok i (by rw [LN.o];exact ar)
        obtain ⟨s,hs⟩:=qbr (l.getD i aF);rw [hs] at q TT TA OK;clear hs hc T;obtain ⟨fa,Kw⟩:∃ fa:Nat,s.fr=fa:=⟨s.fr.toNat,ω⟩;obtain ⟨tb,zR⟩:∃ tb:Nat,s.te=tb:=⟨s.te.toNat,ω⟩;have fm:fa<m:=ω;have ft:fa<tb:=ω;have tm:tb<=m:=ω;clear TA;obtain ⟨bk,off,rfl,gR,di⟩:=(HK.o.gw G.o).cells ω;have CC:ag (∀ W,Gw w W->Calls prog 199 #[ψ bk (off+fa) (tb-fa) (c-fa),By eps,fA s.k s.sl s.ic s.fr s.te] W fun e w'=>nX e (jU eps g s)/\Gw W w'):=fun W gW=>by
          have:=NS.o s OK bk (off+fa) (tb-fa) (c-fa) (sh g fa) ω ω ω ω (qK UP.o tm) W (Gr (HK.o.gw gW) tm)
          rw [<-afW,Kw,zR,Int.toNat_natCast,show ((tb:Int)-(fa:Int)).toNat=tb-fa by omega]
          rw [Kw,zR] at this;exact this
        obtain ⟨X,hX⟩:=qbr (jU eps g s);have TX:ag (E=if X≠0 then X else eR eps g (l.drop (i+1))):=by
          have:=TT.o
          rw [abG,hX] at this;exact this
        rw [hX] at CC;obtain ⟨sk,cK,cL,bZ,bQ⟩:=s;obtain rfl:bZ=fa:=Kw;obtain rfl:bQ=tb:=zR;have c0:wr.cell? (φ sb (sf+i*5))=some (BY sk):=q.c0;have c1:wr.cell? (φ sb (sf+i*5+1))=some (.float .f64 cK):=q.c1;have c2:wr.cell? (φ sb (sf+i*5+2))=some (.float .f64 cL):=q.c2;have c3:wr.cell? (φ sb (sf+i*5+3))=some (By (fa:Int)):=q.c3;have c4:wr.cell? (φ sb (sf+i*5+4))=some (By (tb:Int)):=q.c4;have G5:ag (Gw w (wr.alloc (.cells #[BY sk,.float .f64 cK,.float .f64 cL,By (fa:Int),By (tb:Int)] 174))):=G.o.alloc _ _;clear q hX TT di G OK;have tc:tb<=c:=ω;have fc:¬ fa=c:=ω;have cf:¬ c=fa:=ω;have i1:(0:Int)<=(fa:Int):=ω;have i2:(fa:Int)<=(tb:Int):=ω;have i3:(tb:Int)<=(c:Int):=ω;have ft':fa<=tb:=ω;go_wp2_with fail;go_region_dies
        all_goals refine (CC.o _ G5.o.drew).mono ?_
        all_goals rintro e w6 ⟨he,g6⟩
        all_goals have G6:ag (Gw w w6):=G5.o.drew.trans g6
        all_goals clear g6
        all_goals rcases he with ⟨x0,rfl⟩ | ⟨x0,rfl⟩
        all_goals first
          | (
             have E5:E=X:=(by rw [TX.o,Ym x0]);subst E5;go_wp2_with fail;exact ⟨rfl,.inr ⟨x0,rfl⟩,G6.o⟩)
          | (have TN:ag (E=eR eps g (l.drop (i+1))):=by
               have:=TX.o
               rw [Yl (fun q=>q x0)] at this
               exact this
             clear TX;go_wp2_with fail;refine wpAny_done η ?_ _;go_wp2_with fail;go_roundg (n-(i+1))
             case measure=>omega
             case rel=>exact ⟨i+1,by go_num,ω,Yk _,TN,G6⟩)
      · have e:i=n:=by omega
        subst e;have E0:E=0:=(by rw [T.o,qbp (by rw [LN.o];exact Yk _)];rfl);subst E0;go_wp2_with fail;go_end0;exact ⟨.inl ⟨rfl,rfl⟩,G.o⟩
  · rw [Yl tb] at h1
    obtain rfl:e=.panicked (iP 82):=by
      rcases h1 with ⟨q,_⟩ | ⟨_,q⟩
      · exact absurd q γ
      · exact q
    have E5:E=82:=(by rw [HE.o,Yl tb]);subst E5;clear HE tb h1;go_wp2_with fail;exact ⟨rfl,.inr ⟨γ,rfl⟩,G1.o⟩
