/- How far keys rise: package keys' generic function at keys (over layer 4's words). -/
import Derived.Defers
import Derived.Recover
import Derived.RegionDies
import Derived.Test.YtemijdhemdhclaaGreatNPVo
set_option linter.unusedVariables false
set_option maxHeartbeats 4000000
set_option maxRecDepth 10000
open Go.Proofs.Tryz
namespace Go.Proofs.YtemijdhemdhclaaGreat
open Go.RowKit
theorem itself_any (x:Int) (w:World):Calls prog 142 #[.int .u64 x] w fun e w'=>e=.returned (.int .u64 x)/\w'=w:=by
  go_enter func142,ntmps142;go_wp2;go_ret;exact ⟨rfl,rfl⟩
theorem rises_keys (ao:Option Addr) (n c:Nat) (f:Nat->Int) (hn:n<4611686018427387904) (w:World) (h:KS w ao n f) :
    Calls prog 141 #[.slice ao n c,.func (.func 142) #[] #[]] w fun e w'=>(∃ r:Nat,e=.returned (.int .i64 r)/\r<=n/\(∀ j,j+1<r->f j<f (j+1))/\(r<n->1<=r/\f r<=f (r-1)))/\Gw w w':=by
  go_enter func141,ntmps141;go_wp2_with fail;go_loopg [5] n (fun gg s5 wr=>∃ i:Nat,s5=.int .i64 i/\1<=i/\(i<=n\/i=1)/\n-i<=gg/\Aside (∀ j,j+1<i->f j<f (j+1))/\Aside (Gw w wr))
  case atStart=>exact ⟨1,rfl,Nat.le_refl _,.inr rfl,by omega,fun j hj=>by omega,Gw.refl w⟩
  case round =>
    obtain ⟨i,rfl,h1,h2,h3,H4,G⟩:=hrel;by_cases hlt:i<n
    · obtain ⟨b,off,rfl,hb,hc⟩:=(h.gw G.out).cells (by omega)
      obtain ⟨m,hm⟩:∃ m:Nat,(i:Int)-1=m:=⟨i-1,by omega⟩
      have hmn:m<n:=by omega
      have hw:=wrap_nat m (by omega)
      have c1:=hc i hlt;have c0:=hc m hmn;clear hc;generalize hy1:f i=y1 at c1;generalize hy0:f m=y0 at c0;have Y:Aside (f i=y1/\f m=y0/\i=m+1):=⟨hy1,hy0,by omega⟩
      clear hy1 hy0 h h2;by_cases hle:y1<=y0
      · go_wp2_with fail
        go_quiet (first | (go_at_call 142;refine Calls.quiet_of_same (itself_any _ _)))
        go_wp2_with fail;go_ret
        obtain ⟨e1,e2,e3⟩:=Y.out;refine ⟨⟨i,rfl,by omega,H4.out,fun _=>⟨h1,?_⟩⟩,?_⟩
        · rw [e1,show i-1=m by omega,e2];exact hle
        · exact G.out.drewN _
      · go_wp2_with fail
        go_quiet (first | (go_at_call 142;refine Calls.quiet_of_same (itself_any _ _)))
        go_wp2_with fail;go_roundg (n-(m+2))
        case measure=>omega
        case rel =>
          obtain ⟨e1,e2,e3⟩:=Y.out;refine ⟨m+2,by go_num,by omega,by omega,Nat.le_refl _,(show Aside _ from fun j hj=>?_),(show Aside _ from G.out.drewN _)⟩
          by_cases hj':j=m
          · subst hj';rw [e2,<-e3,e1];omega
          · exact H4.out j (by omega)
    · go_wp2_with fail
      go_ret
      exact ⟨⟨n,rfl,Nat.le_refl _,fun j hj=>H4.out j (by omega),fun hh=>by omega⟩,G.out⟩
theorem rising_any (ao:Option Addr) (n c:Nat) (f:Nat->Int) (hn:n<4611686018427387904) (w:World) (h:KS w ao n f) :
    Calls prog 126 #[.slice ao n c] w fun e w'=>(∃ r:Bool,e=.returned (.bool r)/\(r=true↔Up f n))/\Gw w w':=by
  go_enter func126,ntmps126;go_wp2_with fail;refine (rises_keys ao n c f hn w h).mono ?_;rintro e w1 ⟨⟨r,rfl,h1,h2,h3⟩,g1⟩;have H:Hid ((∀ j,j+1<r->f j<f (j+1))/\(r<n->1<=r/\f r<=f (r-1))):=⟨h2,h3⟩;clear h2 h3;go_wp2_with fail;go_ret;obtain ⟨h2,h3⟩:=H.out;refine ⟨⟨_,rfl,?_⟩,g1⟩;unfold Up;by_cases hr:r=n
  · subst hr;simpa using h2
  · have q:=h3 (by omega)
    have:¬ ((r:Int)=n):=by omega
    simp only [beq_iff_eq];constructor
    · intro hh;omega
    · intro hh
      have:=hh (r-1) (by omega)
      rw [show r-1+1=r by omega] at this
      omega
abbrev thrown (err:Int):List PanicEntry:=[{ v:=.iface 25 (.int .i64 err),recovered:=false }]
theorem need_ok (err:Int) (w:World):Calls prog 113 #[.bool true,.int .i64 err] w fun e w'=>e=.returned (.tuple #[])/\w'=w:=by
  go_enter func113,ntmps113;go_wp2_with fail;go_end0;exact ⟨rfl,rfl⟩
theorem need_bad (err:Int) (w:World):Calls prog 113 #[.bool false,.int .i64 err] w fun e w'=>e=.panicked (thrown err)/\w'=w:=by
  go_enter func113,ntmps113;go_wp2_with fail;exact ⟨rfl,rfl,rfl⟩
theorem assert_errno (err:Int) (xT:TypeId) (w:World):(Instr.typeAssert (.iface 25 (.int .i64 err)) xT 25 true).run prog w=.ok (.tuple #[.int .i64 err,.bool true]) w:=by kernel_rfl
theorem told8_any (err:Int) (w:World):Calls prog 102 #[.iface 25 (.int .i64 err)] w fun e w'=>e=.returned (.int .i64 err)/\w'=w:=by
  have ha:=assert_errno err;go_enter func102,ntmps102;go_wp2_with fail;go_ret;exact ⟨rfl,rfl⟩
theorem maybe_yes (eps:Int) (h:2<=eps/\eps<=64) (w:World):Calls prog 114 #[.int .i64 eps] w fun e w'=>e=.returned (.bool true)/\w'=w:=by
  have t1:decide (2<=eps)=true:=by simpa using h.1
  have t2:decide (eps<=64)=true:=by simpa using h.2
  clear h;go_enter func114,ntmps114;go_wp2_with fail;go_ret;exact ⟨rfl,rfl⟩
theorem maybe_no (eps:Int) (h:¬ (2<=eps/\eps<=64)) (w:World):Calls prog 114 #[.int .i64 eps] w fun e w'=>e=.returned (.bool false)/\w'=w:=by
  by_cases h1:2<=eps
  · have t1:decide (2<=eps)=true:=by simpa using h1
    have t2:decide (eps<=64)=false:=by simp;omega
    clear h h1;go_enter func114,ntmps114;go_wp2_with fail;go_ret;exact ⟨rfl,rfl⟩
  · have t1:decide (2<=eps)=false:=by simpa using h1
    clear h h1;go_enter func114,ntmps114;go_wp2_with fail;go_ret;exact ⟨rfl,rfl⟩
theorem xmaxh_some (e:Nat) (e2:2<=e) (e64:e<=64):∀ N:Nat,0<N->N<9223372036854775808->∀ w:World,Calls prog 133 #[.int .i64 (N:Int),.int .i64 (e:Int)] w fun ex w'=>ex=.returned (.int .i64 ((hgt e N:Nat):Int))/\w'=w:=by
  intro N;induction N using Nat.strongRecOn with
  | ind N ih =>
    intro n0 n1 w;have IH:Hid _:=ih;clear ih;have MB:Hid (∀ w:World,Calls prog 114 #[.int .i64 (e:Int)] w fun e w'=>e=.returned (.bool true)/\w'=w):=fun w=>maybe_yes e ⟨by omega,by omega⟩ w
    have t3:decide ((N:Int)<1)=false:=by simp;omega
    have w2:IntKind.i64.wrap (2*(e:Int))=2*(e:Int):=by rw [IntKind.wrap_i64];omega
    have w3:IntKind.i64.wrap (2*(e:Int)-1)=2*(e:Int)-1:=by rw [IntKind.wrap_i64];omega
    have ez:((e:Int) == 0)=false:=by simp;omega
    by_cases c:N<=2*e-1
    · have HR:hgt e N=1:=hgt_one n0 c
      rw [HR];have tc:decide ((N:Int)<=2*(e:Int)-1)=true:=by simp;omega
      clear HR c;go_enter func133,ntmps133;go_wp2_with (go_at_call 114;refine (MB.out _).mono ?_;rintro ex w1 ⟨rfl,rfl⟩);go_ret;exact ⟨rfl,rfl⟩
    · have tc:decide ((N:Int)<=2*(e:Int)-1)=false:=by simp;omega
      have dl:=div_less e2 c;have HR:=hgt_more e2 c;have hl:=hgt_le e2 N;rw [HR] at hl ⊢;obtain ⟨d,hd⟩:∃ d,N/e=d:=⟨_,rfl⟩;have td:Int.tdiv (N:Int) (e:Int)=(d:Int):=by rw [<-hd];rfl
      rw [hd] at dl hl ⊢;have IH1:Hid (∀ w:World,Calls prog 133 #[.int .i64 ((d:Int)+1),.int .i64 (e:Int)] w fun ex w'=>ex=.returned (.int .i64 ((hgt e (d+1):Nat):Int))/\w'=w):=fun w=>IH.out (d+1) dl (Nat.succ_pos _) (by omega) w
      obtain ⟨R,hR⟩:∃ R,hgt e (d+1)=R:=⟨_,rfl⟩;rw [hR] at hl IH1 ⊢;clear hd HR IH hR;go_enter func133,ntmps133;go_wp2_with (first
        | (go_at_call 114;refine (MB.out _).mono ?_;rintro ex w1 ⟨rfl,rfl⟩)
        | (go_at_call 133;refine (IH1.out _).mono ?_;rintro ex w2 ⟨rfl,rfl⟩))
      go_ret
      exact ⟨by simp;omega,rfl⟩
theorem xmaxh_any (n eps:Int) (n0:-9223372036854775808<=n) (n1:n<9223372036854775808) (e0:-9223372036854775808<=eps) (e1:eps<9223372036854775808) (w:World) :
    Calls prog 133 #[.int .i64 n,.int .i64 eps] w fun ex w'=>ex=.returned (.int .i64 (mxh n eps))/\w'=w:=by
  by_cases h:2<=eps/\eps<=64
  · by_cases h1:1<=n
    · obtain ⟨e,rfl⟩:∃ e:Nat,eps=e:=⟨eps.toNat,by omega⟩
      obtain ⟨N,rfl⟩:∃ N:Nat,n=N:=⟨n.toNat,by omega⟩
      have MX:mxh (N:Int) (e:Int)=(hgt e N:Nat):=by
        unfold mxh;rw [if_pos ⟨h.1,h.2,h1⟩,Int.toNat_natCast,Int.toNat_natCast]
      rw [MX];exact xmaxh_some e (by omega) (by omega) N (by omega) (by omega) w
    · have t3:decide (n<1)=true:=by simp;omega
      have MX:mxh n eps=0:=if_neg (fun q=>h1 q.2.2)
      have MB:Hid (∀ w:World,Calls prog 114 #[.int .i64 eps] w fun e w'=>e=.returned (.bool true)/\w'=w):=fun w=>maybe_yes eps h w
      rw [MX];clear MX h h1;go_enter func133,ntmps133;go_wp2_with (go_at_call 114;refine (MB.out _).mono ?_;rintro ex w1 ⟨rfl,rfl⟩);go_ret;exact ⟨rfl,rfl⟩
  · have MX:mxh n eps=0:=if_neg (fun q=>h ⟨q.1,q.2.1⟩)
    have MB:Hid (∀ w:World,Calls prog 114 #[.int .i64 eps] w fun e w'=>e=.returned (.bool false)/\w'=w):=fun w=>maybe_no eps h w
    rw [MX];clear MX h;go_enter func133,ntmps133;go_wp2_with (go_at_call 114;refine (MB.out _).mono ?_;rintro ex w1 ⟨rfl,rfl⟩);go_ret;exact ⟨rfl,rfl⟩
theorem rise8_any (ao:Option Addr) (n c:Nat) (f:Nat->Int) (hn:n<4611686018427387904) (w:World) (h:KS w ao n f) :
    Calls prog 115 #[.slice ao n c] w fun e w'=>(∃ r:Bool,e=.returned (.bool r)/\(r=true↔Up f n))/\Gw w w':=by
  have HK:Aside _:=h;clear h;go_enter func115,ntmps115;go_wp2_with fail;refine (rising_any ao n c f hn w HK.out).mono ?_;rintro e w1 ⟨⟨r,rfl,hr⟩,g1⟩;have HR:Aside _:=hr;clear hr;go_wp2_with fail;go_ret;exact ⟨⟨r,rfl,HR.out⟩,g1⟩
def BaseOut (e:Ending) (eps:Int) (f:Nat->Int) (n:Nat):Prop :=
  (¬ (2<=eps/\eps<=64)/\e=.panicked (thrown 1))\/((2<=eps/\eps<=64)/\¬ Up f n/\e=.panicked (thrown 80))\/((2<=eps/\eps<=64)/\Up f n/\e=.returned (.tuple #[]))
theorem needbase_any (eps:Int) (ao:Option Addr) (n c:Nat) (f:Nat->Int) (hn:n<4611686018427387904) (w:World) (h:KS w ao n f) :
    Calls prog 103 #[.slice ao n c,.int .i64 eps] w fun e w'=>BaseOut e eps f n/\Gw w w':=by
  have HK:Aside _:=h;clear h;by_cases k0:¬ (2<=eps/\eps<=64)
  · have R:Aside (BaseOut (.panicked (thrown 1)) eps f n):=.inl ⟨k0,rfl⟩
    have MB:Hid _:=fun w=>maybe_no eps k0 w
    clear k0;go_enter func103,ntmps103;go_wp2_with fail;refine (MB.out _).mono ?_;rintro e w1 ⟨rfl,rfl⟩;go_wp2_with fail;refine (need_bad 1 _).mono ?_;rintro e w1 ⟨rfl,rfl⟩;go_wp2_with fail;exact ⟨rfl,R.out,Gw.refl _⟩
  · have KE:Aside (2<=eps/\eps<=64):=Classical.not_not.1 k0
    have MB:Hid _:=fun w=>maybe_yes eps KE.out w
    clear k0;go_enter func103,ntmps103;go_wp2_with fail;refine (MB.out _).mono ?_;rintro e w1 ⟨rfl,rfl⟩;go_wp2_with fail;refine (need_ok 1 _).mono ?_;rintro e w1 ⟨rfl,rfl⟩;go_wp2_with fail;refine (rise8_any ao n c f hn _ HK.out).mono ?_;rintro e w2 ⟨⟨r,rfl,hr⟩,g2⟩;have HR:Aside _:=hr;have G2:Aside _:=g2;clear hr g2;cases r with
    | false =>
      have R:Aside (BaseOut (.panicked (thrown 80)) eps f n):=.inr (.inl ⟨KE.out,fun q=>by have:=HR.out.2 q;simp at this,rfl⟩)
      go_wp2_with fail;refine (need_bad 80 _).mono ?_
      rintro e w3 ⟨rfl,rfl⟩;go_wp2_with fail;exact ⟨rfl,R.out,G2.out⟩
    | true =>
      have R:Aside (BaseOut (.returned (.tuple #[])) eps f n):=.inr (.inr ⟨KE.out,HR.out.1 rfl,rfl⟩);go_wp2_with fail;refine (need_ok 80 _).mono ?_;rintro e w3 ⟨rfl,rfl⟩;go_wp2_with fail;go_end0;exact ⟨R.out,G2.out⟩
end Go.Proofs.YtemijdhemdhclaaGreat
namespace Go.Proofs.YtemijdhemdhclaaGreat
open Go.RowKit
attribute [local go_sem] run_store_float
theorem made_k8 (n:Nat) (hn:n*8<=140737488351232) (w:World) :
    (Instr.makeSlice 133 (.int .i64 (n:Int)) (.int .i64 (n:Int))).run prog w=.ok (.slice (some ⟨w.heap.size,0,none⟩) n n) (w.alloc (.cells (madeCells #[.int .u64 0] n) 36)):=by
  obtain ⟨i,hi,hz,hs,hb⟩:=info_parts info_k;have hr:=run_make (P:=prog) w 133 36 i _ underlying133 hi hz .i64 .i64 (n:Int) (n:Int) (by omega) (Int.le_refl _) (by rw [hb];omega) (by omega)
  rw [hr,hs];have e1:((n:Int)).toNat=n:=by omega
  rw [e1,Nat.mul_one];rfl
theorem made_krow8 (w:World) (m:Nat):∃ f,(w.alloc (.cells (madeCells #[.int .u64 0] m) 36)).rowIs w.heap.size 36 m f:=by
  refine ⟨fun i=>(madeCells #[.int .u64 0] m)[i]!,?_⟩
  have:=World.rowIs_alloc w (madeCells #[.int .u64 0] m) 36 (fun i=>(madeCells #[.int .u64 0] m)[i]!) (fun i hi=>by simp [hi])
  rw [size_madeCells] at this;exact this
theorem ks_row8 {w:World} {b n:Nat} {f:Nat->Int} (h:w.rowIs b 36 n (fun i=>.int .u64 (f i))) (bd:∀ i,i<n->0<=f i/\f i<18446744073709551616):KS w (some ⟨b,0,none⟩) n f :=
  ⟨fun h0=>⟨b,0,rfl,h.lt,fun i hi=>by rw [Nat.zero_add,h.cell hi]⟩,bd⟩
theorem firsts_any (ao:Option Addr) (c:Nat) (l:List Sg) (hl:l.length<=4000000) (w:World) (h:GS w ao l) :
    Calls prog 116 #[.slice ao l.length c] w fun e w'=>(∃ b,e=.returned (.slice (some ⟨b,0,none⟩) l.length l.length)/\w.heap.size<=b/\KS w' (some ⟨b,0,none⟩) l.length (fst8 l))/\Gw w w':=by
  have HG:Aside _:=h;clear h;obtain ⟨n,hn⟩:∃ n,l.length=n:=⟨_,rfl⟩;have LN:Aside _:=hn;rw [hn] at hl;rw [hn];clear hn;have hmk:=made_k8 n (by omega)
  obtain ⟨g,hR⟩:=made_krow8 w n;have R3:Aside ((w.alloc (.cells (madeCells #[.int .u64 0] n) 36)).rowIs w.heap.size 36 n g):=hR;have G3:Aside (Gw w (w.alloc (.cells (madeCells #[.int .u64 0] n) 36))):=(Gw.refl w).alloc _ _;clear hR;go_enter func116,ntmps116;go_wp2_with fail;generalize w.alloc (.cells (madeCells #[.int .u64 0] n) 36)=w3 at R3 G3 ⊢;obtain ⟨b,hb⟩:∃ b,w.heap.size=b:=⟨_,rfl⟩;have B3:Aside (w.heap.size<=b):=by rw [<-hb];exact Nat.le_refl _
  rw [hb] at R3 ⊢;clear hb;go_loopg [11] n (fun gg s11 wr=>∃ i:Nat,s11=.int .i64 i/\i<=n/\n-i<=gg/\Aside (wr.rowIs b 36 n (fun j=>if j<i then .int .u64 (fst8 l j) else g j))/\Aside (Gw w wr))
  case atStart=>exact ⟨0,rfl,Nat.zero_le _,by omega,(show Aside _ from R3.out.congr fun j hj=>by simp),G3⟩
  case round =>
    clear R3 G3;obtain ⟨i,rfl,h1,h2,R,G⟩:=hrel;by_cases hlt:i<n
    · obtain ⟨bk,off,rfl,hbk,hc⟩:=(HG.out.gw G.out).cells (by rw [LN.out];omega)
      have q:=hc i (by rw [LN.out];exact hlt)
      have FI:Aside (fst8 l i=(l.getD i sg0).k):=rfl;obtain ⟨s,hs⟩:∃ s,l.getD i sg0=s:=⟨_,rfl⟩;rw [hs] at q FI;clear hs hc;obtain ⟨sk,ssl,sic,sfr,ste⟩:=s;have c0:wr.cell? ⟨bk,off+i*5,none⟩=some (.int .u64 sk):=q.c0;have c1:wr.cell? ⟨bk,off+i*5+1,none⟩=some (.float .f64 ssl):=q.c1;have c2:wr.cell? ⟨bk,off+i*5+2,none⟩=some (.float .f64 sic):=q.c2;have c3:wr.cell? ⟨bk,off+i*5+3,none⟩=some (.int .i64 sfr):=q.c3;have c4:wr.cell? ⟨bk,off+i*5+4,none⟩=some (.int .i64 ste):=q.c4;clear q;have R5:Aside ((wr.alloc (.cells #[.int .u64 sk,.float .f64 ssl,.float .f64 sic,.int .i64 sfr,.int .i64 ste] 170)).rowIs b 36 n (fun j=>if j<i then .int .u64 (fst8 l j) else g j)):=rowIs_gb R.out ((Gw.refl wr).alloc _ _)
      have G5:Aside (Gw w (wr.alloc (.cells #[.int .u64 sk,.float .f64 ssl,.float .f64 sic,.int .i64 sfr,.int .i64 ste] 170))):=G.out.alloc _ _;have r0:=R5.out.cell (i:=i) hlt;have f0:=R5.out.frozen i;clear R G;go_wp2_with fail;go_roundg (n-(i+1))
      case measure=>omega
      case rel=>exact ⟨i+1,by go_num,by omega,Nat.le_refl _,(show Aside _ from (R5.out.set i (.int .u64 sk)).congr fun j hj=>by
          by_cases e:j=i
          · subst e;rw [if_pos rfl,if_pos (by omega),FI.out]
          · rw [if_neg e]
            by_cases q2:j<i
            · rw [if_pos q2,if_pos (by omega)]
            · rw [if_neg q2,if_neg (by omega)]),(show Aside _ from G5.out.setCell B3.out _)⟩
    · have e:i=n:=by omega
      subst e;have K8:Aside _:=ks_row8 (R.out.congr fun j hj=>by simp [hj]) (fun j hj=>fst8_ok HG.out j (by rw [LN.out];exact hj))
      clear R;go_wp2_with fail;go_ret;exact ⟨⟨b,rfl,B3.out,K8.out⟩,G.out⟩
def EndOf (e:Ending) (E:Int):Prop:=(E=0/\e=.returned (.tuple #[]))\/(E≠0/\e=.panicked (thrown E))
theorem needtiles_any (ao:Option Addr) (c:Nat) (l:List Sg) (m:Nat) (hl:l.length<=4000000) (hm:m<=4000000) (w:World) (h:GS w ao l) :
    Calls prog 151 #[.int .i64 (m:Int),.slice ao l.length c] w fun e w'=>EndOf e (if tileB m 0 l then 0 else 82)/\Gw w w':=by
  have HG:Aside _:=h;clear h;obtain ⟨r,hr⟩:∃ r,tileB m 0 l=r:=⟨_,rfl⟩;have HR:Aside _:=(tileC_eq l 0).trans hr;rw [hr];clear hr;have YES:Aside (r=true->EndOf (.returned (.tuple #[])) (if r then 0 else 82)):=fun q=>by rw [q];exact .inl ⟨rfl,rfl⟩
  have NO:Aside (r=false->EndOf (.panicked (thrown 82)) (if r then 0 else 82)):=fun q=>by rw [q];exact .inr ⟨by decide,rfl⟩
  generalize (if r then (0:Int) else 82)=E at YES NO ⊢
  have N1:Hid _:=fun w=>need_ok 82 w
  have N2:Hid _:=fun w=>need_bad 82 w
  obtain ⟨n,hn⟩:∃ n,l.length=n:=⟨_,rfl⟩;have LN:Aside _:=hn;rw [hn] at hl;rw [hn];clear hn;go_enter func151,ntmps151;go_wp2_with fail;go_loopg [4,9] n (fun gg s4 s9 wr=>∃ (i:Nat) (a:Int),s4=.int .i64 a/\s9=.int .i64 i/\i<=n/\n-i<=gg/\Aside (r=tileC m a (l.drop i))/\Aside (Gw w wr))
  case atStart=>exact ⟨0,0,rfl,rfl,Nat.zero_le _,by omega,(show Aside _ from HR.out.symm),(show Aside _ from Gw.refl w)⟩
  case round =>
    obtain ⟨i,a,rfl,rfl,h1,h2,T,G⟩:=hrel;by_cases hlt:i<n
    · obtain ⟨bk,off,rfl,hbk,hc⟩:=(HG.out.gw G.out).cells (by rw [LN.out];omega)
      have q:=hc i (by rw [LN.out];exact hlt)
      have TT:Aside (r=tileC m a (l.getD i sg0::l.drop (i+1))):=by rw [<-drop_at (by rw [LN.out];exact hlt)];exact T.out
      obtain ⟨s,hs⟩:∃ s,l.getD i sg0=s:=⟨_,rfl⟩;rw [hs] at q TT;clear hs hc T;obtain ⟨sk,ssl,sic,sfr,ste⟩:=s;have c0:wr.cell? ⟨bk,off+i*5,none⟩=some (.int .u64 sk):=q.c0;have c1:wr.cell? ⟨bk,off+i*5+1,none⟩=some (.float .f64 ssl):=q.c1;have c2:wr.cell? ⟨bk,off+i*5+2,none⟩=some (.float .f64 sic):=q.c2;have c3:wr.cell? ⟨bk,off+i*5+3,none⟩=some (.int .i64 sfr):=q.c3;have c4:wr.cell? ⟨bk,off+i*5+4,none⟩=some (.int .i64 ste):=q.c4;clear q;have G5:Aside (Gw w (wr.alloc (.cells #[.int .u64 sk,.float .f64 ssl,.float .f64 sic,.int .i64 sfr,.int .i64 ste] 170))):=G.out.alloc _ _;clear G;by_cases d1:sfr=a
      · by_cases d2:a<ste
        · have T5:Aside (r=tileC m ste (l.drop (i+1))):=by
            show r=_;rw [TT.out,tileC_cons];show (decide (sfr=a)&&decide (a<ste)&&_)=_;rw [decide_eq_true d1,decide_eq_true d2];rfl
          have b1:(sfr == a)=true:=by simpa using d1
          have b2:decide (a<ste)=true:=by simpa using d2
          clear TT d1 d2;go_wp2_with fail;refine (N1.out _).mono ?_;rintro e w6 ⟨rfl,rfl⟩;go_wp2_with fail;go_roundg (n-(i+1))
          case measure=>omega
          case rel=>exact ⟨i+1,ste,rfl,by go_num,by omega,Nat.le_refl _,T5,G5⟩
        · have rn:r=false:=by
            rw [TT.out,tileC_cons];show (decide (sfr=a)&&decide (a<ste)&&_)=_;rw [decide_eq_false d2];simp
          have R5:=NO.out rn;have b1:(sfr == a)=true:=by simpa using d1
          have b2:decide (a<ste)=false:=by simpa using d2
          have E5:Aside (EndOf (.panicked (thrown 82)) E):=R5;clear TT d1 d2 R5 rn;go_wp2_with fail;refine (N2.out _).mono ?_;rintro e w6 ⟨rfl,rfl⟩;go_wp2_with fail;exact ⟨rfl,E5.out,G5.out⟩
      · have rn:r=false:=by
          rw [TT.out,tileC_cons];show (decide (sfr=a)&&decide (a<ste)&&_)=_;rw [decide_eq_false d1];simp
        have E5:Aside (EndOf (.panicked (thrown 82)) E):=NO.out rn;have b1:(sfr == a)=false:=by simpa using d1
        clear TT d1 rn;go_wp2_with fail;refine (N2.out _).mono ?_;rintro e w6 ⟨rfl,rfl⟩;go_wp2_with fail;exact ⟨rfl,E5.out,G5.out⟩
    · have e:i=n:=by omega
      subst e;have T':Aside (r=decide (a=m)):=by
        show r=decide (a=m);rw [T.out,List.drop_eq_nil_of_le (by rw [LN.out];exact Nat.le_refl _)];rfl
      by_cases am:a=m
      · have tb:(a == (m:Int))=true:=by simpa using am
        have E5:Aside (EndOf (.returned (.tuple #[])) E):=YES.out (by rw [T'.out];simpa using am)
        clear am;go_wp2_with fail;refine (N1.out _).mono ?_;rintro e w6 ⟨rfl,rfl⟩;go_wp2_with fail;go_end0;exact ⟨E5.out,G.out⟩
      · have tb:(a == (m:Int))=false:=by simpa using am
        have E5:Aside (EndOf (.panicked (thrown 82)) E):=NO.out (by rw [T'.out];simpa using am)
        clear am;go_wp2_with fail;refine (N2.out _).mono ?_;rintro e w6 ⟨rfl,rfl⟩;go_wp2_with fail;exact ⟨rfl,E5.out,G.out⟩
end Go.Proofs.YtemijdhemdhclaaGreat
namespace Go.Proofs.YtemijdhemdhclaaGreat
open Go.RowKit
attribute [local go_sem] run_store_float
def segH (eps:Int) (h:Nat->Int) (m:Nat) (s:Sg):Int :=
  if errM s.sl s.ic s.fr s.te≠0 then errM s.sl s.ic s.fr s.te else if s.k≠h 0 then 83 else if eps<worst (away s.k s.sl s.ic s.fr s.te h) m then 85 else 0
theorem segH_eq (eps:Int) (f:Nat->Int) (s:Sg):segH eps (sh f s.fr.toNat) (s.te-s.fr).toNat s=segE eps f s:=rfl
theorem needseg_any (M:ModelC) (eps:Int) (s:Sg) (OK:s.ok) (bk off m c:Nat) (h:Nat->Int) (hm:(m:Int)=s.te-s.fr) (m0:0<m) (m1:m<=4000000) (mc:m<=c) (u:Up h m) (w:World) (k:KS w (some ⟨bk,off,none⟩) m h) :
    Calls prog 152 #[.slice (some ⟨bk,off,none⟩) m c,.int .i64 eps,segV s.k s.sl s.ic s.fr s.te] w fun e w'=>EndOf e (segH eps h m s)/\Gw w w':=by
  obtain ⟨sk,ssl,sic,sfr,ste⟩:=s;have HK:Aside _:=k;have UP:Aside _:=u;have HM:Aside _:=hm;have CK:Hid (∀ W,Calls prog 122 #[segV sk ssl sic sfr ste] W fun e w'=>e=.returned (.int .i64 (errM ssl sic sfr ste))/\Gw W w'):=fun W=>M.check sk ssl sic sfr ste OK W
  have OF:Hid (∀ W,KS W (some ⟨bk,off,none⟩) m h->Calls prog 165 #[segV sk ssl sic sfr ste,.slice (some ⟨bk,off,none⟩) m c] W fun e w'=>OffOut e sk ssl sic sfr ste m h/\Gw W w'):=fun W hk=>M.off sk ssl sic sfr ste _ m c h OK (by omega) mc W hk
  obtain ⟨E,hE⟩:∃ E,segH eps h m ⟨sk,ssl,sic,sfr,ste⟩=E:=⟨_,rfl⟩;have HE:Aside (E=if errM ssl sic sfr ste≠0 then errM ssl sic sfr ste else if sk≠h 0 then 83 else if eps<worst (away sk ssl sic sfr ste h) m then 85 else 0):=hE.symm
  rw [hE];obtain ⟨X,hX⟩:∃ X,errM ssl sic sfr ste=X:=⟨_,rfl⟩;have HX:Aside _:=hX;rw [hX] at CK HE;have SB:Aside (Sb (w.alloc (.cells #[.int .u64 sk,.float .f64 ssl,.float .f64 sic,.int .i64 sfr,.int .i64 ste] 170)) w.heap.size sk ssl sic sfr ste):=heap_alloc_new w _;have G0:Aside (Gw w (w.alloc (.cells #[.int .u64 sk,.float .f64 ssl,.float .f64 sic,.int .i64 sfr,.int .i64 ste] 170))):=(Gw.refl w).alloc _ _;clear hE hX k u hm OK M;go_enter func152,ntmps152;go_wp2_with fail;generalize w.alloc (.cells #[.int .u64 sk,.float .f64 ssl,.float .f64 sic,.int .i64 sfr,.int .i64 ste] 170)=w0 at SB G0 ⊢;obtain ⟨xb,hxb⟩:∃ xb,w.heap.size=xb:=⟨_,rfl⟩;rw [hxb] at SB ⊢;clear hxb;refine (CK.out _).mono ?_;rintro e w1 ⟨rfl,g1⟩;have SB1:Aside (Sb w1 xb sk ssl sic sfr ste):=SB.out.gw g1;have G1:Aside _:=G0.out.trans g1;clear g1 SB G0;by_cases x0:X=0
  · subst x0
    have HE1:Aside (E=if sk≠h 0 then 83 else if eps<worst (away sk ssl sic sfr ste h) m then 85 else 0):=by
      have:=HE.out
      rw [if_neg (fun q=>q rfl)] at this
      exact this
    obtain ⟨z0,z1,z2,z3,z4⟩:=SB1.out.cells;have zl:=SB1.out.lt;obtain ⟨kb,kf,ekk,hkb,hkc⟩:=(HK.out.gw G1.out).cells m0;cases ekk;have kc:=hkc 0 m0;rw [Nat.add_zero] at kc;obtain ⟨gf,hgf⟩:∃ y,h 0=y:=⟨_,rfl⟩;have GF:Aside _:=hgf;rw [hgf] at kc HE1;clear hkc hgf HE;go_wp2_with fail;refine (need_ok 0 _).mono ?_;rintro e w2 ⟨rfl,rfl⟩;by_cases kk:sk=gf
    · have b3:(sk == gf)=true:=by simpa using kk
      have HE2:Aside (E=if eps<worst (away sk ssl sic sfr ste h) m then 85 else 0):=by
        have:=HE1.out
        rw [if_neg (fun q=>q kk)] at this
        exact this
      have GK:Aside (h 0=sk):=by show _=_;rw [GF.out,kk]
      clear HE1 GF kk;go_wp2_with fail;go_quiet (first | (go_at_call 113;refine Calls.quiet_of_same (need_ok 83 _)))
      go_wp2_with fail;have G2:Aside (Gw w (w2.drewN nq)):=G1.out.drewN _
      refine (OF.out _ (HK.out.gw G2.out)).mono ?_;rintro e w3 ⟨⟨N,er,rfl,hN⟩,g3⟩;have G3:Aside _:=G2.out.trans g3;obtain ⟨rfl,rfl⟩:N=worst (away sk ssl sic sfr ste h) m/\er=0:=by
        rcases hN with ⟨a,_⟩ | ⟨_,a,_⟩ | ⟨_,_,a,b⟩
        · exact absurd HX.out a
        · exact absurd ⟨HM.out,GK.out,UP.out⟩ a
        · exact ⟨a,b⟩
      generalize worst (away sk ssl sic sfr ste h) m=N at HE2 hN ⊢;clear hN g3 G2 G1 SB1 z0 z1 z2 z3 z4 zl kc hkb HX GK UP HM HK OF CK;go_wp2_with fail;refine (need_ok 0 _).mono ?_;rintro e w4 ⟨rfl,rfl⟩;by_cases big:eps<N
      · have b4:decide (N<=eps)=false:=by simp;omega
        have E5:E=85:=by rw [HE2.out,if_pos big]
        subst E5;clear HE2 big;go_wp2_with fail;refine (need_bad 85 _).mono ?_;rintro e w5 ⟨rfl,rfl⟩;go_wp2_with fail;exact ⟨rfl,.inr ⟨by decide,rfl⟩,G3.out⟩
      · have b4:decide (N<=eps)=true:=by simp;omega
        have E5:E=0:=by rw [HE2.out,if_neg big]
        subst E5;clear HE2 big;go_wp2_with fail;refine (need_ok 85 _).mono ?_;rintro e w5 ⟨rfl,rfl⟩;go_wp2_with fail;go_end0;exact ⟨.inl ⟨rfl,rfl⟩,G3.out⟩
    · have b3:(sk == gf)=false:=by simpa using kk
      have E5:E=83:=by rw [HE1.out,if_pos kk]
      subst E5;clear HE1;go_wp2_with fail;go_region_dies
      all_goals go_wp2_with fail
      all_goals refine (need_bad 83 _).mono ?_
      all_goals rintro e w3 ⟨rfl,rfl⟩
      all_goals go_wp2_with fail
      all_goals exact ⟨rfl,.inr ⟨by decide,rfl⟩,(by repeat (first | exact G1.out | refine Gw.drew ?_ | refine Gw.drewN ?_ _))⟩
  · have tx:(X == 0)=false:=by simpa using x0
    have E5:E=X:=by rw [HE.out,if_pos x0]
    subst E5;clear HE;go_wp2_with fail;refine (need_bad _ _).mono ?_;rintro e w2 ⟨rfl,rfl⟩;go_wp2_with fail;exact ⟨rfl,.inr ⟨x0,rfl⟩,G1.out⟩
end Go.Proofs.YtemijdhemdhclaaGreat
namespace Go.Proofs.YtemijdhemdhclaaGreat
open Go.RowKit
attribute [local go_sem] run_store_float
def levE (eps:Int) (g:Nat->Int) (m:Nat) (l:List Sg):Int:=if tileB m 0 l then lvlE eps g l else 82
theorem needlevel_any (M:ModelC) (eps:Int) (bo:Option Addr) (m c:Nat) (g:Nat->Int) (m1:m<=4000000) (mc:m<=c) (u:Up g m) (ao:Option Addr) (cl:Nat) (l:List Sg) (hl:l.length<=4000000) (w:World) (k:KS w bo m g) (h:GS w ao l) :
    Calls prog 135 #[.slice bo m c,.int .i64 eps,.slice ao l.length cl] w fun e w'=>EndOf e (levE eps g m l)/\Gw w w':=by
  have HG:Aside (GS w ao l):=h;have HK:Aside (KS w bo m g):=k;have UP:Aside (Up g m):=u;have NT:Hid (∀ W,GS W ao l->Calls prog 151 #[.int .i64 (m:Int),.slice ao l.length cl] W fun e w'=>EndOf e (if tileB m 0 l then 0 else 82)/\Gw W w'):=fun W h=>needtiles_any ao cl l m hl m1 W h
  have NS:Hid _:=fun (s:Sg) (OK:s.ok) (bk off n c:Nat) (h:Nat->Int) (hm:(n:Int)=s.te-s.fr) (m0:0<n) (m1:n<=4000000) (mc:n<=c) (u:Up h n) (w:World) (k:KS w (some ⟨bk,off,none⟩) n h)=>needseg_any M eps s OK bk off n c h hm m0 m1 mc u w k
  clear h k u M;obtain ⟨E,hE⟩:∃ E,levE eps g m l=E:=⟨_,rfl⟩;have HE:Aside (E=if tileB m 0 l then lvlE eps g l else 82):=hE.symm
  rw [hE];clear hE;obtain ⟨n,hn⟩:∃ n,l.length=n:=⟨_,rfl⟩;have LN:Aside (l.length=n):=hn;rw [hn] at hl NT;rw [hn];clear hn;go_enter func135,ntmps135;go_wp2_with fail;refine (NT.out _ HG.out).mono ?_;rintro e w1 ⟨h1,g1⟩;have G1:Aside (Gw w w1):=g1;clear g1 NT;by_cases tb:tileB m 0 l=true
  · have TI:Aside (tileB m 0 l=true):=tb
    rw [if_pos tb] at h1;obtain rfl:e=.returned (.tuple #[]):=by
      rcases h1 with ⟨_,q⟩ | ⟨q,_⟩
      · exact q
      · exact absurd rfl q
    have HE1:Aside (E=lvlE eps g l):=by
      have:=HE.out
      rw [if_pos tb] at this;exact this
    clear HE tb h1;go_wp2_with fail;go_loopg [14] n (fun gg s14 wr=>∃ i:Nat,s14=.int .i64 i/\i<=n/\n-i<=gg/\Aside (E=lvlE eps g (l.drop i))/\Aside (Gw w wr))
    case atStart=>exact ⟨0,rfl,Nat.zero_le _,by omega,HE1,G1⟩
    case round =>
      clear HE1 G1;obtain ⟨i,rfl,h1,h2,T,G⟩:=hrel;by_cases hlt:i<n
      · obtain ⟨sb,sf,rfl,hsb,hc⟩:=(HG.out.gw G.out).cells (by rw [LN.out];omega)
        have q:=hc i (by rw [LN.out];exact hlt)
        have TT:Aside (E=lvlE eps g (l.getD i sg0::l.drop (i+1))):=by rw [<-drop_at (by rw [LN.out];exact hlt)];exact T.out
        have TA:=tile_at TI.out i (by rw [LN.out];exact hlt)
        have OK:=HG.out.ok i (by rw [LN.out];exact hlt)
        obtain ⟨s,hs⟩:∃ s,l.getD i sg0=s:=⟨_,rfl⟩;rw [hs] at q TT TA OK;clear hs hc T;obtain ⟨fa,hfa⟩:∃ fa:Nat,s.fr=fa:=⟨s.fr.toNat,by omega⟩
        obtain ⟨tb,htb⟩:∃ tb:Nat,s.te=tb:=⟨s.te.toNat,by omega⟩
        have fm:fa<m:=by omega
        have ft:fa<tb:=by omega
        have tm:tb<=m:=by omega
        clear TA;obtain ⟨bk,off,rfl,hbk,hkc⟩:=(HK.out.gw G.out).cells (by omega)
        have CC:Hid (∀ W,Gw w W->Calls prog 152 #[.slice (some ⟨bk,off+fa,none⟩) (tb-fa) (c-fa),.int .i64 eps,segV s.k s.sl s.ic s.fr s.te] W fun e w'=>EndOf e (segE eps g s)/\Gw W w'):=fun W gW=>by
          have:=NS.out s OK bk (off+fa) (tb-fa) (c-fa) (sh g fa) (by omega) (by omega) (by omega) (by omega) (sh_up UP.out tm) W (ks_cut (HK.out.gw gW) tm)
          rw [<-segH_eq,hfa,htb,Int.toNat_natCast,show ((tb:Int)-(fa:Int)).toNat=tb-fa by omega]
          rw [hfa,htb] at this;exact this
        obtain ⟨X,hX⟩:∃ X,segE eps g s=X:=⟨_,rfl⟩;have TX:Aside (E=if X≠0 then X else lvlE eps g (l.drop (i+1))):=by
          have:=TT.out
          rw [lvlE_cons,hX] at this;exact this
        rw [hX] at CC;obtain ⟨sk,ssl,sic,sfr,ste⟩:=s;obtain rfl:sfr=fa:=hfa;obtain rfl:ste=tb:=htb;have c0:wr.cell? ⟨sb,sf+i*5,none⟩=some (.int .u64 sk):=q.c0;have c1:wr.cell? ⟨sb,sf+i*5+1,none⟩=some (.float .f64 ssl):=q.c1;have c2:wr.cell? ⟨sb,sf+i*5+2,none⟩=some (.float .f64 sic):=q.c2;have c3:wr.cell? ⟨sb,sf+i*5+3,none⟩=some (.int .i64 (fa:Int)):=q.c3;have c4:wr.cell? ⟨sb,sf+i*5+4,none⟩=some (.int .i64 (tb:Int)):=q.c4;have G5:Aside (Gw w (wr.alloc (.cells #[.int .u64 sk,.float .f64 ssl,.float .f64 sic,.int .i64 (fa:Int),.int .i64 (tb:Int)] 170))):=G.out.alloc _ _;clear q hX TT hkc G OK;have tc:tb<=c:=by omega
        have fc:¬ fa=c:=by omega
        have cf:¬ c=fa:=by omega
        have i1:(0:Int)<=(fa:Int):=by omega
        have i2:(fa:Int)<=(tb:Int):=by omega
        have i3:(tb:Int)<=(c:Int):=by omega
        have ft':fa<=tb:=by omega
        go_wp2_with fail;go_region_dies
        all_goals refine (CC.out _ G5.out.drew).mono ?_
        all_goals rintro e w6 ⟨he,g6⟩
        all_goals have G6:Aside (Gw w w6):=G5.out.drew.trans g6
        all_goals clear g6
        all_goals rcases he with ⟨x0,rfl⟩ | ⟨x0,rfl⟩
        all_goals first
          | (
             have E5:E=X:=by rw [TX.out,if_pos x0]
             subst E5;go_wp2_with fail;exact ⟨rfl,.inr ⟨x0,rfl⟩,G6.out⟩)
          | (have TN:Aside (E=lvlE eps g (l.drop (i+1))):=by
               have:=TX.out
               rw [if_neg (fun q=>q x0)] at this
               exact this
             clear TX;go_wp2_with fail;refine wpAny_done (by kernel_rfl) ?_ _
             go_wp2_with fail;go_roundg (n-(i+1))
             case measure=>omega
             case rel=>exact ⟨i+1,by go_num,by omega,Nat.le_refl _,TN,G6⟩)
      · have e:i=n:=by omega
        subst e;have E0:E=0:=by
          rw [T.out,List.drop_eq_nil_of_le (by rw [LN.out];exact Nat.le_refl _)];rfl
        subst E0;go_wp2_with fail;go_end0;exact ⟨.inl ⟨rfl,rfl⟩,G.out⟩
  · rw [if_neg tb] at h1
    obtain rfl:e=.panicked (thrown 82):=by
      rcases h1 with ⟨q,_⟩ | ⟨_,q⟩
      · exact absurd q (by decide)
      · exact q
    have E5:E=82:=by rw [HE.out,if_neg tb]
    subst E5;clear HE tb h1;go_wp2_with fail;exact ⟨rfl,.inr ⟨by decide,rfl⟩,G1.out⟩
end Go.Proofs.YtemijdhemdhclaaGreat
