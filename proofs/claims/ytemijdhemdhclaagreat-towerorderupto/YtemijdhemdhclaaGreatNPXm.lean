/- Package model: Check, and what a right segment predicts. -/
import Derived.Test.YtemijdhemdhclaaGreatNPFg
set_option linter.unusedVariables false
set_option maxHeartbeats 8000000
set_option maxRecDepth 10000
open Go.Proofs.Tryz
namespace Go.Proofs.YtemijdhemdhclaaGreat
open Go.RowKit
theorem sign_i64 (x:Nat) (hx:x<18446744073709551616):decide (wrap64 (x:Int)<0)=decide (9223372036854775808<=x):=by
 rw [decide_eq_decide];unfold wrap64;omega
theorem signbit (x:Nat) (hx:x<18446744073709551616) (w:World) :
  Calls prog 137 #[.float .f64 x] w fun e w'=>e=.returned (.bool (decide (9223372036854775808<=x)))/\w'=w:=by
 have h:=sign_i64 x hx;go_enter func137,ntmps137;go_wp2_with (simp only [f64bits]);go_ret;exact ⟨rfl,rfl⟩
theorem slope_over {x:Nat} (h:4611686018427387904<x) (n:¬ 9218868437227405312<rg x) (p:x<9223372036854775808):fgt2 x=true:=by
 have r:=rg_small p;unfold fgt2;rw [fmt];rcases Nat.lt_trichotomy (rg x) 9218868437227405312 with q | q | q
 ·rw [f_gt q (by decide),SV_small (x:=x) (by omega),SV_small (by decide)]
  have:=V_lt h
  simp;omega
 ·unfold Ieee.Format.order;rw [read_inf q,read_fin (by decide),sg_small (x:=x) (by omega)]
  simp [Ieee.Datum.order]
 ·exact absurd q n
theorem xcheck_any (k:Int) (sl ic:Nat) (fr tu:Int) (s1:sl<18446744073709551616) (i1:ic<18446744073709551616) (w:World) :
  Calls prog 122 #[segV k sl ic fr tu] w fun e w'=>e=.returned (.int .i64 (errM sl ic fr tu))/\Gw w w':=by
 have G0:Aside (Gw w (w.alloc (.cells #[.int .u64 k,.float .f64 sl,.float .f64 ic,.int .i64 fr,.int .i64 tu] 170))):=(Gw.refl w).alloc _ _;have NS:Hid _:=fun W=>isnan sl W
 have NI:Hid _:=fun W=>isnan ic W
 have SB:Hid _:=fun W=>signbit sl s1 W
 have II:Hid _:=fun W=>isinf ic i1 W
 unfold errM;by_cases h:fr<0\/tu<=fr\/4294967296<tu
 ·rw [if_pos h]
  by_cases h1:fr<0
  ·have t1:decide (fr<0)=true:=by simpa using h1
   clear h h1;go_enter func122,ntmps122;go_wp2_with fail;exact bodyPost_ret (v:=.int .i64 70) (by simp [results,results122,go_sem]) rfl ⟨rfl,G0.out⟩
  ·have t1:decide (fr<0)=false:=by simpa using h1
   by_cases h2:tu<=fr
   ·have t2:decide (tu<=fr)=true:=by simpa using h2
    clear h h1 h2;go_enter func122,ntmps122;go_wp2_with fail;exact bodyPost_ret (v:=.int .i64 70) (by simp [results,results122,go_sem]) rfl ⟨rfl,G0.out⟩
   ·have t2:decide (tu<=fr)=false:=by simpa using h2
    have t3:decide (4294967296<tu)=true:=by simp;omega
    clear h h1 h2;go_enter func122,ntmps122;go_wp2_with fail;exact bodyPost_ret (v:=.int .i64 70) (by simp [results,results122,go_sem]) rfl ⟨rfl,G0.out⟩
 ·rw [if_neg h]
  have t1:decide (fr<0)=false:=by simp;omega
  have t2:decide (tu<=fr)=false:=by simp;omega
  have t3:decide (4294967296<tu)=false:=by simp;omega
  clear h;by_cases h1:4611686018427387904<sl
  ·rw [if_pos h1]
   by_cases hn:9218868437227405312<rg sl
   ·have q:decide (9218868437227405312<rg sl)=true:=by simpa using hn
    rw [q] at NS;clear hn h1 q;go_enter func122,ntmps122;go_wp2_with (go_at_call 136;refine (NS.out _).mono ?_;rintro e w' ⟨rfl,rfl⟩);exact bodyPost_ret (v:=.int .i64 71) (by simp [results,results122,go_sem]) rfl ⟨rfl,G0.out⟩
   ·have q:decide (9218868437227405312<rg sl)=false:=by simpa using hn
    rw [q] at NS;by_cases hp:sl<9223372036854775808
    ·have q1:decide (9223372036854775808<=sl)=false:=by simpa using hp
     have q2:(FloatKind.f64.format.order sl 4611686018427387904 == some .gt)=true:=slope_over h1 hn hp;rw [q1] at SB;clear hn h1 q q1 hp;go_enter func122,ntmps122;go_wp2_with (first | (go_at_call 136;refine (NS.out _).mono ?_;rintro e w' ⟨rfl,rfl⟩) | (go_at_call 137;refine (SB.out _).mono ?_;rintro e w' ⟨rfl,rfl⟩))
     exact bodyPost_ret (v:=.int .i64 71) (by simp [results,results122,go_sem]) rfl ⟨rfl,G0.out⟩
    ·have q1:decide (9223372036854775808<=sl)=true:=by simpa using hp
     rw [q1] at SB;clear hn h1 q q1 hp;go_enter func122,ntmps122;go_wp2_with (first | (go_at_call 136;refine (NS.out _).mono ?_;rintro e w' ⟨rfl,rfl⟩) | (go_at_call 137;refine (SB.out _).mono ?_;rintro e w' ⟨rfl,rfl⟩))
     exact bodyPost_ret (v:=.int .i64 71) (by simp [results,results122,go_sem]) rfl ⟨rfl,G0.out⟩
  ·rw [if_neg h1]
   obtain ⟨-,-,q2⟩:=slope_ok (x:=sl) (by omega)
   have q2':(FloatKind.f64.format.order sl 4611686018427387904 == some .gt)=false:=q2;have q:decide (9218868437227405312<rg sl)=false:=by rw [rg_small (by omega)];simp;omega
   have q1:decide (9223372036854775808<=sl)=false:=by simp;omega
   rw [q] at NS;rw [q1] at SB;clear q q1 q2 h1;by_cases h2:9218868437227405312<=rg ic
   ·rw [if_pos h2]
    by_cases hn:9218868437227405312<rg ic
    ·have q:decide (9218868437227405312<rg ic)=true:=by simpa using hn
     rw [q] at NI;clear hn h2 q;go_enter func122,ntmps122;go_wp2_with (first | (go_at_call 136;refine (NS.out _).mono ?_;rintro e w' ⟨rfl,rfl⟩) | (go_at_call 137;refine (SB.out _).mono ?_;rintro e w' ⟨rfl,rfl⟩) | (go_at_call 136;refine (NI.out _).mono ?_;rintro e w' ⟨rfl,rfl⟩))
     exact bodyPost_ret (v:=.int .i64 72) (by simp [results,results122,go_sem]) rfl ⟨rfl,G0.out⟩
    ·have q:decide (9218868437227405312<rg ic)=false:=by simpa using hn
     have q1:decide (rg ic=9218868437227405312)=true:=by simp;omega
     rw [q] at NI;rw [q1] at II;clear hn h2 q q1;go_enter func122,ntmps122;go_wp2_with (first | (go_at_call 136;refine (NS.out _).mono ?_;rintro e w' ⟨rfl,rfl⟩) | (go_at_call 137;refine (SB.out _).mono ?_;rintro e w' ⟨rfl,rfl⟩) | (go_at_call 136;refine (NI.out _).mono ?_;rintro e w' ⟨rfl,rfl⟩) | (go_at_call 138;refine (II.out _).mono ?_;rintro e w' ⟨rfl,rfl⟩))
     exact bodyPost_ret (v:=.int .i64 72) (by simp [results,results122,go_sem]) rfl ⟨rfl,G0.out⟩
   ·rw [if_neg h2]
    have q:decide (9218868437227405312<rg ic)=false:=by simp;omega
    have q1:decide (rg ic=9218868437227405312)=false:=by simp;omega
    rw [q] at NI;rw [q1] at II;clear h2 q q1;go_enter func122,ntmps122;go_wp2_with (first | (go_at_call 136;refine (NS.out _).mono ?_;rintro e w' ⟨rfl,rfl⟩) | (go_at_call 137;refine (SB.out _).mono ?_;rintro e w' ⟨rfl,rfl⟩) | (go_at_call 136;refine (NI.out _).mono ?_;rintro e w' ⟨rfl,rfl⟩) | (go_at_call 138;refine (II.out _).mono ?_;rintro e w' ⟨rfl,rfl⟩))
    exact bodyPost_ret (v:=.int .i64 0) (by simp [results,results122,go_sem]) rfl ⟨rfl,G0.out⟩
theorem predict_any (k:Int) (sl ic:Nat) (fr tu q:Int) (k0:0<=k) (k1:k<18446744073709551616) (q0:0<=q) (q1:q<18446744073709551616) (h:errM sl ic fr tu=0) (w:World) :
  Calls prog 123 #[segV k sl ic fr tu,.int .u64 q] w fun e w'=>e=.returned (.int .i64 (guessV k sl ic fr tu q))/\Gw w w':=by
 obtain ⟨a,b,c,d,e⟩:=errM_ok.1 h;obtain ⟨y,p,r,v,hy,ey,hp,ep,hr,ev,fv,sv,-,-⟩:=line_right (far:=(q-k).toNat) d e (by omega)
 have V:Hid (guessV k sl ic fr tu q=clampv v fr tu):=by
  show guessV k sl ic fr tu q=clampv v fr tu;unfold guessV;rw [if_pos h,gfl_is ey ep ev]
 have A:Hid _:=fun W=>(along_any sl y (q-k).toNat ic (by omega) ey W).mono fun ex w' (hx:(∃ r,ex=.returned (.float .f64 r)/\AL sl y ic r)/\∃ n,w'=W.drewN n) =>
  show ex=.returned (.float .f64 v)/\Gw W w' from ⟨(by obtain ⟨⟨r,e1,al⟩,-⟩:=hx;rw [e1,al.is ep ev]),(by obtain ⟨-,n,e2⟩:=hx;rw [e2];exact (Gw.refl W).drewN n)⟩
 have L:Hid _:=fun W=>clamp_any v fr tu (by omega) (by omega) (by omega) (by omega) W
 have HK:Hid (∀ w',Gw (w.alloc (.cells #[.int .u64 k,.float .f64 sl,.float .f64 ic,.int .i64 fr,.int .i64 tu] 170)) w'->Gw (w.alloc (.cells #[.int .u64 k,.float .f64 sl,.float .f64 ic,.int .i64 fr,.int .i64 tu] 170)) w'/\w'.cell? ⟨w.heap.size,1,none⟩=some (.float .f64 sl)/\w'.cell? ⟨w.heap.size,2,none⟩=some (.float .f64 ic)/\w'.cell? ⟨w.heap.size,3,none⟩=some (.int .i64 fr)/\w'.cell? ⟨w.heap.size,4,none⟩=some (.int .i64 tu)) :=
  fun w' g=>⟨g,(g.cell _ _ (by simp)).trans (by simp [go_sem]),(g.cell _ _ (by simp)).trans (by simp [go_sem]),(g.cell _ _ (by simp)).trans (by simp [go_sem]),(g.cell _ _ (by simp)).trans (by simp [go_sem])⟩
 rw [V.out];have G0:Aside (Gw w (w.alloc (.cells #[.int .u64 k,.float .f64 sl,.float .f64 ic,.int .i64 fr,.int .i64 tu] 170))):=(Gw.refl w).alloc _ _;clear hy ey hp ep hr ev fv sv h a b c d e;by_cases g:q<k
 ·have wz:((q-k).toNat:Int)=0:=by omega
  rw [wz] at A;go_enter func123,ntmps123;go_wp2_with fail;go_region_held3 (fun w'=>Gw (w.alloc (.cells #[.int .u64 k,.float .f64 sl,.float .f64 ic,.int .i64 fr,.int .i64 tu] 170)) w'/\w'.cell? ⟨w.heap.size,1,none⟩=some (.float .f64 sl)/\w'.cell? ⟨w.heap.size,2,none⟩=some (.float .f64 ic)/\w'.cell? ⟨w.heap.size,3,none⟩=some (.int .i64 fr)/\w'.cell? ⟨w.heap.size,4,none⟩=some (.int .i64 tu))
   ((refine HK.out _ ?_;(repeat (first | exact Gw.refl _ | exact And.left (by assumption) | exact Hid.out (by assumption) | refine Gw.drew ?_ | refine Gw.trans ?_ (by assumption)));done))
   (first
   | (go_at_call 140;refine (A.out _).mono ?_;rintro ex w2 ⟨rfl,g2⟩;have G2:Hid (Gw (w.alloc (.cells #[.int .u64 k,.float .f64 sl,.float .f64 ic,.int .i64 fr,.int .i64 tu] 170)) w2):=(Gw.trans (by repeat (first | exact Gw.refl _ | exact And.left (by assumption) | exact Hid.out (by assumption) | refine Gw.drew ?_)) g2);clear g2)
   | (go_at_call 139;refine (L.out _).mono ?_;rintro ex w3 ⟨rfl,rfl⟩))
  all_goals go_wp2_with fail
  all_goals exact bodyPost_ret (v:=.int .i64 (clampv v fr tu)) (by simp [results,results123,go_sem]) rfl ⟨rfl,Gw.trans G0.out (by repeat (first | exact Gw.refl _ | exact And.left (by assumption) | exact Hid.out (by assumption) | refine Gw.drew ?_ | refine Gw.trans ?_ (by assumption)))⟩
 ·have mz:IntKind.u64.wrap (q-k)=((q-k).toNat:Int):=by rw [IntKind.wrap_u64];omega
  generalize (q-k).toNat=D at A mz;go_enter func123,ntmps123;go_wp2_with fail;go_region_held3 (fun w'=>Gw (w.alloc (.cells #[.int .u64 k,.float .f64 sl,.float .f64 ic,.int .i64 fr,.int .i64 tu] 170)) w'/\w'.cell? ⟨w.heap.size,1,none⟩=some (.float .f64 sl)/\w'.cell? ⟨w.heap.size,2,none⟩=some (.float .f64 ic)/\w'.cell? ⟨w.heap.size,3,none⟩=some (.int .i64 fr)/\w'.cell? ⟨w.heap.size,4,none⟩=some (.int .i64 tu))
   ((refine HK.out _ ?_;(repeat (first | exact Gw.refl _ | exact And.left (by assumption) | exact Hid.out (by assumption) | refine Gw.drew ?_ | refine Gw.trans ?_ (by assumption)));done))
   (first
   | (go_at_call 140;refine (A.out _).mono ?_;rintro ex w2 ⟨rfl,g2⟩;have G2:Hid (Gw (w.alloc (.cells #[.int .u64 k,.float .f64 sl,.float .f64 ic,.int .i64 fr,.int .i64 tu] 170)) w2):=(Gw.trans (by repeat (first | exact Gw.refl _ | exact And.left (by assumption) | exact Hid.out (by assumption) | refine Gw.drew ?_)) g2);clear g2)
   | (go_at_call 139;refine (L.out _).mono ?_;rintro ex w3 ⟨rfl,rfl⟩))
  all_goals go_wp2_with fail
  all_goals exact bodyPost_ret (v:=.int .i64 (clampv v fr tu)) (by simp [results,results123,go_sem]) rfl ⟨rfl,Gw.trans G0.out (by repeat (first | exact Gw.refl _ | exact And.left (by assumption) | exact Hid.out (by assumption) | refine Gw.drew ?_ | refine Gw.trans ?_ (by assumption)))⟩
theorem xguess_any (k:Int) (sl ic:Nat) (fr tu q:Int) (k0:0<=k) (k1:k<18446744073709551616) (s1:sl<18446744073709551616) (i1:ic<18446744073709551616) (q0:0<=q) (q1:q<18446744073709551616) (w:World) :
  Calls prog 108 #[segV k sl ic fr tu,.int .u64 q] w fun e w'=>e=.returned (.int .i64 (guessV k sl ic fr tu q))/\Gw w w':=by
 have G0:Aside (Gw w (w.alloc (.cells #[.int .u64 k,.float .f64 sl,.float .f64 ic,.int .i64 fr,.int .i64 tu] 170))):=(Gw.refl w).alloc _ _;have C:Hid _:=fun W=>xcheck_any k sl ic fr tu s1 i1 W
 by_cases h:errM sl ic fr tu=0
 ·have P:Hid _:=fun W=>predict_any k sl ic fr tu q k0 k1 q0 q1 h W
  rw [h] at C;generalize guessV k sl ic fr tu q=g at *;clear h;go_enter func108,ntmps108;go_wp2_with fail;refine (C.out _).mono ?_;rintro ex w1 ⟨rfl,g1⟩;have x0:w1.cell? ⟨w.heap.size,0,none⟩=some (.int .u64 k):=(g1.cell _ _ (by simp)).trans (by simp [go_sem])
  have x1:w1.cell? ⟨w.heap.size,1,none⟩=some (.float .f64 sl):=(g1.cell _ _ (by simp)).trans (by simp [go_sem])
  have x2:w1.cell? ⟨w.heap.size,2,none⟩=some (.float .f64 ic):=(g1.cell _ _ (by simp)).trans (by simp [go_sem])
  have x3:w1.cell? ⟨w.heap.size,3,none⟩=some (.int .i64 fr):=(g1.cell _ _ (by simp)).trans (by simp [go_sem])
  have x4:w1.cell? ⟨w.heap.size,4,none⟩=some (.int .i64 tu):=(g1.cell _ _ (by simp)).trans (by simp [go_sem])
  have l1:w.heap.size<w1.heap.size:=by have:=g1.size;simp at this;omega
  have G:Aside _:=G0.out.trans g1;clear g1 G0;go_wp2_with fail;refine (P.out _).mono ?_;rintro ex w2 ⟨rfl,g2⟩;go_wp2_with fail;exact bodyPost_ret (v:=.int .i64 g) (by simp [results,results108,go_sem]) rfl ⟨rfl,G.out.trans g2⟩
 ·have t1:(errM sl ic fr tu != 0)=true:=by simpa using h
  have V:guessV k sl ic fr tu q=0:=if_neg h;rw [V];generalize errM sl ic fr tu=er at *;clear V h;go_enter func108,ntmps108;go_wp2_with fail;refine (C.out _).mono ?_;rintro ex w1 ⟨rfl,g1⟩;have G:Aside _:=G0.out.trans g1;clear g1 G0;go_wp2_with fail;exact bodyPost_ret (v:=.int .i64 0) (by simp [results,results108,go_sem]) rfl ⟨rfl,G.out⟩
theorem KS.drawn {w wr:World} {ao:Option Addr} {n:Nat} {f:Nat->Int} (h:KS w ao n f) (g:∃ m,wr=w.drewN m):KS wr ao n f:=by
 obtain ⟨m,rfl⟩:=g;exact h.gw ((Gw.refl w).drewN m)
theorem qitself_any (x:Int) (w:World):Calls prog 142 #[.int .u64 x] w fun e w'=>e=.returned (.int .u64 x)/\w'=w:=by
 go_enter func142,ntmps142;go_wp2;go_ret;exact ⟨rfl,rfl⟩
theorem qrises_keys (ao:Option Addr) (n c:Nat) (f:Nat->Int) (hn:n<4611686018427387904) (w:World) (h:KS w ao n f) :
  Calls prog 141 #[.slice ao n c,.func (.func 142) #[] #[]] w fun e w'=>(∃ r:Nat,e=.returned (.int .i64 r)/\r<=n/\(∀ j,j+1<r->f j<f (j+1))/\(r<n->1<=r/\f r<=f (r-1)))/\∃ m,w'=w.drewN m:=by
 go_enter func141,ntmps141;go_wp2_with fail;go_loopg [5] n (fun gg s5 wr=>∃ i:Nat,s5=.int .i64 i/\1<=i/\(i<=n\/i=1)/\n-i<=gg/\Aside (∀ j,j+1<i->f j<f (j+1))/\Aside (∃ m,wr=w.drewN m))
 case atStart=>exact ⟨1,rfl,Nat.le_refl _,.inr rfl,by omega,fun j hj=>by omega,⟨0,rfl⟩⟩
 case round =>
  obtain ⟨i,rfl,h1,h2,h3,H4,G⟩:=hrel;by_cases hlt:i<n
  ·obtain ⟨b,off,rfl,hb,hc⟩:=(KS.drawn h G.out).cells (by omega)
   obtain ⟨m,hm⟩:∃ m:Nat,(i:Int)-1=m:=⟨i-1,by omega⟩
   have hmn:m<n:=by omega
   have hw:=wrap_nat m (by omega)
   have c1:=hc i hlt;have c0:=hc m hmn;clear hc;generalize hy1:f i=y1 at c1;generalize hy0:f m=y0 at c0;have Y:Aside (f i=y1/\f m=y0/\i=m+1):=⟨hy1,hy0,by omega⟩
   clear hy1 hy0 h h2;by_cases hle:y1<=y0
   ·go_wp2_with fail
    go_quiet (first | (go_at_call 142;refine Calls.quiet_of_same (qitself_any _ _)))
    go_wp2_with fail;go_ret
    obtain ⟨e1,e2,e3⟩:=Y.out;refine ⟨⟨i,rfl,by omega,H4.out,fun _=>⟨h1,?_⟩⟩,?_⟩
    ·rw [e1,show i-1=m by omega,e2];exact hle
    ·obtain ⟨m,e⟩:=G.out;exact ⟨_,by rw [e,World.drewN_drewN]⟩
   ·go_wp2_with fail
    go_quiet (first | (go_at_call 142;refine Calls.quiet_of_same (qitself_any _ _)))
    go_wp2_with fail;go_roundg (n-(m+2))
    case measure=>omega
    case rel =>
     obtain ⟨e1,e2,e3⟩:=Y.out;refine ⟨m+2,by go_num,by omega,by omega,Nat.le_refl _,(show Aside _ from fun j hj=>?_),(show Aside _ from by obtain ⟨m,e⟩:=G.out;exact ⟨_,by rw [e,World.drewN_drewN]⟩)⟩
     by_cases hj':j=m
     ·subst hj';rw [e2,<-e3,e1];omega
     ·exact H4.out j (by omega)
  ·go_wp2_with fail
   go_ret
   exact ⟨⟨n,rfl,Nat.le_refl _,fun j hj=>H4.out j (by omega),fun hh=>by omega⟩,G.out⟩
theorem qrising_any (ao:Option Addr) (n c:Nat) (f:Nat->Int) (hn:n<4611686018427387904) (w:World) (h:KS w ao n f) :
  Calls prog 126 #[.slice ao n c] w fun e w'=>(∃ r:Bool,e=.returned (.bool r)/\(r=true↔Up f n))/\∃ m,w'=w.drewN m:=by
 go_enter func126,ntmps126;go_wp2_with fail;refine (qrises_keys ao n c f hn w h).mono ?_;rintro e w1 ⟨⟨r,rfl,h1,h2,h3⟩,g1⟩;have H:Hid ((∀ j,j+1<r->f j<f (j+1))/\(r<n->1<=r/\f r<=f (r-1))):=⟨h2,h3⟩;clear h2 h3;go_wp2_with fail;go_ret;obtain ⟨h2,h3⟩:=H.out;refine ⟨⟨_,rfl,?_⟩,g1⟩;unfold Up;by_cases hr:r=n
 ·subst hr;simpa using h2
 ·have q:=h3 (by omega)
  have:¬ ((r:Int)=n):=by omega
  simp only [beq_iff_eq];constructor
  ·intro hh;omega
  ·intro hh
   have:=hh (r-1) (by omega)
   rw [show r-1+1=r by omega] at this
   omega
theorem xrise_any (ao:Option Addr) (n c:Nat) (f:Nat->Int) (hn:n<4611686018427387904) (w:World) (h:KS w ao n f) :
  Calls prog 178 #[.slice ao n c] w fun e w'=>(∃ r:Bool,e=.returned (.bool r)/\(r=true↔Up f n))/\∃ m,w'=w.drewN m:=by
 have HK:Hid (Calls prog 126 #[.slice ao n c] w fun e w'=>(∃ r:Bool,e=.returned (.bool r)/\(r=true↔Up f n))/\∃ m,w'=w.drewN m):=qrising_any ao n c f hn w h
 clear h;go_enter func178,ntmps178;go_wp2_with fail;refine (HK.out).mono ?_;rintro e w1 ⟨⟨r,rfl,hr⟩,m,rfl⟩;have HR:Aside _:=hr;clear hr;go_wp2_with fail;go_ret;exact ⟨⟨r,rfl,HR.out⟩,m,rfl⟩
theorem xoff_any (k:Int) (sl ic:Nat) (fr tu:Int) (k0:0<=k) (k1:k<18446744073709551616) (s1':sl<18446744073709551616) (i1':ic<18446744073709551616) (hf0:-9223372036854775808<=fr) (hf1:fr<9223372036854775808) (ht0:-9223372036854775808<=tu) (ht1:tu<9223372036854775808) (ao:Option Addr) (n cp:Nat) (f:Nat->Int) (hn:n<4611686018427387904) (w:World) (K:KS w ao n f) :
  Calls prog 165 #[segV k sl ic fr tu,.slice ao n cp] w fun e w'=>(∃ N er:Int,e=.returned (.tuple #[.int .i64 N,.int .i64 er])/\OffR k sl ic fr tu n f N er)/\Gw w w':=by
 have G0:Aside (Gw w (w.alloc (.cells #[.int .u64 k,.float .f64 sl,.float .f64 ic,.int .i64 fr,.int .i64 tu] 170))):=(Gw.refl w).alloc _ _;have C:Hid _:=fun W=>xcheck_any k sl ic fr tu s1' i1' W
 have GU:Hid _:=fun (he:errM sl ic fr tu=0) (q:Int) (q0:0<=q) (q1:q<18446744073709551616) W=>predict_any k sl ic fr tu q k0 k1 q0 q1 he W
 have RI:Hid _:=fun W (g:Gw w W)=>xrise_any ao n cp f hn W (K.gw g)
 have K':Hid _:=K;clear K;by_cases h:errM sl ic fr tu=0
 ·obtain ⟨a,b,c,d,e⟩:=errM_ok.1 h
  have h':Aside _:=h;rw [h] at C;clear h d e;go_enter func165,ntmps165;go_wp2_with fail;refine (C.out _).mono ?_;rintro ex w1 ⟨rfl,g1⟩;have x0:w1.cell? ⟨w.heap.size,0,none⟩=some (.int .u64 k):=(g1.cell _ _ (by simp)).trans (by simp [go_sem])
  have x1:w1.cell? ⟨w.heap.size,1,none⟩=some (.float .f64 sl):=(g1.cell _ _ (by simp)).trans (by simp [go_sem])
  have x2:w1.cell? ⟨w.heap.size,2,none⟩=some (.float .f64 ic):=(g1.cell _ _ (by simp)).trans (by simp [go_sem])
  have x3:w1.cell? ⟨w.heap.size,3,none⟩=some (.int .i64 fr):=(g1.cell _ _ (by simp)).trans (by simp [go_sem])
  have x4:w1.cell? ⟨w.heap.size,4,none⟩=some (.int .i64 tu):=(g1.cell _ _ (by simp)).trans (by simp [go_sem])
  have s1:w.heap.size<w1.heap.size:=by have:=g1.size;simp at this;omega
  have G:Aside _:=G0.out.trans g1;clear g1 G0 C;obtain ⟨S,hS⟩:∃ S,tu-fr=S:=⟨_,rfl⟩;have wz:IntKind.i64.wrap (tu-fr)=S:=by rw [IntKind.wrap_i64];omega
  have BOX:Hid (∀ w',Gw w1 w'->w'.cell? ⟨w.heap.size,0,none⟩=some (.int .u64 k)/\w'.cell? ⟨w.heap.size,1,none⟩=some (.float .f64 sl)/\w'.cell? ⟨w.heap.size,2,none⟩=some (.float .f64 ic)/\w'.cell? ⟨w.heap.size,3,none⟩=some (.int .i64 fr)/\w'.cell? ⟨w.heap.size,4,none⟩=some (.int .i64 tu)) :=
   fun w' g=>⟨(g.cell _ _ s1).trans x0,(g.cell _ _ s1).trans x1,(g.cell _ _ s1).trans x2,(g.cell _ _ s1).trans x3,(g.cell _ _ s1).trans x4⟩
  by_cases h1:(n:Int)=S
  ·have n0:0<n:=by omega
   obtain ⟨bk,off,rfl,hb,hc⟩:=(K'.out.gw G.out).cells n0;have t1:((n:Int) != S)=false:=by simpa using h1
   have c0:w1.cell? ⟨bk,off,none⟩=some (.int .u64 (f 0)):=hc 0 n0;obtain ⟨f0,hf⟩:∃ f0,f 0=f0:=⟨_,rfl⟩;rw [hf] at c0;have hfd:(f 0=k)↔(f0=k):=by rw [hf]
   by_cases hu:Up f n
   ·have U:Aside (Up f n):=hu
    have RT:Hid (∀ m,Calls prog 178 #[.slice (some ⟨bk,off,none⟩) n cp] (w1.drewN m) fun e w'=>e=.returned (.bool true)/\∃ m',w'=(w1.drewN m).drewN m'):=fun m =>
     (RI.out (w1.drewN m) (G.out.drewN m)).mono fun ex w' (hx:(∃ r:Bool,ex=.returned (.bool r)/\(r=true↔Up f n))/\∃ m',w'=(w1.drewN m).drewN m')=>⟨(by
      obtain ⟨⟨r,e1,e2⟩,-⟩:=hx;have:r=true:=by exact e2.2 hu
      rw [e1,this]),hx.2⟩
    clear hu RI;by_cases h2:f0=k
    ·have t2:(f0 != k)=false:=by simpa using h2
     have FC:Aside ((n:Int)=tu-fr/\f 0=k/\∀ i,i<n->w1.cell? ⟨bk,off+i,none⟩=some (.int .u64 (f i))):=⟨h1.trans hS.symm,hf.trans h2,hc⟩;clear h1 h2 hf hS hc hfd;go_wp2_with fail;go_quiet (first | (go_at_call 178;refine Calls.quiet_of (RT.out _)))
     go_wp2_with fail;go_loopg [7,39] n (fun gg s7 s8 wr=>∃ i:Nat,s7=.int .i64 (worst (away k sl ic fr tu f) i)/\s8=.int .i64 i/\i<=n/\n-i<=gg/\Aside (Gw w1 wr))
     case atStart=>exact ⟨0,rfl,rfl,Nat.zero_le _,by omega,(Gw.refl _).drewN _⟩
     case round =>
      obtain ⟨i,rfl,rfl,h2,h3,GR⟩:=hrel;by_cases hlt:i<n
      ·obtain ⟨y0,y1,y2,y3,y4⟩:=BOX.out _ GR.out
       have ci:=(GR.out.cell _ _ hb).trans (FC.out.2.2 i hlt);have lb:=Nat.lt_of_lt_of_le hb GR.out.size;have ls:=Nat.lt_of_lt_of_le s1 GR.out.size;have bi:=K'.out.bd i hlt;have aw:=away_bd h'.out k0 FC.out.1 K'.out.bd;have gin:=guessV_in (q:=f i) h'.out k0 bi.2;have wi:=(worst_in (away k sl ic fr tu f) i).1;have wl:=worst_le (g:=away k sl ic fr tu f) (M:=4294967296) (by decide) i (fun j hj=>aw j (by omega))
       have ai:=aw i hlt;clear aw;have ae:away k sl ic fr tu f i=guessV k sl ic fr tu (f i)-(fr+i):=rfl;have WS:Aside (worst (away k sl ic fr tu f) (i+1)=max (max (worst (away k sl ic fr tu f) i) (away k sl ic fr tu f i)) (-(away k sl ic fr tu f i))):=rfl;have GI:Hid _:=fun W=>GU.out h'.out (f i) bi.1 bi.2 W
       generalize worst (away k sl ic fr tu f) i=Wi at *;generalize guessV k sl ic fr tu (f i)=gi at *;generalize away k sl ic fr tu f i=D at *;obtain ⟨E,hE⟩:∃ E,fr+(i:Int)=E:=⟨_,rfl⟩;rw [hE] at ae;obtain ⟨M,hM⟩:∃ M,-D=M:=⟨_,rfl⟩;rw [hM] at WS;have hin:(i:Int)<tu-fr:=by have:=FC.out.1;omega
       have z1:IntKind.i64.wrap (fr+(i:Int))=E:=by rw [IntKind.wrap_i64];omega
       have z2:IntKind.i64.wrap (gi-E)=D:=by rw [IntKind.wrap_i64];omega
       have z3:IntKind.i64.wrap (-D)=M:=by rw [IntKind.wrap_i64];omega
       generalize f i=yi at *;clear ae hE hM wi wl ai gin bi hin;rename_i wr _ _ _ _;have HW:Hid (∀ w',Gw wr w'->Gw wr w'/\w'.cell? ⟨w.heap.size,0,none⟩=some (.int .u64 k)/\w'.cell? ⟨w.heap.size,1,none⟩=some (.float .f64 sl)/\w'.cell? ⟨w.heap.size,2,none⟩=some (.float .f64 ic)/\w'.cell? ⟨w.heap.size,3,none⟩=some (.int .i64 fr)/\w'.cell? ⟨w.heap.size,4,none⟩=some (.int .i64 tu)/\w'.cell? ⟨bk,off+i,none⟩=some (.int .u64 yi)) :=
        fun w' g=>⟨g,(g.cell _ _ ls).trans y0,(g.cell _ _ ls).trans y1,(g.cell _ _ ls).trans y2,(g.cell _ _ ls).trans y3,(g.cell _ _ ls).trans y4,(g.cell _ _ lb).trans ci⟩
       clear x0 x1 x2 x3 x4 s1 RT c0 hb GU BOX;go_wp2_with fail;go_region_held3 (fun w'=>Gw wr w'/\w'.cell? ⟨w.heap.size,0,none⟩=some (.int .u64 k)/\w'.cell? ⟨w.heap.size,1,none⟩=some (.float .f64 sl)/\w'.cell? ⟨w.heap.size,2,none⟩=some (.float .f64 ic)/\w'.cell? ⟨w.heap.size,3,none⟩=some (.int .i64 fr)/\w'.cell? ⟨w.heap.size,4,none⟩=some (.int .i64 tu)/\w'.cell? ⟨bk,off+i,none⟩=some (.int .u64 yi))
        ((refine HW.out _ ?_;(repeat (first | exact Gw.refl _ | exact And.left (by assumption) | exact Hid.out (by assumption) | refine Gw.drew ?_ | refine Gw.trans ?_ (by assumption)));done))
        ((go_at_call 123;refine (GI.out _).mono ?_;rintro ex w3 ⟨rfl,g3⟩;have G3:Hid (Gw wr w3):=(Gw.trans (by repeat (first | exact Gw.refl _ | exact And.left (by assumption) | exact Hid.out (by assumption) | refine Gw.drew ?_)) g3);clear g3))
       all_goals go_wp2_with fail
       all_goals
        go_roundg (n-(i+1))
        case measure=>omega
        case rel =>
         refine ⟨i+1,?_,by go_num,hlt,Nat.le_refl _,(show Aside _ from GR.out.trans (by repeat (first | exact Gw.refl _ | exact And.left (by assumption) | exact Hid.out (by assumption) | refine Gw.drew ?_ | refine Gw.trans ?_ (by assumption))))⟩
         rw [WS.out];exact congrArg (Value.int .i64) (show (_:Int)=max (max Wi D) M by first | omega | (simp only [*] at *;omega))
      ·have e:i=n:=by omega
       subst e;have R:Aside (OffR k sl ic fr tu i f (worst (away k sl ic fr tu f) i) 0):=.inr (.inr ⟨h'.out,⟨FC.out.1,FC.out.2.1,U.out⟩,rfl,rfl⟩);generalize worst (away k sl ic fr tu f) i=Wi at *;go_wp2_with fail;exact bodyPost_ret (v:=.tuple #[.int .i64 Wi,.int .i64 0]) (by simp [results,results165,go_sem]) rfl ⟨⟨Wi,0,rfl,R.out⟩,G.out.trans GR.out⟩
    ·have t2:(f0 != k)=true:=by simpa using h2
     have R:Aside (OffR k sl ic fr tu n f 0 1):=.inr (.inl ⟨h'.out,fun q=>h2 (hfd.1 q.2.1),rfl,rfl⟩)
     clear h1 hS h2 hf hc hfd GU;go_wp2_with fail;go_quiet (first | (go_at_call 178;refine Calls.quiet_of (RT.out _)))
     go_wp2_with fail;exact bodyPost_ret (v:=.tuple #[.int .i64 0,.int .i64 1]) (by simp [results,results165,go_sem]) rfl ⟨⟨0,1,rfl,R.out⟩,G.out.drewN _⟩
   ·have R:Aside (OffR k sl ic fr tu n f 0 1):=.inr (.inl ⟨h'.out,fun q=>hu q.2.2,rfl,rfl⟩)
    have RT:Hid (∀ m,Calls prog 178 #[.slice (some ⟨bk,off,none⟩) n cp] (w1.drewN m) fun e w'=>e=.returned (.bool false)/\∃ m',w'=(w1.drewN m).drewN m'):=fun m =>
     (RI.out (w1.drewN m) (G.out.drewN m)).mono fun ex w' (hx:(∃ r:Bool,ex=.returned (.bool r)/\(r=true↔Up f n))/\∃ m',w'=(w1.drewN m).drewN m')=>⟨(by
      obtain ⟨⟨r,e1,e2⟩,-⟩:=hx;have:r=false:=by cases r;rfl;exact absurd (e2.1 rfl) hu
      rw [e1,this]),hx.2⟩
    clear h1 hS hf hc hfd GU RI hu;go_wp2_with fail;go_quiet (first | (go_at_call 178;refine Calls.quiet_of (RT.out _)))
    go_wp2_with fail;exact bodyPost_ret (v:=.tuple #[.int .i64 0,.int .i64 1]) (by simp [results,results165,go_sem]) rfl ⟨⟨0,1,rfl,R.out⟩,G.out.drewN _⟩
  ·have t1:((n:Int) != S)=true:=by simpa using h1
   have R:Aside (OffR k sl ic fr tu n f 0 1):=.inr (.inl ⟨h'.out,fun q=>h1 (q.1.trans hS),rfl,rfl⟩)
   clear h1 hS RI GU;go_wp2_with fail;go_quiet (fail);go_wp2_with fail;exact bodyPost_ret (v:=.tuple #[.int .i64 0,.int .i64 1]) (by simp [results,results165,go_sem]) rfl ⟨⟨0,1,rfl,R.out⟩,G.out.drewN _⟩
 ·have t1:(errM sl ic fr tu != 0)=true:=by simpa using h
  have R:Aside (OffR k sl ic fr tu n f 0 (errM sl ic fr tu)):=.inl ⟨h,rfl,rfl⟩;generalize errM sl ic fr tu=er at *;clear h GU RI;go_enter func165,ntmps165;go_wp2_with fail;refine (C.out _).mono ?_;rintro ex w1 ⟨rfl,g1⟩;have G:Aside _:=G0.out.trans g1;clear g1 G0;go_wp2_with fail;exact bodyPost_ret (v:=.tuple #[.int .i64 0,.int .i64 er]) (by simp [results,results165,go_sem]) rfl ⟨⟨0,er,rfl,R.out⟩,G.out⟩
end Go.Proofs.YtemijdhemdhclaaGreat
