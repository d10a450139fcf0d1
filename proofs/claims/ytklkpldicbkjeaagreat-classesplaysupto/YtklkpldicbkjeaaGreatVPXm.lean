/- Package model: Check, and what a right segment predicts. -/
import Derived.Test.YtklkpldicbkjeaaGreatVPFg
set_option linter.unusedVariables false
set_option maxHeartbeats 8000000
set_option maxRecDepth 10000
open Go.Proofs.Tryz
namespace Go.Proofs.YtklkpldicbkjeaaGreat
open Go.RowKit
theorem aep (x:Nat) (hx:x<18446744073709551616):decide (wrap64 (x:Int)<0)=decide (9223372036854775808<=x):=by
 rw [decide_eq_decide];unfold wrap64;omega
theorem aeq (x:Nat) (hx:x<18446744073709551616) (w:World) :
  Calls prog 172 #[.float .f64 x] w fun e w'=>e=.returned (.bool (decide (9223372036854775808<=x)))/\w'=w:=by
 have h:=aep x hx;go_enter func172,ntmps172;go_wp2_with (simp only [uH]);go_ret;exact ⟨rfl,rfl⟩
theorem aer {x:Nat} (h:4611686018427387904<x) (n:¬ 9218868437227405312<rg x) (p:x<9223372036854775808):yK x=true:=by
 have r:=qA p;unfold yK;rw [fmt];rcases Nat.lt_trichotomy (rg x) 9218868437227405312 with q | q | q
 ·rw [yF q (by decide),uJ (x:=x) (by omega),uJ (by decide)]
  have:=sN h
  simp;omega
 ·unfold Ieee.Format.order;rw [uE q,iB (by decide),yL (x:=x) (by omega)]
  simp [Ieee.Datum.order]
 ·exact absurd q n
theorem Js (k:Int) (sl ic:Nat) (fr to:Int) (s1:sl<18446744073709551616) (i1:ic<18446744073709551616) (w:World) :
  Calls prog 152 #[eF k sl ic fr to] w fun e w'=>e=.returned (.int .i64 (bU sl ic fr to))/\Gw w w':=by
 have G0:ag (Gw w (w.alloc (.cells #[.int .u64 k,.float .f64 sl,.float .f64 ic,.int .i64 fr,.int .i64 to] 129))):=(Gw.refl w).alloc _ _;have NS:ag _:=fun W=>sS sl W
 have NI:ag _:=fun W=>sS ic W
 have SB:ag _:=fun W=>aeq sl s1 W
 have II:ag _:=fun W=>Yi ic i1 W
 unfold bU;by_cases h:fr<0\/to<=fr\/4294967296<to
 ·rw [if_pos h]
  by_cases h1:fr<0
  ·have t1:decide (fr<0)=true:=by simpa using h1
   clear h h1;go_enter func152,ntmps152;go_wp2_with fail;exact bodyPost_ret (v:=.int .i64 70) (by simp [results,results152,go_sem]) rfl ⟨rfl,G0.o⟩
  ·have t1:decide (fr<0)=false:=by simpa using h1
   by_cases h2:to<=fr
   ·have t2:decide (to<=fr)=true:=by simpa using h2
    clear h h1 h2;go_enter func152,ntmps152;go_wp2_with fail;exact bodyPost_ret (v:=.int .i64 70) (by simp [results,results152,go_sem]) rfl ⟨rfl,G0.o⟩
   ·have t2:decide (to<=fr)=false:=by simpa using h2
    have t3:decide (4294967296<to)=true:=by simp;omega
    clear h h1 h2;go_enter func152,ntmps152;go_wp2_with fail;exact bodyPost_ret (v:=.int .i64 70) (by simp [results,results152,go_sem]) rfl ⟨rfl,G0.o⟩
 ·rw [if_neg h]
  have t1:decide (fr<0)=false:=by simp;omega
  have t2:decide (to<=fr)=false:=by simp;omega
  have t3:decide (4294967296<to)=false:=by simp;omega
  clear h;by_cases h1:4611686018427387904<sl
  ·rw [if_pos h1]
   by_cases hn:9218868437227405312<rg sl
   ·have q:decide (9218868437227405312<rg sl)=true:=by simpa using hn
    rw [q] at NS;clear hn h1 q;go_enter func152,ntmps152;go_wp2_with (go_at_call 171;refine (NS.o _).mono ?_;rintro e w' ⟨rfl,rfl⟩);exact bodyPost_ret (v:=.int .i64 71) (by simp [results,results152,go_sem]) rfl ⟨rfl,G0.o⟩
   ·have q:decide (9218868437227405312<rg sl)=false:=by simpa using hn
    rw [q] at NS;by_cases hp:sl<9223372036854775808
    ·have q1:decide (9223372036854775808<=sl)=false:=by simpa using hp
     have q2:(FloatKind.f64.format.order sl 4611686018427387904 == some .gt)=true:=aer h1 hn hp;rw [q1] at SB;clear hn h1 q q1 hp;go_enter func152,ntmps152;go_wp2_with (first | (go_at_call 171;refine (NS.o _).mono ?_;rintro e w' ⟨rfl,rfl⟩) | (go_at_call 172;refine (SB.o _).mono ?_;rintro e w' ⟨rfl,rfl⟩))
     exact bodyPost_ret (v:=.int .i64 71) (by simp [results,results152,go_sem]) rfl ⟨rfl,G0.o⟩
    ·have q1:decide (9223372036854775808<=sl)=true:=by simpa using hp
     rw [q1] at SB;clear hn h1 q q1 hp;go_enter func152,ntmps152;go_wp2_with (first | (go_at_call 171;refine (NS.o _).mono ?_;rintro e w' ⟨rfl,rfl⟩) | (go_at_call 172;refine (SB.o _).mono ?_;rintro e w' ⟨rfl,rfl⟩))
     exact bodyPost_ret (v:=.int .i64 71) (by simp [results,results152,go_sem]) rfl ⟨rfl,G0.o⟩
  ·rw [if_neg h1]
   obtain ⟨-,-,q2⟩:=YD (x:=sl) (by omega)
   have iI:(FloatKind.f64.format.order sl 4611686018427387904 == some .gt)=false:=q2;have q:decide (9218868437227405312<rg sl)=false:=by rw [qA (by omega)];simp;omega
   have q1:decide (9223372036854775808<=sl)=false:=by simp;omega
   rw [q] at NS;rw [q1] at SB;clear q q1 q2 h1;by_cases h2:9218868437227405312<=rg ic
   ·rw [if_pos h2]
    by_cases hn:9218868437227405312<rg ic
    ·have q:decide (9218868437227405312<rg ic)=true:=by simpa using hn
     rw [q] at NI;clear hn h2 q;go_enter func152,ntmps152;go_wp2_with (first | (go_at_call 171;refine (NS.o _).mono ?_;rintro e w' ⟨rfl,rfl⟩) | (go_at_call 172;refine (SB.o _).mono ?_;rintro e w' ⟨rfl,rfl⟩) | (go_at_call 171;refine (NI.o _).mono ?_;rintro e w' ⟨rfl,rfl⟩))
     exact bodyPost_ret (v:=.int .i64 72) (by simp [results,results152,go_sem]) rfl ⟨rfl,G0.o⟩
    ·have q:decide (9218868437227405312<rg ic)=false:=by simpa using hn
     have q1:decide (rg ic=9218868437227405312)=true:=by simp;omega
     rw [q] at NI;rw [q1] at II;clear hn h2 q q1;go_enter func152,ntmps152;go_wp2_with (first | (go_at_call 171;refine (NS.o _).mono ?_;rintro e w' ⟨rfl,rfl⟩) | (go_at_call 172;refine (SB.o _).mono ?_;rintro e w' ⟨rfl,rfl⟩) | (go_at_call 171;refine (NI.o _).mono ?_;rintro e w' ⟨rfl,rfl⟩) | (go_at_call 173;refine (II.o _).mono ?_;rintro e w' ⟨rfl,rfl⟩))
     exact bodyPost_ret (v:=.int .i64 72) (by simp [results,results152,go_sem]) rfl ⟨rfl,G0.o⟩
   ·rw [if_neg h2]
    have q:decide (9218868437227405312<rg ic)=false:=by simp;omega
    have q1:decide (rg ic=9218868437227405312)=false:=by simp;omega
    rw [q] at NI;rw [q1] at II;clear h2 q q1;go_enter func152,ntmps152;go_wp2_with (first | (go_at_call 171;refine (NS.o _).mono ?_;rintro e w' ⟨rfl,rfl⟩) | (go_at_call 172;refine (SB.o _).mono ?_;rintro e w' ⟨rfl,rfl⟩) | (go_at_call 171;refine (NI.o _).mono ?_;rintro e w' ⟨rfl,rfl⟩) | (go_at_call 173;refine (II.o _).mono ?_;rintro e w' ⟨rfl,rfl⟩))
    exact bodyPost_ret (v:=.int .i64 0) (by simp [results,results152,go_sem]) rfl ⟨rfl,G0.o⟩
theorem Vq (k:Int) (sl ic:Nat) (fr to q:Int) (k0:0<=k) (k1:k<18446744073709551616) (q0:0<=q) (q1:q<18446744073709551616) (h:bU sl ic fr to=0) (w:World) :
  Calls prog 153 #[eF k sl ic fr to,.int .u64 q] w fun e w'=>e=.returned (.int .i64 (cP k sl ic fr to q))/\Gw w w':=by
 obtain ⟨a,b,c,d,e⟩:=lY.1 h;obtain ⟨y,p,r,v,hy,ey,hp,ep,hr,ev,fv,sv,-,-⟩:=uK (far:=(q-k).toNat) d e (by omega)
 have V:ag (cP k sl ic fr to q=nG v fr to):=by
  show cP k sl ic fr to q=nG v fr to;unfold cP;rw [if_pos h,uL ey ep ev]
 have A:ag _:=fun W=>(Ym sl y (q-k).toNat ic (by omega) ey W).mono fun ex w' (hx:(∃ r,ex=.returned (.float .f64 r)/\AL sl y ic r)/\∃ n,w'=W.drewN n) =>
  show ex=.returned (.float .f64 v)/\Gw W w' from ⟨(by obtain ⟨⟨r,e1,al⟩,-⟩:=hx;rw [e1,al.is ep ev]),(by obtain ⟨-,n,e2⟩:=hx;rw [e2];exact (Gw.refl W).drewN n)⟩
 have L:ag _:=fun W=>Ys v fr to (by omega) (by omega) (by omega) (by omega) W
 have HK:ag (∀ w',Gw (w.alloc (.cells #[.int .u64 k,.float .f64 sl,.float .f64 ic,.int .i64 fr,.int .i64 to] 129)) w'->Gw (w.alloc (.cells #[.int .u64 k,.float .f64 sl,.float .f64 ic,.int .i64 fr,.int .i64 to] 129)) w'/\w'.cell? ⟨w.heap.size,1,none⟩=some (.float .f64 sl)/\w'.cell? ⟨w.heap.size,2,none⟩=some (.float .f64 ic)/\w'.cell? ⟨w.heap.size,3,none⟩=some (.int .i64 fr)/\w'.cell? ⟨w.heap.size,4,none⟩=some (.int .i64 to)) :=
  fun w' g=>⟨g,(g.cell _ _ (by simp)).trans (by simp [go_sem]),(g.cell _ _ (by simp)).trans (by simp [go_sem]),(g.cell _ _ (by simp)).trans (by simp [go_sem]),(g.cell _ _ (by simp)).trans (by simp [go_sem])⟩
 rw [V.o];have G0:ag (Gw w (w.alloc (.cells #[.int .u64 k,.float .f64 sl,.float .f64 ic,.int .i64 fr,.int .i64 to] 129))):=(Gw.refl w).alloc _ _;clear hy ey hp ep hr ev fv sv h a b c d e;by_cases g:q<k
 ·have wz:((q-k).toNat:Int)=0:=by omega
  rw [wz] at A;go_enter func153,ntmps153;go_wp2_with fail;go_region_held3 (fun w'=>Gw (w.alloc (.cells #[.int .u64 k,.float .f64 sl,.float .f64 ic,.int .i64 fr,.int .i64 to] 129)) w'/\w'.cell? ⟨w.heap.size,1,none⟩=some (.float .f64 sl)/\w'.cell? ⟨w.heap.size,2,none⟩=some (.float .f64 ic)/\w'.cell? ⟨w.heap.size,3,none⟩=some (.int .i64 fr)/\w'.cell? ⟨w.heap.size,4,none⟩=some (.int .i64 to))
   ((refine HK.o _ ?_;(repeat (first | exact Gw.refl _ | exact And.left (by assumption) | exact ag.o (by assumption) | refine Gw.drew ?_ | refine Gw.trans ?_ (by assumption)));done))
   (first
   | (go_at_call 175;refine (A.o _).mono ?_;rintro ex w2 ⟨rfl,g2⟩;have G2:ag (Gw (w.alloc (.cells #[.int .u64 k,.float .f64 sl,.float .f64 ic,.int .i64 fr,.int .i64 to] 129)) w2):=(Gw.trans (by repeat (first | exact Gw.refl _ | exact And.left (by assumption) | exact ag.o (by assumption) | refine Gw.drew ?_)) g2);clear g2)
   | (go_at_call 174;refine (L.o _).mono ?_;rintro ex w3 ⟨rfl,rfl⟩))
  all_goals go_wp2_with fail
  all_goals exact bodyPost_ret (v:=.int .i64 (nG v fr to)) (by simp [results,results153,go_sem]) rfl ⟨rfl,Gw.trans G0.o (by repeat (first | exact Gw.refl _ | exact And.left (by assumption) | exact ag.o (by assumption) | refine Gw.drew ?_ | refine Gw.trans ?_ (by assumption)))⟩
 ·have mz:IntKind.u64.wrap (q-k)=((q-k).toNat:Int):=by rw [IntKind.wrap_u64];omega
  generalize (q-k).toNat=D at A mz;go_enter func153,ntmps153;go_wp2_with fail;go_region_held3 (fun w'=>Gw (w.alloc (.cells #[.int .u64 k,.float .f64 sl,.float .f64 ic,.int .i64 fr,.int .i64 to] 129)) w'/\w'.cell? ⟨w.heap.size,1,none⟩=some (.float .f64 sl)/\w'.cell? ⟨w.heap.size,2,none⟩=some (.float .f64 ic)/\w'.cell? ⟨w.heap.size,3,none⟩=some (.int .i64 fr)/\w'.cell? ⟨w.heap.size,4,none⟩=some (.int .i64 to))
   ((refine HK.o _ ?_;(repeat (first | exact Gw.refl _ | exact And.left (by assumption) | exact ag.o (by assumption) | refine Gw.drew ?_ | refine Gw.trans ?_ (by assumption)));done))
   (first
   | (go_at_call 175;refine (A.o _).mono ?_;rintro ex w2 ⟨rfl,g2⟩;have G2:ag (Gw (w.alloc (.cells #[.int .u64 k,.float .f64 sl,.float .f64 ic,.int .i64 fr,.int .i64 to] 129)) w2):=(Gw.trans (by repeat (first | exact Gw.refl _ | exact And.left (by assumption) | exact ag.o (by assumption) | refine Gw.drew ?_)) g2);clear g2)
   | (go_at_call 174;refine (L.o _).mono ?_;rintro ex w3 ⟨rfl,rfl⟩))
  all_goals go_wp2_with fail
  all_goals exact bodyPost_ret (v:=.int .i64 (nG v fr to)) (by simp [results,results153,go_sem]) rfl ⟨rfl,Gw.trans G0.o (by repeat (first | exact Gw.refl _ | exact And.left (by assumption) | exact ag.o (by assumption) | refine Gw.drew ?_ | refine Gw.trans ?_ (by assumption)))⟩
theorem aes (k:Int) (sl ic:Nat) (fr to q:Int) (k0:0<=k) (k1:k<18446744073709551616) (s1:sl<18446744073709551616) (i1:ic<18446744073709551616) (q0:0<=q) (q1:q<18446744073709551616) (w:World) :
  Calls prog 131 #[eF k sl ic fr to,.int .u64 q] w fun e w'=>e=.returned (.int .i64 (cP k sl ic fr to q))/\Gw w w':=by
 have G0:ag (Gw w (w.alloc (.cells #[.int .u64 k,.float .f64 sl,.float .f64 ic,.int .i64 fr,.int .i64 to] 129))):=(Gw.refl w).alloc _ _;have C:ag _:=fun W=>Js k sl ic fr to s1 i1 W
 by_cases h:bU sl ic fr to=0
 ·have P:ag _:=fun W=>Vq k sl ic fr to q k0 k1 q0 q1 h W
  rw [h] at C;generalize cP k sl ic fr to q=g at *;clear h;go_enter func131,ntmps131;go_wp2_with fail;refine (C.o _).mono ?_;rintro ex w1 ⟨rfl,g1⟩;have x0:w1.cell? ⟨w.heap.size,0,none⟩=some (.int .u64 k):=(g1.cell _ _ (by simp)).trans (by simp [go_sem])
  have x1:w1.cell? ⟨w.heap.size,1,none⟩=some (.float .f64 sl):=(g1.cell _ _ (by simp)).trans (by simp [go_sem])
  have x2:w1.cell? ⟨w.heap.size,2,none⟩=some (.float .f64 ic):=(g1.cell _ _ (by simp)).trans (by simp [go_sem])
  have x3:w1.cell? ⟨w.heap.size,3,none⟩=some (.int .i64 fr):=(g1.cell _ _ (by simp)).trans (by simp [go_sem])
  have x4:w1.cell? ⟨w.heap.size,4,none⟩=some (.int .i64 to):=(g1.cell _ _ (by simp)).trans (by simp [go_sem])
  have l1:w.heap.size<w1.heap.size:=by have:=g1.size;simp at this;omega
  have G:ag _:=G0.o.trans g1;clear g1 G0;go_wp2_with fail;refine (P.o _).mono ?_;rintro ex w2 ⟨rfl,g2⟩;go_wp2_with fail;exact bodyPost_ret (v:=.int .i64 g) (by simp [results,results131,go_sem]) rfl ⟨rfl,G.o.trans g2⟩
 ·have t1:(bU sl ic fr to != 0)=true:=by simpa using h
  have V:cP k sl ic fr to q=0:=if_neg h;rw [V];generalize bU sl ic fr to=er at *;clear V h;go_enter func131,ntmps131;go_wp2_with fail;refine (C.o _).mono ?_;rintro ex w1 ⟨rfl,g1⟩;have G:ag _:=G0.o.trans g1;clear g1 G0;go_wp2_with fail;exact bodyPost_ret (v:=.int .i64 0) (by simp [results,results131,go_sem]) rfl ⟨rfl,G.o⟩
theorem KS.drawn {w wr:World} {ao:Option Addr} {n:Nat} {f:Nat->Int} (h:KS w ao n f) (g:∃ m,wr=w.drewN m):KS wr ao n f:=by
 obtain ⟨m,rfl⟩:=g;exact h.gw ((Gw.refl w).drewN m)
theorem Vr (x:Int) (w:World):Calls prog 135 #[.int .u64 x] w fun e w'=>e=.returned (.int .u64 x)/\w'=w:=by
 go_enter func135,ntmps135;go_wp2;go_ret;exact ⟨rfl,rfl⟩
theorem aet (ao:Option Addr) (n c:Nat) (f:Nat->Int) (hn:n<4611686018427387904) (w:World) (h:KS w ao n f) :
  Calls prog 134 #[.slice ao n c,.func (.func 135) #[] #[]] w fun e w'=>(∃ r:Nat,e=.returned (.int .i64 r)/\r<=n/\(∀ j,j+1<r->f j<f (j+1))/\(r<n->1<=r/\f r<=f (r-1)))/\∃ m,w'=w.drewN m:=by
 go_enter func134,ntmps134;go_wp2_with fail;go_loopg [5] n (fun gg s5 wr=>∃ i:Nat,s5=.int .i64 i/\1<=i/\(i<=n\/i=1)/\n-i<=gg/\ag (∀ j,j+1<i->f j<f (j+1))/\ag (∃ m,wr=w.drewN m))
 case atStart=>exact ⟨1,rfl,Nat.le_refl _,.inr rfl,by omega,fun j hj=>by omega,⟨0,rfl⟩⟩
 case round =>
  obtain ⟨i,rfl,h1,h2,h3,H4,G⟩:=hrel;by_cases ak:i<n
  ·obtain ⟨b,off,rfl,hb,hc⟩:=(KS.drawn h G.o).cells (by omega)
   obtain ⟨m,hm⟩:∃ m:Nat,(i:Int)-1=m:=⟨i-1,by omega⟩
   have nE:m<n:=by omega
   have hw:=qm m (by omega)
   have c1:=hc i ak;have c0:=hc m nE;clear hc;generalize gR:f i=y1 at c1;generalize gS:f m=y0 at c0;have Y:ag (f i=y1/\f m=y0/\i=m+1):=⟨gR,gS,by omega⟩
   clear gR gS h h2;by_cases hle:y1<=y0
   ·go_wp2_with fail
    go_quiet (first | (go_at_call 135;refine Calls.quiet_of_same (Vr _ _)))
    go_wp2_with fail;go_ret
    obtain ⟨e1,e2,e3⟩:=Y.o;refine ⟨⟨i,rfl,by omega,H4.o,fun _=>⟨h1,?_⟩⟩,?_⟩
    ·rw [e1,show i-1=m by omega,e2];exact hle
    ·obtain ⟨m,e⟩:=G.o;exact ⟨_,by rw [e,World.drewN_drewN]⟩
   ·go_wp2_with fail
    go_quiet (first | (go_at_call 135;refine Calls.quiet_of_same (Vr _ _)))
    go_wp2_with fail;go_roundg (n-(m+2))
    case measure=>omega
    case rel =>
     obtain ⟨e1,e2,e3⟩:=Y.o;refine ⟨m+2,by go_num,by omega,by omega,Nat.le_refl _,(show ag _ from fun j hj=>?_),(show ag _ from by obtain ⟨m,e⟩:=G.o;exact ⟨_,by rw [e,World.drewN_drewN]⟩)⟩
     by_cases qt:j=m
     ·subst qt;rw [e2,<-e3,e1];omega
     ·exact H4.o j (by omega)
  ·go_wp2_with fail
   go_ret
   exact ⟨⟨n,rfl,Nat.le_refl _,fun j hj=>H4.o j (by omega),fun hh=>by omega⟩,G.o⟩
theorem aeu (ao:Option Addr) (n c:Nat) (f:Nat->Int) (hn:n<4611686018427387904) (w:World) (h:KS w ao n f) :
  Calls prog 114 #[.slice ao n c] w fun e w'=>(∃ r:Bool,e=.returned (.bool r)/\(r=true↔Up f n))/\∃ m,w'=w.drewN m:=by
 go_enter func114,ntmps114;go_wp2_with fail;refine (aet ao n c f hn w h).mono ?_;rintro e w1 ⟨⟨r,rfl,h1,h2,h3⟩,g1⟩;have H:ag ((∀ j,j+1<r->f j<f (j+1))/\(r<n->1<=r/\f r<=f (r-1))):=⟨h2,h3⟩;clear h2 h3;go_wp2_with fail;go_ret;obtain ⟨h2,h3⟩:=H.o;refine ⟨⟨_,rfl,?_⟩,g1⟩;unfold Up;by_cases hr:r=n
 ·subst hr;simpa using h2
 ·have q:=h3 (by omega)
  have:¬ ((r:Int)=n):=by omega
  simp only [beq_iff_eq];constructor
  ·intro hh;omega
  ·intro hh
   have:=hh (r-1) (by omega)
   rw [show r-1+1=r by omega] at this
   omega
theorem aev (ao:Option Addr) (n c:Nat) (f:Nat->Int) (hn:n<4611686018427387904) (w:World) (h:KS w ao n f) :
  Calls prog 186 #[.slice ao n c] w fun e w'=>(∃ r:Bool,e=.returned (.bool r)/\(r=true↔Up f n))/\∃ m,w'=w.drewN m:=by
 have HK:ag (Calls prog 114 #[.slice ao n c] w fun e w'=>(∃ r:Bool,e=.returned (.bool r)/\(r=true↔Up f n))/\∃ m,w'=w.drewN m):=aeu ao n c f hn w h
 clear h;go_enter func186,ntmps186;go_wp2_with fail;refine (HK.o).mono ?_;rintro e w1 ⟨⟨r,rfl,hr⟩,m,rfl⟩;have HR:ag _:=hr;clear hr;go_wp2_with fail;go_ret;exact ⟨⟨r,rfl,HR.o⟩,m,rfl⟩
theorem aew (k:Int) (sl ic:Nat) (fr to:Int) (k0:0<=k) (k1:k<18446744073709551616) (s1':sl<18446744073709551616) (i1':ic<18446744073709551616) (Jt:-9223372036854775808<=fr) (hf1:fr<9223372036854775808) (ht0:-9223372036854775808<=to) (ht1:to<9223372036854775808) (ao:Option Addr) (n cp:Nat) (f:Nat->Int) (hn:n<4611686018427387904) (w:World) (K:KS w ao n f) :
  Calls prog 163 #[eF k sl ic fr to,.slice ao n cp] w fun e w'=>(∃ N er:Int,e=.returned (.tuple #[.int .i64 N,.int .i64 er])/\qC k sl ic fr to n f N er)/\Gw w w':=by
 have G0:ag (Gw w (w.alloc (.cells #[.int .u64 k,.float .f64 sl,.float .f64 ic,.int .i64 fr,.int .i64 to] 129))):=(Gw.refl w).alloc _ _;have C:ag _:=fun W=>Js k sl ic fr to s1' i1' W
 have GU:ag _:=fun (he:bU sl ic fr to=0) (q:Int) (q0:0<=q) (q1:q<18446744073709551616) W=>Vq k sl ic fr to q k0 k1 q0 q1 he W
 have RI:ag _:=fun W (g:Gw w W)=>aev ao n cp f hn W (K.gw g)
 have K':ag _:=K;clear K;by_cases h:bU sl ic fr to=0
 ·obtain ⟨a,b,c,d,e⟩:=lY.1 h
  have h':ag _:=h;rw [h] at C;clear h d e;go_enter func163,ntmps163;go_wp2_with fail;refine (C.o _).mono ?_;rintro ex w1 ⟨rfl,g1⟩;have x0:w1.cell? ⟨w.heap.size,0,none⟩=some (.int .u64 k):=(g1.cell _ _ (by simp)).trans (by simp [go_sem])
  have x1:w1.cell? ⟨w.heap.size,1,none⟩=some (.float .f64 sl):=(g1.cell _ _ (by simp)).trans (by simp [go_sem])
  have x2:w1.cell? ⟨w.heap.size,2,none⟩=some (.float .f64 ic):=(g1.cell _ _ (by simp)).trans (by simp [go_sem])
  have x3:w1.cell? ⟨w.heap.size,3,none⟩=some (.int .i64 fr):=(g1.cell _ _ (by simp)).trans (by simp [go_sem])
  have x4:w1.cell? ⟨w.heap.size,4,none⟩=some (.int .i64 to):=(g1.cell _ _ (by simp)).trans (by simp [go_sem])
  have s1:w.heap.size<w1.heap.size:=by have:=g1.size;simp at this;omega
  have G:ag _:=G0.o.trans g1;clear g1 G0 C;obtain ⟨S,hS⟩:∃ S,to-fr=S:=⟨_,rfl⟩;have wz:IntKind.i64.wrap (to-fr)=S:=by rw [IntKind.wrap_i64];omega
  have Vs:ag (∀ w',Gw w1 w'->w'.cell? ⟨w.heap.size,0,none⟩=some (.int .u64 k)/\w'.cell? ⟨w.heap.size,1,none⟩=some (.float .f64 sl)/\w'.cell? ⟨w.heap.size,2,none⟩=some (.float .f64 ic)/\w'.cell? ⟨w.heap.size,3,none⟩=some (.int .i64 fr)/\w'.cell? ⟨w.heap.size,4,none⟩=some (.int .i64 to)) :=
   fun w' g=>⟨(g.cell _ _ s1).trans x0,(g.cell _ _ s1).trans x1,(g.cell _ _ s1).trans x2,(g.cell _ _ s1).trans x3,(g.cell _ _ s1).trans x4⟩
  by_cases h1:(n:Int)=S
  ·have n0:0<n:=by omega
   obtain ⟨bk,off,rfl,hb,hc⟩:=(K'.o.gw G.o).cells n0;have t1:((n:Int) != S)=false:=by simpa using h1
   have c0:w1.cell? ⟨bk,off,none⟩=some (.int .u64 (f 0)):=hc 0 n0;obtain ⟨f0,hf⟩:∃ f0,f 0=f0:=⟨_,rfl⟩;rw [hf] at c0;have uq:(f 0=k)↔(f0=k):=by rw [hf]
   by_cases hu:Up f n
   ·have U:ag (Up f n):=hu
    have RT:ag (∀ m,Calls prog 186 #[.slice (some ⟨bk,off,none⟩) n cp] (w1.drewN m) fun e w'=>e=.returned (.bool true)/\∃ m',w'=(w1.drewN m).drewN m'):=fun m =>
     (RI.o (w1.drewN m) (G.o.drewN m)).mono fun ex w' (hx:(∃ r:Bool,ex=.returned (.bool r)/\(r=true↔Up f n))/\∃ m',w'=(w1.drewN m).drewN m')=>⟨(by
      obtain ⟨⟨r,e1,e2⟩,-⟩:=hx;have:r=true:=by exact e2.2 hu
      rw [e1,this]),hx.2⟩
    clear hu RI;by_cases h2:f0=k
    ·have t2:(f0 != k)=false:=by simpa using h2
     have FC:ag ((n:Int)=to-fr/\f 0=k/\∀ i,i<n->w1.cell? ⟨bk,off+i,none⟩=some (.int .u64 (f i))):=⟨h1.trans hS.symm,hf.trans h2,hc⟩;clear h1 h2 hf hS hc uq;go_wp2_with fail;go_quiet (first | (go_at_call 186;refine Calls.quiet_of (RT.o _)))
     go_wp2_with fail;go_loopg [7,39] n (fun gg s7 s8 wr=>∃ i:Nat,s7=.int .i64 (dF (cd k sl ic fr to f) i)/\s8=.int .i64 i/\i<=n/\n-i<=gg/\ag (Gw w1 wr))
     case atStart=>exact ⟨0,rfl,rfl,Nat.zero_le _,by omega,(Gw.refl _).drewN _⟩
     case round =>
      obtain ⟨i,rfl,rfl,h2,h3,GR⟩:=hrel;by_cases ak:i<n
      ·obtain ⟨y0,y1,y2,y3,y4⟩:=Vs.o _ GR.o
       have ci:=(GR.o.cell _ _ hb).trans (FC.o.2.2 i ak);have lb:=Nat.lt_of_lt_of_le hb GR.o.size;have ls:=Nat.lt_of_lt_of_le s1 GR.o.size;have bi:=K'.o.bd i ak;have aw:=YM h'.o k0 FC.o.1 K'.o.bd;have gin:=yN (q:=f i) h'.o k0 bi.2;have wi:=(KY (cd k sl ic fr to f) i).1;have wl:=KZ (g:=cd k sl ic fr to f) (M:=4294967296) (by decide) i (fun j hj=>aw j (by omega))
       have ai:=aw i ak;clear aw;have ae:cd k sl ic fr to f i=cP k sl ic fr to (f i)-(fr+i):=rfl;have WS:ag (dF (cd k sl ic fr to f) (i+1)=max (max (dF (cd k sl ic fr to f) i) (cd k sl ic fr to f i)) (-(cd k sl ic fr to f i))):=rfl;have GI:ag _:=fun W=>GU.o h'.o (f i) bi.1 bi.2 W
       generalize dF (cd k sl ic fr to f) i=Wi at *;generalize cP k sl ic fr to (f i)=gi at *;generalize cd k sl ic fr to f i=D at *;obtain ⟨E,hE⟩:∃ E,fr+(i:Int)=E:=⟨_,rfl⟩;rw [hE] at ae;obtain ⟨M,hM⟩:∃ M,-D=M:=⟨_,rfl⟩;rw [hM] at WS;have ov:(i:Int)<to-fr:=by have:=FC.o.1;omega
       have z1:IntKind.i64.wrap (fr+(i:Int))=E:=by rw [IntKind.wrap_i64];omega
       have z2:IntKind.i64.wrap (gi-E)=D:=by rw [IntKind.wrap_i64];omega
       have z3:IntKind.i64.wrap (-D)=M:=by rw [IntKind.wrap_i64];omega
       generalize f i=yi at *;clear ae hE hM wi wl ai gin bi ov;rename_i wr _ _ _ _;have HW:ag (∀ w',Gw wr w'->Gw wr w'/\w'.cell? ⟨w.heap.size,0,none⟩=some (.int .u64 k)/\w'.cell? ⟨w.heap.size,1,none⟩=some (.float .f64 sl)/\w'.cell? ⟨w.heap.size,2,none⟩=some (.float .f64 ic)/\w'.cell? ⟨w.heap.size,3,none⟩=some (.int .i64 fr)/\w'.cell? ⟨w.heap.size,4,none⟩=some (.int .i64 to)/\w'.cell? ⟨bk,off+i,none⟩=some (.int .u64 yi)) :=
        fun w' g=>⟨g,(g.cell _ _ ls).trans y0,(g.cell _ _ ls).trans y1,(g.cell _ _ ls).trans y2,(g.cell _ _ ls).trans y3,(g.cell _ _ ls).trans y4,(g.cell _ _ lb).trans ci⟩
       clear x0 x1 x2 x3 x4 s1 RT c0 hb GU Vs;go_wp2_with fail;go_region_held3 (fun w'=>Gw wr w'/\w'.cell? ⟨w.heap.size,0,none⟩=some (.int .u64 k)/\w'.cell? ⟨w.heap.size,1,none⟩=some (.float .f64 sl)/\w'.cell? ⟨w.heap.size,2,none⟩=some (.float .f64 ic)/\w'.cell? ⟨w.heap.size,3,none⟩=some (.int .i64 fr)/\w'.cell? ⟨w.heap.size,4,none⟩=some (.int .i64 to)/\w'.cell? ⟨bk,off+i,none⟩=some (.int .u64 yi))
        ((refine HW.o _ ?_;(repeat (first | exact Gw.refl _ | exact And.left (by assumption) | exact ag.o (by assumption) | refine Gw.drew ?_ | refine Gw.trans ?_ (by assumption)));done))
        ((go_at_call 153;refine (GI.o _).mono ?_;rintro ex w3 ⟨rfl,g3⟩;have G3:ag (Gw wr w3):=(Gw.trans (by repeat (first | exact Gw.refl _ | exact And.left (by assumption) | exact ag.o (by assumption) | refine Gw.drew ?_)) g3);clear g3))
       all_goals go_wp2_with fail
       all_goals
        go_roundg (n-(i+1))
        case measure=>omega
        case rel =>
         refine ⟨i+1,?_,by go_num,ak,Nat.le_refl _,(show ag _ from GR.o.trans (by repeat (first | exact Gw.refl _ | exact And.left (by assumption) | exact ag.o (by assumption) | refine Gw.drew ?_ | refine Gw.trans ?_ (by assumption))))⟩
         rw [WS.o];exact congrArg (Value.int .i64) (show (_:Int)=max (max Wi D) M by first | omega | (simp only [*] at *;omega))
      ·have e:i=n:=by omega
       subst e;have R:ag (qC k sl ic fr to i f (dF (cd k sl ic fr to f) i) 0):=.inr (.inr ⟨h'.o,⟨FC.o.1,FC.o.2.1,U.o⟩,rfl,rfl⟩);generalize dF (cd k sl ic fr to f) i=Wi at *;go_wp2_with fail;exact bodyPost_ret (v:=.tuple #[.int .i64 Wi,.int .i64 0]) (by simp [results,results163,go_sem]) rfl ⟨⟨Wi,0,rfl,R.o⟩,G.o.trans GR.o⟩
    ·have t2:(f0 != k)=true:=by simpa using h2
     have R:ag (qC k sl ic fr to n f 0 1):=.inr (.inl ⟨h'.o,fun q=>h2 (uq.1 q.2.1),rfl,rfl⟩)
     clear h1 hS h2 hf hc uq GU;go_wp2_with fail;go_quiet (first | (go_at_call 186;refine Calls.quiet_of (RT.o _)))
     go_wp2_with fail;exact bodyPost_ret (v:=.tuple #[.int .i64 0,.int .i64 1]) (by simp [results,results163,go_sem]) rfl ⟨⟨0,1,rfl,R.o⟩,G.o.drewN _⟩
   ·have R:ag (qC k sl ic fr to n f 0 1):=.inr (.inl ⟨h'.o,fun q=>hu q.2.2,rfl,rfl⟩)
    have RT:ag (∀ m,Calls prog 186 #[.slice (some ⟨bk,off,none⟩) n cp] (w1.drewN m) fun e w'=>e=.returned (.bool false)/\∃ m',w'=(w1.drewN m).drewN m'):=fun m =>
     (RI.o (w1.drewN m) (G.o.drewN m)).mono fun ex w' (hx:(∃ r:Bool,ex=.returned (.bool r)/\(r=true↔Up f n))/\∃ m',w'=(w1.drewN m).drewN m')=>⟨(by
      obtain ⟨⟨r,e1,e2⟩,-⟩:=hx;have:r=false:=by cases r;rfl;exact absurd (e2.1 rfl) hu
      rw [e1,this]),hx.2⟩
    clear h1 hS hf hc uq GU RI hu;go_wp2_with fail;go_quiet (first | (go_at_call 186;refine Calls.quiet_of (RT.o _)))
    go_wp2_with fail;exact bodyPost_ret (v:=.tuple #[.int .i64 0,.int .i64 1]) (by simp [results,results163,go_sem]) rfl ⟨⟨0,1,rfl,R.o⟩,G.o.drewN _⟩
  ·have t1:((n:Int) != S)=true:=by simpa using h1
   have R:ag (qC k sl ic fr to n f 0 1):=.inr (.inl ⟨h'.o,fun q=>h1 (q.1.trans hS),rfl,rfl⟩)
   clear h1 hS RI GU;go_wp2_with fail;go_quiet (fail);go_wp2_with fail;exact bodyPost_ret (v:=.tuple #[.int .i64 0,.int .i64 1]) (by simp [results,results163,go_sem]) rfl ⟨⟨0,1,rfl,R.o⟩,G.o.drewN _⟩
 ·have t1:(bU sl ic fr to != 0)=true:=by simpa using h
  have R:ag (qC k sl ic fr to n f 0 (bU sl ic fr to)):=.inl ⟨h,rfl,rfl⟩;generalize bU sl ic fr to=er at *;clear h GU RI;go_enter func163,ntmps163;go_wp2_with fail;refine (C.o _).mono ?_;rintro ex w1 ⟨rfl,g1⟩;have G:ag _:=G0.o.trans g1;clear g1 G0;go_wp2_with fail;exact bodyPost_ret (v:=.tuple #[.int .i64 0,.int .i64 er]) (by simp [results,results163,go_sem]) rfl ⟨⟨0,er,rfl,R.o⟩,G.o⟩
end Go.Proofs.YtklkpldicbkjeaaGreat
