/- Small walks: what is no number, what is infinite, bits of floats. -/
import Derived.Laws.BitsAllLaws
import Derived.Test.YtcboobmfnmgldaaGreatBPBs
import Derived.Test.YtcboobmfnmgldaaGreatBPFl
set_option linter.unusedVariables false
set_option maxHeartbeats 8000000
set_option maxRecDepth 10000
open Go.Proofs.Tryz
namespace Go.Proofs.YtcboobmfnmgldaaGreat
open Go.RowKit
theorem Dm (b:Nat) (w:World):(callFunc 207 #[.float .f64 b]).run prog w=.ok (.value (By b)) w:=by
 rw [run_callFunc_extern func207 (by kernel_rfl) (by kernel_rfl) (by kernel_rfl) (e:=Extern.MathFloatBits.float64bits) (by kernel_rfl)]
 rfl
theorem vd (n:Int) (w:World):(callFunc 169 #[By n]).run prog w=.ok (.value (.float .f64 n.toNat)) w:=by
 rw [run_callFunc_extern func169 (by kernel_rfl) (by kernel_rfl) (by kernel_rfl) (e:=Extern.MathFloatBits.float64frombits) (by kernel_rfl)]
 rfl
theorem fmt:FloatKind.f64.format=Ieee.double:=rfl
theorem Yv (x:Nat):(FloatKind.f64.format.order x x != some .eq)=decide (9218868437227405312<rg x):=by
 rw [fmt];rcases Nat.lt_trichotomy (rg x) 9218868437227405312 with h | h | h
 ·rw [X4 h h];simp;omega
 ·unfold Ieee.Format.order;rw [uY h]
  simp [Ieee.Datum.order,h]
 ·unfold Ieee.Format.order;rw [Dd h]
  simp [Ieee.Datum.order,h]
theorem tF (x:Nat) (w:World) :
  Calls prog 194 #[.float .f64 x] w fun e w'=>e=.returned (.bool (decide (9218868437227405312<rg x)))/\w'=w:=by
 have h:=Yv x;go_enter func194,ntmps194;go_wp2;go_ret;exact ⟨rfl,rfl⟩
theorem Yw (x:Nat) (hx:x<18446744073709551616):bits .andNot .u64 (x:Int) 9223372036854775808=((rg x:Nat):Int):=by
 have:=u64_andNot_nat x 9223372036854775808 hx (by decide)
 rw [show ((9223372036854775808:Nat):Int)=9223372036854775808 from rfl] at this;rw [this,show (18446744073709551615-9223372036854775808:Nat)=2^63-1 from rfl,Nat.and_two_pow_sub_one_eq_mod];rfl
theorem Lf (x:Nat):rg x<9223372036854775808:=Nat.mod_lt _ (by decide)
theorem zr (x:Nat):rg (rg x)=rg x:=Nat.mod_eq_of_lt (Lf x)
theorem Lg (x:Nat):sg (rg x)=false:=by
 have:=Lf x;unfold sg;simp;omega
theorem Yx (x:Nat) (hx:x<18446744073709551616) (w:World) :
  Calls prog 208 #[.float .f64 x] w fun e w'=>e=.returned (.float .f64 (rg x))/\w'=w:=by
 have h:=Yw x hx;go_enter func208,ntmps208;go_wp2_with (first | simp only [Dm] | simp only [vd])
 go_ret
 exact ⟨rfl,rfl⟩
theorem Lh (x:Nat):SV (rg x)=V (rg x):=by unfold SV;rw [Lg,zr];rfl
theorem Yy (x:Nat):(FloatKind.f64.format.order (rg x) 9218868437227405311 == some .gt)=decide (rg x=9218868437227405312):=by
 rw [fmt];have hm:rg 9218868437227405311<9218868437227405312:=by decide
 rcases Nat.lt_trichotomy (rg x) 9218868437227405312 with h | h | h
 ·rw [zj (by rw [zr];exact h) hm]
  have e1:SV 9218868437227405311=V 9218868437227405311:=Lh 9218868437227405311;rw [Lh,e1];have:V (rg x)<=V 9218868437227405311:=iP (by omega)
  simp;omega
 ·unfold Ieee.Format.order;rw [uY (by rw [zr];exact h),iQ hm,Lg]
  simp [Ieee.Datum.order,h]
 ·unfold Ieee.Format.order;rw [Dd (by rw [zr];exact h),iQ hm]
  simp [Ieee.Datum.order];omega
theorem Yz (x:Nat) (hx:x<18446744073709551616) (w:World) :
  Calls prog 196 #[.float .f64 x,AI 0] w fun e w'=>e=.returned (.bool (decide (rg x=9218868437227405312)))/\w'=w:=by
 have h:=Yy x;go_enter func196,ntmps196;go_wp2_with (go_at_call 208;refine (Yx x hx _).mono ?_;rintro e w' ⟨rfl,rfl⟩);go_ret;exact ⟨rfl,rfl⟩
def kA (x y:Nat) (w:World):Nat:=(Question.nanBits .f64 x y).cut (w.tape w.drawn (.nanBits .f64 x y))
theorem Dn (x y:Nat) (w:World):9218868437227405312<rg (kA x y w):=by
 unfold kA rg;generalize w.tape w.drawn (.nanBits .f64 x y)=t;show 9218868437227405312<(t%2*2^63+9218868437227405312+1+t/2%(2^52-1))%9223372036854775808;have:t/2%(2^52-1)<2^52-1:=Nat.mod_lt _ (by decide)
 generalize t/2%(2^52-1)=a at *;have h2:t%2<2:=Nat.mod_lt _ (by decide)
 generalize t%2=c at *;omega
theorem YA (t:TypeId) (x y:Nat) (h:Ieee.double.mul x y=none) (w:World):(binOp .mul t (.float .f64 x) (.float .f64 y)).run prog w=.ok (.float .f64 (kA x y w)) w.drew:=by
 have h':FloatKind.f64.format.mul x y=none:=h;simp [binOp,Op.floatArith,h'];rfl
theorem Li (t:TypeId) (x y:Nat) (h:Ieee.double.add x y=none) (w:World):(binOp .add t (.float .f64 x) (.float .f64 y)).run prog w=.ok (.float .f64 (kA x y w)) w.drew:=by
 have h':FloatKind.f64.format.add x y=none:=h;simp [binOp,Op.floatArith,h'];rfl
variable {x y:Nat}
theorem YB (h:9218868437227405312<rg x):Ieee.double.add x y=none:=by
 unfold Ieee.Format.add;rw [Dd h];rfl
def AL (s y base r:Nat):Prop:=(∃ p,Ieee.double.mul s y=some p/\Ieee.double.add p base=some r)\/((∀ p,Ieee.double.mul s y=some p->Ieee.double.add p base=none)/\9218868437227405312<rg r)
theorem YC (s y far base p r:Nat) (hf:far<18446744073709551616) (ey:floatOfInt .f64 (far:Int)=y) (h1:Ieee.double.mul s y=some p) (h2:Ieee.double.add p base=some r) (w:World) :
  Calls prog 210 #[.float .f64 s,By far,.float .f64 base] w fun e w'=>e=.returned (.float .f64 r)/\w'=w:=by
 have k1:∀ w,(binOp .mul 143 (.float .f64 s) (.float .f64 y)).run prog w=.ok (.float .f64 p) w:=fun w=>run_float_arith w .mul _ _ _ _ _ h1
 have k2:∀ w,(binOp .add 143 (.float .f64 p) (.float .f64 base)).run prog w=.ok (.float .f64 r) w:=fun w=>run_float_arith w .add _ _ _ _ _ h2
 go_enter func210,ntmps210;go_wp2;go_ret;exact ⟨rfl,rfl⟩
theorem YD (s y far base:Nat) (hf:far<18446744073709551616) (ey:floatOfInt .f64 (far:Int)=y) (w:World) :
  Calls prog 210 #[.float .f64 s,By far,.float .f64 base] w fun e w'=>(∃ r,e=.returned (.float .f64 r)/\AL s y base r)/\∃ n,w'=w.drewN n:=by
 cases h1:Ieee.double.mul s y with
 | some p =>
  cases h2:Ieee.double.add p base with
  | some r=>exact (YC s y far base p r hf ey h1 h2 w).mono fun e w' h=>⟨⟨r,h.1,.inl ⟨p,h1,h2⟩⟩,0,h.2⟩
  | none =>
   have k1:∀ w,(binOp .mul 143 (.float .f64 s) (.float .f64 y)).run prog w=.ok (.float .f64 p) w:=fun w=>run_float_arith w .mul _ _ _ _ _ h1
   have k2:∀ w,(binOp .add 143 (.float .f64 p) (.float .f64 base)).run prog w=.ok (.float .f64 (kA p base w)) w.drew:=fun w=>Li _ _ _ h2 w
   have a:ag (AL s y base (kA p base w)):=.inr ⟨fun q hq=>(by rw [h1] at hq;cases hq;exact h2),Dn _ _ _⟩
   clear h1 h2;go_enter func210,ntmps210;go_wp2;go_ret;exact ⟨⟨_,rfl,a.o⟩,1,rfl⟩
 | none =>
  have k1:∀ w,(binOp .mul 143 (.float .f64 s) (.float .f64 y)).run prog w=.ok (.float .f64 (kA s y w)) w.drew:=fun w=>YA _ _ _ h1 w
  have k2:∀ w',(binOp .add 143 (.float .f64 (kA s y w)) (.float .f64 base)).run prog w'=.ok (.float .f64 (kA (kA s y w) base w')) w'.drew:=fun w'=>Li _ _ _ (YB (Dn s y w)) w'
  have a:ag (AL s y base (kA (kA s y w) base w.drew)):=.inr ⟨fun q hq=>(by rw [h1] at hq;cases hq),Dn _ _ _⟩
  clear h1;go_enter func210,ntmps210;go_wp2;go_ret;exact ⟨⟨_,rfl,a.o⟩,2,rfl⟩
def qI (x:Nat):Bool:=Ieee.double.order x 14114281232179134464 == some .lt
def qJ (x:Nat):Bool:=Ieee.double.order x 4890909195324358656 == some .gt||Ieee.double.order x 4890909195324358656 == some .eq
theorem YE (k:Nat):V ((k+1023)*4503599627370496)=2^k*Un:=by
 have:=jd (k+1022) 4503599627370496 (by decide) (.inl (by decide))
 rw [show (k+1022)*4503599627370496+4503599627370496=(k+1023)*4503599627370496 by omega] at this
 rw [this,show (4503599627370496:Nat)=2^52 from rfl,<-Nat.pow_add,tD,show 52+(k+1022)=k+1074 by omega]
theorem Lj:V 4890909195324358656=9223372036854775808*Un:=by
 have h:=YE 63;rw [show (63+1023)*4503599627370496=4890909195324358656 from rfl,show (2:Nat)^63=9223372036854775808 from rfl] at h;exact h
theorem Lk:SV 4890909195324358656=9223372036854775808*(Un:Int):=by
 unfold SV;rw [show sg 4890909195324358656=false from rfl,show rg 4890909195324358656=4890909195324358656 from rfl,Lj];simp
theorem Ll:SV 14114281232179134464=-(9223372036854775808*(Un:Int)):=by
 unfold SV;rw [show sg 14114281232179134464=true from rfl,show rg 14114281232179134464=4890909195324358656 from rfl,Lj];simp
theorem YG (h:¬ 9218868437227405312<rg x) (h1:qI x=false) (h2:qJ x=false) :
  rg x<9218868437227405312/\-9223372036854775808<=c9 x/\c9 x<9223372036854775808/\-9223372036854775808<=l6 x/\l6 x<9223372036854775808:=by
 have hU:=jJ;rcases Nat.lt_or_ge (rg x) 9218868437227405312 with k | k
 ·unfold qI at h1;unfold qJ at h2
  rw [KU k (by decide),Ll] at h1
  rw [Df k (by decide),Lk] at h2
  simp only [decide_eq_false_iff_not] at h1 h2;have f0:-9223372036854775808<=c9 x:=by
   unfold c9;refine (Int.le_ediv_iff_mul_le (by omega)).2 ?_
   omega
  have f1:c9 x<9223372036854775808:=by
   unfold c9;refine (Int.ediv_lt_iff_lt_mul (by omega)).2 ?_
   omega
  obtain ⟨t1,t2⟩:=Yl x;by_cases c:SV x<l6 x*Un
  ·have:=t1 c
   refine ⟨k,f0,f1,by omega,?_⟩
   by_cases s:sg x=true
   ·unfold l6;rw [if_pos s]
    generalize V (rg x)/Un=q;omega
   ·exfalso
    have s':sg x=false:=by simpa using s
    have e1:=zm x;rw [s'] at e1;unfold l6 at this;rw [s'] at this;simp at e1 this;omega
  ·have:=t2 c
   exact ⟨k,f0,f1,by omega,by omega⟩
 ·have e:rg x=9218868437227405312:=by omega
  exfalso
  unfold qI Ieee.Format.order at h1;unfold qJ Ieee.Format.order at h2;rw [uY e,iQ (show rg 14114281232179134464<9218868437227405312 by decide)] at h1
  rw [uY e,iQ (show rg 4890909195324358656<9218868437227405312 by decide)] at h2
  cases hs:sg x<;>rw [hs] at h1 h2<;>simp [Ieee.Datum.order] at h1 h2
def nA (x:Nat) (lo hi:Int):Int :=
 if hi<lo\/9218868437227405312<rg x then lo else if qI x then lo else if qJ x then hi else min (max (c9 x) lo) hi
theorem YH (hx:rg x<9218868437227405312) (w:World):(callFunc 212 #[.float .f64 x]).run prog w=.ok (.value (.float .f64 (flb x))) w:=by
 rw [run_callFunc_extern func212 (by kernel_rfl) (by kernel_rfl) (by kernel_rfl) (e:=Extern.MathFloor.toIntegral "math.archFloor" .down) (by kernel_rfl)]
 have key:Extern.MathFloor.toIntegral "math.archFloor" .down #[.float .f64 x]=pure (.float .f64 (flb x)):=by
  unfold flb;have e:=iQ hx
  delta Extern.MathFloor.toIntegral
  conv=>lhs;whnf
  rw [show FloatKind.f64.decode x=_ from e,e];rfl
 rw [key];rfl
theorem YI (hx:rg x<9218868437227405312) (w:World) :
  Calls prog 211 #[.float .f64 x] w fun e w'=>e=.returned (.float .f64 (flb x))/\w'=w:=by
 go_enter func211,ntmps211;go_wp2_with (simp only [YH hx]);go_ret;exact ⟨rfl,rfl⟩
theorem YJ (lo hi:Int) (h0:-9223372036854775808<=lo) (h1:lo<9223372036854775808) (h2:-9223372036854775808<=hi) (h3:hi<9223372036854775808)
  (hl:¬ hi<lo) (hn:¬ 9218868437227405312<rg x) (hx:rg x<9218868437227405312) (c1:(FloatKind.f64.format.order x 14114281232179134464 == some .lt)=false) (c2:(FloatKind.f64.format.order x 4890909195324358656 == some .gt||FloatKind.f64.format.order x 4890909195324358656 == some .eq)=false)
  (n:Int) (n0:-9223372036854775808<=n) (n1:n<9223372036854775808) (hc:∀ w,(convert 143 2 (.float .f64 (flb x))).run prog w=.ok (AI n) w) (w:World) :
  Calls prog 209 #[.float .f64 x,AI lo,AI hi] w fun e w'=>e=.returned (AI (min (max n lo) hi))/\w'=w:=by
 go_enter func209,ntmps209;go_wp2_with (first | (go_at_call 194;refine (tF x _).mono ?_;rintro e w' ⟨rfl,rfl⟩) | (go_at_call 211;refine (YI hx _).mono ?_;rintro e w' ⟨rfl,rfl⟩))
 all_goals go_ret
 all_goals first
  | exact ⟨rfl,rfl⟩
  | exact ⟨congrArg (fun z=>Ending.returned (AI z)) (show _=min (max n lo) hi by first | omega | (simp only [*] at *;omega)),rfl⟩
theorem YM (x:Nat) (lo hi:Int) (h0:-9223372036854775808<=lo) (h1:lo<9223372036854775808) (h2:-9223372036854775808<=hi) (h3:hi<9223372036854775808) (w:World) :
  Calls prog 209 #[.float .f64 x,AI lo,AI hi] w fun e w'=>e=.returned (AI (nA x lo hi))/\w'=w:=by
 unfold nA;by_cases hl:hi<lo
 ·rw [if_pos (.inl hl)]
  go_enter func209,ntmps209;go_wp2;go_ret;exact ⟨rfl,rfl⟩
 ·by_cases hn:9218868437227405312<rg x
  ·rw [if_pos (.inr hn)]
   go_enter func209,ntmps209;go_wp2_with (go_at_call 194;refine (tF x _).mono ?_;rintro e w' ⟨rfl,rfl⟩);go_ret;exact ⟨rfl,rfl⟩
  ·rw [if_neg (by omega)]
   cases c1:qI x
   ·cases c2:qJ x
    ·obtain ⟨hx,f0,f1,-,-⟩:=YG hn c1 c2
     exact YJ lo hi h0 h1 h2 h3 hl hn hx c1 c2 (c9 x) f0 f1 (fun w=>run_convert_float_int w _ _ _ _ _ _ (by kernel_rfl) (by kernel_rfl) (Yk hx f0 f1)) w
    ·have ix:(FloatKind.f64.format.order x 14114281232179134464 == some .lt)=false:=c1
     have zs:(FloatKind.f64.format.order x 4890909195324358656 == some .gt||FloatKind.f64.format.order x 4890909195324358656 == some .eq)=true:=c2
     clear c1 c2;rw [if_neg (by decide),if_pos rfl]
     go_enter func209,ntmps209;go_wp2_with (go_at_call 194;refine (tF x _).mono ?_;rintro e w' ⟨rfl,rfl⟩);go_ret;exact ⟨rfl,rfl⟩
   ·have ix:(FloatKind.f64.format.order x 14114281232179134464 == some .lt)=true:=c1
    clear c1;rw [if_pos rfl];go_enter func209,ntmps209;go_wp2_with (go_at_call 194;refine (tF x _).mono ?_;rintro e w' ⟨rfl,rfl⟩);go_ret;exact ⟨rfl,rfl⟩
open Ieee
def gv (t lo hi:Int):Int:=min (max t lo) hi
variable {t lo hi:Int}
theorem YO (h:lo<=hi):lo<=gv t lo hi/\gv t lo hi<=hi:=by unfold gv;omega
theorem YP {u:Int} (h:t<=u):gv t lo hi<=gv u lo hi:=by unfold gv;omega
variable {k:Int}
theorem YQ {x:Int} (h1:lo<=x) (h2:x<=hi) (a:x-k<=t) (b:t<=x+k) (k0:0<=k):x-k<=gv t lo hi/\gv t lo hi<=x+k:=by unfold gv;omega
variable {a b s p r:Nat}
theorem YR {d:Nat} {c:Int} (b0:0<b) (a1:a<18446744073709551616) (b1:b<18446744073709551616) (d1:d<18446744073709551616)
  (hs:Nr (a*Un) b s) (hy:Nr (d*Un) 1 y) (hp:Nr (V s*V y) Un p) (hq:a*d<=17179869184*b) (c0:-17179869184<=c) (c1:c<=17179869184)
  (hr:Nr ((V p:Int)+c*Un).natAbs 1 r) :
  ((a*d/b:Nat):Int)+c-1<=iw ((V p:Int)+c*Un) r/Un/\iw ((V p:Int)+c*Un) r/Un<=((a*d/b:Nat):Int)+c+1:=by
 obtain ⟨h1,h2⟩:=Ys b0 a1 b1 d1 hs hy hp hq c0 c1 hr;have U0:=jJ;obtain ⟨U,hU⟩:∃ U,Un=U:=⟨_,rfl⟩;rw [hU] at h1 h2 U0 ⊢;obtain ⟨R,hR⟩:∃ R,iw ((V p:Int)+c*U) r=R:=⟨_,rfl⟩;rw [hR] at h1 h2 ⊢;clear hR hU hs hy hp hr;have dm:=Nat.div_add_mod (a*d) b;have ml:=Nat.mod_lt (a*d) b0;obtain ⟨T,hT⟩:∃ T,a*d/b=T:=⟨_,rfl⟩;rw [hT] at dm ⊢;have U1:(0:Int)<(U:Int):=by omega
 have B1:(0:Int)<(b:Int):=by omega
 have UB:(0:Int)<(U:Int)*b:=Int.mul_pos U1 B1;have YS:(b:Int)*T<=((a*d:Nat):Int):=by
  have:b*T<=a*d:=by omega
  exact_mod_cast this
 have YU:((a*d:Nat):Int)<=(b:Int)*T+b:=by
  have:a*d<=b*T+b:=by omega
  exact_mod_cast this
 have m1:=Int.mul_le_mul_of_nonneg_right YS (Int.le_of_lt U1);have m2:=Int.mul_le_mul_of_nonneg_right YU (Int.le_of_lt U1);have e1:(b:Int)*T*U=T*((U:Int)*b):=by rw [Int.mul_comm (b:Int) T,Int.mul_assoc,Int.mul_comm (b:Int) U]
 have e2:((b:Int)*T+b)*U=T*((U:Int)*b)+(U:Int)*b:=by rw [Int.add_mul,e1,Int.mul_comm (b:Int) U]
 rw [e1] at m1;rw [e2] at m2;have e3:c*(U:Int)*b=c*((U:Int)*b):=Int.mul_assoc _ _ _;rw [e3] at h1 h2;constructor
 ·
  rw [Int.le_ediv_iff_mul_le U1];have k:((T:Int)+c-1)*U*b<=R*b:=by
   have e4:((T:Int)+c-1)*U*b=T*((U:Int)*b)+c*((U:Int)*b)-(U:Int)*b:=by rw [Int.mul_assoc,Int.sub_mul,Int.add_mul,Int.one_mul]
   omega
  exact Int.le_of_mul_le_mul_right k B1
 ·
  have k:R*b<((T:Int)+c+2)*U*b:=by
   have e4:((T:Int)+c+2)*U*b=T*((U:Int)*b)+c*((U:Int)*b)+2*((U:Int)*b):=by rw [Int.mul_assoc,Int.add_mul,Int.add_mul]
   omega
  have k':R<((T:Int)+c+2)*U:=Int.lt_of_mul_lt_mul_right k (Int.le_of_lt B1);have:=Int.ediv_lt_of_lt_mul U1 k';omega
theorem YW {S1 S2:Int} {r1 r2:Nat} (h1:Nr S1.natAbs 1 r1) (h2:Nr S2.natAbs 1 r2) (h:S1<=S2):iw S1 r1<=iw S2 r2:=by
 unfold iw;by_cases a:S1<0
 ·rw [if_pos a]
  by_cases b:S2<0
  ·rw [if_pos b]
   have:r2<=r1:=h2.mono h1 (by decide) (by decide) (by omega)
   have:=iP this
   omega
  ·rw [if_neg b];omega
 ·rw [if_neg a,if_neg (by omega)]
  have:r1<=r2:=h1.mono h2 (by decide) (by decide) (by omega)
  have:=iP this
  omega
theorem YX (h:Nr x 1 r) (b:x<=V 9218868437227405311+36893488147419103232*Un):r<=9218868437227405311:=by
 obtain ⟨B,hB⟩:∃ B,B=9218868437227405311:=⟨_,rfl⟩;rw [<-hB] at b ⊢;by_cases q:x<=V B
 ·exact h.mono (Nr.exact B 1 (by decide)) (by decide) (by decide) (by omega)
 ·have st:=ta B
  obtain ⟨e,he⟩:∃ e,B/4503599627370496-1=e:=⟨_,rfl⟩;rw [he] at st;have e0:2000<e:=by omega
  have g:73786976294838206464*Un<2^e:=by
   obtain ⟨k,hk,eU⟩:=kZ;have e2:(2:Nat)^66=73786976294838206464:=by decide +kernel
   rw [eU,<-e2,<-Nat.pow_add];exact Nat.pow_lt_pow_right (by decide) (by omega)
  generalize (2:Nat)^e=k at st g;have lt:=tg (show B-1<B by omega)
  have n:Nr x 1 B:=by
   refine ⟨by omega,by rw [st];omega,fun e=>by omega,fun e=>?_⟩
   rw [st] at e;omega
  exact Nat.le_of_eq (h.uniq n (by decide))
variable {f:Nat->Int} {n:Nat}
theorem YZ {g:Int->Int} {N:Int} (n0:0<n) (mono:∀ x y,f 0<=x->x<=y->g x<=g y) (up:∀ i,i<n->f 0<=f i) (Y2:∀ x,f 0<=x->lo<=g x/\g x<=lo+n) (N0:0<=N)
  (off:∀ i,i<n->lo+i-N<=g (f i)/\g (f i)<=lo+i+N) (q:Int) (k:Nat) (hk:k<=n) (below:∀ i,i<k->f i<q) (Lm:∀ i,k<=i->i<n->q<=f i) (first:f 0<=q):lo+k-(N+1)<=g q/\g q<=lo+k+(N+1):=by
 have r:=Y2 q first;refine ⟨?_,?_⟩
 ·by_cases z:k=0
  ·subst z
   have:=Lm 0 (Nat.le_refl _) n0
   have e:q=f 0:=by omega
   subst e;have:=(off 0 n0).1;omega
  ·have b:=below (k-1) (by omega)
   have m:=mono (f (k-1)) q (up _ (by omega)) (by omega)
   have o:=(off (k-1) (by omega)).1
   omega
 ·by_cases z:k<n
  ·have a:=Lm k (Nat.le_refl _) z
   have m:=mono q (f k) first a;have o:=(off k z).2;omega
  ·omega
def cg (sl ic:Nat) (fr to:Int):Int :=
 if fr<0\/to<=fr\/4294967296<to then 70 else if 4611686018427387904<sl then 71 else if 9218868437227405312<=rg ic then 72 else 0
abbrev eC (k:Int) (sl ic:Nat) (fr to:Int):Value:=.agg #[By k,.float .f64 sl,.float .f64 ic,AI fr,AI to]
variable {sl ic:Nat} {fr to:Int}
theorem ma:cg sl ic fr to=0↔0<=fr/\fr<to/\to<=4294967296/\sl<=4611686018427387904/\rg ic<9218868437227405312:=by
 unfold cg;by_cases h:fr<0\/to<=fr\/4294967296<to
 ·rw [if_pos h];omega
 ·rw [if_neg h]
  by_cases h1:4611686018427387904<sl
  ·rw [if_pos h1];omega
  ·rw [if_neg h1]
   by_cases h2:9218868437227405312<=rg ic
   ·rw [if_pos h2];omega
   ·rw [if_neg h2];omega
def Lo (x:Nat):Bool:=FloatKind.f64.format.order x 0 == some .gt||FloatKind.f64.format.order x 0 == some .eq
def zt (x:Nat):Bool:=FloatKind.f64.format.order x 4611686018427387904 == some .gt
theorem V0:SV 0=0:=by decide
theorem qK (h:x<9223372036854775808):rg x=x:=Nat.mod_eq_of_lt h
theorem zu (h:x<9223372036854775808):sg x=false:=by unfold sg;simp;omega
theorem ve (h:x<9223372036854775808):SV x=V x:=by unfold SV;rw [zu h,qK h];rfl
theorem Y3 (h:x<=4611686018427387904):Lo x=true/\decide ((9223372036854775808:Int)<=(x:Int))=false/\zt x=false:=by
 have hx:rg x<9218868437227405312:=by rw [qK (by omega)];omega
 have e:=ve (x:=x) (by omega)
 refine ⟨?_,by simp;omega,?_⟩
 ·unfold Lo;rw [fmt,Df hx (by decide),V0,e];simp
 ·unfold zt;rw [fmt,zj hx (by decide),e,ve (by decide)]
  have:=iP h
  simp;omega
theorem Lp:V 4895412794951729152=18446744073709551616*Un:=by
 have:=zp 64
 rwa [show (64+1023)*4503599627370496=4895412794951729152 from rfl,show (2:Nat)^64=18446744073709551616 from rfl] at this
theorem Lq:V 4899916394579099648=36893488147419103232*Un:=by
 have:=zp 65
 rwa [show (65+1023)*4503599627370496=4899916394579099648 from rfl,show (2:Nat)^65=36893488147419103232 from rfl] at this
theorem vf {far:Nat} (hs:sl<=4611686018427387904) (hi:rg ic<9218868437227405312) (hf:far<18446744073709551616) :
  ∃ y p r v,Nr (far*Un) 1 y/\floatOfInt .f64 (far:Int)=y/\Nr (V sl*V y) Un p/\Ieee.double.mul sl y=some p/\Nr ((V p:Int)+SV ic).natAbs 1 r/\Ieee.double.add p ic=some v/\rg v<9218868437227405312/\SV v=iw ((V p:Int)+SV ic) r/\y<=4895412794951729152/\p<=4899916394579099648:=by
 have U0:=jJ;obtain ⟨y,hy,ey⟩:=K7 (far:Int);rw [Int.natAbs_natCast] at hy;have y1:y<=4895412794951729152:=hy.mono (Nr.of_eq (x:=18446744073709551616*Un) (y:=1) (by decide) (by rw [Lp];omega)) (by decide) (by decide) (by
  rw [Nat.mul_one,Nat.mul_one];exact Nat.mul_le_mul_right _ (by omega))
 have dn:decide ((far:Int)<0)=false:=by simp
 rw [dn,Nat.min_eq_left (by omega),Di] at ey
 have ys:rg y=y:=qK (by omega)
 have ss:rg sl=sl:=qK (by omega)
 obtain ⟨p,hp,ep⟩:=KZ (x:=sl) (y:=y) (by rw [ss];omega) (by rw [ys];omega)
 rw [ss,ys] at hp;have p1:p<=4899916394579099648:=hp.mono (Nr.of_eq (x:=36893488147419103232*Un*Un) (y:=Un) U0 (by rw [Lq])) U0 U0 (by
  refine Nat.mul_le_mul_right _ ?_;have a:=iP hs;have b:=iP y1;rw [V2] at a;rw [Lp] at b;have e:∀ U:Nat,2*U*(18446744073709551616*U)=36893488147419103232*U*U:=fun U=>by rw [Nat.mul_mul_mul_comm,<-Nat.mul_assoc]
  exact Nat.le_trans (Nat.mul_le_mul a b) (Nat.le_of_eq (e Un)))
 rw [zu (x:=sl) (by omega),zu (x:=y) (by omega),Nat.min_eq_left (by omega)] at ep
 have Dp:Ieee.double.mul sl y=some p:=ep;have ps:rg p=p:=qK (by omega)
 have pv:SV p=V p:=ve (by omega)
 obtain ⟨r,hr,er⟩:=Yb (x:=p) (y:=ic) (by rw [ps];omega) hi
 rw [pv] at hr er;have ab:((V p:Int)+SV ic).natAbs<=V 9218868437227405311+36893488147419103232*Un:=by
  have a:=iP p1;rw [Lq] at a;have b:=iP (show rg ic<=9218868437227405311 by omega)
  have c:(SV ic).natAbs<=V (rg ic):=by unfold SV;split<;>omega
  omega
 have r1:=YX hr ab;rw [Nat.min_eq_left (show r<=9218868437227405312 by omega)] at er
 refine ⟨y,p,r,_,hy,ey,hp,Dp,hr,er,by rw [uZ _ _ (by omega)];omega,?_,y1,p1⟩
 rw [La _ _ (by omega)]
 unfold iw;by_cases z:(V p:Int)+SV ic=0
 ·have r0:r=0:=by
   rw [z] at hr;exact hr.uniq (Nr.zero 1 (by decide)) (by decide)
  subst r0;rw [oS];simp
 ·rw [if_neg z]
  by_cases n:(V p:Int)+SV ic<0
  ·rw [if_pos (decide_eq_true n),if_pos n]
  ·rw [if_neg (by simpa using n),if_neg n]
variable {v:Nat}
theorem Y4 (hv:rg v<9218868437227405312) (h:lo<=hi) (l0:-9223372036854775808<=lo) (h1:hi<9223372036854775808):nA v lo hi=gv (c9 v) lo hi:=by
 have U0:=jJ;have U1:(0:Int)<Un:=by omega
 unfold nA;rw [if_neg (by omega)]
 cases c1:qI v
 ·cases c2:qJ v
  ·rfl
  ·rw [if_neg (by decide),if_pos rfl]
   unfold qJ at c2;rw [Df hv (by decide),Lk,decide_eq_true_eq] at c2
   have:9223372036854775808<=c9 v:=by
    unfold c9;exact (Int.le_ediv_iff_mul_le U1).2 c2
   unfold gv;omega
 ·rw [if_pos rfl]
  unfold qI at c1;rw [KU hv (by decide),Ll,decide_eq_true_eq] at c1
  have:c9 v < -9223372036854775808:=by
   unfold c9;refine Int.ediv_lt_of_lt_mul U1 ?_;rw [Int.neg_mul];exact c1
  unfold gv;omega
def tG (sl ic far:Nat):Nat :=
 match Ieee.double.mul sl (floatOfInt .f64 (far:Int)) with
 | some p=>(Ieee.double.add p ic).getD 0
 | none=>0
def cP (k:Int) (sl ic:Nat) (fr to q:Int):Int:=if cg sl ic fr to=0 then nA (tG sl ic (q-k).toNat) fr to else 0
theorem vg {far:Nat} (ey:floatOfInt .f64 (far:Int)=y) (ep:Ieee.double.mul sl y=some p) (ev:Ieee.double.add p ic=some v):tG sl ic far=v:=by
 unfold tG;rw [ey,ep];show (Ieee.double.add p ic).getD 0=v;rw [ev];rfl
theorem AL.is {base:Nat} (h:AL s y base r) (ep:Ieee.double.mul s y=some p) (ev:Ieee.double.add p base=some v):r=v:=by
 rcases h with ⟨q,a,b⟩ | ⟨a,b⟩
 ·rw [ep] at a;cases a;rw [ev] at b;cases b;rfl
 ·have:=a p ep;rw [ev] at this;cases this
theorem Y5 (hs:sl<=4611686018427387904) (hi:rg ic<9218868437227405312) (hb:b<18446744073709551616) (h:a<=b):c9 (tG sl ic a)<=c9 (tG sl ic b):=by
 have U0:=jJ;obtain ⟨y,p,r,v,hy,ey,hp,ep,hr,ev,fv,sv,-,-⟩:=vf (far:=a) hs hi (by omega)
 obtain ⟨y',p',r',v',gO,Y6,Y7,Dp,gP,vh,fv',Y8,-,-⟩:=vf (far:=b) hs hi hb;rw [vg ey ep ev,vg Y6 Dp vh];unfold c9;refine Int.ediv_le_ediv (by omega) ?_
 rw [sv,Y8];refine YW hr gP ?_;have a1:y<=y':=hy.mono gO (by decide) (by decide) (by rw [Nat.mul_one,Nat.mul_one];exact Nat.mul_le_mul_right _ h)
 have a2:p<=p':=hp.mono Y7 U0 U0 (Nat.mul_le_mul_right _ (Nat.mul_le_mul_left _ (iP a1)));have:=iP a2;omega
variable {q:Int}
theorem zw (h:cg sl ic fr to=0) (k0:0<=k) (q1:q<18446744073709551616):cP k sl ic fr to q=gv (c9 (tG sl ic (q-k).toNat)) fr to:=by
 obtain ⟨a,b,c,d,e⟩:=ma.1 h;obtain ⟨y,p,r,v,hy,ey,hp,ep,hr,ev,fv,sv,-,-⟩:=vf (far:=(q-k).toNat) d e (by omega)
 unfold cP;rw [if_pos h,vg ey ep ev,Y4 fv (by omega) (by omega) (by omega)]
theorem Y9 {q':Int} (h:cg sl ic fr to=0) (k0:0<=k) (q1:q'<18446744073709551616) (le:q<=q'):cP k sl ic fr to q<=cP k sl ic fr to q':=by
 obtain ⟨a,b,c,d,e⟩:=ma.1 h;rw [zw h k0 (by omega),zw h k0 q1]
 exact YP (Y5 d e (by omega) (by omega))
theorem zx (h:cg sl ic fr to=0) (k0:0<=k) (q1:q<18446744073709551616):fr<=cP k sl ic fr to q/\cP k sl ic fr to q<=to:=by
 obtain ⟨a,b,c,d,e⟩:=ma.1 h;rw [zw h k0 q1];exact YO (by omega)
def dI (g:Nat->Int):Nat->Int
 | 0=>0
 | j+1=>max (max (dI g j) (g j)) (-(g j))
theorem Lr (g:Nat->Int) (n:Nat):0<=dI g n/\∀ i,i<n->-(dI g n)<=g i/\g i<=dI g n:=by
 induction n with
 | zero=>exact ⟨Int.le_refl _,fun i hi=>by omega⟩
 | succ n ih =>
  obtain ⟨a,b⟩:=ih;have e:dI g (n+1)=max (max (dI g n) (g n)) (-(g n)):=rfl;refine ⟨by omega,fun i hi=>?_⟩
  by_cases c:i=n
  ·subst c;omega
  ·have:=b i (by omega);omega
theorem Ls {g:Nat->Int} {M:Int} (M0:0<=M):∀ n,(∀ i,i<n->-M<=g i/\g i<=M)->dI g n<=M:=by
 intro n;induction n with
 | zero=>intro _;exact M0
 | succ n ih =>
  intro h;have a:=ih fun i hi=>h i (by omega)
  have b:=h n (by omega)
  show max (max (dI g n) (g n)) (-(g n))<=M;omega
def cC (k:Int) (sl ic:Nat) (fr to:Int) (f:Nat->Int) (i:Nat):Int:=cP k sl ic fr to (f i)-(fr+i)
def qL (k:Int) (sl ic:Nat) (fr to:Int) (n:Nat) (f:Nat->Int) (N er:Int):Prop :=
 (cg sl ic fr to≠0/\N=0/\er=cg sl ic fr to) \/
 (cg sl ic fr to=0/\¬ ((n:Int)=to-fr/\f 0=k/\Up f n)/\N=0/\er=1) \/
 (cg sl ic fr to=0/\((n:Int)=to-fr/\f 0=k/\Up f n)/\N=dI (cC k sl ic fr to f) n/\er=0)
theorem Y' (h:cg sl ic fr to=0) (k0:0<=k) (hn:(n:Int)=to-fr) (bd:∀ i,i<n->0<=f i/\f i<18446744073709551616):∀ i,i<n->-4294967296<=cC k sl ic fr to f i/\cC k sl ic fr to f i<=4294967296:=by
 intro i hi;obtain ⟨a,b,c,d,e⟩:=ma.1 h;have:=zx h k0 (bd i hi).2;unfold cC;omega
theorem Za (t:Int) (h0:-9007199254740992<=t) (h1:t<=9007199254740992):rg (floatOfInt .f64 t)<9218868437227405312/\SV (floatOfInt .f64 t)=t*Un:=by
 obtain ⟨b,hb,e⟩:=Dj t.natAbs (by omega)
 rw [K3 t b hb e];refine ⟨by rw [uZ _ _ (by omega)];exact hb,?_⟩
 rw [La _ _ (by omega),e]
 by_cases n:t<0
 ·rw [if_pos (decide_eq_true n)]
  have:(t.natAbs:Int)=-t:=by omega
  rw [Int.natCast_mul,this,Int.neg_mul,Int.neg_neg]
 ·rw [if_neg (by simpa using n)]
  have:(t.natAbs:Int)=t:=by omega
  rw [Int.natCast_mul,this]
theorem Zb {e:Int} {a b:Int} (he:0<=e) (u:Up f n) (h:bK e f (aB n) a b):a<=b:=by
 have b1:=h.b1;rcases h.att with q | ⟨i,j,s,m,r⟩
 ·omega
 ·have a0:=h.a0
  have D:(j:Int)-i<=f j-f i:=by
   obtain ⟨s1,s2⟩:=s;have:∀ t:Nat,i+t<n->(t:Int)<=f (i+t)-f i:=by
    intro t;induction t with
    | zero=>intro _;simp
    | succ t ih =>
     intro ht;have x:=ih (by omega)
     have y:=u (i+t) (by omega)
     have z:i+(t+1)=i+t+1:=rfl;rw [z];omega
   have k:=this (j-i) (by omega)
   rw [show i+(j-i)=j by omega] at k
   omega
  have k1:a*((j:Int)-i-2*e)<=a*(f j-f i):=Int.mul_le_mul_of_nonneg_left (by omega) a0
  rw [<-r,Int.mul_comm] at k1;exact Int.le_of_mul_le_mul_left k1 m
theorem Zc (b0:0<b) (h:a<=b) (hs:Nr (a*Un) b s):s<=4607182418800017408:=by
 refine hs.mono (Nr.of_eq (x:=Un) (y:=1) (by decide) (by rw [V1];omega)) b0 (by decide) ?_
 rw [Nat.mul_one,Nat.mul_comm Un];exact Nat.mul_le_mul_right _ h
theorem Lt {eps:Int} {a b c:Int} (h:dP eps f n a b c 0) (hn:n<=100000000) (bd:∀ i,i<n->0<=f i/\f i<18446744073709551616) (a1:a<18446744073709551616) (b1:b<18446744073709551616)
  (f0:0<=fr) (f1:fr+n<=4294967296) (hs:Nr (a.toNat*Un) b.toNat s) :
  cg s (floatOfInt .f64 (fr+c)) fr (fr+n)=0/\∀ i,i<n->-eps<=cC (f 0) s (floatOfInt .f64 (fr+c)) fr (fr+n) f i/\cC (f 0) s (floatOfInt .f64 (fr+c)) fr (fr+n) f i<=eps:=by
 rcases h with ⟨_,_,_,_,h⟩ | ⟨_,_,_,_,_,h⟩ | ⟨_,_,_,_,_,_,h⟩ | ⟨ke,⟨n0,u⟩,F,L,B,_⟩
 ·cases h
 ·cases h
 ·cases h
 have a0:=L.a0;have bb:=L.b1;obtain ⟨st,c0,c1⟩:=Kh ke u n0 hn F L (Ki (by omega) u L F) B
 obtain ⟨wf,ws⟩:=Za (fr+c) (by omega) (by omega)
 have s1:=Zc (b:=b.toNat) (by omega) (by have:=Zb (by omega) u L;omega) hs
 have er:cg s (floatOfInt .f64 (fr+c)) fr (fr+n)=0:=ma.2 ⟨f0,by omega,f1,by omega,wf⟩
 refine ⟨er,fun i hi=>?_⟩
 have d0:=u.le (Nat.zero_le i) hi;have bi:=bd i hi;have Dq:=bd 0 n0;obtain ⟨-,l1,l2⟩:=st i hi;have sm:=uO (e:=eps-1) (by omega) u L F hi
 obtain ⟨d,hd⟩:∃ d:Nat,f i-f 0=d:=⟨(f i-f 0).toNat,by omega⟩
 obtain ⟨A,rfl⟩:∃ A:Nat,a=A:=⟨a.toNat,by omega⟩
 obtain ⟨Bn,rfl⟩:∃ Bn:Nat,b=Bn:=⟨b.toNat,by omega⟩
 rw [Int.toNat_natCast,Int.toNat_natCast] at hs;rw [hd] at l1 l2 sm;have q:(A:Int)*d/Bn=((A*d/Bn:Nat):Int):=by rw [Int.natCast_ediv,Int.natCast_mul]
 rw [q] at l1 l2 sm;obtain ⟨y,p,r,v,hy,ey,hp,ep,hr,ev,fv,sv,-,-⟩:=vf (sl:=s) (ic:=floatOfInt .f64 (fr+c)) (far:=d) (by omega) wf (by omega)
 rw [ws] at hr sv;have hq:A*d<=17179869184*Bn:=by
  have x:=Nat.div_add_mod (A*d) Bn;have z:=Nat.mod_lt (A*d) (show 0<Bn by omega)
  have k:A*d/Bn+1<=17179869184:=by omega
  have k2:=Nat.mul_le_mul_right Bn k;rw [Nat.add_mul,Nat.mul_comm (A*d/Bn)] at k2;omega
 obtain ⟨g1,g2⟩:=YR (a:=A) (b:=Bn) (d:=d) (c:=fr+c) (by omega) (by omega) (by omega) (by omega) hs hy hp hq (by omega) (by omega) hr
 unfold cC;rw [zw er Dq.1 bi.2,hd,Int.toNat_natCast,vg ey ep ev];have fl:c9 v=iw ((V p:Int)+(fr+c)*Un) r/Un:=by unfold c9;rw [sv]
 rw [fl];have:=YQ (t:=iw ((V p:Int)+(fr+c)*Un) r/Un) (lo:=fr) (hi:=fr+n) (x:=fr+i) (k:=eps) (by omega) (by omega) (by omega) (by omega) (by omega)
 omega
theorem Zd (x:Nat) (hx:x<18446744073709551616):decide (wrap64 (x:Int)<0)=decide (9223372036854775808<=x):=by
 rw [decide_eq_decide];unfold wrap64;omega
theorem Ze (x:Nat) (hx:x<18446744073709551616) (w:World) :
  Calls prog 195 #[.float .f64 x] w fun e w'=>e=.returned (.bool (decide (9223372036854775808<=x)))/\w'=w:=by
 have h:=Zd x hx;go_enter func195,ntmps195;go_wp2_with (simp only [Dm]);go_ret;exact ⟨rfl,rfl⟩
theorem Zf (h:4611686018427387904<x) (n:¬ 9218868437227405312<rg x) (p:x<9223372036854775808):zt x=true:=by
 have r:=qK p;unfold zt;rw [fmt];rcases Nat.lt_trichotomy (rg x) 9218868437227405312 with q | q | q
 ·rw [zj q (by decide),ve (x:=x) (by omega),ve (by decide)]
  have:=tg h
  simp;omega
 ·unfold Ieee.Format.order;rw [uY q,iQ (by decide),zu (x:=x) (by omega)]
  simp [Ieee.Datum.order]
 ·exact absurd q n
theorem Dr (k:Int) (sl ic:Nat) (fr tu:Int) (s1:sl<18446744073709551616) (i1:ic<18446744073709551616) (w:World) :
  Calls prog 170 #[eC k sl ic fr tu] w fun e w'=>e=.returned (AI (cg sl ic fr tu))/\Gw w w':=by
 have G0:ag (Gw w (w.alloc (.cells #[By k,.float .f64 sl,.float .f64 ic,AI fr,AI tu] 145))):=(Gw.refl w).alloc _ _;have NS:ag _:=fun W=>tF sl W
 have NI:ag _:=fun W=>tF ic W
 have SB:ag _:=fun W=>Ze sl s1 W
 have II:ag _:=fun W=>Yz ic i1 W
 unfold cg;by_cases h:fr<0\/tu<=fr\/4294967296<tu
 ·rw [if_pos h]
  by_cases h1:fr<0
  ·have t1:decide (fr<0)=true:=by simpa using h1
   clear h h1;go_enter func170,ntmps170;go_wp2_with fail;exact bodyPost_ret (v:=AI 70) (by simp [results,results170,go_sem]) rfl ⟨rfl,G0.o⟩
  ·have t1:decide (fr<0)=false:=by simpa using h1
   by_cases h2:tu<=fr
   ·have t2:decide (tu<=fr)=true:=by simpa using h2
    clear h h1 h2;go_enter func170,ntmps170;go_wp2_with fail;exact bodyPost_ret (v:=AI 70) (by simp [results,results170,go_sem]) rfl ⟨rfl,G0.o⟩
   ·have t2:decide (tu<=fr)=false:=by simpa using h2
    have t3:decide (4294967296<tu)=true:=by simp;omega
    clear h h1 h2;go_enter func170,ntmps170;go_wp2_with fail;exact bodyPost_ret (v:=AI 70) (by simp [results,results170,go_sem]) rfl ⟨rfl,G0.o⟩
 ·rw [if_neg h]
  have t1:decide (fr<0)=false:=by simp;omega
  have t2:decide (tu<=fr)=false:=by simp;omega
  have t3:decide (4294967296<tu)=false:=by simp;omega
  clear h;by_cases h1:4611686018427387904<sl
  ·rw [if_pos h1]
   by_cases hn:9218868437227405312<rg sl
   ·have q:decide (9218868437227405312<rg sl)=true:=by simpa using hn
    rw [q] at NS;clear hn h1 q;go_enter func170,ntmps170;go_wp2_with (go_at_call 194;refine (NS.o _).mono ?_;rintro e w' ⟨rfl,rfl⟩);exact bodyPost_ret (v:=AI 71) (by simp [results,results170,go_sem]) rfl ⟨rfl,G0.o⟩
   ·have q:decide (9218868437227405312<rg sl)=false:=by simpa using hn
    rw [q] at NS;by_cases hp:sl<9223372036854775808
    ·have q1:decide (9223372036854775808<=sl)=false:=by simpa using hp
     have q2:(FloatKind.f64.format.order sl 4611686018427387904 == some .gt)=true:=Zf h1 hn hp;rw [q1] at SB;clear hn h1 q q1 hp;go_enter func170,ntmps170;go_wp2_with (first | (go_at_call 194;refine (NS.o _).mono ?_;rintro e w' ⟨rfl,rfl⟩) | (go_at_call 195;refine (SB.o _).mono ?_;rintro e w' ⟨rfl,rfl⟩))
     exact bodyPost_ret (v:=AI 71) (by simp [results,results170,go_sem]) rfl ⟨rfl,G0.o⟩
    ·have q1:decide (9223372036854775808<=sl)=true:=by simpa using hp
     rw [q1] at SB;clear hn h1 q q1 hp;go_enter func170,ntmps170;go_wp2_with (first | (go_at_call 194;refine (NS.o _).mono ?_;rintro e w' ⟨rfl,rfl⟩) | (go_at_call 195;refine (SB.o _).mono ?_;rintro e w' ⟨rfl,rfl⟩))
     exact bodyPost_ret (v:=AI 71) (by simp [results,results170,go_sem]) rfl ⟨rfl,G0.o⟩
  ·rw [if_neg h1]
   obtain ⟨-,-,q2⟩:=Y3 (x:=sl) (by omega)
   have nB:(FloatKind.f64.format.order sl 4611686018427387904 == some .gt)=false:=q2;have q:decide (9218868437227405312<rg sl)=false:=by rw [qK (by omega)];simp;omega
   have q1:decide (9223372036854775808<=sl)=false:=by simp;omega
   rw [q] at NS;rw [q1] at SB;clear q q1 q2 h1;by_cases h2:9218868437227405312<=rg ic
   ·rw [if_pos h2]
    by_cases hn:9218868437227405312<rg ic
    ·have q:decide (9218868437227405312<rg ic)=true:=by simpa using hn
     rw [q] at NI;clear hn h2 q;go_enter func170,ntmps170;go_wp2_with (first | (go_at_call 194;refine (NS.o _).mono ?_;rintro e w' ⟨rfl,rfl⟩) | (go_at_call 195;refine (SB.o _).mono ?_;rintro e w' ⟨rfl,rfl⟩) | (go_at_call 194;refine (NI.o _).mono ?_;rintro e w' ⟨rfl,rfl⟩))
     exact bodyPost_ret (v:=AI 72) (by simp [results,results170,go_sem]) rfl ⟨rfl,G0.o⟩
    ·have q:decide (9218868437227405312<rg ic)=false:=by simpa using hn
     have q1:decide (rg ic=9218868437227405312)=true:=by simp;omega
     rw [q] at NI;rw [q1] at II;clear hn h2 q q1;go_enter func170,ntmps170;go_wp2_with (first | (go_at_call 194;refine (NS.o _).mono ?_;rintro e w' ⟨rfl,rfl⟩) | (go_at_call 195;refine (SB.o _).mono ?_;rintro e w' ⟨rfl,rfl⟩) | (go_at_call 194;refine (NI.o _).mono ?_;rintro e w' ⟨rfl,rfl⟩) | (go_at_call 196;refine (II.o _).mono ?_;rintro e w' ⟨rfl,rfl⟩))
     exact bodyPost_ret (v:=AI 72) (by simp [results,results170,go_sem]) rfl ⟨rfl,G0.o⟩
   ·rw [if_neg h2]
    have q:decide (9218868437227405312<rg ic)=false:=by simp;omega
    have q1:decide (rg ic=9218868437227405312)=false:=by simp;omega
    rw [q] at NI;rw [q1] at II;clear h2 q q1;go_enter func170,ntmps170;go_wp2_with (first | (go_at_call 194;refine (NS.o _).mono ?_;rintro e w' ⟨rfl,rfl⟩) | (go_at_call 195;refine (SB.o _).mono ?_;rintro e w' ⟨rfl,rfl⟩) | (go_at_call 194;refine (NI.o _).mono ?_;rintro e w' ⟨rfl,rfl⟩) | (go_at_call 196;refine (II.o _).mono ?_;rintro e w' ⟨rfl,rfl⟩))
    exact bodyPost_ret (v:=AI 0) (by simp [results,results170,go_sem]) rfl ⟨rfl,G0.o⟩
theorem Lu (k:Int) (sl ic:Nat) (fr tu q:Int) (k0:0<=k) (k1:k<18446744073709551616) (q0:0<=q) (q1:q<18446744073709551616) (h:cg sl ic fr tu=0) (w:World) :
  Calls prog 198 #[eC k sl ic fr tu,By q] w fun e w'=>e=.returned (AI (cP k sl ic fr tu q))/\Gw w w':=by
 obtain ⟨a,b,c,d,e⟩:=ma.1 h;obtain ⟨y,p,r,v,hy,ey,hp,ep,hr,ev,fv,sv,-,-⟩:=vf (far:=(q-k).toNat) d e (by omega)
 have V:ag (cP k sl ic fr tu q=nA v fr tu):=by
  show cP k sl ic fr tu q=nA v fr tu;unfold cP;rw [if_pos h,vg ey ep ev]
 have A:ag _:=fun W=>(YD sl y (q-k).toNat ic (by omega) ey W).mono fun ex w' (hx:(∃ r,ex=.returned (.float .f64 r)/\AL sl y ic r)/\∃ n,w'=W.drewN n) =>
  show ex=.returned (.float .f64 v)/\Gw W w' from ⟨(by obtain ⟨⟨r,e1,al⟩,-⟩:=hx;rw [e1,al.is ep ev]),(by obtain ⟨-,n,e2⟩:=hx;rw [e2];exact (Gw.refl W).drewN n)⟩
 have L:ag _:=fun W=>YM v fr tu (by omega) (by omega) (by omega) (by omega) W
 have HK:ag (∀ w',Gw (w.alloc (.cells #[By k,.float .f64 sl,.float .f64 ic,AI fr,AI tu] 145)) w'->Gw (w.alloc (.cells #[By k,.float .f64 sl,.float .f64 ic,AI fr,AI tu] 145)) w'/\w'.cell? ⟨w.heap.size,1,none⟩=some (.float .f64 sl)/\w'.cell? ⟨w.heap.size,2,none⟩=some (.float .f64 ic)/\w'.cell? ⟨w.heap.size,3,none⟩=some (AI fr)/\w'.cell? ⟨w.heap.size,4,none⟩=some (AI tu)) :=
  fun w' g=>⟨g,(g.cell _ _ (by simp)).trans (by simp [go_sem]),(g.cell _ _ (by simp)).trans (by simp [go_sem]),(g.cell _ _ (by simp)).trans (by simp [go_sem]),(g.cell _ _ (by simp)).trans (by simp [go_sem])⟩
 rw [V.o];have G0:ag (Gw w (w.alloc (.cells #[By k,.float .f64 sl,.float .f64 ic,AI fr,AI tu] 145))):=(Gw.refl w).alloc _ _;clear hy ey hp ep hr ev fv sv h a b c d e;by_cases g:q<k
 ·have wz:((q-k).toNat:Int)=0:=by omega
  rw [wz] at A;go_enter func198,ntmps198;go_wp2_with fail;go_region_held3 (fun w'=>Gw (w.alloc (.cells #[By k,.float .f64 sl,.float .f64 ic,AI fr,AI tu] 145)) w'/\w'.cell? ⟨w.heap.size,1,none⟩=some (.float .f64 sl)/\w'.cell? ⟨w.heap.size,2,none⟩=some (.float .f64 ic)/\w'.cell? ⟨w.heap.size,3,none⟩=some (AI fr)/\w'.cell? ⟨w.heap.size,4,none⟩=some (AI tu))
   ((refine HK.o _ ?_;(repeat (first | exact Gw.refl _ | exact And.left (by assumption) | exact ag.o (by assumption) | refine Gw.drew ?_ | refine Gw.trans ?_ (by assumption)));done))
   (first
   | (go_at_call 210;refine (A.o _).mono ?_;rintro ex w2 ⟨rfl,g2⟩;have G2:ag (Gw (w.alloc (.cells #[By k,.float .f64 sl,.float .f64 ic,AI fr,AI tu] 145)) w2):=(Gw.trans (by repeat (first | exact Gw.refl _ | exact And.left (by assumption) | exact ag.o (by assumption) | refine Gw.drew ?_)) g2);clear g2)
   | (go_at_call 209;refine (L.o _).mono ?_;rintro ex w3 ⟨rfl,rfl⟩))
  all_goals go_wp2_with fail
  all_goals exact bodyPost_ret (v:=AI (nA v fr tu)) (by simp [results,results198,go_sem]) rfl ⟨rfl,Gw.trans G0.o (by repeat (first | exact Gw.refl _ | exact And.left (by assumption) | exact ag.o (by assumption) | refine Gw.drew ?_ | refine Gw.trans ?_ (by assumption)))⟩
 ·have mz:IntKind.u64.wrap (q-k)=((q-k).toNat:Int):=by rw [IntKind.wrap_u64];omega
  generalize (q-k).toNat=D at A mz;go_enter func198,ntmps198;go_wp2_with fail;go_region_held3 (fun w'=>Gw (w.alloc (.cells #[By k,.float .f64 sl,.float .f64 ic,AI fr,AI tu] 145)) w'/\w'.cell? ⟨w.heap.size,1,none⟩=some (.float .f64 sl)/\w'.cell? ⟨w.heap.size,2,none⟩=some (.float .f64 ic)/\w'.cell? ⟨w.heap.size,3,none⟩=some (AI fr)/\w'.cell? ⟨w.heap.size,4,none⟩=some (AI tu))
   ((refine HK.o _ ?_;(repeat (first | exact Gw.refl _ | exact And.left (by assumption) | exact ag.o (by assumption) | refine Gw.drew ?_ | refine Gw.trans ?_ (by assumption)));done))
   (first
   | (go_at_call 210;refine (A.o _).mono ?_;rintro ex w2 ⟨rfl,g2⟩;have G2:ag (Gw (w.alloc (.cells #[By k,.float .f64 sl,.float .f64 ic,AI fr,AI tu] 145)) w2):=(Gw.trans (by repeat (first | exact Gw.refl _ | exact And.left (by assumption) | exact ag.o (by assumption) | refine Gw.drew ?_)) g2);clear g2)
   | (go_at_call 209;refine (L.o _).mono ?_;rintro ex w3 ⟨rfl,rfl⟩))
  all_goals go_wp2_with fail
  all_goals exact bodyPost_ret (v:=AI (nA v fr tu)) (by simp [results,results198,go_sem]) rfl ⟨rfl,Gw.trans G0.o (by repeat (first | exact Gw.refl _ | exact And.left (by assumption) | exact ag.o (by assumption) | refine Gw.drew ?_ | refine Gw.trans ?_ (by assumption)))⟩
theorem Zg (k:Int) (sl ic:Nat) (fr tu q:Int) (k0:0<=k) (k1:k<18446744073709551616) (s1:sl<18446744073709551616) (i1:ic<18446744073709551616) (q0:0<=q) (q1:q<18446744073709551616) (w:World) :
  Calls prog 181 #[eC k sl ic fr tu,By q] w fun e w'=>e=.returned (AI (cP k sl ic fr tu q))/\Gw w w':=by
 have G0:ag (Gw w (w.alloc (.cells #[By k,.float .f64 sl,.float .f64 ic,AI fr,AI tu] 145))):=(Gw.refl w).alloc _ _;have C:ag _:=fun W=>Dr k sl ic fr tu s1 i1 W
 by_cases h:cg sl ic fr tu=0
 ·have P:ag _:=fun W=>Lu k sl ic fr tu q k0 k1 q0 q1 h W
  rw [h] at C;generalize cP k sl ic fr tu q=g at *;clear h;go_enter func181,ntmps181;go_wp2_with fail;refine (C.o _).mono ?_;rintro ex w1 ⟨rfl,g1⟩;have x0:w1.cell? ⟨w.heap.size,0,none⟩=some (By k):=(g1.cell _ _ (by simp)).trans (by simp [go_sem])
  have x1:w1.cell? ⟨w.heap.size,1,none⟩=some (.float .f64 sl):=(g1.cell _ _ (by simp)).trans (by simp [go_sem])
  have x2:w1.cell? ⟨w.heap.size,2,none⟩=some (.float .f64 ic):=(g1.cell _ _ (by simp)).trans (by simp [go_sem])
  have x3:w1.cell? ⟨w.heap.size,3,none⟩=some (AI fr):=(g1.cell _ _ (by simp)).trans (by simp [go_sem])
  have x4:w1.cell? ⟨w.heap.size,4,none⟩=some (AI tu):=(g1.cell _ _ (by simp)).trans (by simp [go_sem])
  have l1:w.heap.size<w1.heap.size:=by have:=g1.size;simp at this;omega
  have G:ag _:=G0.o.trans g1;clear g1 G0;go_wp2_with fail;refine (P.o _).mono ?_;rintro ex w2 ⟨rfl,g2⟩;go_wp2_with fail;exact bodyPost_ret (v:=AI g) (by simp [results,results181,go_sem]) rfl ⟨rfl,G.o.trans g2⟩
 ·have t1:(cg sl ic fr tu != 0)=true:=by simpa using h
  have V:cP k sl ic fr tu q=0:=if_neg h;rw [V];generalize cg sl ic fr tu=er at *;clear V h;go_enter func181,ntmps181;go_wp2_with fail;refine (C.o _).mono ?_;rintro ex w1 ⟨rfl,g1⟩;have G:ag _:=G0.o.trans g1;clear g1 G0;go_wp2_with fail;exact bodyPost_ret (v:=AI 0) (by simp [results,results181,go_sem]) rfl ⟨rfl,G.o⟩
theorem KS.drawn {w wr:World} {ao:Option Addr} (h:KS w ao n f) (g:∃ m,wr=w.drewN m):KS wr ao n f:=by
 obtain ⟨m,rfl⟩:=g;exact h.gw ((Gw.refl w).drewN m)
theorem Lv (x:Int) (w:World):Calls prog 141 #[By x] w fun e w'=>e=.returned (By x)/\w'=w:=by
 go_enter func141,ntmps141;go_wp2;go_ret;exact ⟨rfl,rfl⟩
theorem Zh (ao:Option Addr) (n c:Nat) (f:Nat->Int) (hn:n<4611686018427387904) (w:World) (h:KS w ao n f) :
  Calls prog 140 #[.slice ao n c,.func (.func 141) #[] #[]] w fun e w'=>(∃ r:Nat,e=.returned (AI r)/\r<=n/\(∀ j,j+1<r->f j<f (j+1))/\(r<n->1<=r/\f r<=f (r-1)))/\∃ m,w'=w.drewN m:=by
 go_enter func140,ntmps140;go_wp2_with fail;go_loopg [5] n (fun gg s5 wr=>∃ i:Nat,s5=AI i/\1<=i/\(i<=n\/i=1)/\n-i<=gg/\ag (∀ j,j+1<i->f j<f (j+1))/\ag (∃ m,wr=w.drewN m))
 case atStart=>exact ⟨1,rfl,Nat.le_refl _,.inr rfl,by omega,fun j hj=>by omega,⟨0,rfl⟩⟩
 case round =>
  obtain ⟨i,rfl,h1,h2,h3,H4,G⟩:=hrel;by_cases ar:i<n
  ·obtain ⟨b,off,rfl,hb,hc⟩:=(KS.drawn h G.o).cells (by omega)
   obtain ⟨m,hm⟩:∃ m:Nat,(i:Int)-1=m:=⟨i-1,by omega⟩
   have nj:m<n:=by omega
   have hw:=qu m (by omega)
   have c1:=hc i ar;have c0:=hc m nj;clear hc;generalize iu:f i=y1 at c1;generalize iv:f m=y0 at c0;have Y:ag (f i=y1/\f m=y0/\i=m+1):=⟨iu,iv,by omega⟩
   clear iu iv h h2;by_cases hle:y1<=y0
   ·go_wp2_with fail
    go_quiet (first | (go_at_call 141;refine Calls.quiet_of_same (Lv _ _)))
    go_wp2_with fail;go_ret
    obtain ⟨e1,e2,e3⟩:=Y.o;refine ⟨⟨i,rfl,by omega,H4.o,fun _=>⟨h1,?_⟩⟩,?_⟩
    ·rw [e1,show i-1=m by omega,e2];exact hle
    ·obtain ⟨m,e⟩:=G.o;exact ⟨_,by rw [e,World.drewN_drewN]⟩
   ·go_wp2_with fail
    go_quiet (first | (go_at_call 141;refine Calls.quiet_of_same (Lv _ _)))
    go_wp2_with fail;go_roundg (n-(m+2))
    case measure=>omega
    case rel =>
     obtain ⟨e1,e2,e3⟩:=Y.o;refine ⟨m+2,by go_num,by omega,by omega,Nat.le_refl _,(show ag _ from fun j hj=>?_),(show ag _ from by obtain ⟨m,e⟩:=G.o;exact ⟨_,by rw [e,World.drewN_drewN]⟩)⟩
     by_cases kW:j=m
     ·subst kW;rw [e2,<-e3,e1];omega
     ·exact H4.o j (by omega)
  ·go_wp2_with fail
   go_ret
   exact ⟨⟨n,rfl,Nat.le_refl _,fun j hj=>H4.o j (by omega),fun hh=>by omega⟩,G.o⟩
theorem Zi (ao:Option Addr) (n c:Nat) (f:Nat->Int) (hn:n<4611686018427387904) (w:World) (h:KS w ao n f) :
  Calls prog 119 #[.slice ao n c] w fun e w'=>(∃ r:Bool,e=.returned (.bool r)/\(r=true↔Up f n))/\∃ m,w'=w.drewN m:=by
 go_enter func119,ntmps119;go_wp2_with fail;refine (Zh ao n c f hn w h).mono ?_;rintro e w1 ⟨⟨r,rfl,h1,h2,h3⟩,g1⟩;have H:ag ((∀ j,j+1<r->f j<f (j+1))/\(r<n->1<=r/\f r<=f (r-1))):=⟨h2,h3⟩;clear h2 h3;go_wp2_with fail;go_ret;obtain ⟨h2,h3⟩:=H.o;refine ⟨⟨_,rfl,?_⟩,g1⟩;unfold Up;by_cases hr:r=n
 ·subst hr;simpa using h2
 ·have q:=h3 (by omega)
  have:¬ ((r:Int)=n):=by omega
  simp only [beq_iff_eq];constructor
  ·intro hh;omega
  ·intro hh
   have:=hh (r-1) (by omega)
   rw [show r-1+1=r by omega] at this
   omega
theorem Zj (ao:Option Addr) (n c:Nat) (f:Nat->Int) (hn:n<4611686018427387904) (w:World) (h:KS w ao n f) :
  Calls prog 197 #[.slice ao n c] w fun e w'=>(∃ r:Bool,e=.returned (.bool r)/\(r=true↔Up f n))/\∃ m,w'=w.drewN m:=by
 have HK:ag (Calls prog 119 #[.slice ao n c] w fun e w'=>(∃ r:Bool,e=.returned (.bool r)/\(r=true↔Up f n))/\∃ m,w'=w.drewN m):=Zi ao n c f hn w h
 clear h;go_enter func197,ntmps197;go_wp2_with fail;refine (HK.o).mono ?_;rintro e w1 ⟨⟨r,rfl,hr⟩,m,rfl⟩;have HR:ag _:=hr;clear hr;go_wp2_with fail;go_ret;exact ⟨⟨r,rfl,HR.o⟩,m,rfl⟩
theorem Zk (k:Int) (sl ic:Nat) (fr tu:Int) (k0:0<=k) (k1:k<18446744073709551616) (Zl:sl<18446744073709551616) (Zm:ic<18446744073709551616) (Ds:-9223372036854775808<=fr) (hf1:fr<9223372036854775808) (Dt:-9223372036854775808<=tu) (ht1:tu<9223372036854775808) (ao:Option Addr) (n cp:Nat) (f:Nat->Int) (hn:n<4611686018427387904) (w:World) (K:KS w ao n f) :
  Calls prog 171 #[eC k sl ic fr tu,.slice ao n cp] w fun e w'=>(∃ N er:Int,e=.returned (.tuple #[AI N,AI er])/\qL k sl ic fr tu n f N er)/\Gw w w':=by
 have G0:ag (Gw w (w.alloc (.cells #[By k,.float .f64 sl,.float .f64 ic,AI fr,AI tu] 145))):=(Gw.refl w).alloc _ _;have C:ag _:=fun W=>Dr k sl ic fr tu Zl Zm W
 have GU:ag _:=fun (he:cg sl ic fr tu=0) (q:Int) (q0:0<=q) (q1:q<18446744073709551616) W=>Lu k sl ic fr tu q k0 k1 q0 q1 he W
 have RI:ag _:=fun W (g:Gw w W)=>Zj ao n cp f hn W (K.gw g)
 have K':ag _:=K;clear K;by_cases h:cg sl ic fr tu=0
 ·obtain ⟨a,b,c,d,e⟩:=ma.1 h
  have h':ag _:=h;rw [h] at C;clear h d e;go_enter func171,ntmps171;go_wp2_with fail;refine (C.o _).mono ?_;rintro ex w1 ⟨rfl,g1⟩;have x0:w1.cell? ⟨w.heap.size,0,none⟩=some (By k):=(g1.cell _ _ (by simp)).trans (by simp [go_sem])
  have x1:w1.cell? ⟨w.heap.size,1,none⟩=some (.float .f64 sl):=(g1.cell _ _ (by simp)).trans (by simp [go_sem])
  have x2:w1.cell? ⟨w.heap.size,2,none⟩=some (.float .f64 ic):=(g1.cell _ _ (by simp)).trans (by simp [go_sem])
  have x3:w1.cell? ⟨w.heap.size,3,none⟩=some (AI fr):=(g1.cell _ _ (by simp)).trans (by simp [go_sem])
  have x4:w1.cell? ⟨w.heap.size,4,none⟩=some (AI tu):=(g1.cell _ _ (by simp)).trans (by simp [go_sem])
  have s1:w.heap.size<w1.heap.size:=by have:=g1.size;simp at this;omega
  have G:ag _:=G0.o.trans g1;clear g1 G0 C;obtain ⟨S,hS⟩:∃ S,tu-fr=S:=⟨_,rfl⟩;have wz:IntKind.i64.wrap (tu-fr)=S:=by rw [IntKind.wrap_i64];omega
  have Lw:ag (∀ w',Gw w1 w'->w'.cell? ⟨w.heap.size,0,none⟩=some (By k)/\w'.cell? ⟨w.heap.size,1,none⟩=some (.float .f64 sl)/\w'.cell? ⟨w.heap.size,2,none⟩=some (.float .f64 ic)/\w'.cell? ⟨w.heap.size,3,none⟩=some (AI fr)/\w'.cell? ⟨w.heap.size,4,none⟩=some (AI tu)) :=
   fun w' g=>⟨(g.cell _ _ s1).trans x0,(g.cell _ _ s1).trans x1,(g.cell _ _ s1).trans x2,(g.cell _ _ s1).trans x3,(g.cell _ _ s1).trans x4⟩
  by_cases h1:(n:Int)=S
  ·have n0:0<n:=by omega
   obtain ⟨bk,off,rfl,hb,hc⟩:=(K'.o.gw G.o).cells n0;have t1:((n:Int) != S)=false:=by simpa using h1
   have c0:w1.cell? ⟨bk,off,none⟩=some (By (f 0)):=hc 0 n0;obtain ⟨f0,hf⟩:∃ f0,f 0=f0:=⟨_,rfl⟩;rw [hf] at c0;have tH:(f 0=k)↔(f0=k):=by rw [hf]
   by_cases hu:Up f n
   ·have U:ag (Up f n):=hu
    have RT:ag (∀ m,Calls prog 197 #[.slice (some ⟨bk,off,none⟩) n cp] (w1.drewN m) fun e w'=>e=.returned (.bool true)/\∃ m',w'=(w1.drewN m).drewN m'):=fun m =>
     (RI.o (w1.drewN m) (G.o.drewN m)).mono fun ex w' (hx:(∃ r:Bool,ex=.returned (.bool r)/\(r=true↔Up f n))/\∃ m',w'=(w1.drewN m).drewN m')=>⟨(by
      obtain ⟨⟨r,e1,e2⟩,-⟩:=hx;have:r=true:=by exact e2.2 hu
      rw [e1,this]),hx.2⟩
    clear hu RI;by_cases h2:f0=k
    ·have t2:(f0 != k)=false:=by simpa using h2
     have FC:ag ((n:Int)=tu-fr/\f 0=k/\∀ i,i<n->w1.cell? ⟨bk,off+i,none⟩=some (By (f i))):=⟨h1.trans hS.symm,hf.trans h2,hc⟩;clear h1 h2 hf hS hc tH;go_wp2_with fail;go_quiet (first | (go_at_call 197;refine Calls.quiet_of (RT.o _)))
     go_wp2_with fail;go_loopg [7,39] n (fun gg s7 s8 wr=>∃ i:Nat,s7=AI (dI (cC k sl ic fr tu f) i)/\s8=AI i/\i<=n/\n-i<=gg/\ag (Gw w1 wr))
     case atStart=>exact ⟨0,rfl,rfl,Nat.zero_le _,by omega,(Gw.refl _).drewN _⟩
     case round =>
      obtain ⟨i,rfl,rfl,h2,h3,GR⟩:=hrel;by_cases ar:i<n
      ·obtain ⟨y0,y1,y2,y3,y4⟩:=Lw.o _ GR.o
       have ci:=(GR.o.cell _ _ hb).trans (FC.o.2.2 i ar);have lb:=Nat.lt_of_lt_of_le hb GR.o.size;have ls:=Nat.lt_of_lt_of_le s1 GR.o.size;have bi:=K'.o.bd i ar;have aw:=Y' h'.o k0 FC.o.1 K'.o.bd;have Zn:=zx (q:=f i) h'.o k0 bi.2;have wi:=(Lr (cC k sl ic fr tu f) i).1;have wl:=Ls (g:=cC k sl ic fr tu f) (M:=4294967296) (by decide) i (fun j hj=>aw j (by omega))
       have ai:=aw i ar;clear aw;have ae:cC k sl ic fr tu f i=cP k sl ic fr tu (f i)-(fr+i):=rfl;have WS:ag (dI (cC k sl ic fr tu f) (i+1)=max (max (dI (cC k sl ic fr tu f) i) (cC k sl ic fr tu f i)) (-(cC k sl ic fr tu f i))):=rfl;have GI:ag _:=fun W=>GU.o h'.o (f i) bi.1 bi.2 W
       generalize dI (cC k sl ic fr tu f) i=Wi at *;generalize cP k sl ic fr tu (f i)=gi at *;generalize cC k sl ic fr tu f i=D at *;obtain ⟨E,hE⟩:∃ E,fr+(i:Int)=E:=⟨_,rfl⟩;rw [hE] at ae;obtain ⟨M,hM⟩:∃ M,-D=M:=⟨_,rfl⟩;rw [hM] at WS;have je:(i:Int)<tu-fr:=by have:=FC.o.1;omega
       have z1:IntKind.i64.wrap (fr+(i:Int))=E:=by rw [IntKind.wrap_i64];omega
       have z2:IntKind.i64.wrap (gi-E)=D:=by rw [IntKind.wrap_i64];omega
       have z3:IntKind.i64.wrap (-D)=M:=by rw [IntKind.wrap_i64];omega
       generalize f i=yi at *;clear ae hE hM wi wl ai Zn bi je;rename_i wr _ _ _ _;have HW:ag (∀ w',Gw wr w'->Gw wr w'/\w'.cell? ⟨w.heap.size,0,none⟩=some (By k)/\w'.cell? ⟨w.heap.size,1,none⟩=some (.float .f64 sl)/\w'.cell? ⟨w.heap.size,2,none⟩=some (.float .f64 ic)/\w'.cell? ⟨w.heap.size,3,none⟩=some (AI fr)/\w'.cell? ⟨w.heap.size,4,none⟩=some (AI tu)/\w'.cell? ⟨bk,off+i,none⟩=some (By yi)) :=
        fun w' g=>⟨g,(g.cell _ _ ls).trans y0,(g.cell _ _ ls).trans y1,(g.cell _ _ ls).trans y2,(g.cell _ _ ls).trans y3,(g.cell _ _ ls).trans y4,(g.cell _ _ lb).trans ci⟩
       clear x0 x1 x2 x3 x4 s1 RT c0 hb GU Lw;go_wp2_with fail;go_region_held3 (fun w'=>Gw wr w'/\w'.cell? ⟨w.heap.size,0,none⟩=some (By k)/\w'.cell? ⟨w.heap.size,1,none⟩=some (.float .f64 sl)/\w'.cell? ⟨w.heap.size,2,none⟩=some (.float .f64 ic)/\w'.cell? ⟨w.heap.size,3,none⟩=some (AI fr)/\w'.cell? ⟨w.heap.size,4,none⟩=some (AI tu)/\w'.cell? ⟨bk,off+i,none⟩=some (By yi))
        ((refine HW.o _ ?_;(repeat (first | exact Gw.refl _ | exact And.left (by assumption) | exact ag.o (by assumption) | refine Gw.drew ?_ | refine Gw.trans ?_ (by assumption)));done))
        ((go_at_call 198;refine (GI.o _).mono ?_;rintro ex w3 ⟨rfl,g3⟩;have G3:ag (Gw wr w3):=(Gw.trans (by repeat (first | exact Gw.refl _ | exact And.left (by assumption) | exact ag.o (by assumption) | refine Gw.drew ?_)) g3);clear g3))
       all_goals go_wp2_with fail
       all_goals
        go_roundg (n-(i+1))
        case measure=>omega
        case rel =>
         refine ⟨i+1,?_,by go_num,ar,Nat.le_refl _,(show ag _ from GR.o.trans (by repeat (first | exact Gw.refl _ | exact And.left (by assumption) | exact ag.o (by assumption) | refine Gw.drew ?_ | refine Gw.trans ?_ (by assumption))))⟩
         rw [WS.o];exact congrArg (Value.int .i64) (show (_:Int)=max (max Wi D) M by first | omega | (simp only [*] at *;omega))
      ·have e:i=n:=by omega
       subst e;have R:ag (qL k sl ic fr tu i f (dI (cC k sl ic fr tu f) i) 0):=.inr (.inr ⟨h'.o,⟨FC.o.1,FC.o.2.1,U.o⟩,rfl,rfl⟩);generalize dI (cC k sl ic fr tu f) i=Wi at *;go_wp2_with fail;exact bodyPost_ret (v:=.tuple #[AI Wi,AI 0]) (by simp [results,results171,go_sem]) rfl ⟨⟨Wi,0,rfl,R.o⟩,G.o.trans GR.o⟩
    ·have t2:(f0 != k)=true:=by simpa using h2
     have R:ag (qL k sl ic fr tu n f 0 1):=.inr (.inl ⟨h'.o,fun q=>h2 (tH.1 q.2.1),rfl,rfl⟩)
     clear h1 hS h2 hf hc tH GU;go_wp2_with fail;go_quiet (first | (go_at_call 197;refine Calls.quiet_of (RT.o _)))
     go_wp2_with fail;exact bodyPost_ret (v:=.tuple #[AI 0,AI 1]) (by simp [results,results171,go_sem]) rfl ⟨⟨0,1,rfl,R.o⟩,G.o.drewN _⟩
   ·have R:ag (qL k sl ic fr tu n f 0 1):=.inr (.inl ⟨h'.o,fun q=>hu q.2.2,rfl,rfl⟩)
    have RT:ag (∀ m,Calls prog 197 #[.slice (some ⟨bk,off,none⟩) n cp] (w1.drewN m) fun e w'=>e=.returned (.bool false)/\∃ m',w'=(w1.drewN m).drewN m'):=fun m =>
     (RI.o (w1.drewN m) (G.o.drewN m)).mono fun ex w' (hx:(∃ r:Bool,ex=.returned (.bool r)/\(r=true↔Up f n))/\∃ m',w'=(w1.drewN m).drewN m')=>⟨(by
      obtain ⟨⟨r,e1,e2⟩,-⟩:=hx;have:r=false:=by cases r;rfl;exact absurd (e2.1 rfl) hu
      rw [e1,this]),hx.2⟩
    clear h1 hS hf hc tH GU RI hu;go_wp2_with fail;go_quiet (first | (go_at_call 197;refine Calls.quiet_of (RT.o _)))
    go_wp2_with fail;exact bodyPost_ret (v:=.tuple #[AI 0,AI 1]) (by simp [results,results171,go_sem]) rfl ⟨⟨0,1,rfl,R.o⟩,G.o.drewN _⟩
  ·have t1:((n:Int) != S)=true:=by simpa using h1
   have R:ag (qL k sl ic fr tu n f 0 1):=.inr (.inl ⟨h'.o,fun q=>h1 (q.1.trans hS),rfl,rfl⟩)
   clear h1 hS RI GU;go_wp2_with fail;go_quiet (fail);go_wp2_with fail;exact bodyPost_ret (v:=.tuple #[AI 0,AI 1]) (by simp [results,results171,go_sem]) rfl ⟨⟨0,1,rfl,R.o⟩,G.o.drewN _⟩
 ·have t1:(cg sl ic fr tu != 0)=true:=by simpa using h
  have R:ag (qL k sl ic fr tu n f 0 (cg sl ic fr tu)):=.inl ⟨h,rfl,rfl⟩;generalize cg sl ic fr tu=er at *;clear h GU RI;go_enter func171,ntmps171;go_wp2_with fail;refine (C.o _).mono ?_;rintro ex w1 ⟨rfl,g1⟩;have G:ag _:=G0.o.trans g1;clear g1 G0;go_wp2_with fail;exact bodyPost_ret (v:=.tuple #[AI 0,AI er]) (by simp [results,results171,go_sem]) rfl ⟨⟨0,er,rfl,R.o⟩,G.o⟩
end Go.Proofs.YtcboobmfnmgldaaGreat
