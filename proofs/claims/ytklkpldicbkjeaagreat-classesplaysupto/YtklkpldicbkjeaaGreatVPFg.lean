/- Small walks: what is no number, what is infinite, bits of floats. -/
import Derived.Laws.BitsAllLaws
import Derived.Test.YtklkpldicbkjeaaGreatVPBs
import Derived.Test.YtklkpldicbkjeaaGreatVPFl
set_option linter.unusedVariables false
open Go.Proofs.Tryz
namespace Go.Proofs.YtklkpldicbkjeaaGreat
open Go.RowKit
theorem uH (b:Nat) (w:World):(callFunc 75 #[.float .f64 b]).run prog w=.ok (.value (.int .u64 b)) w:=by
 rw [run_callFunc_extern func75 (by kernel_rfl) (by kernel_rfl) (by kernel_rfl) (e:=Extern.MathFloatBits.float64bits) (by kernel_rfl)]
 rfl
theorem uI (n:Int) (w:World):(callFunc 162 #[.int .u64 n]).run prog w=.ok (.value (.float .f64 n.toNat)) w:=by
 rw [run_callFunc_extern func162 (by kernel_rfl) (by kernel_rfl) (by kernel_rfl) (e:=Extern.MathFloatBits.float64frombits) (by kernel_rfl)]
 rfl
theorem fmt:FloatKind.f64.format=Ieee.double:=rfl
theorem Ye (x:Nat):(FloatKind.f64.format.order x x != some .eq)=decide (9218868437227405312<rg x):=by
 rw [fmt];rcases Nat.lt_trichotomy (rg x) 9218868437227405312 with h | h | h
 ·rw [Xw h h];simp;omega
 ·unfold Ieee.Format.order;rw [uE h]
  simp [Ieee.Datum.order,h]
 ·unfold Ieee.Format.order;rw [Cm h]
  simp [Ieee.Datum.order,h]
theorem sS (x:Nat) (w:World) :
  Calls prog 171 #[.float .f64 x] w fun e w'=>e=.returned (.bool (decide (9218868437227405312<rg x)))/\w'=w:=by
 have h:=Ye x;go_enter func171,ntmps171;go_wp2;go_ret;exact ⟨rfl,rfl⟩
theorem Yf (x:Nat) (hx:x<18446744073709551616):bits .andNot .u64 (x:Int) 9223372036854775808=((rg x:Nat):Int):=by
 have:=u64_andNot_nat x 9223372036854775808 hx (by decide)
 rw [show ((9223372036854775808:Nat):Int)=9223372036854775808 from rfl] at this;rw [this,show (18446744073709551615-9223372036854775808:Nat)=2^63-1 from rfl,Nat.and_two_pow_sub_one_eq_mod];rfl
theorem Kx (x:Nat):rg x<9223372036854775808:=Nat.mod_lt _ (by decide)
theorem yJ (x:Nat):rg (rg x)=rg x:=Nat.mod_eq_of_lt (Kx x)
theorem Ky (x:Nat):sg (rg x)=false:=by
 have:=Kx x;unfold sg;simp;omega
theorem Yg (x:Nat) (hx:x<18446744073709551616) (w:World) :
  Calls prog 187 #[.float .f64 x] w fun e w'=>e=.returned (.float .f64 (rg x))/\w'=w:=by
 have h:=Yf x hx;go_enter func187,ntmps187;go_wp2_with (first | simp only [uH] | simp only [uI])
 go_ret
 exact ⟨rfl,rfl⟩
theorem Kz (x:Nat):SV (rg x)=V (rg x):=by unfold SV;rw [Ky,yJ];rfl
theorem Yh (x:Nat):(FloatKind.f64.format.order (rg x) 9218868437227405311 == some .gt)=decide (rg x=9218868437227405312):=by
 rw [fmt];have hm:rg 9218868437227405311<9218868437227405312:=by decide
 rcases Nat.lt_trichotomy (rg x) 9218868437227405312 with h | h | h
 ·rw [yF (by rw [yJ];exact h) hm]
  have e1:SV 9218868437227405311=V 9218868437227405311:=Kz 9218868437227405311;rw [Kz,e1];have:V (rg x)<=V 9218868437227405311:=iA (by omega)
  simp;omega
 ·unfold Ieee.Format.order;rw [uE (by rw [yJ];exact h),iB hm,Ky]
  simp [Ieee.Datum.order,h]
 ·unfold Ieee.Format.order;rw [Cm (by rw [yJ];exact h),iB hm]
  simp [Ieee.Datum.order];omega
theorem Yi (x:Nat) (hx:x<18446744073709551616) (w:World) :
  Calls prog 173 #[.float .f64 x,.int .i64 0] w fun e w'=>e=.returned (.bool (decide (rg x=9218868437227405312)))/\w'=w:=by
 have h:=Yh x;go_enter func173,ntmps173;go_wp2_with (go_at_call 187;refine (Yg x hx _).mono ?_;rintro e w' ⟨rfl,rfl⟩);go_ret;exact ⟨rfl,rfl⟩
def kg (x y:Nat) (w:World):Nat:=(Question.nanBits .f64 x y).cut (w.tape w.drawn (.nanBits .f64 x y))
theorem Cv (x y:Nat) (w:World):9218868437227405312<rg (kg x y w):=by
 unfold kg rg;generalize w.tape w.drawn (.nanBits .f64 x y)=t;show 9218868437227405312<(t%2*2^63+9218868437227405312+1+t/2%(2^52-1))%9223372036854775808;have:t/2%(2^52-1)<2^52-1:=Nat.mod_lt _ (by decide)
 generalize t/2%(2^52-1)=a at *;have h2:t%2<2:=Nat.mod_lt _ (by decide)
 generalize t%2=c at *;omega
theorem Yj (t:TypeId) (x y:Nat) (h:Ieee.double.mul x y=none) (w:World):(binOp .mul t (.float .f64 x) (.float .f64 y)).run prog w=.ok (.float .f64 (kg x y w)) w.drew:=by
 have h':FloatKind.f64.format.mul x y=none:=h;simp [binOp,Op.floatArith,h'];rfl
theorem KA (t:TypeId) (x y:Nat) (h:Ieee.double.add x y=none) (w:World):(binOp .add t (.float .f64 x) (.float .f64 y)).run prog w=.ok (.float .f64 (kg x y w)) w.drew:=by
 have h':FloatKind.f64.format.add x y=none:=h;simp [binOp,Op.floatArith,h'];rfl
theorem Yk {x y:Nat} (h:9218868437227405312<rg x):Ieee.double.add x y=none:=by
 unfold Ieee.Format.add;rw [Cm h];rfl
def AL (s y base r:Nat):Prop:=(∃ p,Ieee.double.mul s y=some p/\Ieee.double.add p base=some r)\/((∀ p,Ieee.double.mul s y=some p->Ieee.double.add p base=none)/\9218868437227405312<rg r)
theorem Yl (s y far base p r:Nat) (hf:far<18446744073709551616) (ey:floatOfInt .f64 (far:Int)=y) (h1:Ieee.double.mul s y=some p) (h2:Ieee.double.add p base=some r) (w:World) :
  Calls prog 175 #[.float .f64 s,.int .u64 far,.float .f64 base] w fun e w'=>e=.returned (.float .f64 r)/\w'=w:=by
 have k1:∀ w,(binOp .mul 127 (.float .f64 s) (.float .f64 y)).run prog w=.ok (.float .f64 p) w:=fun w=>run_float_arith w .mul _ _ _ _ _ h1
 have k2:∀ w,(binOp .add 127 (.float .f64 p) (.float .f64 base)).run prog w=.ok (.float .f64 r) w:=fun w=>run_float_arith w .add _ _ _ _ _ h2
 go_enter func175,ntmps175;go_wp2;go_ret;exact ⟨rfl,rfl⟩
theorem Ym (s y far base:Nat) (hf:far<18446744073709551616) (ey:floatOfInt .f64 (far:Int)=y) (w:World) :
  Calls prog 175 #[.float .f64 s,.int .u64 far,.float .f64 base] w fun e w'=>(∃ r,e=.returned (.float .f64 r)/\AL s y base r)/\∃ n,w'=w.drewN n:=by
 cases h1:Ieee.double.mul s y with
 | some p =>
  cases h2:Ieee.double.add p base with
  | some r=>exact (Yl s y far base p r hf ey h1 h2 w).mono fun e w' h=>⟨⟨r,h.1,.inl ⟨p,h1,h2⟩⟩,0,h.2⟩
  | none =>
   have k1:∀ w,(binOp .mul 127 (.float .f64 s) (.float .f64 y)).run prog w=.ok (.float .f64 p) w:=fun w=>run_float_arith w .mul _ _ _ _ _ h1
   have k2:∀ w,(binOp .add 127 (.float .f64 p) (.float .f64 base)).run prog w=.ok (.float .f64 (kg p base w)) w.drew:=fun w=>KA _ _ _ h2 w
   have a:ag (AL s y base (kg p base w)):=.inr ⟨fun q hq=>(by rw [h1] at hq;cases hq;exact h2),Cv _ _ _⟩
   clear h1 h2;go_enter func175,ntmps175;go_wp2;go_ret;exact ⟨⟨_,rfl,a.o⟩,1,rfl⟩
 | none =>
  have k1:∀ w,(binOp .mul 127 (.float .f64 s) (.float .f64 y)).run prog w=.ok (.float .f64 (kg s y w)) w.drew:=fun w=>Yj _ _ _ h1 w
  have k2:∀ w',(binOp .add 127 (.float .f64 (kg s y w)) (.float .f64 base)).run prog w'=.ok (.float .f64 (kg (kg s y w) base w')) w'.drew:=fun w'=>KA _ _ _ (Yk (Cv s y w)) w'
  have a:ag (AL s y base (kg (kg s y w) base w.drew)):=.inr ⟨fun q hq=>(by rw [h1] at hq;cases hq),Cv _ _ _⟩
  clear h1;go_enter func175,ntmps175;go_wp2;go_ret;exact ⟨⟨_,rfl,a.o⟩,2,rfl⟩
def qv (x:Nat):Bool:=Ieee.double.order x 14114281232179134464 == some .lt
def qz (x:Nat):Bool:=Ieee.double.order x 4890909195324358656 == some .gt||Ieee.double.order x 4890909195324358656 == some .eq
theorem Yn (k:Nat):V ((k+1023)*4503599627370496)=2^k*Un:=by
 have:=iQ (k+1022) 4503599627370496 (by decide) (.inl (by decide))
 rw [show (k+1022)*4503599627370496+4503599627370496=(k+1023)*4503599627370496 by omega] at this
 rw [this,show (4503599627370496:Nat)=2^52 from rfl,<-Nat.pow_add,sQ,show 52+(k+1022)=k+1074 by omega]
theorem KD:V 4890909195324358656=9223372036854775808*Un:=by
 have h:=Yn 63;rw [show (63+1023)*4503599627370496=4890909195324358656 from rfl,show (2:Nat)^63=9223372036854775808 from rfl] at h;exact h
theorem KG:SV 4890909195324358656=9223372036854775808*(Un:Int):=by
 unfold SV;rw [show sg 4890909195324358656=false from rfl,show rg 4890909195324358656=4890909195324358656 from rfl,KD];simp
theorem KH:SV 14114281232179134464=-(9223372036854775808*(Un:Int)):=by
 unfold SV;rw [show sg 14114281232179134464=true from rfl,show rg 14114281232179134464=4890909195324358656 from rfl,KD];simp
theorem Yo {x:Nat} (h:¬ 9218868437227405312<rg x) (h1:qv x=false) (h2:qz x=false) :
  rg x<9218868437227405312/\-9223372036854775808<=cX x/\cX x<9223372036854775808/\-9223372036854775808<=lX x/\lX x<9223372036854775808:=by
 have hU:=jy;rcases Nat.lt_or_ge (rg x) 9218868437227405312 with k | k
 ·unfold qv at h1;unfold qz at h2
  rw [Kk k (by decide),KH] at h1
  rw [Co k (by decide),KG] at h2
  simp only [decide_eq_false_iff_not] at h1 h2;have f0:-9223372036854775808<=cX x:=by
   unfold cX;refine (Int.le_ediv_iff_mul_le (by omega)).2 ?_
   omega
  have f1:cX x<9223372036854775808:=by
   unfold cX;refine (Int.ediv_lt_iff_lt_mul (by omega)).2 ?_
   omega
  obtain ⟨t1,t2⟩:=XR x;by_cases c:SV x<lX x*Un
  ·have:=t1 c
   refine ⟨k,f0,f1,by omega,?_⟩
   by_cases s:sg x=true
   ·unfold lX;rw [if_pos s]
    generalize V (rg x)/Un=q;omega
   ·exfalso
    have s':sg x=false:=by simpa using s
    have e1:=yG x;rw [s'] at e1;unfold lX at this;rw [s'] at this;simp at e1 this;omega
  ·have:=t2 c
   exact ⟨k,f0,f1,by omega,by omega⟩
 ·have e:rg x=9218868437227405312:=by omega
  exfalso
  unfold qv Ieee.Format.order at h1;unfold qz Ieee.Format.order at h2;rw [uE e,iB (show rg 14114281232179134464<9218868437227405312 by decide)] at h1
  rw [uE e,iB (show rg 4890909195324358656<9218868437227405312 by decide)] at h2
  cases hs:sg x<;>rw [hs] at h1 h2<;>simp [Ieee.Datum.order] at h1 h2
def nG (x:Nat) (lo hi:Int):Int :=
 if hi<lo\/9218868437227405312<rg x then lo else if qv x then lo else if qz x then hi else min (max (cX x) lo) hi
theorem Yp {x:Nat} (hx:rg x<9218868437227405312) (w:World):(callFunc 195 #[.float .f64 x]).run prog w=.ok (.value (.float .f64 (flb x))) w:=by
 rw [run_callFunc_extern func195 (by kernel_rfl) (by kernel_rfl) (by kernel_rfl) (e:=Extern.MathFloor.toIntegral "math.archFloor" .down) (by kernel_rfl)]
 have key:Extern.MathFloor.toIntegral "math.archFloor" .down #[.float .f64 x]=pure (.float .f64 (flb x)):=by
  unfold flb;have e:=iB hx
  delta Extern.MathFloor.toIntegral
  conv=>lhs;whnf
  rw [show FloatKind.f64.decode x=_ from e,e];rfl
 rw [key];rfl
theorem Yq {x:Nat} (hx:rg x<9218868437227405312) (w:World) :
  Calls prog 188 #[.float .f64 x] w fun e w'=>e=.returned (.float .f64 (flb x))/\w'=w:=by
 go_enter func188,ntmps188;go_wp2_with (simp only [Yp hx]);go_ret;exact ⟨rfl,rfl⟩
theorem Yr {x:Nat} (lo hi:Int) (h0:-9223372036854775808<=lo) (h1:lo<9223372036854775808) (h2:-9223372036854775808<=hi) (h3:hi<9223372036854775808)
  (hl:¬ hi<lo) (hn:¬ 9218868437227405312<rg x) (hx:rg x<9218868437227405312) (c1:(FloatKind.f64.format.order x 14114281232179134464 == some .lt)=false) (c2:(FloatKind.f64.format.order x 4890909195324358656 == some .gt||FloatKind.f64.format.order x 4890909195324358656 == some .eq)=false)
  (n:Int) (n0:-9223372036854775808<=n) (n1:n<9223372036854775808) (hc:∀ w,(convert 127 2 (.float .f64 (flb x))).run prog w=.ok (.int .i64 n) w) (w:World) :
  Calls prog 174 #[.float .f64 x,.int .i64 lo,.int .i64 hi] w fun e w'=>e=.returned (.int .i64 (min (max n lo) hi))/\w'=w:=by
 go_enter func174,ntmps174;go_wp2_with (first | (go_at_call 171;refine (sS x _).mono ?_;rintro e w' ⟨rfl,rfl⟩) | (go_at_call 188;refine (Yq hx _).mono ?_;rintro e w' ⟨rfl,rfl⟩))
 all_goals go_ret
 all_goals first
  | exact ⟨rfl,rfl⟩
  | exact ⟨congrArg (fun z=>Ending.returned (.int .i64 z)) (show _=min (max n lo) hi by first | omega | (simp only [*] at *;omega)),rfl⟩
theorem Ys (x:Nat) (lo hi:Int) (h0:-9223372036854775808<=lo) (h1:lo<9223372036854775808) (h2:-9223372036854775808<=hi) (h3:hi<9223372036854775808) (w:World) :
  Calls prog 174 #[.float .f64 x,.int .i64 lo,.int .i64 hi] w fun e w'=>e=.returned (.int .i64 (nG x lo hi))/\w'=w:=by
 unfold nG;by_cases hl:hi<lo
 ·rw [if_pos (.inl hl)]
  go_enter func174,ntmps174;go_wp2;go_ret;exact ⟨rfl,rfl⟩
 ·by_cases hn:9218868437227405312<rg x
  ·rw [if_pos (.inr hn)]
   go_enter func174,ntmps174;go_wp2_with (go_at_call 171;refine (sS x _).mono ?_;rintro e w' ⟨rfl,rfl⟩);go_ret;exact ⟨rfl,rfl⟩
  ·rw [if_neg (by omega)]
   cases c1:qv x
   ·cases c2:qz x
    ·obtain ⟨hx,f0,f1,-,-⟩:=Yo hn c1 c2
     exact Yr lo hi h0 h1 h2 h3 hl hn hx c1 c2 (cX x) f0 f1 (fun w=>run_convert_float_int w _ _ _ _ _ _ (by kernel_rfl) (by kernel_rfl) (XQ hx f0 f1)) w
    ·have iR:(FloatKind.f64.format.order x 14114281232179134464 == some .lt)=false:=c1
     have KO:(FloatKind.f64.format.order x 4890909195324358656 == some .gt||FloatKind.f64.format.order x 4890909195324358656 == some .eq)=true:=c2
     clear c1 c2;rw [if_neg (by decide),if_pos rfl]
     go_enter func174,ntmps174;go_wp2_with (go_at_call 171;refine (sS x _).mono ?_;rintro e w' ⟨rfl,rfl⟩);go_ret;exact ⟨rfl,rfl⟩
   ·have iR:(FloatKind.f64.format.order x 14114281232179134464 == some .lt)=true:=c1
    clear c1;rw [if_pos rfl];go_enter func174,ntmps174;go_wp2_with (go_at_call 171;refine (sS x _).mono ?_;rintro e w' ⟨rfl,rfl⟩);go_ret;exact ⟨rfl,rfl⟩
open Ieee
def gv (t lo hi:Int):Int:=min (max t lo) hi
theorem Yt {t lo hi:Int} (h:lo<=hi):lo<=gv t lo hi/\gv t lo hi<=hi:=by unfold gv;omega
theorem Yu {t u lo hi:Int} (h:t<=u):gv t lo hi<=gv u lo hi:=by unfold gv;omega
theorem Yv {t lo hi x k:Int} (h1:lo<=x) (h2:x<=hi) (a:x-k<=t) (b:t<=x+k) (k0:0<=k):x-k<=gv t lo hi/\gv t lo hi<=x+k:=by unfold gv;omega
theorem Yw {a b d s y p r:Nat} {c:Int} (b0:0<b) (a1:a<18446744073709551616) (b1:b<18446744073709551616) (d1:d<18446744073709551616)
  (hs:Nr (a*Un) b s) (hy:Nr (d*Un) 1 y) (hp:Nr (V s*V y) Un p) (hq:a*d<=17179869184*b) (c0:-17179869184<=c) (c1:c<=17179869184)
  (hr:Nr ((V p:Int)+c*Un).natAbs 1 r) :
  ((a*d/b:Nat):Int)+c-1<=gT ((V p:Int)+c*Un) r/Un/\gT ((V p:Int)+c*Un) r/Un<=((a*d/b:Nat):Int)+c+1:=by
 obtain ⟨h1,h2⟩:=Yb b0 a1 b1 d1 hs hy hp hq c0 c1 hr;have U0:=jy;obtain ⟨U,hU⟩:∃ U,Un=U:=⟨_,rfl⟩;rw [hU] at h1 h2 U0 ⊢;obtain ⟨R,hR⟩:∃ R,gT ((V p:Int)+c*U) r=R:=⟨_,rfl⟩;rw [hR] at h1 h2 ⊢;clear hR hU hs hy hp hr;have dm:=Nat.div_add_mod (a*d) b;have ml:=Nat.mod_lt (a*d) b0;obtain ⟨T,hT⟩:∃ T,a*d/b=T:=⟨_,rfl⟩;rw [hT] at dm ⊢;have U1:(0:Int)<(U:Int):=by omega
 have B1:(0:Int)<(b:Int):=by omega
 have UB:(0:Int)<(U:Int)*b:=Int.mul_pos U1 B1;have Yx:(b:Int)*T<=((a*d:Nat):Int):=by
  have:b*T<=a*d:=by omega
  exact_mod_cast this
 have Yy:((a*d:Nat):Int)<=(b:Int)*T+b:=by
  have:a*d<=b*T+b:=by omega
  exact_mod_cast this
 have m1:=Int.mul_le_mul_of_nonneg_right Yx (Int.le_of_lt U1);have m2:=Int.mul_le_mul_of_nonneg_right Yy (Int.le_of_lt U1);have e1:(b:Int)*T*U=T*((U:Int)*b):=by rw [Int.mul_comm (b:Int) T,Int.mul_assoc,Int.mul_comm (b:Int) U]
 have e2:((b:Int)*T+b)*U=T*((U:Int)*b)+(U:Int)*b:=by rw [Int.add_mul,e1,Int.mul_comm (b:Int) U]
 rw [e1] at m1;rw [e2] at m2;have e3:c*(U:Int)*b=c*((U:Int)*b):=Int.mul_assoc _ _ _;rw [e3] at h1 h2;constructor
 ·
  rw [Int.le_ediv_iff_mul_le U1];have k:((T:Int)+c-1)*U*b<=R*b:=by
   have e4:((T:Int)+c-1)*U*b=T*((U:Int)*b)+c*((U:Int)*b)-(U:Int)*b:=by rw [Int.mul_assoc,Int.sub_mul,Int.add_mul,Int.one_mul]
   omega
  exact Int.le_of_mul_le_mul_right k B1
 ·
  have k:R*b<((T:Int)+c+2)*U*b:=by
   have e4:((T:Int)+c+2)*U*b=T*((U:Int)*b)+c*((U:Int)*b)+2*((U:Int)*b):=by rw [Int.mul_assoc,Int.add_mul,Int.add_mul]
   omega
  have k':R<((T:Int)+c+2)*U:=Int.lt_of_mul_lt_mul_right k (Int.le_of_lt B1);have:=Int.ediv_lt_of_lt_mul U1 k';omega
theorem Yz {S1 S2:Int} {r1 r2:Nat} (h1:Nr S1.natAbs 1 r1) (h2:Nr S2.natAbs 1 r2) (h:S1<=S2):gT S1 r1<=gT S2 r2:=by
 unfold gT;by_cases a:S1<0
 ·rw [if_pos a]
  by_cases b:S2<0
  ·rw [if_pos b]
   have:r2<=r1:=h2.mono h1 (by decide) (by decide) (by omega)
   have:=iA this
   omega
  ·rw [if_neg b];omega
 ·rw [if_neg a,if_neg (by omega)]
  have:r1<=r2:=h1.mono h2 (by decide) (by decide) (by omega)
  have:=iA this
  omega
theorem YA {x r:Nat} (h:Nr x 1 r) (b:x<=V 9218868437227405311+36893488147419103232*Un):r<=9218868437227405311:=by
 obtain ⟨B,hB⟩:∃ B,B=9218868437227405311:=⟨_,rfl⟩;rw [<-hB] at b ⊢;by_cases q:x<=V B
 ·exact h.mono (Nr.exact B 1 (by decide)) (by decide) (by decide) (by omega)
 ·have st:=sM B
  obtain ⟨e,he⟩:∃ e,B/4503599627370496-1=e:=⟨_,rfl⟩;rw [he] at st;have e0:2000<e:=by omega
  have g:73786976294838206464*Un<2^e:=by
   obtain ⟨k,hk,eU⟩:=kQ;have e2:(2:Nat)^66=73786976294838206464:=by decide +kernel
   rw [eU,<-e2,<-Nat.pow_add];exact Nat.pow_lt_pow_right (by decide) (by omega)
  generalize (2:Nat)^e=k at st g;have lt:=sN (show B-1<B by omega)
  have n:Nr x 1 B:=by
   refine ⟨by omega,by rw [st];omega,fun e=>by omega,fun e=>?_⟩
   rw [st] at e;omega
  exact Nat.le_of_eq (h.uniq n (by decide))
theorem YB {f:Nat->Int} {n:Nat} {g:Int->Int} {lo N:Int} (n0:0<n) (mono:∀ x y,f 0<=x->x<=y->g x<=g y) (up:∀ i,i<n->f 0<=f i) (YC:∀ x,f 0<=x->lo<=g x/\g x<=lo+n) (N0:0<=N)
  (off:∀ i,i<n->lo+i-N<=g (f i)/\g (f i)<=lo+i+N) (q:Int) (k:Nat) (hk:k<=n) (below:∀ i,i<k->f i<q) (KQ:∀ i,k<=i->i<n->q<=f i) (first:f 0<=q):lo+k-(N+1)<=g q/\g q<=lo+k+(N+1):=by
 have r:=YC q first;refine ⟨?_,?_⟩
 ·by_cases z:k=0
  ·subst z
   have:=KQ 0 (Nat.le_refl _) n0
   have e:q=f 0:=by omega
   subst e;have:=(off 0 n0).1;omega
  ·have b:=below (k-1) (by omega)
   have m:=mono (f (k-1)) q (up _ (by omega)) (by omega)
   have o:=(off (k-1) (by omega)).1
   omega
 ·by_cases z:k<n
  ·have a:=KQ k (Nat.le_refl _) z
   have m:=mono q (f k) first a;have o:=(off k z).2;omega
  ·omega
def bU (sl ic:Nat) (fr to:Int):Int :=
 if fr<0\/to<=fr\/4294967296<to then 70 else if 4611686018427387904<sl then 71 else if 9218868437227405312<=rg ic then 72 else 0
abbrev eF (k:Int) (sl ic:Nat) (fr to:Int):Value:=.agg #[.int .u64 k,.float .f64 sl,.float .f64 ic,.int .i64 fr,.int .i64 to]
theorem lY {sl ic:Nat} {fr to:Int}:bU sl ic fr to=0↔0<=fr/\fr<to/\to<=4294967296/\sl<=4611686018427387904/\rg ic<9218868437227405312:=by
 unfold bU;by_cases h:fr<0\/to<=fr\/4294967296<to
 ·rw [if_pos h];omega
 ·rw [if_neg h]
  by_cases h1:4611686018427387904<sl
  ·rw [if_pos h1];omega
  ·rw [if_neg h1]
   by_cases h2:9218868437227405312<=rg ic
   ·rw [if_pos h2];omega
   ·rw [if_neg h2];omega
def KT (x:Nat):Bool:=FloatKind.f64.format.order x 0 == some .gt||FloatKind.f64.format.order x 0 == some .eq
def yK (x:Nat):Bool:=FloatKind.f64.format.order x 4611686018427387904 == some .gt
theorem V0:SV 0=0:=by decide
theorem qA {x:Nat} (h:x<9223372036854775808):rg x=x:=Nat.mod_eq_of_lt h
theorem yL {x:Nat} (h:x<9223372036854775808):sg x=false:=by unfold sg;simp;omega
theorem uJ {x:Nat} (h:x<9223372036854775808):SV x=V x:=by unfold SV;rw [yL h,qA h];rfl
theorem YD {x:Nat} (h:x<=4611686018427387904):KT x=true/\decide ((9223372036854775808:Int)<=(x:Int))=false/\yK x=false:=by
 have hx:rg x<9218868437227405312:=by rw [qA (by omega)];omega
 have e:=uJ (x:=x) (by omega)
 refine ⟨?_,by simp;omega,?_⟩
 ·unfold KT;rw [fmt,Co hx (by decide),V0,e];simp
 ·unfold yK;rw [fmt,yF hx (by decide),e,uJ (by decide)]
  have:=iA h
  simp;omega
theorem KU:V 4895412794951729152=18446744073709551616*Un:=by
 have:=yH 64
 rwa [show (64+1023)*4503599627370496=4895412794951729152 from rfl,show (2:Nat)^64=18446744073709551616 from rfl] at this
theorem KW:V 4899916394579099648=36893488147419103232*Un:=by
 have:=yH 65
 rwa [show (65+1023)*4503599627370496=4899916394579099648 from rfl,show (2:Nat)^65=36893488147419103232 from rfl] at this
theorem uK {sl ic far:Nat} (hs:sl<=4611686018427387904) (hi:rg ic<9218868437227405312) (hf:far<18446744073709551616) :
  ∃ y p r v,Nr (far*Un) 1 y/\floatOfInt .f64 (far:Int)=y/\Nr (V sl*V y) Un p/\Ieee.double.mul sl y=some p/\Nr ((V p:Int)+SV ic).natAbs 1 r/\Ieee.double.add p ic=some v/\rg v<9218868437227405312/\SV v=gT ((V p:Int)+SV ic) r/\y<=4895412794951729152/\p<=4899916394579099648:=by
 have U0:=jy;obtain ⟨y,hy,ey⟩:=Ks (far:Int);rw [Int.natAbs_natCast] at hy;have y1:y<=4895412794951729152:=hy.mono (Nr.of_eq (x:=18446744073709551616*Un) (y:=1) (by decide) (by rw [KU];omega)) (by decide) (by decide) (by
  rw [Nat.mul_one,Nat.mul_one];exact Nat.mul_le_mul_right _ (by omega))
 have dn:decide ((far:Int)<0)=false:=by simp
 rw [dn,Nat.min_eq_left (by omega),Cr] at ey
 have ys:rg y=y:=qA (by omega)
 have ss:rg sl=sl:=qA (by omega)
 obtain ⟨p,hp,ep⟩:=Ko (x:=sl) (y:=y) (by rw [ss];omega) (by rw [ys];omega)
 rw [ss,ys] at hp;have p1:p<=4899916394579099648:=hp.mono (Nr.of_eq (x:=36893488147419103232*Un*Un) (y:=Un) U0 (by rw [KW])) U0 U0 (by
  refine Nat.mul_le_mul_right _ ?_;have a:=iA hs;have b:=iA y1;rw [V2] at a;rw [KU] at b;have e:∀ U:Nat,2*U*(18446744073709551616*U)=36893488147419103232*U*U:=fun U=>by rw [Nat.mul_mul_mul_comm,<-Nat.mul_assoc]
  exact Nat.le_trans (Nat.mul_le_mul a b) (Nat.le_of_eq (e Un)))
 rw [yL (x:=sl) (by omega),yL (x:=y) (by omega),Nat.min_eq_left (by omega)] at ep
 have Cw:Ieee.double.mul sl y=some p:=ep;have ps:rg p=p:=qA (by omega)
 have pv:SV p=V p:=uJ (by omega)
 obtain ⟨r,hr,er⟩:=XB (x:=p) (y:=ic) (by rw [ps];omega) hi
 rw [pv] at hr er;have ab:((V p:Int)+SV ic).natAbs<=V 9218868437227405311+36893488147419103232*Un:=by
  have a:=iA p1;rw [KW] at a;have b:=iA (show rg ic<=9218868437227405311 by omega)
  have c:(SV ic).natAbs<=V (rg ic):=by unfold SV;split<;>omega
  omega
 have r1:=YA hr ab;rw [Nat.min_eq_left (show r<=9218868437227405312 by omega)] at er
 refine ⟨y,p,r,_,hy,ey,hp,Cw,hr,er,by rw [uF _ _ (by omega)];omega,?_,y1,p1⟩
 rw [Kt _ _ (by omega)]
 unfold gT;by_cases z:(V p:Int)+SV ic=0
 ·have r0:r=0:=by
   rw [z] at hr;exact hr.uniq (Nr.zero 1 (by decide)) (by decide)
  subst r0;rw [oK];simp
 ·rw [if_neg z]
  by_cases n:(V p:Int)+SV ic<0
  ·rw [if_pos (decide_eq_true n),if_pos n]
  ·rw [if_neg (by simpa using n),if_neg n]
theorem YE {v:Nat} {lo hi:Int} (hv:rg v<9218868437227405312) (h:lo<=hi) (l0:-9223372036854775808<=lo) (h1:hi<9223372036854775808):nG v lo hi=gv (cX v) lo hi:=by
 have U0:=jy;have U1:(0:Int)<Un:=by omega
 unfold nG;rw [if_neg (by omega)]
 cases c1:qv v
 ·cases c2:qz v
  ·rfl
  ·rw [if_neg (by decide),if_pos rfl]
   unfold qz at c2;rw [Co hv (by decide),KG,decide_eq_true_eq] at c2
   have:9223372036854775808<=cX v:=by
    unfold cX;exact (Int.le_ediv_iff_mul_le U1).2 c2
   unfold gv;omega
 ·rw [if_pos rfl]
  unfold qv at c1;rw [Kk hv (by decide),KH,decide_eq_true_eq] at c1
  have:cX v < -9223372036854775808:=by
   unfold cX;refine Int.ediv_lt_of_lt_mul U1 ?_;rw [Int.neg_mul];exact c1
  unfold gv;omega
def sT (sl ic far:Nat):Nat :=
 match Ieee.double.mul sl (floatOfInt .f64 (far:Int)) with
 | some p=>(Ieee.double.add p ic).getD 0
 | none=>0
def cP (k:Int) (sl ic:Nat) (fr to q:Int):Int:=if bU sl ic fr to=0 then nG (sT sl ic (q-k).toNat) fr to else 0
theorem uL {sl ic far y p v:Nat} (ey:floatOfInt .f64 (far:Int)=y) (ep:Ieee.double.mul sl y=some p) (ev:Ieee.double.add p ic=some v):sT sl ic far=v:=by
 unfold sT;rw [ey,ep];show (Ieee.double.add p ic).getD 0=v;rw [ev];rfl
theorem AL.is {s y base p v r:Nat} (h:AL s y base r) (ep:Ieee.double.mul s y=some p) (ev:Ieee.double.add p base=some v):r=v:=by
 rcases h with ⟨q,a,b⟩ | ⟨a,b⟩
 ·rw [ep] at a;cases a;rw [ev] at b;cases b;rfl
 ·have:=a p ep;rw [ev] at this;cases this
theorem YG {sl ic a b:Nat} (hs:sl<=4611686018427387904) (hi:rg ic<9218868437227405312) (hb:b<18446744073709551616) (h:a<=b):cX (sT sl ic a)<=cX (sT sl ic b):=by
 have U0:=jy;obtain ⟨y,p,r,v,hy,ey,hp,ep,hr,ev,fv,sv,-,-⟩:=uK (far:=a) hs hi (by omega)
 obtain ⟨y',p',r',v',fY,YH,qB,Cw,jA,uM,fv',YI,-,-⟩:=uK (far:=b) hs hi hb;rw [uL ey ep ev,uL YH Cw uM];unfold cX;refine Int.ediv_le_ediv (by omega) ?_
 rw [sv,YI];refine Yz hr jA ?_;have a1:y<=y':=hy.mono fY (by decide) (by decide) (by rw [Nat.mul_one,Nat.mul_one];exact Nat.mul_le_mul_right _ h)
 have a2:p<=p':=hp.mono qB U0 U0 (Nat.mul_le_mul_right _ (Nat.mul_le_mul_left _ (iA a1)));have:=iA a2;omega
theorem yM {k q fr to:Int} {sl ic:Nat} (h:bU sl ic fr to=0) (k0:0<=k) (q1:q<18446744073709551616):cP k sl ic fr to q=gv (cX (sT sl ic (q-k).toNat)) fr to:=by
 obtain ⟨a,b,c,d,e⟩:=lY.1 h;obtain ⟨y,p,r,v,hy,ey,hp,ep,hr,ev,fv,sv,-,-⟩:=uK (far:=(q-k).toNat) d e (by omega)
 unfold cP;rw [if_pos h,uL ey ep ev,YE fv (by omega) (by omega) (by omega)]
theorem YJ {k q q' fr to:Int} {sl ic:Nat} (h:bU sl ic fr to=0) (k0:0<=k) (q1:q'<18446744073709551616) (le:q<=q'):cP k sl ic fr to q<=cP k sl ic fr to q':=by
 obtain ⟨a,b,c,d,e⟩:=lY.1 h;rw [yM h k0 (by omega),yM h k0 q1]
 exact Yu (YG d e (by omega) (by omega))
theorem yN {k q fr to:Int} {sl ic:Nat} (h:bU sl ic fr to=0) (k0:0<=k) (q1:q<18446744073709551616):fr<=cP k sl ic fr to q/\cP k sl ic fr to q<=to:=by
 obtain ⟨a,b,c,d,e⟩:=lY.1 h;rw [yM h k0 q1];exact Yt (by omega)
def dF (g:Nat->Int):Nat->Int
 | 0=>0
 | j+1=>max (max (dF g j) (g j)) (-(g j))
theorem KY (g:Nat->Int) (n:Nat):0<=dF g n/\∀ i,i<n->-(dF g n)<=g i/\g i<=dF g n:=by
 induction n with
 | zero=>exact ⟨Int.le_refl _,fun i hi=>by omega⟩
 | succ n ih =>
  obtain ⟨a,b⟩:=ih;have e:dF g (n+1)=max (max (dF g n) (g n)) (-(g n)):=rfl;refine ⟨by omega,fun i hi=>?_⟩
  by_cases c:i=n
  ·subst c;omega
  ·have:=b i (by omega);omega
theorem KZ {g:Nat->Int} {M:Int} (M0:0<=M):∀ n,(∀ i,i<n->-M<=g i/\g i<=M)->dF g n<=M:=by
 intro n;induction n with
 | zero=>intro _;exact M0
 | succ n ih =>
  intro h;have a:=ih fun i hi=>h i (by omega)
  have b:=h n (by omega)
  show max (max (dF g n) (g n)) (-(g n))<=M;omega
def cd (k:Int) (sl ic:Nat) (fr to:Int) (f:Nat->Int) (i:Nat):Int:=cP k sl ic fr to (f i)-(fr+i)
def qC (k:Int) (sl ic:Nat) (fr to:Int) (n:Nat) (f:Nat->Int) (N er:Int):Prop :=
 (bU sl ic fr to≠0/\N=0/\er=bU sl ic fr to) \/
 (bU sl ic fr to=0/\¬ ((n:Int)=to-fr/\f 0=k/\Up f n)/\N=0/\er=1) \/
 (bU sl ic fr to=0/\((n:Int)=to-fr/\f 0=k/\Up f n)/\N=dF (cd k sl ic fr to f) n/\er=0)
theorem YM {k:Int} {sl ic:Nat} {fr to:Int} {f:Nat->Int} {n:Nat} (h:bU sl ic fr to=0) (k0:0<=k) (hn:(n:Int)=to-fr) (bd:∀ i,i<n->0<=f i/\f i<18446744073709551616):∀ i,i<n->-4294967296<=cd k sl ic fr to f i/\cd k sl ic fr to f i<=4294967296:=by
 intro i hi;obtain ⟨a,b,c,d,e⟩:=lY.1 h;have:=yN h k0 (bd i hi).2;unfold cd;omega
theorem YO (t:Int) (h0:-9007199254740992<=t) (h1:t<=9007199254740992):rg (floatOfInt .f64 t)<9218868437227405312/\SV (floatOfInt .f64 t)=t*Un:=by
 obtain ⟨b,hb,e⟩:=Cs t.natAbs (by omega)
 rw [Kr t b hb e];refine ⟨by rw [uF _ _ (by omega)];exact hb,?_⟩
 rw [Kt _ _ (by omega),e]
 by_cases n:t<0
 ·rw [if_pos (decide_eq_true n)]
  have:(t.natAbs:Int)=-t:=by omega
  rw [Int.natCast_mul,this,Int.neg_mul,Int.neg_neg]
 ·rw [if_neg (by simpa using n)]
  have:(t.natAbs:Int)=t:=by omega
  rw [Int.natCast_mul,this]
theorem YP {e:Int} {f:Nat->Int} {n:Nat} {a b:Int} (he:0<=e) (u:Up f n) (h:bG e f (ay n) a b):a<=b:=by
 have b1:=h.b1;rcases h.att with q | ⟨i,j,s,m,r⟩
 ·omega
 ·have a0:=h.a0
  have D:(j:Int)-i<=f j-f i:=by
   obtain ⟨s1,s2⟩:=s;have:∀ t:Nat,i+t<n->(t:Int)<=f (i+t)-f i:=by
    intro t;induction t with
    | zero=>intro _;simp
    | succ t ih =>
     intro ht;have x:=ih (by omega)
     have y:=u (i+t) (by omega)
     have z:i+(t+1)=i+t+1:=rfl;rw [z];omega
   have k:=this (j-i) (by omega)
   rw [show i+(j-i)=j by omega] at k
   omega
  have k1:a*((j:Int)-i-2*e)<=a*(f j-f i):=Int.mul_le_mul_of_nonneg_left (by omega) a0
  rw [<-r,Int.mul_comm] at k1;exact Int.le_of_mul_le_mul_left k1 m
theorem YQ {a b s:Nat} (b0:0<b) (h:a<=b) (hs:Nr (a*Un) b s):s<=4607182418800017408:=by
 refine hs.mono (Nr.of_eq (x:=Un) (y:=1) (by decide) (by rw [V1];omega)) b0 (by decide) ?_
 rw [Nat.mul_one,Nat.mul_comm Un];exact Nat.mul_le_mul_right _ h
theorem K0 {eps:Int} {f:Nat->Int} {n:Nat} {a b c fr:Int} {s:Nat} (h:dP eps f n a b c 0) (hn:n<=100000000) (bd:∀ i,i<n->0<=f i/\f i<18446744073709551616) (a1:a<18446744073709551616) (b1:b<18446744073709551616)
  (f0:0<=fr) (f1:fr+n<=4294967296) (hs:Nr (a.toNat*Un) b.toNat s) :
  bU s (floatOfInt .f64 (fr+c)) fr (fr+n)=0/\∀ i,i<n->-eps<=cd (f 0) s (floatOfInt .f64 (fr+c)) fr (fr+n) f i/\cd (f 0) s (floatOfInt .f64 (fr+c)) fr (fr+n) f i<=eps:=by
 rcases h with ⟨_,_,_,_,h⟩ | ⟨_,_,_,_,_,h⟩ | ⟨_,_,_,_,_,_,h⟩ | ⟨ke,⟨n0,u⟩,F,L,B,_⟩
 ·cases h
 ·cases h
 ·cases h
 have a0:=L.a0;have bb:=L.b1;obtain ⟨st,c0,c1⟩:=Kf ke u n0 hn F L (Kg (by omega) u L F) B
 obtain ⟨wf,ws⟩:=YO (fr+c) (by omega) (by omega)
 have s1:=YQ (b:=b.toNat) (by omega) (by have:=YP (by omega) u L;omega) hs
 have er:bU s (floatOfInt .f64 (fr+c)) fr (fr+n)=0:=lY.2 ⟨f0,by omega,f1,by omega,wf⟩
 refine ⟨er,fun i hi=>?_⟩
 have d0:=u.le (Nat.zero_le i) hi;have bi:=bd i hi;have Cx:=bd 0 n0;obtain ⟨-,l1,l2⟩:=st i hi;have sm:=uC (e:=eps-1) (by omega) u L F hi
 obtain ⟨d,hd⟩:∃ d:Nat,f i-f 0=d:=⟨(f i-f 0).toNat,by omega⟩
 obtain ⟨A,rfl⟩:∃ A:Nat,a=A:=⟨a.toNat,by omega⟩
 obtain ⟨Bn,rfl⟩:∃ Bn:Nat,b=Bn:=⟨b.toNat,by omega⟩
 rw [Int.toNat_natCast,Int.toNat_natCast] at hs;rw [hd] at l1 l2 sm;have q:(A:Int)*d/Bn=((A*d/Bn:Nat):Int):=by rw [Int.natCast_ediv,Int.natCast_mul]
 rw [q] at l1 l2 sm;obtain ⟨y,p,r,v,hy,ey,hp,ep,hr,ev,fv,sv,-,-⟩:=uK (sl:=s) (ic:=floatOfInt .f64 (fr+c)) (far:=d) (by omega) wf (by omega)
 rw [ws] at hr sv;have hq:A*d<=17179869184*Bn:=by
  have x:=Nat.div_add_mod (A*d) Bn;have z:=Nat.mod_lt (A*d) (show 0<Bn by omega)
  have k:A*d/Bn+1<=17179869184:=by omega
  have k2:=Nat.mul_le_mul_right Bn k;rw [Nat.add_mul,Nat.mul_comm (A*d/Bn)] at k2;omega
 obtain ⟨g1,g2⟩:=Yw (a:=A) (b:=Bn) (d:=d) (c:=fr+c) (by omega) (by omega) (by omega) (by omega) hs hy hp hq (by omega) (by omega) hr
 unfold cd;rw [yM er Cx.1 bi.2,hd,Int.toNat_natCast,uL ey ep ev];have fl:cX v=gT ((V p:Int)+(fr+c)*Un) r/Un:=by unfold cX;rw [sv]
 rw [fl];have:=Yv (t:=gT ((V p:Int)+(fr+c)*Un) r/Un) (lo:=fr) (hi:=fr+n) (x:=fr+i) (k:=eps) (by omega) (by omega) (by omega) (by omega) (by omega)
 omega
end Go.Proofs.YtklkpldicbkjeaaGreat
