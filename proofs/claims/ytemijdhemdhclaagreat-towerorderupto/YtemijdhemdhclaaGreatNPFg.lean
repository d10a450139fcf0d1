/- Small walks: what is no number, what is infinite, bits of floats. -/
import Derived.Laws.BitsAllLaws
import Derived.Test.YtemijdhemdhclaaGreatNPBs
import Derived.Test.YtemijdhemdhclaaGreatNPFl
set_option linter.unusedVariables false
open Go.Proofs.Tryz
namespace Go.Proofs.YtemijdhemdhclaaGreat
open Go.RowKit
theorem f64bits (b:Nat) (w:World):(callFunc 153 #[.float .f64 b]).run prog w=.ok (.value (.int .u64 b)) w:=by
  rw [run_callFunc_extern func153 (by kernel_rfl) (by kernel_rfl) (by kernel_rfl) (e:=Extern.MathFloatBits.float64bits) (by kernel_rfl)]
  rfl
theorem f64from (n:Int) (w:World):(callFunc 164 #[.int .u64 n]).run prog w=.ok (.value (.float .f64 n.toNat)) w:=by
  rw [run_callFunc_extern func164 (by kernel_rfl) (by kernel_rfl) (by kernel_rfl) (e:=Extern.MathFloatBits.float64frombits) (by kernel_rfl)]
  rfl
theorem fmt:FloatKind.f64.format=Ieee.double:=rfl
theorem self_ne (x:Nat):(FloatKind.f64.format.order x x != some .eq)=decide (9218868437227405312<rg x):=by
  rw [fmt];rcases Nat.lt_trichotomy (rg x) 9218868437227405312 with h | h | h
  · rw [f_ne h h];simp;omega
  · unfold Ieee.Format.order;rw [read_inf h]
    simp [Ieee.Datum.order,h]
  · unfold Ieee.Format.order;rw [read_nan h]
    simp [Ieee.Datum.order,h]
theorem isnan (x:Nat) (w:World) :
    Calls prog 136 #[.float .f64 x] w fun e w'=>e=.returned (.bool (decide (9218868437227405312<rg x)))/\w'=w:=by
  have h:=self_ne x;go_enter func136,ntmps136;go_wp2;go_ret;exact ⟨rfl,rfl⟩
theorem andnot_top (x:Nat) (hx:x<18446744073709551616):bits .andNot .u64 (x:Int) 9223372036854775808=((rg x:Nat):Int):=by
  have:=u64_andNot_nat x 9223372036854775808 hx (by decide)
  rw [show ((9223372036854775808:Nat):Int)=9223372036854775808 from rfl] at this;rw [this,show (18446744073709551615-9223372036854775808:Nat)=2^63-1 from rfl,Nat.and_two_pow_sub_one_eq_mod];rfl
theorem rg_lt (x:Nat):rg x<9223372036854775808:=Nat.mod_lt _ (by decide)
theorem rg_rg (x:Nat):rg (rg x)=rg x:=Nat.mod_eq_of_lt (rg_lt x)
theorem sg_rg (x:Nat):sg (rg x)=false:=by
  have:=rg_lt x;unfold sg;simp;omega
theorem abs_any (x:Nat) (hx:x<18446744073709551616) (w:World) :
    Calls prog 154 #[.float .f64 x] w fun e w'=>e=.returned (.float .f64 (rg x))/\w'=w:=by
  have h:=andnot_top x hx;go_enter func154,ntmps154;go_wp2_with (first | simp only [f64bits] | simp only [f64from])
  go_ret
  exact ⟨rfl,rfl⟩
theorem SV_rg (x:Nat):SV (rg x)=V (rg x):=by unfold SV;rw [sg_rg,rg_rg];rfl
theorem above_max (x:Nat):(FloatKind.f64.format.order (rg x) 9218868437227405311 == some .gt)=decide (rg x=9218868437227405312):=by
  rw [fmt];have hm:rg 9218868437227405311<9218868437227405312:=by decide
  rcases Nat.lt_trichotomy (rg x) 9218868437227405312 with h | h | h
  · rw [f_gt (by rw [rg_rg];exact h) hm]
    have e1:SV 9218868437227405311=V 9218868437227405311:=SV_rg 9218868437227405311;rw [SV_rg,e1];have:V (rg x)<=V 9218868437227405311:=V_le (by omega)
    simp;omega
  · unfold Ieee.Format.order;rw [read_inf (by rw [rg_rg];exact h),read_fin hm,sg_rg]
    simp [Ieee.Datum.order,h]
  · unfold Ieee.Format.order;rw [read_nan (by rw [rg_rg];exact h),read_fin hm]
    simp [Ieee.Datum.order];omega
theorem isinf (x:Nat) (hx:x<18446744073709551616) (w:World) :
    Calls prog 138 #[.float .f64 x,.int .i64 0] w fun e w'=>e=.returned (.bool (decide (rg x=9218868437227405312)))/\w'=w:=by
  have h:=above_max x;go_enter func138,ntmps138;go_wp2_with (go_at_call 154;refine (abs_any x hx _).mono ?_;rintro e w' ⟨rfl,rfl⟩);go_ret;exact ⟨rfl,rfl⟩
def nanw (x y:Nat) (w:World):Nat:=(Question.nanBits .f64 x y).cut (w.tape w.drawn (.nanBits .f64 x y))
theorem nanw_rg (x y:Nat) (w:World):9218868437227405312<rg (nanw x y w):=by
  unfold nanw rg;generalize w.tape w.drawn (.nanBits .f64 x y)=t;show 9218868437227405312<(t%2*2^63+9218868437227405312+1+t/2%(2^52-1))%9223372036854775808;have:t/2%(2^52-1)<2^52-1:=Nat.mod_lt _ (by decide)
  generalize t/2%(2^52-1)=a at *;have h2:t%2<2:=Nat.mod_lt _ (by decide)
  generalize t%2=c at *;omega
theorem run_mul_none (t:TypeId) (x y:Nat) (h:Ieee.double.mul x y=none) (w:World):(binOp .mul t (.float .f64 x) (.float .f64 y)).run prog w=.ok (.float .f64 (nanw x y w)) w.drew:=by
  have h':FloatKind.f64.format.mul x y=none:=h;simp [binOp,Op.floatArith,h'];rfl
theorem run_add_none (t:TypeId) (x y:Nat) (h:Ieee.double.add x y=none) (w:World):(binOp .add t (.float .f64 x) (.float .f64 y)).run prog w=.ok (.float .f64 (nanw x y w)) w.drew:=by
  have h':FloatKind.f64.format.add x y=none:=h;simp [binOp,Op.floatArith,h'];rfl
theorem add_nan {x y:Nat} (h:9218868437227405312<rg x):Ieee.double.add x y=none:=by
  unfold Ieee.Format.add;rw [read_nan h];rfl
def AL (s y base r:Nat):Prop:=(∃ p,Ieee.double.mul s y=some p/\Ieee.double.add p base=some r)\/((∀ p,Ieee.double.mul s y=some p->Ieee.double.add p base=none)/\9218868437227405312<rg r)
theorem along_some (s y far base p r:Nat) (hf:far<18446744073709551616) (ey:floatOfInt .f64 (far:Int)=y) (h1:Ieee.double.mul s y=some p) (h2:Ieee.double.add p base=some r) (w:World) :
    Calls prog 140 #[.float .f64 s,.int .u64 far,.float .f64 base] w fun e w'=>e=.returned (.float .f64 r)/\w'=w:=by
  have k1:∀ w,(binOp .mul 168 (.float .f64 s) (.float .f64 y)).run prog w=.ok (.float .f64 p) w:=fun w=>run_float_arith w .mul _ _ _ _ _ h1
  have k2:∀ w,(binOp .add 168 (.float .f64 p) (.float .f64 base)).run prog w=.ok (.float .f64 r) w:=fun w=>run_float_arith w .add _ _ _ _ _ h2
  go_enter func140,ntmps140;go_wp2;go_ret;exact ⟨rfl,rfl⟩
theorem along_any (s y far base:Nat) (hf:far<18446744073709551616) (ey:floatOfInt .f64 (far:Int)=y) (w:World) :
    Calls prog 140 #[.float .f64 s,.int .u64 far,.float .f64 base] w fun e w'=>(∃ r,e=.returned (.float .f64 r)/\AL s y base r)/\∃ n,w'=w.drewN n:=by
  cases h1:Ieee.double.mul s y with
  | some p =>
    cases h2:Ieee.double.add p base with
    | some r=>exact (along_some s y far base p r hf ey h1 h2 w).mono fun e w' h=>⟨⟨r,h.1,.inl ⟨p,h1,h2⟩⟩,0,h.2⟩
    | none =>
      have k1:∀ w,(binOp .mul 168 (.float .f64 s) (.float .f64 y)).run prog w=.ok (.float .f64 p) w:=fun w=>run_float_arith w .mul _ _ _ _ _ h1
      have k2:∀ w,(binOp .add 168 (.float .f64 p) (.float .f64 base)).run prog w=.ok (.float .f64 (nanw p base w)) w.drew:=fun w=>run_add_none _ _ _ h2 w
      have a:Hid (AL s y base (nanw p base w)):=.inr ⟨fun q hq=>(by rw [h1] at hq;cases hq;exact h2),nanw_rg _ _ _⟩
      clear h1 h2;go_enter func140,ntmps140;go_wp2;go_ret;exact ⟨⟨_,rfl,a.out⟩,1,rfl⟩
  | none =>
    have k1:∀ w,(binOp .mul 168 (.float .f64 s) (.float .f64 y)).run prog w=.ok (.float .f64 (nanw s y w)) w.drew:=fun w=>run_mul_none _ _ _ h1 w
    have k2:∀ w',(binOp .add 168 (.float .f64 (nanw s y w)) (.float .f64 base)).run prog w'=.ok (.float .f64 (nanw (nanw s y w) base w')) w'.drew:=fun w'=>run_add_none _ _ _ (add_nan (nanw_rg s y w)) w'
    have a:Hid (AL s y base (nanw (nanw s y w) base w.drew)):=.inr ⟨fun q hq=>(by rw [h1] at hq;cases hq),nanw_rg _ _ _⟩
    clear h1;go_enter func140,ntmps140;go_wp2;go_ret;exact ⟨⟨_,rfl,a.out⟩,2,rfl⟩
def cMin (x:Nat):Bool:=Ieee.double.order x 14114281232179134464 == some .lt
def cMax (x:Nat):Bool:=Ieee.double.order x 4890909195324358656 == some .gt||Ieee.double.order x 4890909195324358656 == some .eq
theorem V_two (k:Nat):V ((k+1023)*4503599627370496)=2^k*Un:=by
  have:=V_form (k+1022) 4503599627370496 (by decide) (.inl (by decide))
  rw [show (k+1022)*4503599627370496+4503599627370496=(k+1023)*4503599627370496 by omega] at this
  rw [this,show (4503599627370496:Nat)=2^52 from rfl,<-Nat.pow_add,Un_pow,show 52+(k+1022)=k+1074 by omega]
theorem V63:V 4890909195324358656=9223372036854775808*Un:=by
  have h:=V_two 63;rw [show (63+1023)*4503599627370496=4890909195324358656 from rfl,show (2:Nat)^63=9223372036854775808 from rfl] at h;exact h
theorem SVmax:SV 4890909195324358656=9223372036854775808*(Un:Int):=by
  unfold SV;rw [show sg 4890909195324358656=false from rfl,show rg 4890909195324358656=4890909195324358656 from rfl,V63];simp
theorem SVmin:SV 14114281232179134464=-(9223372036854775808*(Un:Int)):=by
  unfold SV;rw [show sg 14114281232179134464=true from rfl,show rg 14114281232179134464=4890909195324358656 from rfl,V63];simp
theorem clamp_in {x:Nat} (h:¬ 9218868437227405312<rg x) (h1:cMin x=false) (h2:cMax x=false) :
    rg x<9218868437227405312/\-9223372036854775808<=flo x/\flo x<9223372036854775808/\-9223372036854775808<=tru x/\tru x<9223372036854775808:=by
  have hU:=Un_pos;rcases Nat.lt_or_ge (rg x) 9218868437227405312 with k | k
  · unfold cMin at h1;unfold cMax at h2
    rw [f_lt k (by decide),SVmin] at h1
    rw [f_ge k (by decide),SVmax] at h2
    simp only [decide_eq_false_iff_not] at h1 h2;have f0:-9223372036854775808<=flo x:=by
      unfold flo;refine (Int.le_ediv_iff_mul_le (by omega)).2 ?_
      omega
    have f1:flo x<9223372036854775808:=by
      unfold flo;refine (Int.ediv_lt_iff_lt_mul (by omega)).2 ?_
      omega
    obtain ⟨t1,t2⟩:=tru_flo x;by_cases c:SV x<tru x*Un
    · have:=t1 c
      refine ⟨k,f0,f1,by omega,?_⟩
      by_cases s:sg x=true
      · unfold tru;rw [if_pos s]
        generalize V (rg x)/Un=q;omega
      · exfalso
        have s':sg x=false:=by simpa using s
        have e1:=flo_eq x;rw [s'] at e1;unfold tru at this;rw [s'] at this;simp at e1 this;omega
    · have:=t2 c
      exact ⟨k,f0,f1,by omega,by omega⟩
  · have e:rg x=9218868437227405312:=by omega
    exfalso
    unfold cMin Ieee.Format.order at h1;unfold cMax Ieee.Format.order at h2;rw [read_inf e,read_fin (show rg 14114281232179134464<9218868437227405312 by decide)] at h1
    rw [read_inf e,read_fin (show rg 4890909195324358656<9218868437227405312 by decide)] at h2
    cases hs:sg x<;>rw [hs] at h1 h2<;>simp [Ieee.Datum.order] at h1 h2
def clampv (x:Nat) (lo hi:Int):Int :=
  if hi<lo\/9218868437227405312<rg x then lo else if cMin x then lo else if cMax x then hi else min (max (flo x) lo) hi
theorem archfloor {x:Nat} (hx:rg x<9218868437227405312) (w:World):(callFunc 166 #[.float .f64 x]).run prog w=.ok (.value (.float .f64 (flb x))) w:=by
  rw [run_callFunc_extern func166 (by kernel_rfl) (by kernel_rfl) (by kernel_rfl) (e:=Extern.MathFloor.toIntegral "math.archFloor" .down) (by kernel_rfl)]
  have key:Extern.MathFloor.toIntegral "math.archFloor" .down #[.float .f64 x]=pure (.float .f64 (flb x)):=by
    unfold flb;have e:=read_fin hx
    delta Extern.MathFloor.toIntegral
    conv=>lhs;whnf
    rw [show FloatKind.f64.decode x=_ from e,e];rfl
  rw [key];rfl
theorem floor_any {x:Nat} (hx:rg x<9218868437227405312) (w:World) :
    Calls prog 155 #[.float .f64 x] w fun e w'=>e=.returned (.float .f64 (flb x))/\w'=w:=by
  go_enter func155,ntmps155;go_wp2_with (simp only [archfloor hx]);go_ret;exact ⟨rfl,rfl⟩
theorem clamp_last {x:Nat} (lo hi:Int) (h0:-9223372036854775808<=lo) (h1:lo<9223372036854775808) (h2:-9223372036854775808<=hi) (h3:hi<9223372036854775808)
    (hl:¬ hi<lo) (hn:¬ 9218868437227405312<rg x) (hx:rg x<9218868437227405312) (c1:(FloatKind.f64.format.order x 14114281232179134464 == some .lt)=false) (c2:(FloatKind.f64.format.order x 4890909195324358656 == some .gt||FloatKind.f64.format.order x 4890909195324358656 == some .eq)=false)
    (n:Int) (n0:-9223372036854775808<=n) (n1:n<9223372036854775808) (hc:∀ w,(convert 168 2 (.float .f64 (flb x))).run prog w=.ok (.int .i64 n) w) (w:World) :
    Calls prog 139 #[.float .f64 x,.int .i64 lo,.int .i64 hi] w fun e w'=>e=.returned (.int .i64 (min (max n lo) hi))/\w'=w:=by
  go_enter func139,ntmps139;go_wp2_with (first | (go_at_call 136;refine (isnan x _).mono ?_;rintro e w' ⟨rfl,rfl⟩) | (go_at_call 155;refine (floor_any hx _).mono ?_;rintro e w' ⟨rfl,rfl⟩))
  all_goals go_ret
  all_goals first
    | exact ⟨rfl,rfl⟩
    | exact ⟨congrArg (fun z=>Ending.returned (.int .i64 z)) (show _=min (max n lo) hi by first | omega | (simp only [*] at *;omega)),rfl⟩
theorem clamp_any (x:Nat) (lo hi:Int) (h0:-9223372036854775808<=lo) (h1:lo<9223372036854775808) (h2:-9223372036854775808<=hi) (h3:hi<9223372036854775808) (w:World) :
    Calls prog 139 #[.float .f64 x,.int .i64 lo,.int .i64 hi] w fun e w'=>e=.returned (.int .i64 (clampv x lo hi))/\w'=w:=by
  unfold clampv;by_cases hl:hi<lo
  · rw [if_pos (.inl hl)]
    go_enter func139,ntmps139;go_wp2;go_ret;exact ⟨rfl,rfl⟩
  · by_cases hn:9218868437227405312<rg x
    · rw [if_pos (.inr hn)]
      go_enter func139,ntmps139;go_wp2_with (go_at_call 136;refine (isnan x _).mono ?_;rintro e w' ⟨rfl,rfl⟩);go_ret;exact ⟨rfl,rfl⟩
    · rw [if_neg (by omega)]
      cases c1:cMin x
      · cases c2:cMax x
        · obtain ⟨hx,f0,f1,-,-⟩:=clamp_in hn c1 c2
          exact clamp_last lo hi h0 h1 h2 h3 hl hn hx c1 c2 (flo x) f0 f1 (fun w=>run_convert_float_int w _ _ _ _ _ _ (by kernel_rfl) (by kernel_rfl) (toVal_flb hx f0 f1)) w
        · have c1':(FloatKind.f64.format.order x 14114281232179134464 == some .lt)=false:=c1
          have c2':(FloatKind.f64.format.order x 4890909195324358656 == some .gt||FloatKind.f64.format.order x 4890909195324358656 == some .eq)=true:=c2
          clear c1 c2;rw [if_neg (by decide),if_pos rfl]
          go_enter func139,ntmps139;go_wp2_with (go_at_call 136;refine (isnan x _).mono ?_;rintro e w' ⟨rfl,rfl⟩);go_ret;exact ⟨rfl,rfl⟩
      · have c1':(FloatKind.f64.format.order x 14114281232179134464 == some .lt)=true:=c1
        clear c1;rw [if_pos rfl];go_enter func139,ntmps139;go_wp2_with (go_at_call 136;refine (isnan x _).mono ?_;rintro e w' ⟨rfl,rfl⟩);go_ret;exact ⟨rfl,rfl⟩
open Ieee
def gv (t lo hi:Int):Int:=min (max t lo) hi
theorem gv_in {t lo hi:Int} (h:lo<=hi):lo<=gv t lo hi/\gv t lo hi<=hi:=by unfold gv;omega
theorem gv_mono {t u lo hi:Int} (h:t<=u):gv t lo hi<=gv u lo hi:=by unfold gv;omega
theorem gv_near {t lo hi x k:Int} (h1:lo<=x) (h2:x<=hi) (a:x-k<=t) (b:t<=x+k) (k0:0<=k):x-k<=gv t lo hi/\gv t lo hi<=x+k:=by unfold gv;omega
theorem floor_near {a b d s y p r:Nat} {c:Int} (b0:0<b) (a1:a<18446744073709551616) (b1:b<18446744073709551616) (d1:d<18446744073709551616)
    (hs:Nr (a*Un) b s) (hy:Nr (d*Un) 1 y) (hp:Nr (V s*V y) Un p) (hq:a*d<=17179869184*b) (c0:-17179869184<=c) (c1:c<=17179869184)
    (hr:Nr ((V p:Int)+c*Un).natAbs 1 r) :
    ((a*d/b:Nat):Int)+c-1<=rnd ((V p:Int)+c*Un) r/Un/\rnd ((V p:Int)+c*Un) r/Un<=((a*d/b:Nat):Int)+c+1:=by
  obtain ⟨h1,h2⟩:=line_near b0 a1 b1 d1 hs hy hp hq c0 c1 hr;have U0:=Un_pos;obtain ⟨U,hU⟩:∃ U,Un=U:=⟨_,rfl⟩;rw [hU] at h1 h2 U0 ⊢;obtain ⟨R,hR⟩:∃ R,rnd ((V p:Int)+c*U) r=R:=⟨_,rfl⟩;rw [hR] at h1 h2 ⊢;clear hR hU hs hy hp hr;have dm:=Nat.div_add_mod (a*d) b;have ml:=Nat.mod_lt (a*d) b0;obtain ⟨T,hT⟩:∃ T,a*d/b=T:=⟨_,rfl⟩;rw [hT] at dm ⊢;have U1:(0:Int)<(U:Int):=by omega
  have B1:(0:Int)<(b:Int):=by omega
  have UB:(0:Int)<(U:Int)*b:=Int.mul_pos U1 B1;have ad1:(b:Int)*T<=((a*d:Nat):Int):=by
    have:b*T<=a*d:=by omega
    exact_mod_cast this
  have ad2:((a*d:Nat):Int)<=(b:Int)*T+b:=by
    have:a*d<=b*T+b:=by omega
    exact_mod_cast this
  have m1:=Int.mul_le_mul_of_nonneg_right ad1 (Int.le_of_lt U1);have m2:=Int.mul_le_mul_of_nonneg_right ad2 (Int.le_of_lt U1);have e1:(b:Int)*T*U=T*((U:Int)*b):=by rw [Int.mul_comm (b:Int) T,Int.mul_assoc,Int.mul_comm (b:Int) U]
  have e2:((b:Int)*T+b)*U=T*((U:Int)*b)+(U:Int)*b:=by rw [Int.add_mul,e1,Int.mul_comm (b:Int) U]
  rw [e1] at m1;rw [e2] at m2;have e3:c*(U:Int)*b=c*((U:Int)*b):=Int.mul_assoc _ _ _;rw [e3] at h1 h2;constructor
  ·
    rw [Int.le_ediv_iff_mul_le U1];have k:((T:Int)+c-1)*U*b<=R*b:=by
      have e4:((T:Int)+c-1)*U*b=T*((U:Int)*b)+c*((U:Int)*b)-(U:Int)*b:=by rw [Int.mul_assoc,Int.sub_mul,Int.add_mul,Int.one_mul]
      omega
    exact Int.le_of_mul_le_mul_right k B1
  ·
    have k:R*b<((T:Int)+c+2)*U*b:=by
      have e4:((T:Int)+c+2)*U*b=T*((U:Int)*b)+c*((U:Int)*b)+2*((U:Int)*b):=by rw [Int.mul_assoc,Int.add_mul,Int.add_mul]
      omega
    have k':R<((T:Int)+c+2)*U:=Int.lt_of_mul_lt_mul_right k (Int.le_of_lt B1);have:=Int.ediv_lt_of_lt_mul U1 k';omega
theorem rnd_le {S1 S2:Int} {r1 r2:Nat} (h1:Nr S1.natAbs 1 r1) (h2:Nr S2.natAbs 1 r2) (h:S1<=S2):rnd S1 r1<=rnd S2 r2:=by
  unfold rnd;by_cases a:S1<0
  · rw [if_pos a]
    by_cases b:S2<0
    · rw [if_pos b]
      have:r2<=r1:=h2.mono h1 (by decide) (by decide) (by omega)
      have:=V_le this
      omega
    · rw [if_neg b];omega
  · rw [if_neg a,if_neg (by omega)]
    have:r1<=r2:=h1.mono h2 (by decide) (by decide) (by omega)
    have:=V_le this
    omega
theorem top_fin {x r:Nat} (h:Nr x 1 r) (b:x<=V 9218868437227405311+36893488147419103232*Un):r<=9218868437227405311:=by
  obtain ⟨B,hB⟩:∃ B,B=9218868437227405311:=⟨_,rfl⟩;rw [<-hB] at b ⊢;by_cases q:x<=V B
  · exact h.mono (Nr.exact B 1 (by decide)) (by decide) (by decide) (by omega)
  · have st:=V_step B
    obtain ⟨e,he⟩:∃ e,B/4503599627370496-1=e:=⟨_,rfl⟩;rw [he] at st;have e0:2000<e:=by omega
    have g:73786976294838206464*Un<2^e:=by
      obtain ⟨k,hk,eU⟩:=Un_ex;have e2:(2:Nat)^66=73786976294838206464:=by decide +kernel
      rw [eU,<-e2,<-Nat.pow_add];exact Nat.pow_lt_pow_right (by decide) (by omega)
    generalize (2:Nat)^e=k at st g;have lt:=V_lt (show B-1<B by omega)
    have n:Nr x 1 B:=by
      refine ⟨by omega,by rw [st];omega,fun e=>by omega,fun e=>?_⟩
      rw [st] at e;omega
    exact Nat.le_of_eq (h.uniq n (by decide))
theorem off_probe {f:Nat->Int} {n:Nat} {g:Int->Int} {lo N:Int} (n0:0<n) (mono:∀ x y,f 0<=x->x<=y->g x<=g y) (up:∀ i,i<n->f 0<=f i) (rng:∀ x,f 0<=x->lo<=g x/\g x<=lo+n) (N0:0<=N)
    (off:∀ i,i<n->lo+i-N<=g (f i)/\g (f i)<=lo+i+N) (q:Int) (k:Nat) (hk:k<=n) (below:∀ i,i<k->f i<q) (above:∀ i,k<=i->i<n->q<=f i) (first:f 0<=q):lo+k-(N+1)<=g q/\g q<=lo+k+(N+1):=by
  have r:=rng q first;refine ⟨?_,?_⟩
  · by_cases z:k=0
    · subst z
      have:=above 0 (Nat.le_refl _) n0
      have e:q=f 0:=by omega
      subst e;have:=(off 0 n0).1;omega
    · have b:=below (k-1) (by omega)
      have m:=mono (f (k-1)) q (up _ (by omega)) (by omega)
      have o:=(off (k-1) (by omega)).1
      omega
  · by_cases z:k<n
    · have a:=above k (Nat.le_refl _) z
      have m:=mono q (f k) first a;have o:=(off k z).2;omega
    · omega
def errM (sl ic:Nat) (fr to:Int):Int :=
  if fr<0\/to<=fr\/4294967296<to then 70 else if 4611686018427387904<sl then 71 else if 9218868437227405312<=rg ic then 72 else 0
abbrev segV (k:Int) (sl ic:Nat) (fr to:Int):Value:=.agg #[.int .u64 k,.float .f64 sl,.float .f64 ic,.int .i64 fr,.int .i64 to]
theorem errM_ok {sl ic:Nat} {fr to:Int}:errM sl ic fr to=0↔0<=fr/\fr<to/\to<=4294967296/\sl<=4611686018427387904/\rg ic<9218868437227405312:=by
  unfold errM;by_cases h:fr<0\/to<=fr\/4294967296<to
  · rw [if_pos h];omega
  · rw [if_neg h]
    by_cases h1:4611686018427387904<sl
    · rw [if_pos h1];omega
    · rw [if_neg h1]
      by_cases h2:9218868437227405312<=rg ic
      · rw [if_pos h2];omega
      · rw [if_neg h2];omega
def fge0 (x:Nat):Bool:=FloatKind.f64.format.order x 0 == some .gt||FloatKind.f64.format.order x 0 == some .eq
def fgt2 (x:Nat):Bool:=FloatKind.f64.format.order x 4611686018427387904 == some .gt
theorem V0:SV 0=0:=by decide
theorem rg_small {x:Nat} (h:x<9223372036854775808):rg x=x:=Nat.mod_eq_of_lt h
theorem sg_small {x:Nat} (h:x<9223372036854775808):sg x=false:=by unfold sg;simp;omega
theorem SV_small {x:Nat} (h:x<9223372036854775808):SV x=V x:=by unfold SV;rw [sg_small h,rg_small h];rfl
theorem slope_ok {x:Nat} (h:x<=4611686018427387904):fge0 x=true/\decide ((9223372036854775808:Int)<=(x:Int))=false/\fgt2 x=false:=by
  have hx:rg x<9218868437227405312:=by rw [rg_small (by omega)];omega
  have e:=SV_small (x:=x) (by omega)
  refine ⟨?_,by simp;omega,?_⟩
  · unfold fge0;rw [fmt,f_ge hx (by decide),V0,e];simp
  · unfold fgt2;rw [fmt,f_gt hx (by decide),e,SV_small (by decide)]
    have:=V_le h
    simp;omega
theorem V64:V 4895412794951729152=18446744073709551616*Un:=by
  have:=V_pw2 64
  rwa [show (64+1023)*4503599627370496=4895412794951729152 from rfl,show (2:Nat)^64=18446744073709551616 from rfl] at this
theorem V65:V 4899916394579099648=36893488147419103232*Un:=by
  have:=V_pw2 65
  rwa [show (65+1023)*4503599627370496=4899916394579099648 from rfl,show (2:Nat)^65=36893488147419103232 from rfl] at this
theorem line_right {sl ic far:Nat} (hs:sl<=4611686018427387904) (hi:rg ic<9218868437227405312) (hf:far<18446744073709551616) :
    ∃ y p r v,Nr (far*Un) 1 y/\floatOfInt .f64 (far:Int)=y/\Nr (V sl*V y) Un p/\Ieee.double.mul sl y=some p/\Nr ((V p:Int)+SV ic).natAbs 1 r/\Ieee.double.add p ic=some v/\rg v<9218868437227405312/\SV v=rnd ((V p:Int)+SV ic) r/\y<=4895412794951729152/\p<=4899916394579099648:=by
  have U0:=Un_pos;obtain ⟨y,hy,ey⟩:=ofInt_any (far:Int);rw [Int.natAbs_natCast] at hy;have y1:y<=4895412794951729152:=hy.mono (Nr.of_eq (x:=18446744073709551616*Un) (y:=1) (by decide) (by rw [V64];omega)) (by decide) (by decide) (by
    rw [Nat.mul_one,Nat.mul_one];exact Nat.mul_le_mul_right _ (by omega))
  have dn:decide ((far:Int)<0)=false:=by simp
  rw [dn,Nat.min_eq_left (by omega),word_false] at ey
  have ys:rg y=y:=rg_small (by omega)
  have ss:rg sl=sl:=rg_small (by omega)
  obtain ⟨p,hp,ep⟩:=mul_fin (x:=sl) (y:=y) (by rw [ss];omega) (by rw [ys];omega)
  rw [ss,ys] at hp;have p1:p<=4899916394579099648:=hp.mono (Nr.of_eq (x:=36893488147419103232*Un*Un) (y:=Un) U0 (by rw [V65])) U0 U0 (by
    refine Nat.mul_le_mul_right _ ?_;have a:=V_le hs;have b:=V_le y1;rw [V2] at a;rw [V64] at b;have e:∀ U:Nat,2*U*(18446744073709551616*U)=36893488147419103232*U*U:=fun U=>by rw [Nat.mul_mul_mul_comm,<-Nat.mul_assoc]
    exact Nat.le_trans (Nat.mul_le_mul a b) (Nat.le_of_eq (e Un)))
  rw [sg_small (x:=sl) (by omega),sg_small (x:=y) (by omega),Nat.min_eq_left (by omega)] at ep
  have ep':Ieee.double.mul sl y=some p:=ep;have ps:rg p=p:=rg_small (by omega)
  have pv:SV p=V p:=SV_small (by omega)
  obtain ⟨r,hr,er⟩:=add_fin (x:=p) (y:=ic) (by rw [ps];omega) hi
  rw [pv] at hr er;have ab:((V p:Int)+SV ic).natAbs<=V 9218868437227405311+36893488147419103232*Un:=by
    have a:=V_le p1;rw [V65] at a;have b:=V_le (show rg ic<=9218868437227405311 by omega)
    have c:(SV ic).natAbs<=V (rg ic):=by unfold SV;split<;>omega
    omega
  have r1:=top_fin hr ab;rw [Nat.min_eq_left (show r<=9218868437227405312 by omega)] at er
  refine ⟨y,p,r,_,hy,ey,hp,ep',hr,er,by rw [word_rg _ _ (by omega)];omega,?_,y1,p1⟩
  rw [SV_word _ _ (by omega)]
  unfold rnd;by_cases z:(V p:Int)+SV ic=0
  · have r0:r=0:=by
      rw [z] at hr;exact hr.uniq (Nr.zero 1 (by decide)) (by decide)
    subst r0;rw [V_zero];simp
  · rw [if_neg z]
    by_cases n:(V p:Int)+SV ic<0
    · rw [if_pos (decide_eq_true n),if_pos n]
    · rw [if_neg (by simpa using n),if_neg n]
theorem clampv_gv {v:Nat} {lo hi:Int} (hv:rg v<9218868437227405312) (h:lo<=hi) (l0:-9223372036854775808<=lo) (h1:hi<9223372036854775808):clampv v lo hi=gv (flo v) lo hi:=by
  have U0:=Un_pos;have U1:(0:Int)<Un:=by omega
  unfold clampv;rw [if_neg (by omega)]
  cases c1:cMin v
  · cases c2:cMax v
    · rfl
    · rw [if_neg (by decide),if_pos rfl]
      unfold cMax at c2;rw [f_ge hv (by decide),SVmax,decide_eq_true_eq] at c2
      have:9223372036854775808<=flo v:=by
        unfold flo;exact (Int.le_ediv_iff_mul_le U1).2 c2
      unfold gv;omega
  · rw [if_pos rfl]
    unfold cMin at c1;rw [f_lt hv (by decide),SVmin,decide_eq_true_eq] at c1
    have:flo v < -9223372036854775808:=by
      unfold flo;refine Int.ediv_lt_of_lt_mul U1 ?_;rw [Int.neg_mul];exact c1
    unfold gv;omega
def gfl (sl ic far:Nat):Nat :=
  match Ieee.double.mul sl (floatOfInt .f64 (far:Int)) with
  | some p=>(Ieee.double.add p ic).getD 0
  | none=>0
def guessV (k:Int) (sl ic:Nat) (fr to q:Int):Int:=if errM sl ic fr to=0 then clampv (gfl sl ic (q-k).toNat) fr to else 0
theorem gfl_is {sl ic far y p v:Nat} (ey:floatOfInt .f64 (far:Int)=y) (ep:Ieee.double.mul sl y=some p) (ev:Ieee.double.add p ic=some v):gfl sl ic far=v:=by
  unfold gfl;rw [ey,ep];show (Ieee.double.add p ic).getD 0=v;rw [ev];rfl
theorem AL.is {s y base p v r:Nat} (h:AL s y base r) (ep:Ieee.double.mul s y=some p) (ev:Ieee.double.add p base=some v):r=v:=by
  rcases h with ⟨q,a,b⟩ | ⟨a,b⟩
  · rw [ep] at a;cases a;rw [ev] at b;cases b;rfl
  · have:=a p ep;rw [ev] at this;cases this
theorem gfl_mono {sl ic a b:Nat} (hs:sl<=4611686018427387904) (hi:rg ic<9218868437227405312) (hb:b<18446744073709551616) (h:a<=b):flo (gfl sl ic a)<=flo (gfl sl ic b):=by
  have U0:=Un_pos;obtain ⟨y,p,r,v,hy,ey,hp,ep,hr,ev,fv,sv,-,-⟩:=line_right (far:=a) hs hi (by omega)
  obtain ⟨y',p',r',v',hy',ey',hp',ep',hr',ev',fv',sv',-,-⟩:=line_right (far:=b) hs hi hb;rw [gfl_is ey ep ev,gfl_is ey' ep' ev'];unfold flo;refine Int.ediv_le_ediv (by omega) ?_
  rw [sv,sv'];refine rnd_le hr hr' ?_;have a1:y<=y':=hy.mono hy' (by decide) (by decide) (by rw [Nat.mul_one,Nat.mul_one];exact Nat.mul_le_mul_right _ h)
  have a2:p<=p':=hp.mono hp' U0 U0 (Nat.mul_le_mul_right _ (Nat.mul_le_mul_left _ (V_le a1)));have:=V_le a2;omega
theorem guessV_gv {k q fr to:Int} {sl ic:Nat} (h:errM sl ic fr to=0) (k0:0<=k) (q1:q<18446744073709551616):guessV k sl ic fr to q=gv (flo (gfl sl ic (q-k).toNat)) fr to:=by
  obtain ⟨a,b,c,d,e⟩:=errM_ok.1 h;obtain ⟨y,p,r,v,hy,ey,hp,ep,hr,ev,fv,sv,-,-⟩:=line_right (far:=(q-k).toNat) d e (by omega)
  unfold guessV;rw [if_pos h,gfl_is ey ep ev,clampv_gv fv (by omega) (by omega) (by omega)]
theorem guessV_mono {k q q' fr to:Int} {sl ic:Nat} (h:errM sl ic fr to=0) (k0:0<=k) (q1:q'<18446744073709551616) (le:q<=q'):guessV k sl ic fr to q<=guessV k sl ic fr to q':=by
  obtain ⟨a,b,c,d,e⟩:=errM_ok.1 h;rw [guessV_gv h k0 (by omega),guessV_gv h k0 q1]
  exact gv_mono (gfl_mono d e (by omega) (by omega))
theorem guessV_in {k q fr to:Int} {sl ic:Nat} (h:errM sl ic fr to=0) (k0:0<=k) (q1:q<18446744073709551616):fr<=guessV k sl ic fr to q/\guessV k sl ic fr to q<=to:=by
  obtain ⟨a,b,c,d,e⟩:=errM_ok.1 h;rw [guessV_gv h k0 q1];exact gv_in (by omega)
def worst (g:Nat->Int):Nat->Int
  | 0=>0
  | j+1=>max (max (worst g j) (g j)) (-(g j))
theorem worst_in (g:Nat->Int) (n:Nat):0<=worst g n/\∀ i,i<n->-(worst g n)<=g i/\g i<=worst g n:=by
  induction n with
  | zero=>exact ⟨Int.le_refl _,fun i hi=>by omega⟩
  | succ n ih =>
    obtain ⟨a,b⟩:=ih;have e:worst g (n+1)=max (max (worst g n) (g n)) (-(g n)):=rfl;refine ⟨by omega,fun i hi=>?_⟩
    by_cases c:i=n
    · subst c;omega
    · have:=b i (by omega);omega
theorem worst_le {g:Nat->Int} {M:Int} (M0:0<=M):∀ n,(∀ i,i<n->-M<=g i/\g i<=M)->worst g n<=M:=by
  intro n;induction n with
  | zero=>intro _;exact M0
  | succ n ih =>
    intro h;have a:=ih fun i hi=>h i (by omega)
    have b:=h n (by omega)
    show max (max (worst g n) (g n)) (-(g n))<=M;omega
def away (k:Int) (sl ic:Nat) (fr to:Int) (f:Nat->Int) (i:Nat):Int:=guessV k sl ic fr to (f i)-(fr+i)
def OffR (k:Int) (sl ic:Nat) (fr to:Int) (n:Nat) (f:Nat->Int) (N er:Int):Prop :=
  (errM sl ic fr to≠0/\N=0/\er=errM sl ic fr to) \/
  (errM sl ic fr to=0/\¬ ((n:Int)=to-fr/\f 0=k/\Up f n)/\N=0/\er=1) \/
  (errM sl ic fr to=0/\((n:Int)=to-fr/\f 0=k/\Up f n)/\N=worst (away k sl ic fr to f) n/\er=0)
theorem away_bd {k:Int} {sl ic:Nat} {fr to:Int} {f:Nat->Int} {n:Nat} (h:errM sl ic fr to=0) (k0:0<=k) (hn:(n:Int)=to-fr) (bd:∀ i,i<n->0<=f i/\f i<18446744073709551616):∀ i,i<n->-4294967296<=away k sl ic fr to f i/\away k sl ic fr to f i<=4294967296:=by
  intro i hi;obtain ⟨a,b,c,d,e⟩:=errM_ok.1 h;have:=guessV_in h k0 (bd i hi).2;unfold away;omega
theorem whole_f (t:Int) (h0:-9007199254740992<=t) (h1:t<=9007199254740992):rg (floatOfInt .f64 t)<9218868437227405312/\SV (floatOfInt .f64 t)=t*Un:=by
  obtain ⟨b,hb,e⟩:=rep_small t.natAbs (by omega)
  rw [ofInt_whole t b hb e];refine ⟨by rw [word_rg _ _ (by omega)];exact hb,?_⟩
  rw [SV_word _ _ (by omega),e]
  by_cases n:t<0
  · rw [if_pos (decide_eq_true n)]
    have:(t.natAbs:Int)=-t:=by omega
    rw [Int.natCast_mul,this,Int.neg_mul,Int.neg_neg]
  · rw [if_neg (by simpa using n)]
    have:(t.natAbs:Int)=t:=by omega
    rw [Int.natCast_mul,this]
theorem low_most1 {e:Int} {f:Nat->Int} {n:Nat} {a b:Int} (he:0<=e) (u:Up f n) (h:LowOn e f (Prs n) a b):a<=b:=by
  have b1:=h.b1;rcases h.att with q | ⟨i,j,s,m,r⟩
  · omega
  · have a0:=h.a0
    have D:(j:Int)-i<=f j-f i:=by
      obtain ⟨s1,s2⟩:=s;have:∀ t:Nat,i+t<n->(t:Int)<=f (i+t)-f i:=by
        intro t;induction t with
        | zero=>intro _;simp
        | succ t ih =>
          intro ht;have x:=ih (by omega)
          have y:=u (i+t) (by omega)
          have z:i+(t+1)=i+t+1:=rfl;rw [z];omega
      have k:=this (j-i) (by omega)
      rw [show i+(j-i)=j by omega] at k
      omega
    have k1:a*((j:Int)-i-2*e)<=a*(f j-f i):=Int.mul_le_mul_of_nonneg_left (by omega) a0
    rw [<-r,Int.mul_comm] at k1;exact Int.le_of_mul_le_mul_left k1 m
theorem slope_le {a b s:Nat} (b0:0<b) (h:a<=b) (hs:Nr (a*Un) b s):s<=4607182418800017408:=by
  refine hs.mono (Nr.of_eq (x:=Un) (y:=1) (by decide) (by rw [V1];omega)) b0 (by decide) ?_
  rw [Nat.mul_one,Nat.mul_comm Un];exact Nat.mul_le_mul_right _ h
theorem seg_bound {eps:Int} {f:Nat->Int} {n:Nat} {a b c fr:Int} {s:Nat} (h:OfR eps f n a b c 0) (hn:n<=100000000) (bd:∀ i,i<n->0<=f i/\f i<18446744073709551616) (a1:a<18446744073709551616) (b1:b<18446744073709551616)
    (f0:0<=fr) (f1:fr+n<=4294967296) (hs:Nr (a.toNat*Un) b.toNat s) :
    errM s (floatOfInt .f64 (fr+c)) fr (fr+n)=0/\∀ i,i<n->-eps<=away (f 0) s (floatOfInt .f64 (fr+c)) fr (fr+n) f i/\away (f 0) s (floatOfInt .f64 (fr+c)) fr (fr+n) f i<=eps:=by
  rcases h with ⟨_,_,_,_,h⟩ | ⟨_,_,_,_,_,h⟩ | ⟨_,_,_,_,_,_,h⟩ | ⟨ke,⟨n0,u⟩,F,L,B,_⟩
  · cases h
  · cases h
  · cases h
  have a0:=L.a0;have bb:=L.b1;obtain ⟨st,c0,c1⟩:=of_stays ke u n0 hn F L (near_of (by omega) u L F) B
  obtain ⟨wf,ws⟩:=whole_f (fr+c) (by omega) (by omega)
  have s1:=slope_le (b:=b.toNat) (by omega) (by have:=low_most1 (by omega) u L;omega) hs
  have er:errM s (floatOfInt .f64 (fr+c)) fr (fr+n)=0:=errM_ok.2 ⟨f0,by omega,f1,by omega,wf⟩
  refine ⟨er,fun i hi=>?_⟩
  have d0:=u.le (Nat.zero_le i) hi;have bi:=bd i hi;have b0':=bd 0 n0;obtain ⟨-,l1,l2⟩:=st i hi;have sm:=line_small (e:=eps-1) (by omega) u L F hi
  obtain ⟨d,hd⟩:∃ d:Nat,f i-f 0=d:=⟨(f i-f 0).toNat,by omega⟩
  obtain ⟨A,rfl⟩:∃ A:Nat,a=A:=⟨a.toNat,by omega⟩
  obtain ⟨Bn,rfl⟩:∃ Bn:Nat,b=Bn:=⟨b.toNat,by omega⟩
  rw [Int.toNat_natCast,Int.toNat_natCast] at hs;rw [hd] at l1 l2 sm;have q:(A:Int)*d/Bn=((A*d/Bn:Nat):Int):=by rw [Int.natCast_ediv,Int.natCast_mul]
  rw [q] at l1 l2 sm;obtain ⟨y,p,r,v,hy,ey,hp,ep,hr,ev,fv,sv,-,-⟩:=line_right (sl:=s) (ic:=floatOfInt .f64 (fr+c)) (far:=d) (by omega) wf (by omega)
  rw [ws] at hr sv;have hq:A*d<=17179869184*Bn:=by
    have x:=Nat.div_add_mod (A*d) Bn;have z:=Nat.mod_lt (A*d) (show 0<Bn by omega)
    have k:A*d/Bn+1<=17179869184:=by omega
    have k2:=Nat.mul_le_mul_right Bn k;rw [Nat.add_mul,Nat.mul_comm (A*d/Bn)] at k2;omega
  obtain ⟨g1,g2⟩:=floor_near (a:=A) (b:=Bn) (d:=d) (c:=fr+c) (by omega) (by omega) (by omega) (by omega) hs hy hp hq (by omega) (by omega) hr
  unfold away;rw [guessV_gv er b0'.1 bi.2,hd,Int.toNat_natCast,gfl_is ey ep ev];have fl:flo v=rnd ((V p:Int)+(fr+c)*Un) r/Un:=by unfold flo;rw [sv]
  rw [fl];have:=gv_near (t:=rnd ((V p:Int)+(fr+c)*Un) r/Un) (lo:=fr) (hi:=fr+n) (x:=fr+i) (k:=eps) (by omega) (by omega) (by omega) (by omega) (by omega)
  omega
end Go.Proofs.YtemijdhemdhclaaGreat
namespace Go.Proofs.YtemijdhemdhclaaGreat
open Go.RowKit
def SegR (eps fr:Int) (f:Nat->Int) (n:Nat) (k:Int) (s ic:Nat) (F T er:Int):Prop :=
  (∃ a b c,OfR eps f n a b c er/\er≠0/\k=0/\s=0/\ic=0/\F=0/\T=0) \/
  (∃ a b c,OfR eps f n a b c 0/\¬ (0<=fr/\fr+n<=4294967296)/\k=0/\s=0/\ic=0/\F=0/\T=0/\er=1) \/
  (∃ a b c,OfR eps f n a b c 0/\(0<=fr/\fr+n<=4294967296)/\(a<18446744073709551616/\b<18446744073709551616)/\Nr (a.toNat*Un) b.toNat s/\k=f 0/\ic=floatOfInt .f64 (fr+c)/\F=fr/\T=fr+n/\er=0)
def Sb (w:World) (b:Nat) (k:Int) (s ic:Nat) (F T:Int):Prop:=w.heap[b]?=some (.cells #[.int .u64 k,.float .f64 s,.float .f64 ic,.int .i64 F,.int .i64 T] 170 (0,0))
theorem Sb.lt {w:World} {b:Nat} {k:Int} {s ic:Nat} {F T:Int} (h:Sb w b k s ic F T):b<w.heap.size:=(Array.getElem?_eq_some_iff.1 h).1
theorem Sb.gw {w w':World} {b:Nat} {k:Int} {s ic:Nat} {F T:Int} (h:Sb w b k s ic F T) (g:Gw w w'):Sb w' b k s ic F T:=(g.below.block b h.lt).trans h
theorem Sb.cells {w:World} {b:Nat} {k:Int} {s ic:Nat} {F T:Int} (h:Sb w b k s ic F T):w.cell? ⟨b,0,none⟩=some (.int .u64 k)/\w.cell? ⟨b,1,none⟩=some (.float .f64 s)/\w.cell? ⟨b,2,none⟩=some (.float .f64 ic)/\w.cell? ⟨b,3,none⟩=some (.int .i64 F)/\w.cell? ⟨b,4,none⟩=some (.int .i64 T):=by
  unfold Sb at h;simp [World.cell?,h]
theorem Sb.fz {w:World} {b:Nat} {k:Int} {s ic:Nat} {F T:Int} (h:Sb w b k s ic F T) (o:Nat):w.frozen? ⟨b,o,none⟩=false:=by unfold Sb at h;simp [World.frozen?,h]
theorem run_store_float {P:Program} {w:World} {a:Addr} {m:Mode} (k:FloatKind) (n:Nat):(store a (.float k n) m).run P w=stored P w a (.float k n) m:=run_store P w a _ m rfl
attribute [local go_sem] run_store_float
end Go.Proofs.YtemijdhemdhclaaGreat
namespace Go.Proofs.YtemijdhemdhclaaGreat
theorem guess_before (k:Int) (sl ic:Nat) (fr to q:Int) (h:q<=k):guessV k sl ic fr to q=guessV k sl ic fr to k:=by
  unfold guessV;rw [show (q-k).toNat=(k-k).toNat by omega]
def cntb (f:Nat->Int) (q:Int):Nat->Nat
  | 0=>0
  | j+1=>cntb f q j+(if f j<q then 1 else 0)
theorem cntb_le (f:Nat->Int) (q:Int) (n:Nat):cntb f q n<=n:=by
  induction n with
  | zero=>exact Nat.le_refl _
  | succ n ih=>show cntb f q n+(if f n<q then 1 else 0)<=n+1;split<;>omega
theorem cntb_up {f:Nat->Int} {n:Nat} (u:Up f n) (q:Int):∀ j,j<=n->(∀ i,i<cntb f q j->f i<q)/\(∀ i,cntb f q j<=i->i<j->q<=f i):=by
  intro j;induction j with
  | zero=>intro _;exact ⟨fun i hi=>by simp [cntb] at hi,fun i _ hi=>by omega⟩
  | succ j ih =>
    intro hj;obtain ⟨a,b⟩:=ih (by omega)
    have le:=cntb_le f q j;have e:cntb f q (j+1)=cntb f q j+(if f j<q then 1 else 0):=rfl
    by_cases h:f j<q
    · rw [if_pos h] at e
      have full:cntb f q j=j:=by
        by_cases c:cntb f q j=j
        · exact c
        · have x:=b (cntb f q j) (Nat.le_refl _) (by omega)
          have y:=u.le (show cntb f q j<=j by omega) (by omega)
          omega
      rw [e,full];refine ⟨fun i hi=>?_,fun i h1 h2=>by omega⟩
      by_cases c:i=j
      · subst c;exact h
      · exact a i (by omega)
    · rw [if_neg h] at e
      rw [e,Nat.add_zero];refine ⟨a,fun i h1 h2=>?_⟩
      by_cases c:i=j
      · subst c;omega
      · exact b i h1 (by omega)
theorem probe_off {k:Int} {sl ic:Nat} {fr to:Int} {n:Nat} {f:Nat->Int} {N:Int} (h:errM sl ic fr to=0) (hn:(n:Int)=to-fr) (hk:f 0=k) (u:Up f n) (bd:∀ i,i<n->0<=f i/\f i<18446744073709551616) (N0:0<=N)
    (off:∀ i,i<n->-N<=away k sl ic fr to f i/\away k sl ic fr to f i<=N) (q:Int) (q1:q<18446744073709551616) (first:k<=q):-(N+1)<=guessV k sl ic fr to q-(fr+cntb f q n)/\guessV k sl ic fr to q-(fr+cntb f q n)<=N+1:=by
  obtain ⟨a,b,c,d,e⟩:=errM_ok.1 h;have n0:0<n:=by omega
  have k0:0<=k:=hk▸(bd 0 n0).1;obtain ⟨c1,c2⟩:=cntb_up u q n (Nat.le_refl _);have:=off_probe (f:=f) (n:=n) (g:=fun x=>guessV k sl ic fr to (min x 18446744073709551615)) (lo:=fr) (N:=N) n0 (fun x y _ hxy=>guessV_mono h k0 (by omega) (by omega)) (fun i hi=>u.le (Nat.zero_le i) hi)
    (fun x _=>by have:=guessV_in (q:=min x 18446744073709551615) h k0 (by omega);omega) N0 (fun i hi=>by
      have o:=off i hi;have bi:=bd i hi;unfold away at o;rw [show min (f i) 18446744073709551615=f i by omega]
      omega) q (cntb f q n) (cntb_le f q n) c1 c2 (by omega)
  simp only [show min q 18446744073709551615=q by omega] at this
  omega
open Go.RowKit
structure SegOk (k:Int) (sl ic:Nat) (fr to:Int):Prop where
  k0:0<=k
  k1:k<18446744073709551616
  s1:sl<18446744073709551616
  i1:ic<18446744073709551616
  f0:-9223372036854775808<=fr
  f1:fr<9223372036854775808
  t0:-9223372036854775808<=to
  t1:to<9223372036854775808
def SegOut (ex:Ending) (eps fr:Int) (f:Nat->Int) (n:Nat):Prop:=∃ (k:Int) (s ic:Nat) (F T er:Int),ex=.returned (.tuple #[segV k s ic F T,.int .i64 er])/\SegR eps fr f n k s ic F T er
def OffOut (ex:Ending) (k:Int) (sl ic:Nat) (fr to:Int) (n:Nat) (f:Nat->Int):Prop:=∃ N er:Int,ex=.returned (.tuple #[.int .i64 N,.int .i64 er])/\OffR k sl ic fr to n f N er
structure ModelC:Prop where
  check:∀ (k:Int) (sl ic:Nat) (fr to:Int),SegOk k sl ic fr to->∀ w:World,Calls prog 122 #[segV k sl ic fr to] w fun e w'=>e=.returned (.int .i64 (errM sl ic fr to))/\Gw w w'
  guess:∀ (k:Int) (sl ic:Nat) (fr to q:Int),SegOk k sl ic fr to->0<=q->q<18446744073709551616->∀ w:World,Calls prog 108 #[segV k sl ic fr to,.int .u64 q] w fun e w'=>e=.returned (.int .i64 (guessV k sl ic fr to q))/\Gw w w'
  off:∀ (k:Int) (sl ic:Nat) (fr to:Int) (ao:Option Addr) (n cp:Nat) (f:Nat->Int),SegOk k sl ic fr to->n*8<=140737488351232->n<=cp->∀ w:World,KS w ao n f->Calls prog 165 #[segV k sl ic fr to,.slice ao n cp] w fun e w'=>OffOut e k sl ic fr to n f/\Gw w w'
  of:∀ (eps fr:Int) (ao:Option Addr) (n cp:Nat) (f:Nat->Int),-9223372036854775808<=eps->eps<9223372036854775808->-9223372036854775808<=fr->fr<9223372036854775808->n<=2000000->n<=cp->∀ w:World,KS w ao n f->Calls prog 118 #[.slice ao n cp,.int .i64 eps,.int .i64 fr] w fun e w'=>SegOut e eps fr f n/\Gw w w'
theorem foi_lt (t:Int):floatOfInt .f64 t<18446744073709551616:=by
  obtain ⟨b,_,e⟩:=ofInt_any t;rw [e];have:min b 9218868437227405312<=9218868437227405312:=Nat.min_le_right _ _;generalize min b 9218868437227405312=m at this;unfold Ieee.Format.word;split
  · show 9223372036854775808+m<_;omega
  · omega
theorem SegR.ok {eps fr:Int} {f:Nat->Int} {n:Nat} {k:Int} {s ic:Nat} {F T er:Int} (h:SegR eps fr f n k s ic F T er) (hn:n<=2000000) (bd:∀ i,i<n->0<=f i/\f i<18446744073709551616):SegOk k s ic F T:=by
  rcases h with ⟨a,b,c,o,ne,rfl,rfl,rfl,rfl,rfl⟩ | ⟨a,b,c,o,nb,rfl,rfl,rfl,rfl,rfl,rfl⟩ | ⟨a,b,c,o,nb,ab,hs,rfl,rfl,rfl,rfl,rfl⟩
  · exact ⟨by decide,by decide,by decide,by decide,by decide,by decide,by decide,by decide⟩
  · exact ⟨by decide,by decide,by decide,by decide,by decide,by decide,by decide,by decide⟩
  · obtain ⟨er,_⟩:=seg_bound o (by omega) bd ab.1 ab.2 nb.1 nb.2 hs
    obtain ⟨_,_,_,sl,_⟩:=errM_ok.1 er;have n0:0<n:=by
      rcases o.cases with ⟨q,_⟩ | ⟨_,q⟩
      · exact absurd rfl q
      · exact q.n0
    exact ⟨(bd 0 n0).1,(bd 0 n0).2,by omega,foi_lt _,by omega,by omega,by omega,by omega⟩
def mh (e:Nat):Nat->Nat->Nat
  | 0,_=>0
  | g+1,n=>if n<1 then 0 else if n<=2*e-1 then 1 else mh e g (n/e+1)+1
theorem div_less {e n:Nat} (he:2<=e) (hn:¬ n<=2*e-1):n/e+1<n:=by
  have h1:n/e*e<=n:=Nat.div_mul_le_self n e;have h2:n/e*2<=n/e*e:=Nat.mul_le_mul_left _ he;omega
theorem mh_fuel {e:Nat} (he:2<=e):∀ g g' n,n<=g->n<=g'->mh e g n=mh e g' n:=by
  intro g;induction g with
  | zero =>
    intro g' n h h';cases g' with
    | zero=>rfl
    | succ g' =>
                 have:n<1:=by omega
                 show 0=if n<1 then 0 else _
                 rw [if_pos this]
  | succ g ih =>
    intro g' n h h';cases g' with
    | zero =>
              have:n<1:=by omega
              show (if n<1 then 0 else _)=0
              rw [if_pos this]
    | succ g' =>
      show (if n<1 then 0 else if n<=2*e-1 then 1 else mh e g (n/e+1)+1)=(if n<1 then 0 else if n<=2*e-1 then 1 else mh e g' (n/e+1)+1)
      by_cases h1:n<1
      · rw [if_pos h1,if_pos h1]
      · rw [if_neg h1,if_neg h1]
        by_cases h2:n<=2*e-1
        · rw [if_pos h2,if_pos h2]
        · rw [if_neg h2,if_neg h2]
          have:=div_less he h2
          rw [ih g' (n/e+1) (by omega) (by omega)]
def hgt (e n:Nat):Nat:=mh e n n
theorem hgt_zero (e:Nat):hgt e 0=0:=rfl
theorem hgt_one {e n:Nat} (h0:0<n) (h:n<=2*e-1):hgt e n=1:=by
  cases n with
  | zero=>omega
  | succ n =>
              show (if n+1<1 then 0 else if n+1<=2*e-1 then 1 else _)=1
              rw [if_neg (by omega),if_pos h]
theorem hgt_more {e n:Nat} (he:2<=e) (h:¬ n<=2*e-1):hgt e n=hgt e (n/e+1)+1:=by
  have d:=div_less he h;cases n with
  | zero=>omega
  | succ n =>
    show (if n+1<1 then 0 else if n+1<=2*e-1 then 1 else mh e n ((n+1)/e+1)+1)=_
    rw [if_neg (by omega),if_neg h]
    unfold hgt;rw [mh_fuel he n ((n+1)/e+1) ((n+1)/e+1) (by omega) (Nat.le_refl _)]
theorem hgt_pos {e n:Nat} (he:2<=e) (h:0<n):0<hgt e n:=by
  by_cases k:n<=2*e-1
  · rw [hgt_one h k];exact Nat.one_pos
  · rw [hgt_more he k];omega
theorem hgt_mono {e:Nat} (he:2<=e):∀ m n,n<=m->hgt e n<=hgt e m:=by
  intro m;induction m using Nat.strongRecOn with
  | ind m ih =>
    intro n h;by_cases h0:n=0
    · subst h0;rw [hgt_zero];exact Nat.zero_le _
    · by_cases h1:n<=2*e-1
      · rw [hgt_one (by omega) h1];exact hgt_pos he (by omega)
      · have h2:¬ m<=2*e-1:=by omega
        rw [hgt_more he h1,hgt_more he h2];have:=ih (m/e+1) (div_less he h2) (n/e+1) (by have:=Nat.div_le_div_right (c:=e) h;omega)
        omega
structure Sg where
  k:Int
  sl:Nat
  ic:Nat
  fr:Int
  te:Int
def sg0:Sg:=⟨0,0,0,0,0⟩
def fst8 (l:List Sg) (i:Nat):Int:=(l.getD i sg0).k
def SegAt (eps:Int) (f:Nat->Int) (i j:Nat) (s:Sg):Prop:=SegR eps i (sh f i) (j-i) s.k s.sl s.ic s.fr s.te 0
structure SegFacts (eps:Int) (f:Nat->Int) (i j:Nat) (s:Sg):Prop where
  k:s.k=f i
  fr:s.fr=i
  te:s.te=j
  er:errM s.sl s.ic s.fr s.te=0
  off:worst (away s.k s.sl s.ic s.fr s.te (sh f i)) (j-i)<=eps
theorem SegAt.facts {eps:Int} {f:Nat->Int} {i j n:Nat} {s:Sg} (h:SegAt eps f i j s) (hj:i<j) (hn:j<=n) (n1:n<=2000000) (bd:∀ t,t<n->0<=f t/\f t<18446744073709551616):SegFacts eps f i j s:=by
  rcases h with ⟨a,b,c,o,ne,_⟩ | ⟨a,b,c,o,nb,_,_,_,_,_,q⟩ | ⟨a,b,c,o,nb,ab,hs,hk,hi,hF,hT,_⟩
  · exact absurd rfl ne
  · cases q
  · have bd':∀ t,t<j-i->0<=sh f i t/\sh f i t<18446744073709551616:=fun t ht=>bd (i+t) (by omega)
    obtain ⟨er,aw⟩:=seg_bound o (by omega) bd' ab.1 ab.2 nb.1 nb.2 hs
    have e1:2<=eps:=by
      rcases o.cases with ⟨q,_⟩ | ⟨_,q⟩
      · exact absurd rfl q
      · exact q.e1
    have hk':s.k=f i:=hk;refine ⟨hk',hF,?_,?_,?_⟩
    · rw [hT];omega
    · rw [hi,hF,hT];exact er
    · rw [hk,hi,hF,hT];exact worst_le (by omega) _ aw
def LvlAt (eps:Int) (f:Nat->Int) (n:Nat):Nat->List Sg->Prop
  | i,[]=>i=n
  | i,s::l=>∃ j,(i<j/\j<=n/\FitsOn (eps-1) (sh f i) (Prs (j-i))/\(j<n->¬ FitsOn (eps-1) (sh f i) (Prs (j+1-i))))/\SegAt eps f i j s/\LvlAt eps f n j l
theorem LvlAt.ends {eps:Int} {f:Nat->Int} {n:Nat} (n1:n<=2000000) (bd:∀ t,t<n->0<=f t/\f t<18446744073709551616):∀ {i:Nat} {l:List Sg},LvlAt eps f n i l->EndsAt (eps-1) f n i (l.map fun s=>s.te.toNat):=by
  intro i l;induction l generalizing i with
  | nil=>exact fun h=>h
  | cons s l ih =>
    rintro ⟨j,⟨a,b,c,d⟩,g,r⟩;have F:=g.facts a b n1 bd;have e:s.te.toNat=j:=by rw [F.te];omega
    show EndsAt (eps-1) f n i (s.te.toNat::l.map fun s=>s.te.toNat)
    rw [e];exact ⟨a,b,c,d,ih r⟩
def tileB (n:Nat):Nat->List Sg->Bool
  | a,[]=>decide (a=n)
  | a,s::l=>decide (s.fr=a)&&decide ((a:Int)<s.te)&&decide (s.te<=n)&&tileB n s.te.toNat l
theorem tileB_cons {n a:Nat} {s:Sg} {l:List Sg}:tileB n a (s::l)=true↔s.fr=a/\(a:Int)<s.te/\s.te<=n/\tileB n s.te.toNat l=true:=by
  simp [tileB,and_assoc]
theorem tileB_nil {n a:Nat}:tileB n a []=true↔a=n:=by simp [tileB]
theorem LvlAt.tiles {eps:Int} {f:Nat->Int} {n:Nat} (n1:n<=2000000) (bd:∀ t,t<n->0<=f t/\f t<18446744073709551616):∀ {i:Nat} {l:List Sg},LvlAt eps f n i l->tileB n i l=true:=by
  intro i l;induction l generalizing i with
  | nil=>exact fun h=>tileB_nil.2 h
  | cons s l ih =>
    rintro ⟨j,⟨a,b,c,d⟩,g,r⟩;have F:=g.facts a b n1 bd;have e:s.te.toNat=j:=by rw [F.te];omega
    refine tileB_cons.2 ⟨F.fr,by rw [F.te];omega,by rw [F.te];omega,?_⟩
    rw [e];exact ih r
def segE (eps:Int) (f:Nat->Int) (s:Sg):Int :=
  if errM s.sl s.ic s.fr s.te≠0 then errM s.sl s.ic s.fr s.te else if s.k≠f s.fr.toNat then 83 else if eps<worst (away s.k s.sl s.ic s.fr s.te (sh f s.fr.toNat)) (s.te-s.fr).toNat then 85 else 0
theorem segE_ok {eps:Int} {f:Nat->Int} {s:Sg}:segE eps f s=0↔errM s.sl s.ic s.fr s.te=0/\s.k=f s.fr.toNat/\worst (away s.k s.sl s.ic s.fr s.te (sh f s.fr.toNat)) (s.te-s.fr).toNat<=eps:=by
  unfold segE;by_cases h:errM s.sl s.ic s.fr s.te=0
  · rw [if_neg (fun q=>q h)]
    by_cases h1:s.k=f s.fr.toNat
    · rw [if_neg (fun q=>q h1)]
      by_cases h2:eps<worst (away s.k s.sl s.ic s.fr s.te (sh f s.fr.toNat)) (s.te-s.fr).toNat
      · rw [if_pos h2];constructor
        · intro q;cases q
        · rintro ⟨_,_,q⟩;omega
      · rw [if_neg h2];exact ⟨fun _=>⟨h,h1,by omega⟩,fun _=>rfl⟩
    · rw [if_pos h1];constructor
      · intro q;cases q
      · rintro ⟨_,q,_⟩;exact absurd q h1
  · rw [if_pos h];constructor
    · intro q;exact absurd q h
    · rintro ⟨q,_⟩;exact absurd q h
def lvlE (eps:Int) (f:Nat->Int):List Sg->Int
  | []=>0
  | s::l=>if segE eps f s≠0 then segE eps f s else lvlE eps f l
theorem lvlE_ok {eps:Int} {f:Nat->Int} {l:List Sg}:lvlE eps f l=0↔∀ s∈l,segE eps f s=0:=by
  induction l with
  | nil=>simp [lvlE]
  | cons s l ih =>
    unfold lvlE;by_cases h:segE eps f s=0
    · rw [if_neg (fun q=>q h),ih];simp [h]
    · rw [if_pos h];constructor
      · intro q;exact absurd q h
      · intro q;exact absurd (q s (by simp)) h
theorem LvlAt.right {eps:Int} {f:Nat->Int} {n:Nat} (n1:n<=2000000) (bd:∀ t,t<n->0<=f t/\f t<18446744073709551616):∀ {i:Nat} {l:List Sg},LvlAt eps f n i l->∀ s∈l,segE eps f s=0:=by
  intro i l;induction l generalizing i with
  | nil=>intro _ s hs;cases hs
  | cons s l ih =>
    rintro ⟨j,⟨a,b,c,d⟩,g,r⟩ s' hs';rcases List.mem_cons.1 hs' with rfl | q
    · have F:=g.facts a b n1 bd
      have e:s'.fr.toNat=i:=by rw [F.fr];omega
      refine segE_ok.2 ⟨F.er,by rw [e];exact F.k,?_⟩
      rw [e,show (s'.te-s'.fr).toNat=j-i by rw [F.te,F.fr];omega]
      exact F.off
    · exact ih r s' q
def chkE (eps:Int):(Nat->Int)->Nat->List (List Sg)->Int
  | _,_,[]=>0
  | f,n,l::r=>if (tileB n 0 l&&!l.isEmpty)=false then 82 else if lvlE eps f l≠0 then lvlE eps f l else if r=[] then (if l.length=1 then 0 else 84) else chkE eps (fst8 l) l.length r
def BuildR (eps:Int):(Nat->Int)->Nat->List (List Sg)->Prop
  | _,n,[]=>n=0
  | f,n,l::r=>0<n/\LvlAt eps f n 0 l/\(if l.length=1 then r=[] else BuildR eps (fst8 l) l.length r)
theorem fst8_up {f:Nat->Int} {n:Nat} (u:Up f n):∀ {l:List Sg} {a:Nat},tileB n a l=true->(∀ s∈l,s.k=f s.fr.toNat)->Up (fst8 l) l.length/\(l≠[]->fst8 l 0=f a/\a<n)/\∀ t,t<l.length->∃ i,a<=i/\i<n/\fst8 l t=f i:=by
  intro l;induction l with
  | nil=>intro a h _;exact ⟨fun j hj=>by simp at hj,fun q=>absurd rfl q,fun t ht=>by simp at ht⟩
  | cons s l ih =>
    intro a h hk;obtain ⟨h1,h2,h3,h4⟩:=tileB_cons.1 h;obtain ⟨u1,u2,u3⟩:=ih h4 (fun s hs=>hk s (List.mem_cons_of_mem _ hs))
    have k0:s.k=f a:=by rw [hk s (by simp),h1];congr 1
    have an:a<n:=by omega
    refine ⟨fun j hj=>?_,fun _=>⟨k0,an⟩,fun t ht=>?_⟩
    · cases j with
      | zero =>
        have ne:l≠[]:=fun q=>by subst q;simp at hj
        obtain ⟨e,lt⟩:=u2 ne;show s.k<fst8 l 0;rw [k0,e];exact u.lt (by omega) lt
      | succ j=>exact u1 j (by simpa using hj)
    · cases t with
      | zero=>exact ⟨a,Nat.le_refl _,an,k0⟩
      | succ t=>obtain ⟨i,i1,i2,i3⟩:=u3 t (by simpa using ht);exact ⟨i,by omega,i2,i3⟩
theorem LvlAt.keys {eps:Int} {f:Nat->Int} {n:Nat} (n1:n<=2000000) (bd:∀ t,t<n->0<=f t/\f t<18446744073709551616) {i:Nat} {l:List Sg} (h:LvlAt eps f n i l):∀ s∈l,s.k=f s.fr.toNat:=fun s hs=>(segE_ok.1 (h.right n1 bd s hs)).2.1
theorem fst8_bd {f:Nat->Int} {n:Nat} {l:List Sg} (bd:∀ t,t<n->0<=f t/\f t<18446744073709551616) (h:∀ t,t<l.length->∃ i,0<=i/\i<n/\fst8 l t=f i):∀ t,t<l.length->0<=fst8 l t/\fst8 l t<18446744073709551616:=by
  intro t ht;obtain ⟨i,_,i2,i3⟩:=h t ht;rw [i3];exact bd i i2
theorem LvlAt.len {eps:Int} {f:Nat->Int} {n:Nat} (n1:n<=2000000) (bd:∀ t,t<n->0<=f t/\f t<18446744073709551616) {i:Nat} {l:List Sg} (h:LvlAt eps f n i l):i+l.length<=n:=by
  have:=(h.ends n1 bd).len
  simpa using this
theorem LvlAt.some {eps:Int} {f:Nat->Int} {n:Nat} {i:Nat} {l:List Sg} (h:LvlAt eps f n i l) (hi:i<n):l≠[]:=by
  rintro rfl;have:i=n:=h;omega
theorem BuildR.chk {eps:Int}:∀ {L:List (List Sg)} {f:Nat->Int} {n:Nat},n<=2000000->(∀ t,t<n->0<=f t/\f t<18446744073709551616)->Up f n->BuildR eps f n L->chkE eps f n L=0:=by
  intro L;induction L with
  | nil=>intro f n _ _ _ _;rfl
  | cons l r ih =>
    intro f n n1 bd u h;obtain ⟨a,b,c⟩:=h;have tl:=b.tiles n1 bd;have ne:=b.some a;have rt:=lvlE_ok.2 (b.right n1 bd);show (if (tileB n 0 l&&!l.isEmpty)=false then 82 else if lvlE eps f l≠0 then lvlE eps f l else if r=[] then (if l.length=1 then 0 else 84) else chkE eps (fst8 l) l.length r)=0
    rw [if_neg (by rw [tl];simp [ne]),if_neg (fun q=>q rt)]
    by_cases q:l.length=1
    · rw [if_pos q] at c
      rw [if_pos c,if_pos q]
    · rw [if_neg q] at c
      have r0:r≠[]:=by
        rintro rfl;have:l.length=0:=c;exact ne (List.eq_nil_of_length_eq_zero this)
      rw [if_neg r0];obtain ⟨u1,_,u3⟩:=fst8_up u tl (b.keys n1 bd);have:=b.len n1 bd;exact ih (by omega) (fst8_bd bd u3) u1 c
theorem LvlAt.count {eps:Int} (e1:2<=eps) {f:Nat->Int} {n:Nat} (n0:0<n) (n1:n<=2000000) (bd:∀ t,t<n->0<=f t/\f t<18446744073709551616) (u:Up f n) {l:List Sg} (h:LvlAt eps f n 0 l):((l.length:Int)-1)*(2*eps-1)+1<=n:=by
  have:=(h.ends n1 bd).count (by omega) u n0
  rw [List.length_map,show 2*(eps-1)+1=2*eps-1 by omega] at this
  simpa using this
theorem LvlAt.few {eps:Int} (e1:2<=eps) {f:Nat->Int} {n:Nat} (n0:0<n) (n1:n<=2000000) (bd:∀ t,t<n->0<=f t/\f t<18446744073709551616) (u:Up f n) {l:List Sg} (h:LvlAt eps f n 0 l):l.length<=n/eps.toNat+1/\(l.length≠1->¬ n<=2*eps.toNat-1):=by
  have c:=h.count e1 n0 n1 bd u;have l0:0<l.length:=List.length_pos_iff.2 (h.some n0);obtain ⟨e,he⟩:∃ e:Nat,eps=e:=⟨eps.toNat,by omega⟩
  subst he;obtain ⟨m,hm⟩:∃ m,l.length=m+1:=⟨l.length-1,by omega⟩
  rw [hm] at c ⊢;rw [show ((m+1:Nat):Int)-1=m by omega] at c
  rw [Int.toNat_natCast];have c':m*(2*e-1)+1<=n:=by
    have:((m*(2*e-1)+1:Nat):Int)<=n:=by
      rw [Int.natCast_add,Int.natCast_mul,show ((2*e-1:Nat):Int)=2*(e:Int)-1 by omega]
      exact c
    omega
  refine ⟨?_,fun q=>?_⟩
  · have:m<=n/e:=by
      rw [Nat.le_div_iff_mul_le (by omega)]
      have:m*e<=m*(2*e-1):=Nat.mul_le_mul_left _ (by omega)
      omega
    omega
  · have m1:1<=m:=by omega
    have:1*(2*e-1)<=m*(2*e-1):=Nat.mul_le_mul_right _ m1
    omega
theorem BuildR.low {eps:Int} (e1:2<=eps):∀ {L:List (List Sg)} {f:Nat->Int} {n:Nat},n<=2000000->(∀ t,t<n->0<=f t/\f t<18446744073709551616)->Up f n->BuildR eps f n L->L.length<=hgt eps.toNat n:=by
  intro L;induction L with
  | nil=>intro f n _ _ _ _;exact Nat.zero_le _
  | cons l r ih =>
    intro f n n1 bd u h;obtain ⟨a,b,c⟩:=h;have e2:2<=eps.toNat:=by omega
    by_cases q:l.length=1
    · rw [if_pos q] at c
      subst c;exact hgt_pos e2 a
    · rw [if_neg q] at c
      obtain ⟨k1,k2⟩:=b.few e1 a n1 bd u;obtain ⟨u1,_,u3⟩:=fst8_up u (b.tiles n1 bd) (b.keys n1 bd);have ln:=b.len n1 bd;have:=ih (by omega) (fst8_bd bd u3) u1 c
      rw [hgt_more e2 (k2 q)];have:=hgt_mono e2 _ _ k1;simp only [List.length_cons];omega
theorem BuildR.none {eps:Int} {f:Nat->Int} {n:Nat} {L:List (List Sg)} (h:BuildR eps f n L):L=[]↔n=0:=by
  cases L with
  | nil=>exact ⟨fun _=>h,fun _=>rfl⟩
  | cons l r=>exact ⟨(fun q=>by cases q),fun q=>by have:=h.1;omega⟩
def mv (B:Int) (s:Sg):Sg:=⟨s.k+B,s.sl,s.ic,s.fr,s.te⟩
theorem cntb_is {f:Nat->Int} {n:Nat} (u:Up f n) (q:Int) (c:Nat) (hc:c<=n) (hl:∀ i,i<c->f i<q) (hr:∀ i,c<=i->i<n->q<=f i):cntb f q n=c:=by
  obtain ⟨a,b⟩:=cntb_up u q n (Nat.le_refl _);have le:=cntb_le f q n;rcases Nat.lt_trichotomy (cntb f q n) c with h | h | h
  · have:=hl _ h;have:=b _ (Nat.le_refl _) (by omega);omega
  · exact h
  · have:=a c h;have:=hr c (Nat.le_refl _) (by omega);omega
theorem tile_at {n:Nat}:∀ {l:List Sg} {a:Nat},tileB n a l=true->∀ t,t<l.length->(a:Int)<=(l.getD t sg0).fr/\(l.getD t sg0).fr<(l.getD t sg0).te/\(l.getD t sg0).te<=n/\(t=0->(l.getD t sg0).fr=a)/\(t+1<l.length->(l.getD (t+1) sg0).fr=(l.getD t sg0).te)/\(t+1=l.length->(l.getD t sg0).te=n):=by
  intro l;induction l with
  | nil=>intro a _ t ht;simp at ht
  | cons s l ih =>
    intro a h t ht;obtain ⟨h1,h2,h3,h4⟩:=tileB_cons.1 h;cases t with
    | zero =>
      refine ⟨by show (a:Int)<=s.fr;omega,by show s.fr<s.te;omega,h3,fun _=>h1,fun q=>?_,fun q=>?_⟩
      · have:=(ih h4 0 (by simpa using q)).2.2.2.1 rfl
        show (l.getD 0 sg0).fr=s.te;omega
      · have:l=[]:=by simpa using q
        subst this;have:=tileB_nil.1 h4;show s.te=n;omega
    | succ t =>
      obtain ⟨q1,q2,q3,q4,q5,q6⟩:=ih h4 t (by simpa using ht)
      refine ⟨?_,q2,q3,fun q=>(by cases q),fun q=>q5 (by simpa using q),fun q=>q6 (by simpa using q)⟩
      show (a:Int)<=(l.getD t sg0).fr;omega
theorem near_lvl {eps:Int} {f:Nat->Int} {n:Nat} {l:List Sg} (u:Up f n) (bd:∀ t,t<n->0<=f t/\f t<18446744073709551616) (tl:tileB n 0 l=true) (ok:∀ s∈l,segE eps f s=0) (q:Int) (q1:q<18446744073709551616) (t:Nat) (ht:t<l.length) (pick:t=0\/fst8 l t<=q) (last:∀ t',t<t'->t'<l.length->q<fst8 l t') (s:Sg) (hs:l.getD t sg0=s) :
    (-(eps+1)<=guessV s.k s.sl s.ic s.fr s.te q-cntb f q n/\guessV s.k s.sl s.ic s.fr s.te q-cntb f q n<=eps+1)/\((∃ i,i<n/\f i=q)->-eps<=guessV s.k s.sl s.ic s.fr s.te q-cntb f q n/\guessV s.k s.sl s.ic s.fr s.te q-cntb f q n<=eps):=by
  have T:=tile_at tl t ht;have mem:s∈l:=by
    rw [<-hs,List.getD_eq_getElem?_getD,List.getElem?_eq_getElem ht];exact List.getElem_mem ht
  obtain ⟨er,hk,off⟩:=segE_ok.1 (ok s mem);rw [hs] at T;obtain ⟨T1,T2,T3,T4,T5,T6⟩:=T;obtain ⟨a,ha⟩:∃ a:Nat,s.fr=a:=⟨s.fr.toNat,by omega⟩
  obtain ⟨b,hb⟩:∃ b:Nat,s.te=b:=⟨s.te.toNat,by omega⟩
  have ab:a<b:=by omega
  have bn:b<=n:=by omega
  have ha':s.fr.toNat=a:=by omega
  rw [ha'] at hk off;rw [show (s.te-s.fr).toNat=b-a by omega] at off
  have sbd:∀ i,i<b-a->0<=sh f a i/\sh f a i<18446744073709551616:=fun i hi=>bd (a+i) (by omega)
  have su:Up (sh f a) (b-a):=sh_up u bn;have k0:0<=s.k:=by rw [hk];exact (bd a (by omega)).1
  obtain ⟨w0,w1⟩:=worst_in (away s.k s.sl s.ic s.fr s.te (sh f a)) (b-a);generalize worst (away s.k s.sl s.ic s.fr s.te (sh f a)) (b-a)=N at off w0 w1;have beh:∀ i,b<=i->i<n->q<f i:=fun i h1 h2=>by
    by_cases c:t+1<l.length
    · have e:=T5 c
      have m':l.getD (t+1) sg0∈l:=by
        rw [List.getD_eq_getElem?_getD,List.getElem?_eq_getElem c];exact List.getElem_mem c
      have k':=(segE_ok.1 (ok _ m')).2.1;have lt:=last (t+1) (by omega) c
      have e2:fst8 l (t+1)=f b:=by
        show (l.getD (t+1) sg0).k=f b;rw [k',e];congr 1;omega
      rw [e2] at lt;have:=u.le h1 h2;omega
    · have:=T6 (by omega)
      omega
  by_cases c:s.k<=q
  ·
    have P:=probe_off er (show ((b-a:Nat):Int)=s.te-s.fr by omega) (show sh f a 0=s.k from hk.symm) su sbd w0 w1 q q1 c
    have le:=cntb_le (sh f a) q (b-a);obtain ⟨c1,c2⟩:=cntb_up su q (b-a) (Nat.le_refl _);have cn:cntb f q n=a+cntb (sh f a) q (b-a):=by
      refine cntb_is u q _ (by omega) (fun i hi=>?_) (fun i h1 h2=>?_)
      · by_cases x:i<a
        · have:=u.lt x (show a<n by omega)
          omega
        · have:=c1 (i-a) (by omega)
          have e:sh f a (i-a)=f i:=by show f (a+(i-a))=f i;rw [show a+(i-a)=i by omega]
          rw [e] at this;exact this
      · by_cases x:i<b
        · have:=c2 (i-a) (by omega) (by omega)
          have e:sh f a (i-a)=f i:=by show f (a+(i-a))=f i;rw [show a+(i-a)=i by omega]
          rw [e] at this;exact this
        · have:=beh i (by omega) h2;omega
    rw [cn];refine ⟨by omega,?_⟩
    rintro ⟨i,hi,hq⟩;have ia:a<=i:=by
      rcases Nat.lt_or_ge i a with x | x
      · have:=u.lt x (show a<n by omega);omega
      · exact x
    have ib:i<b:=by
      rcases Nat.lt_or_ge i b with x | x
      · exact x
      · have:=beh i x hi;omega
    have e:sh f a (i-a)=q:=by show f (a+(i-a))=q;rw [show a+(i-a)=i by omega];exact hq
    have cc:cntb (sh f a) q (b-a)=i-a:=by
      refine cntb_is su q _ (by omega) (fun j hj=>?_) (fun j h1 h2=>?_)
      · rw [<-e];exact su.lt hj (by omega)
      · rw [<-e];exact su.le h1 h2
    have W:=w1 (i-a) (by omega)
    unfold away at W;rw [e] at W;rw [cc];omega
  ·
    have t0:t=0:=by
      rcases pick with x | x
      · exact x
      · have:fst8 l t=s.k:=by show (l.getD t sg0).k=s.k;rw [hs]
        omega
    have a0:a=0:=by have:=T4 t0;omega
    have n0:0<n:=by omega
    have all:∀ i,i<n->q<f i:=fun i hi=>by
      have:=u.le (Nat.zero_le i) hi
      rw [a0] at hk;omega
    have cn:cntb f q n=0:=cntb_is u q 0 (Nat.zero_le _) (fun i hi=>by omega) (fun i _ hi=>by have:=all i hi;omega)
    rw [cn,guess_before _ _ _ _ _ _ (by omega)]
    have W:=w1 0 (by omega)
    unfold away at W;have e:sh f a 0=s.k:=hk.symm;rw [e] at W;refine ⟨by omega,?_⟩
    rintro ⟨i,hi,hq⟩;have:=all i hi;omega
def tileC (n:Nat):Int->List Sg->Bool
  | a,[]=>decide (a=n)
  | a,s::l=>decide (s.fr=a)&&decide (a<s.te)&&tileC n s.te l
theorem tileC_le {n:Nat}:∀ {l:List Sg} {a:Int},tileC n a l=true->a<=n:=by
  intro l;induction l with
  | nil =>
           intro a h;have:a=n:=by simpa [tileC] using h
           omega
  | cons s l ih =>
    intro a h;have h':(s.fr=a/\a<s.te)/\tileC n s.te l=true:=by simpa [tileC] using h
    have:=ih h'.2
    omega
theorem tileC_eq {n:Nat}:∀ (l:List Sg) (a:Nat),tileC n a l=tileB n a l:=by
  intro l;induction l with
  | nil =>
           intro a;show decide ((a:Int)=n)=decide (a=n);by_cases h:a=n
           · simp [h]
           · rw [decide_eq_false (by omega),decide_eq_false h]
  | cons s l ih =>
    intro a;have e:tileC n a (s::l)=true↔tileB n a (s::l)=true:=by
      rw [tileB_cons];have u:tileC n a (s::l)=true↔(s.fr=a/\(a:Int)<s.te)/\tileC n s.te l=true:=by simp [tileC]
      rw [u];constructor
      · rintro ⟨⟨h1,h2⟩,h3⟩
        have le:=tileC_le h3;obtain ⟨t,ht⟩:∃ t:Nat,s.te=t:=⟨s.te.toNat,by omega⟩
        rw [ht] at h3 ⊢;rw [ht] at h2 le;rw [Int.toNat_natCast];exact ⟨h1,h2,le,by rw [<-ih t];exact h3⟩
      · rintro ⟨h1,h2,h3,h4⟩
        obtain ⟨t,ht⟩:∃ t:Nat,s.te=t:=⟨s.te.toNat,by omega⟩
        rw [ht,Int.toNat_natCast] at h4;rw [ht] at h2 ⊢;exact ⟨⟨h1,h2⟩,by rw [ih t];exact h4⟩
    cases h1:tileC n a (s::l) with
    | true=>exact (e.1 h1).symm
    | false =>
      cases h2:tileB n a (s::l) with
      | false=>rfl
      | true=>have:=e.2 h2;rw [h1] at this;cases this
theorem tileC_cons {n:Nat} {a:Int} {s:Sg} {l:List Sg}:tileC n a (s::l)=(decide (s.fr=a)&&decide (a<s.te)&&tileC n s.te l):=rfl
structure SgAt (w:World) (b off:Nat) (s:Sg):Prop where
  c0:w.cell? ⟨b,off,none⟩=some (.int .u64 s.k)
  c1:w.cell? ⟨b,off+1,none⟩=some (.float .f64 s.sl)
  c2:w.cell? ⟨b,off+2,none⟩=some (.float .f64 s.ic)
  c3:w.cell? ⟨b,off+3,none⟩=some (.int .i64 s.fr)
  c4:w.cell? ⟨b,off+4,none⟩=some (.int .i64 s.te)
theorem SgAt.gw {w w':World} {b off:Nat} {s:Sg} (h:SgAt w b off s) (hb:b<w.heap.size) (g:Gw w w'):SgAt w' b off s :=
  ⟨(g.cell _ _ hb).trans h.c0,(g.cell _ _ hb).trans h.c1,(g.cell _ _ hb).trans h.c2,(g.cell _ _ hb).trans h.c3,(g.cell _ _ hb).trans h.c4⟩
abbrev Sg.ok (s:Sg):Prop:=SegOk s.k s.sl s.ic s.fr s.te
abbrev sgV (s:Sg):Value:=segV s.k s.sl s.ic s.fr s.te
structure GS (w:World) (ao:Option Addr) (l:List Sg):Prop where
  cells:0<l.length->∃ b off,ao=some ⟨b,off,none⟩/\b<w.heap.size/\∀ i,i<l.length->SgAt w b (off+i*5) (l.getD i sg0)
  ok:∀ i,i<l.length->(l.getD i sg0).ok
theorem GS.gw {w w':World} {ao:Option Addr} {l:List Sg} (h:GS w ao l) (g:Gw w w'):GS w' ao l :=
  ⟨fun h0=>by
    obtain ⟨b,off,e,hb,hc⟩:=h.cells h0;exact ⟨b,off,e,Nat.lt_of_lt_of_le hb g.size,fun i hi=>(hc i hi).gw hb g⟩,h.ok⟩
structure VS (w:World) (ao:Option Addr) (L:List (List Sg)):Prop where
  cells:0<L.length->∃ b off,ao=some ⟨b,off,none⟩/\b<w.heap.size/\∀ i,i<L.length->∃ bo c,w.cell? ⟨b,off+i,none⟩=some (.slice bo (L.getD i []).length c)/\(L.getD i []).length<=c/\(bo=none->(L.getD i []).length=0/\c=0)/\GS w bo (L.getD i [])
theorem VS.gw {w w':World} {ao:Option Addr} {L:List (List Sg)} (h:VS w ao L) (g:Gw w w'):VS w' ao L :=
  ⟨fun h0=>by
    obtain ⟨b,off,e,hb,hc⟩:=h.cells h0;refine ⟨b,off,e,Nat.lt_of_lt_of_le hb g.size,fun i hi=>?_⟩
    obtain ⟨bo,c,h1,h2,h3,h4⟩:=hc i hi;exact ⟨bo,c,(g.cell _ _ hb).trans h1,h2,h3,h4.gw g⟩⟩
theorem fst8_ok {w:World} {ao:Option Addr} {l:List Sg} (h:GS w ao l):∀ t,t<l.length->0<=fst8 l t/\fst8 l t<18446744073709551616:=fun t ht=>⟨(h.ok t ht).k0,(h.ok t ht).k1⟩
theorem drop_at {l:List Sg} {i:Nat} (h:i<l.length):l.drop i=l.getD i sg0::l.drop (i+1):=by
  rw [List.drop_eq_getElem_cons h,List.getD_eq_getElem?_getD,List.getElem?_eq_getElem h];rfl
def mxh (n eps:Int):Int:=if 2<=eps/\eps<=64/\1<=n then (hgt eps.toNat n.toNat:Nat) else 0
theorem hgt_le {e:Nat} (he:2<=e):∀ n,hgt e n<=n:=by
  intro n;induction n using Nat.strongRecOn with
  | ind n ih =>
    by_cases h0:n=0
    · subst h0;exact Nat.le_refl _
    · by_cases h1:n<=2*e-1
      · rw [hgt_one (by omega) h1];omega
      · rw [hgt_more he h1]
        have:=ih _ (div_less he h1)
        have:=div_less he h1
        omega
end Go.Proofs.YtemijdhemdhclaaGreat
