/- Small walks: what is no number, what is infinite, bits of floats. -/
import Derived.Laws.BitsAllLaws
import Derived.Test.YtpoohadckhphpaaGreatBPBs
import Derived.Test.YtpoohadckhphpaaGreatBPFl
set_option linter.unusedVariables false
set_option maxHeartbeats 8000000
set_option maxRecDepth 10000
open Go.Proofs.Tryz
namespace Go.Proofs.YtpoohadckhphpaaGreat
open Go.RowKit
theorem f64bits (b:Nat) (w:World):(callFunc 159 #[.float .f64 b]).run prog w=.ok (.value (.int .u64 b)) w:=by
  rw [run_callFunc_extern func159 (by kernel_rfl) (by kernel_rfl) (by kernel_rfl) (e:=Extern.MathFloatBits.float64bits) (by kernel_rfl)]
  rfl
theorem f64from (n:Int) (w:World):(callFunc 86 #[.int .u64 n]).run prog w=.ok (.value (.float .f64 n.toNat)) w:=by
  rw [run_callFunc_extern func86 (by kernel_rfl) (by kernel_rfl) (by kernel_rfl) (e:=Extern.MathFloatBits.float64frombits) (by kernel_rfl)]
  rfl
theorem fmt:FloatKind.f64.format=Ieee.double:=rfl
theorem self_ne (x:Nat):(FloatKind.f64.format.order x x != some .eq)=decide (9218868437227405312<rg x):=by
  rw [fmt];rcases Nat.lt_trichotomy (rg x) 9218868437227405312 with h | h | h
  · rw [f_ne h h];simp;omega
  · unfold Ieee.Format.order;rw [read_inf h]
    simp [Ieee.Datum.order,h]
  · unfold Ieee.Format.order;rw [read_nan h]
    simp [Ieee.Datum.order,h]
theorem isnan (x:Nat) (w:World) :
    Calls prog 229 #[.float .f64 x] w fun e w'=>e=.returned (.bool (decide (9218868437227405312<rg x)))/\w'=w:=by
  have h:=self_ne x;go_enter func229,ntmps229;go_wp2;go_ret;exact ⟨rfl,rfl⟩
theorem andnot_top (x:Nat) (hx:x<18446744073709551616):bits .andNot .u64 (x:Int) 9223372036854775808=((rg x:Nat):Int):=by
  have:=u64_andNot_nat x 9223372036854775808 hx (by decide)
  rw [show ((9223372036854775808:Nat):Int)=9223372036854775808 from rfl] at this;rw [this,show (18446744073709551615-9223372036854775808:Nat)=2^63-1 from rfl,Nat.and_two_pow_sub_one_eq_mod];rfl
theorem rg_lt (x:Nat):rg x<9223372036854775808:=Nat.mod_lt _ (by decide)
theorem rg_rg (x:Nat):rg (rg x)=rg x:=Nat.mod_eq_of_lt (rg_lt x)
theorem sg_rg (x:Nat):sg (rg x)=false:=by
  have:=rg_lt x;unfold sg;simp;omega
theorem abs_any (x:Nat) (hx:x<18446744073709551616) (w:World) :
    Calls prog 243 #[.float .f64 x] w fun e w'=>e=.returned (.float .f64 (rg x))/\w'=w:=by
  have h:=andnot_top x hx;go_enter func243,ntmps243;go_wp2_with (first | simp only [f64bits] | simp only [f64from])
  go_ret
  exact ⟨rfl,rfl⟩
theorem SV_rg (x:Nat):SV (rg x)=V (rg x):=by unfold SV;rw [sg_rg,rg_rg];rfl
theorem above_max (x:Nat):(FloatKind.f64.format.order (rg x) 9218868437227405311 == some .gt)=decide (rg x=9218868437227405312):=by
  rw [fmt];have hm:rg 9218868437227405311<9218868437227405312:=by decide
  rcases Nat.lt_trichotomy (rg x) 9218868437227405312 with h | h | h
  · rw [f_gt (by rw [rg_rg];exact h) hm]
    have e1:SV 9218868437227405311=V 9218868437227405311:=SV_rg 9218868437227405311;rw [SV_rg,e1];have:V (rg x)<=V 9218868437227405311:=V_le (by omega)
    simp;omega
  · unfold Ieee.Format.order;rw [read_inf (by rw [rg_rg];exact h),read_fin hm,sg_rg]
    simp [Ieee.Datum.order,h]
  · unfold Ieee.Format.order;rw [read_nan (by rw [rg_rg];exact h),read_fin hm]
    simp [Ieee.Datum.order];omega
theorem isinf (x:Nat) (hx:x<18446744073709551616) (w:World) :
    Calls prog 231 #[.float .f64 x,.int .i64 0] w fun e w'=>e=.returned (.bool (decide (rg x=9218868437227405312)))/\w'=w:=by
  have h:=above_max x;go_enter func231,ntmps231;go_wp2_with (go_at_call 243;refine (abs_any x hx _).mono ?_;rintro e w' ⟨rfl,rfl⟩);go_ret;exact ⟨rfl,rfl⟩
def nanw (x y:Nat) (w:World):Nat:=(Question.nanBits .f64 x y).cut (w.tape w.drawn (.nanBits .f64 x y))
theorem nanw_rg (x y:Nat) (w:World):9218868437227405312<rg (nanw x y w):=by
  unfold nanw rg;generalize w.tape w.drawn (.nanBits .f64 x y)=t;show 9218868437227405312<(t%2*2^63+9218868437227405312+1+t/2%(2^52-1))%9223372036854775808;have:t/2%(2^52-1)<2^52-1:=Nat.mod_lt _ (by decide)
  generalize t/2%(2^52-1)=a at *;have h2:t%2<2:=Nat.mod_lt _ (by decide)
  generalize t%2=c at *;omega
theorem run_mul_none (t:TypeId) (x y:Nat) (h:Ieee.double.mul x y=none) (w:World):(binOp .mul t (.float .f64 x) (.float .f64 y)).run prog w=.ok (.float .f64 (nanw x y w)) w.drew:=by
  have h':FloatKind.f64.format.mul x y=none:=h;simp [binOp,Op.floatArith,h'];rfl
theorem run_add_none (t:TypeId) (x y:Nat) (h:Ieee.double.add x y=none) (w:World):(binOp .add t (.float .f64 x) (.float .f64 y)).run prog w=.ok (.float .f64 (nanw x y w)) w.drew:=by
  have h':FloatKind.f64.format.add x y=none:=h;simp [binOp,Op.floatArith,h'];rfl
theorem add_nan {x y:Nat} (h:9218868437227405312<rg x):Ieee.double.add x y=none:=by
  unfold Ieee.Format.add;rw [read_nan h];rfl
def AL (s y base r:Nat):Prop:=(∃ p,Ieee.double.mul s y=some p/\Ieee.double.add p base=some r)\/((∀ p,Ieee.double.mul s y=some p->Ieee.double.add p base=none)/\9218868437227405312<rg r)
theorem along_some (s y far base p r:Nat) (hf:far<18446744073709551616) (ey:floatOfInt .f64 (far:Int)=y) (h1:Ieee.double.mul s y=some p) (h2:Ieee.double.add p base=some r) (w:World) :
    Calls prog 233 #[.float .f64 s,.int .u64 far,.float .f64 base] w fun e w'=>e=.returned (.float .f64 r)/\w'=w:=by
  have k1:∀ w,(binOp .mul 106 (.float .f64 s) (.float .f64 y)).run prog w=.ok (.float .f64 p) w:=fun w=>run_float_arith w .mul _ _ _ _ _ h1
  have k2:∀ w,(binOp .add 106 (.float .f64 p) (.float .f64 base)).run prog w=.ok (.float .f64 r) w:=fun w=>run_float_arith w .add _ _ _ _ _ h2
  go_enter func233,ntmps233;go_wp2;go_ret;exact ⟨rfl,rfl⟩
theorem along_any (s y far base:Nat) (hf:far<18446744073709551616) (ey:floatOfInt .f64 (far:Int)=y) (w:World) :
    Calls prog 233 #[.float .f64 s,.int .u64 far,.float .f64 base] w fun e w'=>(∃ r,e=.returned (.float .f64 r)/\AL s y base r)/\∃ n,w'=w.drewN n:=by
  cases h1:Ieee.double.mul s y with
  | some p =>
    cases h2:Ieee.double.add p base with
    | some r=>exact (along_some s y far base p r hf ey h1 h2 w).mono fun e w' h=>⟨⟨r,h.1,.inl ⟨p,h1,h2⟩⟩,0,h.2⟩
    | none =>
      have k1:∀ w,(binOp .mul 106 (.float .f64 s) (.float .f64 y)).run prog w=.ok (.float .f64 p) w:=fun w=>run_float_arith w .mul _ _ _ _ _ h1
      have k2:∀ w,(binOp .add 106 (.float .f64 p) (.float .f64 base)).run prog w=.ok (.float .f64 (nanw p base w)) w.drew:=fun w=>run_add_none _ _ _ h2 w
      have a:Hid (AL s y base (nanw p base w)):=.inr ⟨fun q hq=>(by rw [h1] at hq;cases hq;exact h2),nanw_rg _ _ _⟩
      clear h1 h2;go_enter func233,ntmps233;go_wp2;go_ret;exact ⟨⟨_,rfl,a.out⟩,1,rfl⟩
  | none =>
    have k1:∀ w,(binOp .mul 106 (.float .f64 s) (.float .f64 y)).run prog w=.ok (.float .f64 (nanw s y w)) w.drew:=fun w=>run_mul_none _ _ _ h1 w
    have k2:∀ w',(binOp .add 106 (.float .f64 (nanw s y w)) (.float .f64 base)).run prog w'=.ok (.float .f64 (nanw (nanw s y w) base w')) w'.drew:=fun w'=>run_add_none _ _ _ (add_nan (nanw_rg s y w)) w'
    have a:Hid (AL s y base (nanw (nanw s y w) base w.drew)):=.inr ⟨fun q hq=>(by rw [h1] at hq;cases hq),nanw_rg _ _ _⟩
    clear h1;go_enter func233,ntmps233;go_wp2;go_ret;exact ⟨⟨_,rfl,a.out⟩,2,rfl⟩
theorem ralong_any (s y far base:Nat) (hf:far<18446744073709551616) (ey:floatOfInt .f64 (far:Int)=y) (w:World) :
    Calls prog 176 #[.float .f64 s,.int .u64 far,.float .f64 base] w fun e w'=>(∃ r,e=.returned (.float .f64 r)/\AL s y base r)/\∃ n,w'=w.drewN n:=by
  cases h1:Ieee.double.mul s y with
  | some p =>
    have k1:∀ w,(binOp .mul 106 (.float .f64 s) (.float .f64 y)).run prog w=.ok (.float .f64 p) w:=fun w=>run_float_arith w .mul _ _ _ _ _ h1
    cases h2:Ieee.double.add p base with
    | some r =>
      have k2:∀ w,(binOp .add 106 (.float .f64 p) (.float .f64 base)).run prog w=.ok (.float .f64 r) w:=fun w=>run_float_arith w .add _ _ _ _ _ h2
      have a:Hid (AL s y base r):=.inl ⟨p,h1,h2⟩;clear h1 h2;go_enter func176,ntmps176;go_wp2;go_ret;exact ⟨⟨_,rfl,a.out⟩,0,rfl⟩
    | none =>
      have k2:∀ w,(binOp .add 106 (.float .f64 p) (.float .f64 base)).run prog w=.ok (.float .f64 (nanw p base w)) w.drew:=fun w=>run_add_none _ _ _ h2 w
      have a:Hid (AL s y base (nanw p base w)):=.inr ⟨fun q hq=>(by rw [h1] at hq;cases hq;exact h2),nanw_rg _ _ _⟩
      clear h1 h2;go_enter func176,ntmps176;go_wp2;go_ret;exact ⟨⟨_,rfl,a.out⟩,1,rfl⟩
  | none =>
    have k1:∀ w,(binOp .mul 106 (.float .f64 s) (.float .f64 y)).run prog w=.ok (.float .f64 (nanw s y w)) w.drew:=fun w=>run_mul_none _ _ _ h1 w
    have k2:∀ w',(binOp .add 106 (.float .f64 (nanw s y w)) (.float .f64 base)).run prog w'=.ok (.float .f64 (nanw (nanw s y w) base w')) w'.drew:=fun w'=>run_add_none _ _ _ (add_nan (nanw_rg s y w)) w'
    have a:Hid (AL s y base (nanw (nanw s y w) base w.drew)):=.inr ⟨fun q hq=>(by rw [h1] at hq;cases hq),nanw_rg _ _ _⟩
    clear h1;go_enter func176,ntmps176;go_wp2;go_ret;exact ⟨⟨_,rfl,a.out⟩,2,rfl⟩
def cMin (x:Nat):Bool:=Ieee.double.order x 14114281232179134464 == some .lt
def cMax (x:Nat):Bool:=Ieee.double.order x 4890909195324358656 == some .gt||Ieee.double.order x 4890909195324358656 == some .eq
theorem V_two (k:Nat):V ((k+1023)*4503599627370496)=2^k*Un:=by
  have:=V_form (k+1022) 4503599627370496 (by decide) (.inl (by decide))
  rw [show (k+1022)*4503599627370496+4503599627370496=(k+1023)*4503599627370496 by omega] at this
  rw [this,show (4503599627370496:Nat)=2^52 from rfl,<-Nat.pow_add,Un_pow,show 52+(k+1022)=k+1074 by omega]
theorem V63:V 4890909195324358656=9223372036854775808*Un:=by
  have h:=V_two 63;rw [show (63+1023)*4503599627370496=4890909195324358656 from rfl,show (2:Nat)^63=9223372036854775808 from rfl] at h;exact h
theorem SVmax:SV 4890909195324358656=9223372036854775808*(Un:Int):=by
  unfold SV;rw [show sg 4890909195324358656=false from rfl,show rg 4890909195324358656=4890909195324358656 from rfl,V63];simp
theorem SVmin:SV 14114281232179134464=-(9223372036854775808*(Un:Int)):=by
  unfold SV;rw [show sg 14114281232179134464=true from rfl,show rg 14114281232179134464=4890909195324358656 from rfl,V63];simp
theorem clamp_in {x:Nat} (h:¬ 9218868437227405312<rg x) (h1:cMin x=false) (h2:cMax x=false) :
    rg x<9218868437227405312/\-9223372036854775808<=flo x/\flo x<9223372036854775808/\-9223372036854775808<=tru x/\tru x<9223372036854775808:=by
  have hU:=Un_pos;rcases Nat.lt_or_ge (rg x) 9218868437227405312 with k | k
  · unfold cMin at h1;unfold cMax at h2
    rw [f_lt k (by decide),SVmin] at h1
    rw [f_ge k (by decide),SVmax] at h2
    simp only [decide_eq_false_iff_not] at h1 h2;have f0:-9223372036854775808<=flo x:=by
      unfold flo;refine (Int.le_ediv_iff_mul_le (by omega)).2 ?_
      omega
    have f1:flo x<9223372036854775808:=by
      unfold flo;refine (Int.ediv_lt_iff_lt_mul (by omega)).2 ?_
      omega
    obtain ⟨t1,t2⟩:=tru_flo x;by_cases c:SV x<tru x*Un
    · have:=t1 c
      refine ⟨k,f0,f1,by omega,?_⟩
      by_cases s:sg x=true
      · unfold tru;rw [if_pos s]
        generalize V (rg x)/Un=q;omega
      · exfalso
        have s':sg x=false:=by simpa using s
        have e1:=flo_eq x;rw [s'] at e1;unfold tru at this;rw [s'] at this;simp at e1 this;omega
    · have:=t2 c
      exact ⟨k,f0,f1,by omega,by omega⟩
  · have e:rg x=9218868437227405312:=by omega
    exfalso
    unfold cMin Ieee.Format.order at h1;unfold cMax Ieee.Format.order at h2;rw [read_inf e,read_fin (show rg 14114281232179134464<9218868437227405312 by decide)] at h1
    rw [read_inf e,read_fin (show rg 4890909195324358656<9218868437227405312 by decide)] at h2
    cases hs:sg x<;>rw [hs] at h1 h2<;>simp [Ieee.Datum.order] at h1 h2
theorem clamp_not {x:Nat} (h:¬ 9218868437227405312<rg x) (h1:cMin x=true):cMax x=false:=by
  have hU:=Un_pos;unfold cMin at h1;unfold cMax;rcases Nat.lt_or_ge (rg x) 9218868437227405312 with k | k
  · rw [f_lt k (by decide),SVmin] at h1
    rw [f_ge k (by decide),SVmax]
    simp only [decide_eq_true_eq] at h1;exact decide_eq_false (by omega)
  · have e:rg x=9218868437227405312:=by omega
    unfold Ieee.Format.order at h1 ⊢;rw [read_inf e,read_fin (show rg 14114281232179134464<9218868437227405312 by decide)] at h1
    rw [read_inf e,read_fin (show rg 4890909195324358656<9218868437227405312 by decide)]
    cases hs:sg x<;>rw [hs] at h1<;>simp [Ieee.Datum.order] at h1 ⊢
def clampv (x:Nat) (lo hi:Int):Int :=
  if hi<lo\/9218868437227405312<rg x then lo else if cMin x then lo else if cMax x then hi else min (max (flo x) lo) hi
theorem archfloor {x:Nat} (hx:rg x<9218868437227405312) (w:World):(callFunc 255 #[.float .f64 x]).run prog w=.ok (.value (.float .f64 (flb x))) w:=by
  rw [run_callFunc_extern func255 (by kernel_rfl) (by kernel_rfl) (by kernel_rfl) (e:=Extern.MathFloor.toIntegral "math.archFloor" .down) (by kernel_rfl)]
  have key:Extern.MathFloor.toIntegral "math.archFloor" .down #[.float .f64 x]=pure (.float .f64 (flb x)):=by
    unfold flb;have e:=read_fin hx
    delta Extern.MathFloor.toIntegral
    conv=>lhs;whnf
    rw [show FloatKind.f64.decode x=_ from e,e];rfl
  rw [key];rfl
theorem floor_any {x:Nat} (hx:rg x<9218868437227405312) (w:World) :
    Calls prog 244 #[.float .f64 x] w fun e w'=>e=.returned (.float .f64 (flb x))/\w'=w:=by
  go_enter func244,ntmps244;go_wp2_with (simp only [archfloor hx]);go_ret;exact ⟨rfl,rfl⟩
theorem clamp_last {x:Nat} (lo hi:Int) (h0:-9223372036854775808<=lo) (h1:lo<9223372036854775808) (h2:-9223372036854775808<=hi) (h3:hi<9223372036854775808)
    (hl:¬ hi<lo) (hn:¬ 9218868437227405312<rg x) (hx:rg x<9218868437227405312) (c1:(FloatKind.f64.format.order x 14114281232179134464 == some .lt)=false) (c2:(FloatKind.f64.format.order x 4890909195324358656 == some .gt||FloatKind.f64.format.order x 4890909195324358656 == some .eq)=false)
    (n:Int) (n0:-9223372036854775808<=n) (n1:n<9223372036854775808) (hc:∀ w,(convert 106 2 (.float .f64 (flb x))).run prog w=.ok (.int .i64 n) w) (w:World) :
    Calls prog 232 #[.float .f64 x,.int .i64 lo,.int .i64 hi] w fun e w'=>e=.returned (.int .i64 (min (max n lo) hi))/\w'=w:=by
  go_enter func232,ntmps232;go_wp2_with (first | (go_at_call 229;refine (isnan x _).mono ?_;rintro e w' ⟨rfl,rfl⟩) | (go_at_call 244;refine (floor_any hx _).mono ?_;rintro e w' ⟨rfl,rfl⟩))
  all_goals go_ret
  all_goals first
    | exact ⟨rfl,rfl⟩
    | exact ⟨congrArg (fun z=>Ending.returned (.int .i64 z)) (show _=min (max n lo) hi by first | omega | (simp only [*] at *;omega)),rfl⟩
theorem clamp_any (x:Nat) (lo hi:Int) (h0:-9223372036854775808<=lo) (h1:lo<9223372036854775808) (h2:-9223372036854775808<=hi) (h3:hi<9223372036854775808) (w:World) :
    Calls prog 232 #[.float .f64 x,.int .i64 lo,.int .i64 hi] w fun e w'=>e=.returned (.int .i64 (clampv x lo hi))/\w'=w:=by
  unfold clampv;by_cases hl:hi<lo
  · rw [if_pos (.inl hl)]
    go_enter func232,ntmps232;go_wp2;go_ret;exact ⟨rfl,rfl⟩
  · by_cases hn:9218868437227405312<rg x
    · rw [if_pos (.inr hn)]
      go_enter func232,ntmps232;go_wp2_with (go_at_call 229;refine (isnan x _).mono ?_;rintro e w' ⟨rfl,rfl⟩);go_ret;exact ⟨rfl,rfl⟩
    · rw [if_neg (by omega)]
      cases c1:cMin x
      · cases c2:cMax x
        · obtain ⟨hx,f0,f1,-,-⟩:=clamp_in hn c1 c2
          exact clamp_last lo hi h0 h1 h2 h3 hl hn hx c1 c2 (flo x) f0 f1 (fun w=>run_convert_float_int w _ _ _ _ _ _ (by kernel_rfl) (by kernel_rfl) (toVal_flb hx f0 f1)) w
        · have c1':(FloatKind.f64.format.order x 14114281232179134464 == some .lt)=false:=c1
          have c2':(FloatKind.f64.format.order x 4890909195324358656 == some .gt||FloatKind.f64.format.order x 4890909195324358656 == some .eq)=true:=c2
          clear c1 c2;rw [if_neg (by decide),if_pos rfl]
          go_enter func232,ntmps232;go_wp2_with (go_at_call 229;refine (isnan x _).mono ?_;rintro e w' ⟨rfl,rfl⟩);go_ret;exact ⟨rfl,rfl⟩
      · have c1':(FloatKind.f64.format.order x 14114281232179134464 == some .lt)=true:=c1
        clear c1;rw [if_pos rfl];go_enter func232,ntmps232;go_wp2_with (go_at_call 229;refine (isnan x _).mono ?_;rintro e w' ⟨rfl,rfl⟩);go_ret;exact ⟨rfl,rfl⟩
theorem rclamp_last {x:Nat} (lo hi:Int) (h0:-9223372036854775808<=lo) (h1:lo<9223372036854775808) (h2:-9223372036854775808<=hi) (h3:hi<9223372036854775808)
    (hl:¬ hi<lo) (hn:(FloatKind.f64.format.order x x != some .eq)=false) (c1:(FloatKind.f64.format.order x 14114281232179134464 == some .lt)=false) (c2:(FloatKind.f64.format.order x 4890909195324358656 == some .gt||FloatKind.f64.format.order x 4890909195324358656 == some .eq)=false)
    (n m:Int) (n0:-9223372036854775808<=n) (n1:n<9223372036854775808) (m0:-9223372036854775808<=m) (hc:∀ w,(convert 106 3 (.float .f64 x)).run prog w=.ok (.int .i64 n) w)
    (hm:(FloatKind.f64.format.order (floatOfInt .f64 n) x == some .gt)=true/\m=n-1\/(FloatKind.f64.format.order (floatOfInt .f64 n) x == some .gt)=false/\m=n) (w:World) :
    Calls prog 175 #[.float .f64 x,.int .i64 lo,.int .i64 hi] w fun e w'=>e=.returned (.int .i64 (max lo (min hi m)))/\w'=w:=by
  rcases hm with ⟨hm,rfl⟩ | ⟨hm,rfl⟩
  · go_enter func175,ntmps175
    go_wp2
    all_goals go_ret
    all_goals first
      | exact ⟨rfl,rfl⟩
      | exact ⟨congrArg (fun z=>Ending.returned (.int .i64 z)) (show _=max lo (min hi (n-1)) by first | omega | (simp only [*] at *;omega)),rfl⟩
  · go_enter func175,ntmps175
    go_wp2
    all_goals go_ret
    all_goals first
      | exact ⟨rfl,rfl⟩
      | exact ⟨congrArg (fun z=>Ending.returned (.int .i64 z)) (show _=max lo (min hi (m)) by first | omega | (simp only [*] at *;omega)),rfl⟩
theorem rclamp_any (x:Nat) (lo hi:Int) (h0:-9223372036854775808<=lo) (h1:lo<9223372036854775808) (h2:-9223372036854775808<=hi) (h3:hi<9223372036854775808) (w:World) :
    Calls prog 175 #[.float .f64 x,.int .i64 lo,.int .i64 hi] w fun e w'=>e=.returned (.int .i64 (clampv x lo hi))/\w'=w:=by
  have sn:=self_ne x;unfold clampv;by_cases hl:hi<lo
  · rw [if_pos (.inl hl)]
    go_enter func175,ntmps175;go_wp2;go_ret;exact ⟨rfl,rfl⟩
  · by_cases hn:9218868437227405312<rg x
    · rw [if_pos (.inr hn)]
      rw [decide_eq_true hn] at sn;go_enter func175,ntmps175;go_wp2;go_ret;exact ⟨rfl,rfl⟩
    · rw [if_neg (by omega)]
      rw [decide_eq_false hn] at sn;cases c1:cMin x
      · cases c2:cMax x
        · obtain ⟨hx,f0,f1,t0,t1⟩:=clamp_in hn c1 c2
          obtain ⟨b,hb,e1,e2,-⟩:=back_tru hx;have hr:rg (floatOfInt .f64 (tru x))<9218868437227405312:=by rw [e1,word_rg _ _ (by omega)];exact hb
          obtain ⟨u1,u2⟩:=tru_flo x;have hm:(FloatKind.f64.format.order (floatOfInt .f64 (tru x)) x == some .gt)=decide (SV x<tru x*Un):=by rw [fmt,f_gt hr hx,e2]
          have fin:=rclamp_last (x:=x) lo hi h0 h1 h2 h3 hl sn c1 c2 (tru x) (flo x) t0 t1 f0 (fun w=>run_convert_float_int w _ _ _ _ _ _ (by kernel_rfl) (by kernel_rfl) (toVal_fin hx t0 t1)) (by
            by_cases c:SV x<tru x*Un
            · exact .inl ⟨by rw [hm];exact decide_eq_true c,u1 c⟩
            · exact .inr ⟨by rw [hm];exact decide_eq_false c,u2 c⟩) w
          rw [if_neg (by decide),if_neg (by decide)]
          have e:min (max (flo x) lo) hi=max lo (min hi (flo x)):=by omega
          rw [e];exact fin
        · have c1':(FloatKind.f64.format.order x 14114281232179134464 == some .lt)=false:=c1
          have c2':(FloatKind.f64.format.order x 4890909195324358656 == some .gt||FloatKind.f64.format.order x 4890909195324358656 == some .eq)=true:=c2
          clear c1 c2;rw [if_neg (by decide),if_pos rfl]
          go_enter func175,ntmps175;go_wp2;go_ret;exact ⟨rfl,rfl⟩
      · have c1':(FloatKind.f64.format.order x 14114281232179134464 == some .lt)=true:=c1
        have c2':(FloatKind.f64.format.order x 4890909195324358656 == some .gt||FloatKind.f64.format.order x 4890909195324358656 == some .eq)=false:=clamp_not hn c1
        clear c1;rw [if_pos rfl];go_enter func175,ntmps175;go_wp2;go_ret;exact ⟨rfl,rfl⟩
open Ieee
def gv (t lo hi:Int):Int:=min (max t lo) hi
theorem gv_in {t lo hi:Int} (h:lo<=hi):lo<=gv t lo hi/\gv t lo hi<=hi:=by unfold gv;omega
theorem gv_mono {t u lo hi:Int} (h:t<=u):gv t lo hi<=gv u lo hi:=by unfold gv;omega
theorem rnd_le {S1 S2:Int} {r1 r2:Nat} (h1:Nr S1.natAbs 1 r1) (h2:Nr S2.natAbs 1 r2) (h:S1<=S2):rnd S1 r1<=rnd S2 r2:=by
  unfold rnd;by_cases a:S1<0
  · rw [if_pos a]
    by_cases b:S2<0
    · rw [if_pos b]
      have:r2<=r1:=h2.mono h1 (by decide) (by decide) (by omega)
      have:=V_le this
      omega
    · rw [if_neg b];omega
  · rw [if_neg a,if_neg (by omega)]
    have:r1<=r2:=h1.mono h2 (by decide) (by decide) (by omega)
    have:=V_le this
    omega
theorem top_fin {x r:Nat} (h:Nr x 1 r) (b:x<=V 9218868437227405311+36893488147419103232*Un):r<=9218868437227405311:=by
  obtain ⟨B,hB⟩:∃ B,B=9218868437227405311:=⟨_,rfl⟩;rw [<-hB] at b ⊢;by_cases q:x<=V B
  · exact h.mono (Nr.exact B 1 (by decide)) (by decide) (by decide) (by omega)
  · have st:=V_step B
    obtain ⟨e,he⟩:∃ e,B/4503599627370496-1=e:=⟨_,rfl⟩;rw [he] at st;have e0:2000<e:=by omega
    have g:73786976294838206464*Un<2^e:=by
      obtain ⟨k,hk,eU⟩:=Un_ex;have e2:(2:Nat)^66=73786976294838206464:=by decide +kernel
      rw [eU,<-e2,<-Nat.pow_add];exact Nat.pow_lt_pow_right (by decide) (by omega)
    generalize (2:Nat)^e=k at st g;have lt:=V_lt (show B-1<B by omega)
    have n:Nr x 1 B:=by
      refine ⟨by omega,by rw [st];omega,fun e=>by omega,fun e=>?_⟩
      rw [st] at e;omega
    exact Nat.le_of_eq (h.uniq n (by decide))
theorem off_probe {f:Nat->Int} {n:Nat} {g:Int->Int} {lo N:Int} (n0:0<n) (mono:∀ x y,f 0<=x->x<=y->g x<=g y) (up:∀ i,i<n->f 0<=f i) (rng:∀ x,f 0<=x->lo<=g x/\g x<=lo+n) (N0:0<=N)
    (off:∀ i,i<n->lo+i-N<=g (f i)/\g (f i)<=lo+i+N) (q:Int) (k:Nat) (hk:k<=n) (below:∀ i,i<k->f i<q) (above:∀ i,k<=i->i<n->q<=f i) (first:f 0<=q):lo+k-(N+1)<=g q/\g q<=lo+k+(N+1):=by
  have r:=rng q first;refine ⟨?_,?_⟩
  · by_cases z:k=0
    · subst z
      have:=above 0 (Nat.le_refl _) n0
      have e:q=f 0:=by omega
      subst e;have:=(off 0 n0).1;omega
    · have b:=below (k-1) (by omega)
      have m:=mono (f (k-1)) q (up _ (by omega)) (by omega)
      have o:=(off (k-1) (by omega)).1
      omega
  · by_cases z:k<n
    · have a:=above k (Nat.le_refl _) z
      have m:=mono q (f k) first a;have o:=(off k z).2;omega
    · omega
def errM (sl ic:Nat) (fr to:Int):Int :=
  if fr<0\/to<=fr\/4294967296<to then 70 else if 4611686018427387904<sl then 71 else if 9218868437227405312<=rg ic then 72 else 0
abbrev segV (k:Int) (sl ic:Nat) (fr to:Int):Value:=.agg #[.int .u64 k,.float .f64 sl,.float .f64 ic,.int .i64 fr,.int .i64 to]
theorem errM_ok {sl ic:Nat} {fr to:Int}:errM sl ic fr to=0↔0<=fr/\fr<to/\to<=4294967296/\sl<=4611686018427387904/\rg ic<9218868437227405312:=by
  unfold errM;by_cases h:fr<0\/to<=fr\/4294967296<to
  · rw [if_pos h];omega
  · rw [if_neg h]
    by_cases h1:4611686018427387904<sl
    · rw [if_pos h1];omega
    · rw [if_neg h1]
      by_cases h2:9218868437227405312<=rg ic
      · rw [if_pos h2];omega
      · rw [if_neg h2];omega
def fge0 (x:Nat):Bool:=FloatKind.f64.format.order x 0 == some .gt||FloatKind.f64.format.order x 0 == some .eq
def fgt2 (x:Nat):Bool:=FloatKind.f64.format.order x 4611686018427387904 == some .gt
theorem V0:SV 0=0:=by decide
theorem rg_small {x:Nat} (h:x<9223372036854775808):rg x=x:=Nat.mod_eq_of_lt h
theorem sg_small {x:Nat} (h:x<9223372036854775808):sg x=false:=by unfold sg;simp;omega
theorem SV_small {x:Nat} (h:x<9223372036854775808):SV x=V x:=by unfold SV;rw [sg_small h,rg_small h];rfl
theorem slope_ok {x:Nat} (h:x<=4611686018427387904):fge0 x=true/\decide ((9223372036854775808:Int)<=(x:Int))=false/\fgt2 x=false:=by
  have hx:rg x<9218868437227405312:=by rw [rg_small (by omega)];omega
  have e:=SV_small (x:=x) (by omega)
  refine ⟨?_,by simp;omega,?_⟩
  · unfold fge0;rw [fmt,f_ge hx (by decide),V0,e];simp
  · unfold fgt2;rw [fmt,f_gt hx (by decide),e,SV_small (by decide)]
    have:=V_le h
    simp;omega
theorem slope_bad {x:Nat} (h:4611686018427387904<x):fge0 x=false\/(fge0 x=true/\decide ((9223372036854775808:Int)<=(x:Int))=true)\/(fge0 x=true/\decide ((9223372036854775808:Int)<=(x:Int))=false/\fgt2 x=true):=by
  cases g:fge0 x
  · exact .inl rfl
  · by_cases k:9223372036854775808<=x
    · exact .inr (.inl ⟨rfl,by simp;omega⟩)
    · refine .inr (.inr ⟨rfl,by simp;omega,?_⟩)
      have r:=rg_small (x:=x) (by omega)
      unfold fgt2;rw [fmt];rcases Nat.lt_trichotomy (rg x) 9218868437227405312 with q | q | q
      · rw [f_gt q (by decide),SV_small (x:=x) (by omega),SV_small (by decide)]
        have:=V_lt h
        simp;omega
      · unfold Ieee.Format.order;rw [read_inf q,read_fin (by decide),sg_small (x:=x) (by omega)]
        simp [Ieee.Datum.order]
      · exfalso
        unfold fge0 Ieee.Format.order at g;rw [fmt,read_nan q] at g;simp [Ieee.Datum.order] at g
theorem run_sub_none (t:TypeId) (x y:Nat) (h:Ieee.double.sub x y=none) (w:World):(binOp .sub t (.float .f64 x) (.float .f64 y)).run prog w=.ok (.float .f64 (nanw x y w)) w.drew:=by
  have h':FloatKind.f64.format.sub x y=none:=h;simp [binOp,Op.floatArith,h'];rfl
theorem sub_self {x:Nat} (h:rg x<9218868437227405312):∃ z,Ieee.double.sub x x=some z/\(FloatKind.f64.format.order z 0 != some .eq)=false:=by
  obtain ⟨b,hb,e⟩:=sub_fin h h;refine ⟨_,e,?_⟩;have b0:b=0:=by
    rw [Int.sub_self] at hb;exact hb.uniq (Nr.zero 1 (by decide)) (by decide)
  subst b0;rw [fmt,f_ne (by rw [word_rg _ _ (by decide)];decide) (by decide),SV_word _ _ (by decide),V0]
  have:V (min 0 9218868437227405312)=0:=rfl
  rw [this];simp
theorem sub_none {x:Nat} (h:9218868437227405312<=rg x):Ieee.double.sub x x=none:=by
  unfold Ieee.Format.sub;rcases Nat.lt_or_eq_of_le h with q | q
  · rw [read_nan q];rfl
  · rw [read_inf q.symm];cases sg x<;>rfl
theorem nan_ne {x:Nat} (h:9218868437227405312<rg x):(FloatKind.f64.format.order x 0 != some .eq)=true:=by
  rw [fmt];unfold Ieee.Format.order;rw [read_nan h];simp [Ieee.Datum.order]
theorem rcheck_any (k:Int) (sl ic:Nat) (fr to:Int) (w:World) (hf0:-9223372036854775808<=fr) (hf1:fr<9223372036854775808) (ht0:-9223372036854775808<=to) (ht1:to<9223372036854775808) :
    Calls prog 135 #[segV k sl ic fr to] w fun e w'=>e=.returned (.int .i64 (errM sl ic fr to))/\Gw w w':=by
  have G0:Aside (Gw w (w.alloc (.cells #[.int .u64 k,.float .f64 sl,.float .f64 ic,.int .i64 fr,.int .i64 to] 110))):=(Gw.refl w).alloc _ _;unfold errM;by_cases h:fr<0\/to<=fr\/4294967296<to
  · rw [if_pos h]
    by_cases h1:fr<0
    · have t1:decide (fr<0)=true:=by simpa using h1
      clear h h1;go_enter func135,ntmps135;go_wp2;exact bodyPost_ret (v:=.int .i64 70) (by simp [results,results135,go_sem]) rfl ⟨rfl,G0.out⟩
    · have t1:decide (fr<0)=false:=by simpa using h1
      by_cases h2:to<=fr
      · have t2:decide (to<=fr)=true:=by simpa using h2
        clear h h1 h2;go_enter func135,ntmps135;go_wp2;exact bodyPost_ret (v:=.int .i64 70) (by simp [results,results135,go_sem]) rfl ⟨rfl,G0.out⟩
      · have t2:decide (to<=fr)=false:=by simpa using h2
        have t3:decide (4294967296<to)=true:=by simp;omega
        clear h h1 h2;go_enter func135,ntmps135;go_wp2;exact bodyPost_ret (v:=.int .i64 70) (by simp [results,results135,go_sem]) rfl ⟨rfl,G0.out⟩
  · rw [if_neg h]
    have t1:decide (fr<0)=false:=by simp;omega
    have t2:decide (to<=fr)=false:=by simp;omega
    have t3:decide (4294967296<to)=false:=by simp;omega
    clear h;by_cases h1:4611686018427387904<sl
    · rw [if_pos h1]
      rcases slope_bad h1 with q | ⟨q,q1⟩ | ⟨q,q1,q2⟩
      · have q':(FloatKind.f64.format.order sl 0 == some .gt||FloatKind.f64.format.order sl 0 == some .eq)=false:=q
        clear q h1;go_enter func135,ntmps135;go_wp2_with (simp only [f64bits]);exact bodyPost_ret (v:=.int .i64 71) (by simp [results,results135,go_sem]) rfl ⟨rfl,G0.out⟩
      · have q':(FloatKind.f64.format.order sl 0 == some .gt||FloatKind.f64.format.order sl 0 == some .eq)=true:=q
        clear q h1;go_enter func135,ntmps135;go_wp2_with (simp only [f64bits]);exact bodyPost_ret (v:=.int .i64 71) (by simp [results,results135,go_sem]) rfl ⟨rfl,G0.out⟩
      · have q':(FloatKind.f64.format.order sl 0 == some .gt||FloatKind.f64.format.order sl 0 == some .eq)=true:=q
        have q2':(FloatKind.f64.format.order sl 4611686018427387904 == some .gt)=true:=q2;clear q q2 h1;go_enter func135,ntmps135;go_wp2_with (simp only [f64bits]);exact bodyPost_ret (v:=.int .i64 71) (by simp [results,results135,go_sem]) rfl ⟨rfl,G0.out⟩
    · rw [if_neg h1]
      obtain ⟨q,q1,q2⟩:=slope_ok (x:=sl) (by omega)
      have q':(FloatKind.f64.format.order sl 0 == some .gt||FloatKind.f64.format.order sl 0 == some .eq)=true:=q
      have q2':(FloatKind.f64.format.order sl 4611686018427387904 == some .gt)=false:=q2;clear q q2 h1;by_cases h2:9218868437227405312<=rg ic
      · rw [if_pos h2]
        have k1:∀ w,(binOp .sub 106 (.float .f64 ic) (.float .f64 ic)).run prog w=.ok (.float .f64 (nanw ic ic w)) w.drew:=fun w=>run_sub_none _ _ _ (sub_none h2) w
        have k2:∀ w,(FloatKind.f64.format.order (nanw ic ic w) 0 != some .eq)=true:=fun w=>nan_ne (nanw_rg _ _ _)
        clear h2;go_enter func135,ntmps135;go_wp2_with (first | simp only [f64bits])
        exact bodyPost_ret (v:=.int .i64 72) (by simp [results,results135,go_sem]) rfl ⟨rfl,G0.out.drew⟩
      · rw [if_neg h2]
        obtain ⟨z,e,hz⟩:=sub_self (x:=ic) (by omega)
        have k1:∀ w,(binOp .sub 106 (.float .f64 ic) (.float .f64 ic)).run prog w=.ok (.float .f64 z) w:=fun w=>run_float_arith w .sub _ _ _ _ _ e
        clear h2 e;go_enter func135,ntmps135;go_wp2_with (first | simp only [f64bits])
        exact bodyPost_ret (v:=.int .i64 0) (by simp [results,results135,go_sem]) rfl ⟨rfl,G0.out⟩
theorem V64:V 4895412794951729152=18446744073709551616*Un:=by
  have:=V_pw2 64
  rwa [show (64+1023)*4503599627370496=4895412794951729152 from rfl,show (2:Nat)^64=18446744073709551616 from rfl] at this
theorem V65:V 4899916394579099648=36893488147419103232*Un:=by
  have:=V_pw2 65
  rwa [show (65+1023)*4503599627370496=4899916394579099648 from rfl,show (2:Nat)^65=36893488147419103232 from rfl] at this
theorem line_right {sl ic far:Nat} (hs:sl<=4611686018427387904) (hi:rg ic<9218868437227405312) (hf:far<18446744073709551616) :
    ∃ y p r v,Nr (far*Un) 1 y/\floatOfInt .f64 (far:Int)=y/\Nr (V sl*V y) Un p/\Ieee.double.mul sl y=some p/\Nr ((V p:Int)+SV ic).natAbs 1 r/\Ieee.double.add p ic=some v/\rg v<9218868437227405312/\SV v=rnd ((V p:Int)+SV ic) r/\y<=4895412794951729152/\p<=4899916394579099648:=by
  have U0:=Un_pos;obtain ⟨y,hy,ey⟩:=ofInt_any (far:Int);rw [Int.natAbs_natCast] at hy;have y1:y<=4895412794951729152:=hy.mono (Nr.of_eq (x:=18446744073709551616*Un) (y:=1) (by decide) (by rw [V64];omega)) (by decide) (by decide) (by
    rw [Nat.mul_one,Nat.mul_one];exact Nat.mul_le_mul_right _ (by omega))
  have dn:decide ((far:Int)<0)=false:=by simp
  rw [dn,Nat.min_eq_left (by omega),word_false] at ey
  have ys:rg y=y:=rg_small (by omega)
  have ss:rg sl=sl:=rg_small (by omega)
  obtain ⟨p,hp,ep⟩:=mul_fin (x:=sl) (y:=y) (by rw [ss];omega) (by rw [ys];omega)
  rw [ss,ys] at hp;have p1:p<=4899916394579099648:=hp.mono (Nr.of_eq (x:=36893488147419103232*Un*Un) (y:=Un) U0 (by rw [V65])) U0 U0 (by
    refine Nat.mul_le_mul_right _ ?_;have a:=V_le hs;have b:=V_le y1;rw [V2] at a;rw [V64] at b;have e:∀ U:Nat,2*U*(18446744073709551616*U)=36893488147419103232*U*U:=fun U=>by rw [Nat.mul_mul_mul_comm,<-Nat.mul_assoc]
    exact Nat.le_trans (Nat.mul_le_mul a b) (Nat.le_of_eq (e Un)))
  rw [sg_small (x:=sl) (by omega),sg_small (x:=y) (by omega),Nat.min_eq_left (by omega)] at ep
  have ep':Ieee.double.mul sl y=some p:=ep;have ps:rg p=p:=rg_small (by omega)
  have pv:SV p=V p:=SV_small (by omega)
  obtain ⟨r,hr,er⟩:=add_fin (x:=p) (y:=ic) (by rw [ps];omega) hi
  rw [pv] at hr er;have ab:((V p:Int)+SV ic).natAbs<=V 9218868437227405311+36893488147419103232*Un:=by
    have a:=V_le p1;rw [V65] at a;have b:=V_le (show rg ic<=9218868437227405311 by omega)
    have c:(SV ic).natAbs<=V (rg ic):=by unfold SV;split<;>omega
    omega
  have r1:=top_fin hr ab;rw [Nat.min_eq_left (show r<=9218868437227405312 by omega)] at er
  refine ⟨y,p,r,_,hy,ey,hp,ep',hr,er,by rw [word_rg _ _ (by omega)];omega,?_,y1,p1⟩
  rw [SV_word _ _ (by omega)]
  unfold rnd;by_cases z:(V p:Int)+SV ic=0
  · have r0:r=0:=by
      rw [z] at hr;exact hr.uniq (Nr.zero 1 (by decide)) (by decide)
    subst r0;rw [V_zero];simp
  · rw [if_neg z]
    by_cases n:(V p:Int)+SV ic<0
    · rw [if_pos (decide_eq_true n),if_pos n]
    · rw [if_neg (by simpa using n),if_neg n]
theorem clampv_gv {v:Nat} {lo hi:Int} (hv:rg v<9218868437227405312) (h:lo<=hi) (l0:-9223372036854775808<=lo) (h1:hi<9223372036854775808):clampv v lo hi=gv (flo v) lo hi:=by
  have U0:=Un_pos;have U1:(0:Int)<Un:=by omega
  unfold clampv;rw [if_neg (by omega)]
  cases c1:cMin v
  · cases c2:cMax v
    · rfl
    · rw [if_neg (by decide),if_pos rfl]
      unfold cMax at c2;rw [f_ge hv (by decide),SVmax,decide_eq_true_eq] at c2
      have:9223372036854775808<=flo v:=by
        unfold flo;exact (Int.le_ediv_iff_mul_le U1).2 c2
      unfold gv;omega
  · rw [if_pos rfl]
    unfold cMin at c1;rw [f_lt hv (by decide),SVmin,decide_eq_true_eq] at c1
    have:flo v < -9223372036854775808:=by
      unfold flo;refine Int.ediv_lt_of_lt_mul U1 ?_;rw [Int.neg_mul];exact c1
    unfold gv;omega
def gfl (sl ic far:Nat):Nat :=
  match Ieee.double.mul sl (floatOfInt .f64 (far:Int)) with
  | some p=>(Ieee.double.add p ic).getD 0
  | none=>0
def guessV (k:Int) (sl ic:Nat) (fr to q:Int):Int:=if errM sl ic fr to=0 then clampv (gfl sl ic (q-k).toNat) fr to else 0
theorem gfl_is {sl ic far y p v:Nat} (ey:floatOfInt .f64 (far:Int)=y) (ep:Ieee.double.mul sl y=some p) (ev:Ieee.double.add p ic=some v):gfl sl ic far=v:=by
  unfold gfl;rw [ey,ep];show (Ieee.double.add p ic).getD 0=v;rw [ev];rfl
theorem AL.is {s y base p v r:Nat} (h:AL s y base r) (ep:Ieee.double.mul s y=some p) (ev:Ieee.double.add p base=some v):r=v:=by
  rcases h with ⟨q,a,b⟩ | ⟨a,b⟩
  · rw [ep] at a;cases a;rw [ev] at b;cases b;rfl
  · have:=a p ep;rw [ev] at this;cases this
theorem gfl_mono {sl ic a b:Nat} (hs:sl<=4611686018427387904) (hi:rg ic<9218868437227405312) (hb:b<18446744073709551616) (h:a<=b):flo (gfl sl ic a)<=flo (gfl sl ic b):=by
  have U0:=Un_pos;obtain ⟨y,p,r,v,hy,ey,hp,ep,hr,ev,fv,sv,-,-⟩:=line_right (far:=a) hs hi (by omega)
  obtain ⟨y',p',r',v',hy',ey',hp',ep',hr',ev',fv',sv',-,-⟩:=line_right (far:=b) hs hi hb;rw [gfl_is ey ep ev,gfl_is ey' ep' ev'];unfold flo;refine Int.ediv_le_ediv (by omega) ?_
  rw [sv,sv'];refine rnd_le hr hr' ?_;have a1:y<=y':=hy.mono hy' (by decide) (by decide) (by rw [Nat.mul_one,Nat.mul_one];exact Nat.mul_le_mul_right _ h)
  have a2:p<=p':=hp.mono hp' U0 U0 (Nat.mul_le_mul_right _ (Nat.mul_le_mul_left _ (V_le a1)));have:=V_le a2;omega
theorem guessV_gv {k q fr to:Int} {sl ic:Nat} (h:errM sl ic fr to=0) (k0:0<=k) (q1:q<18446744073709551616):guessV k sl ic fr to q=gv (flo (gfl sl ic (q-k).toNat)) fr to:=by
  obtain ⟨a,b,c,d,e⟩:=errM_ok.1 h;obtain ⟨y,p,r,v,hy,ey,hp,ep,hr,ev,fv,sv,-,-⟩:=line_right (far:=(q-k).toNat) d e (by omega)
  unfold guessV;rw [if_pos h,gfl_is ey ep ev,clampv_gv fv (by omega) (by omega) (by omega)]
theorem guessV_mono {k q q' fr to:Int} {sl ic:Nat} (h:errM sl ic fr to=0) (k0:0<=k) (q1:q'<18446744073709551616) (le:q<=q'):guessV k sl ic fr to q<=guessV k sl ic fr to q':=by
  obtain ⟨a,b,c,d,e⟩:=errM_ok.1 h;rw [guessV_gv h k0 (by omega),guessV_gv h k0 q1]
  exact gv_mono (gfl_mono d e (by omega) (by omega))
theorem guessV_in {k q fr to:Int} {sl ic:Nat} (h:errM sl ic fr to=0) (k0:0<=k) (q1:q<18446744073709551616):fr<=guessV k sl ic fr to q/\guessV k sl ic fr to q<=to:=by
  obtain ⟨a,b,c,d,e⟩:=errM_ok.1 h;rw [guessV_gv h k0 q1];exact gv_in (by omega)
theorem rguess_any (k:Int) (sl ic:Nat) (fr to q:Int) (k0:0<=k) (k1:k<18446744073709551616) (q0:0<=q) (q1:q<18446744073709551616) (hf0:-9223372036854775808<=fr) (hf1:fr<9223372036854775808) (ht0:-9223372036854775808<=to) (ht1:to<9223372036854775808) (w:World) :
    Calls prog 160 #[segV k sl ic fr to,.int .u64 q] w fun e w'=>e=.returned (.int .i64 (guessV k sl ic fr to q))/\Gw w w':=by
  have G0:Aside (Gw w (w.alloc (.cells #[.int .u64 k,.float .f64 sl,.float .f64 ic,.int .i64 fr,.int .i64 to] 110))):=(Gw.refl w).alloc _ _;have C:Hid _:=fun W=>rcheck_any k sl ic fr to W hf0 hf1 ht0 ht1
  by_cases h:errM sl ic fr to=0
  · obtain ⟨a,b,c,d,e⟩:=errM_ok.1 h
    obtain ⟨y,p,r,v,hy,ey,hp,ep,hr,ev,fv,sv,-,-⟩:=line_right (far:=(q-k).toNat) d e (by omega)
    have V:Hid (guessV k sl ic fr to q=clampv v fr to):=by
      show guessV k sl ic fr to q=clampv v fr to;unfold guessV;rw [if_pos h,gfl_is ey ep ev]
    have A:Hid _:=fun W=>(ralong_any sl y (q-k).toNat ic (by omega) ey W).mono fun ex w' (hx:(∃ r,ex=.returned (.float .f64 r)/\AL sl y ic r)/\∃ n,w'=W.drewN n) =>
      show ex=.returned (.float .f64 v)/\Gw W w' from ⟨(by obtain ⟨⟨r,e1,al⟩,-⟩:=hx;rw [e1,al.is ep ev]),(by obtain ⟨-,n,e2⟩:=hx;rw [e2];exact (Gw.refl W).drewN n)⟩
    have L:Hid _:=fun W=>rclamp_any v fr to hf0 hf1 ht0 ht1 W
    rw [h] at C;clear hy ey hp ep hr ev fv sv h;rw [V.out];by_cases g:k<q
    · have t1:decide (k<q)=true:=by simpa using g
      have mz:IntKind.u64.wrap (q-k)=((q-k).toNat:Int):=by rw [IntKind.wrap_u64];omega
      generalize (q-k).toNat=D at A mz;clear g;go_enter func160,ntmps160;go_wp2_with fail;refine (C.out _).mono ?_;rintro ex w1 ⟨rfl,g1⟩;have x0:w1.cell? ⟨w.heap.size,0,none⟩=some (.int .u64 k):=(g1.cell _ _ (by simp)).trans (by simp [go_sem])
      have x1:w1.cell? ⟨w.heap.size,1,none⟩=some (.float .f64 sl):=(g1.cell _ _ (by simp)).trans (by simp [go_sem])
      have x2:w1.cell? ⟨w.heap.size,2,none⟩=some (.float .f64 ic):=(g1.cell _ _ (by simp)).trans (by simp [go_sem])
      have x3:w1.cell? ⟨w.heap.size,3,none⟩=some (.int .i64 fr):=(g1.cell _ _ (by simp)).trans (by simp [go_sem])
      have x4:w1.cell? ⟨w.heap.size,4,none⟩=some (.int .i64 to):=(g1.cell _ _ (by simp)).trans (by simp [go_sem])
      have s1:w.heap.size<w1.heap.size:=by have:=g1.size;simp at this;omega
      have G:Aside (Gw w w1):=G0.out.trans g1;have HK:Hid (∀ w',Gw w1 w'->Gw w1 w'/\w'.cell? ⟨w.heap.size,1,none⟩=some (.float .f64 sl)/\w'.cell? ⟨w.heap.size,2,none⟩=some (.float .f64 ic)/\w'.cell? ⟨w.heap.size,3,none⟩=some (.int .i64 fr)/\w'.cell? ⟨w.heap.size,4,none⟩=some (.int .i64 to)) :=
        fun w' g=>⟨g,(g.cell _ _ s1).trans x1,(g.cell _ _ s1).trans x2,(g.cell _ _ s1).trans x3,(g.cell _ _ s1).trans x4⟩
      clear g1 G0;go_wp2_with fail;go_region_held3 (fun w'=>Gw w1 w'/\w'.cell? ⟨w.heap.size,1,none⟩=some (.float .f64 sl)/\w'.cell? ⟨w.heap.size,2,none⟩=some (.float .f64 ic)/\w'.cell? ⟨w.heap.size,3,none⟩=some (.int .i64 fr)/\w'.cell? ⟨w.heap.size,4,none⟩=some (.int .i64 to))
        ((refine HK.out _ ?_;(repeat (first | exact Gw.refl _ | exact And.left (by assumption) | exact Hid.out (by assumption) | refine Gw.drew ?_ | refine Gw.trans ?_ (by assumption)));done))
        (first
        | (go_at_call 176;refine (A.out _).mono ?_;rintro ex w2 ⟨rfl,g2⟩;have G2:Hid (Gw w1 w2):=(Gw.trans (by repeat (first | exact Gw.refl _ | exact And.left (by assumption) | exact Hid.out (by assumption) | refine Gw.drew ?_)) g2);clear g2)
        | (go_at_call 175;refine (L.out _).mono ?_;rintro ex w3 ⟨rfl,rfl⟩))
      all_goals go_wp2_with fail
      all_goals exact bodyPost_ret (v:=.int .i64 (clampv v fr to)) (by simp [results,results160,go_sem]) rfl ⟨rfl,Gw.trans G.out (by repeat (first | exact Gw.refl _ | exact And.left (by assumption) | exact Hid.out (by assumption) | refine Gw.drew ?_ | refine Gw.trans ?_ (by assumption)))⟩
    · have t1:decide (k<q)=false:=by simpa using g
      have wz:((q-k).toNat:Int)=0:=by omega
      rw [wz] at A;clear g;go_enter func160,ntmps160;go_wp2_with fail;refine (C.out _).mono ?_;rintro ex w1 ⟨rfl,g1⟩;have x0:w1.cell? ⟨w.heap.size,0,none⟩=some (.int .u64 k):=(g1.cell _ _ (by simp)).trans (by simp [go_sem])
      have x1:w1.cell? ⟨w.heap.size,1,none⟩=some (.float .f64 sl):=(g1.cell _ _ (by simp)).trans (by simp [go_sem])
      have x2:w1.cell? ⟨w.heap.size,2,none⟩=some (.float .f64 ic):=(g1.cell _ _ (by simp)).trans (by simp [go_sem])
      have x3:w1.cell? ⟨w.heap.size,3,none⟩=some (.int .i64 fr):=(g1.cell _ _ (by simp)).trans (by simp [go_sem])
      have x4:w1.cell? ⟨w.heap.size,4,none⟩=some (.int .i64 to):=(g1.cell _ _ (by simp)).trans (by simp [go_sem])
      have s1:w.heap.size<w1.heap.size:=by have:=g1.size;simp at this;omega
      have G:Aside (Gw w w1):=G0.out.trans g1;have HK:Hid (∀ w',Gw w1 w'->Gw w1 w'/\w'.cell? ⟨w.heap.size,1,none⟩=some (.float .f64 sl)/\w'.cell? ⟨w.heap.size,2,none⟩=some (.float .f64 ic)/\w'.cell? ⟨w.heap.size,3,none⟩=some (.int .i64 fr)/\w'.cell? ⟨w.heap.size,4,none⟩=some (.int .i64 to)) :=
        fun w' g=>⟨g,(g.cell _ _ s1).trans x1,(g.cell _ _ s1).trans x2,(g.cell _ _ s1).trans x3,(g.cell _ _ s1).trans x4⟩
      clear g1 G0;go_wp2_with fail;go_region_held3 (fun w'=>Gw w1 w'/\w'.cell? ⟨w.heap.size,1,none⟩=some (.float .f64 sl)/\w'.cell? ⟨w.heap.size,2,none⟩=some (.float .f64 ic)/\w'.cell? ⟨w.heap.size,3,none⟩=some (.int .i64 fr)/\w'.cell? ⟨w.heap.size,4,none⟩=some (.int .i64 to))
        ((refine HK.out _ ?_;(repeat (first | exact Gw.refl _ | exact And.left (by assumption) | exact Hid.out (by assumption) | refine Gw.drew ?_ | refine Gw.trans ?_ (by assumption)));done))
        (first
        | (go_at_call 176;refine (A.out _).mono ?_;rintro ex w2 ⟨rfl,g2⟩;have G2:Hid (Gw w1 w2):=(Gw.trans (by repeat (first | exact Gw.refl _ | exact And.left (by assumption) | exact Hid.out (by assumption) | refine Gw.drew ?_)) g2);clear g2)
        | (go_at_call 175;refine (L.out _).mono ?_;rintro ex w3 ⟨rfl,rfl⟩))
      all_goals go_wp2_with fail
      all_goals exact bodyPost_ret (v:=.int .i64 (clampv v fr to)) (by simp [results,results160,go_sem]) rfl ⟨rfl,Gw.trans G.out (by repeat (first | exact Gw.refl _ | exact And.left (by assumption) | exact Hid.out (by assumption) | refine Gw.drew ?_ | refine Gw.trans ?_ (by assumption)))⟩
  · have t1:(errM sl ic fr to != 0)=true:=by simpa using h
    have V:guessV k sl ic fr to q=0:=if_neg h;rw [V];generalize errM sl ic fr to=er at *;clear V h;go_enter func160,ntmps160;go_wp2_with fail;refine (C.out _).mono ?_;rintro ex w1 ⟨rfl,g1⟩;have G:Aside (Gw w w1):=G0.out.trans g1;clear g1 G0;go_wp2_with fail;exact bodyPost_ret (v:=.int .i64 0) (by simp [results,results160,go_sem]) rfl ⟨rfl,G.out⟩
def worst (g:Nat->Int):Nat->Int
  | 0=>0
  | j+1=>max (max (worst g j) (g j)) (-(g j))
theorem worst_in (g:Nat->Int) (n:Nat):0<=worst g n/\∀ i,i<n->-(worst g n)<=g i/\g i<=worst g n:=by
  induction n with
  | zero=>exact ⟨Int.le_refl _,fun i hi=>by omega⟩
  | succ n ih =>
    obtain ⟨a,b⟩:=ih;have e:worst g (n+1)=max (max (worst g n) (g n)) (-(g n)):=rfl;refine ⟨by omega,fun i hi=>?_⟩
    by_cases c:i=n
    · subst c;omega
    · have:=b i (by omega);omega
theorem worst_le {g:Nat->Int} {M:Int} (M0:0<=M):∀ n,(∀ i,i<n->-M<=g i/\g i<=M)->worst g n<=M:=by
  intro n;induction n with
  | zero=>intro _;exact M0
  | succ n ih =>
    intro h;have a:=ih fun i hi=>h i (by omega)
    have b:=h n (by omega)
    show max (max (worst g n) (g n)) (-(g n))<=M;omega
def away (k:Int) (sl ic:Nat) (fr to:Int) (f:Nat->Int) (i:Nat):Int:=guessV k sl ic fr to (f i)-(fr+i)
def OffR (k:Int) (sl ic:Nat) (fr to:Int) (n:Nat) (f:Nat->Int) (N er:Int):Prop :=
  (errM sl ic fr to≠0/\N=0/\er=errM sl ic fr to) \/
  (errM sl ic fr to=0/\¬ ((n:Int)=to-fr/\f 0=k/\Up f n)/\N=0/\er=1) \/
  (errM sl ic fr to=0/\((n:Int)=to-fr/\f 0=k/\Up f n)/\N=worst (away k sl ic fr to f) n/\er=0)
theorem OffR.uniq {k:Int} {sl ic:Nat} {fr to:Int} {n:Nat} {f:Nat->Int} {N N' er er':Int} (h:OffR k sl ic fr to n f N er) (h':OffR k sl ic fr to n f N' er'):N=N'/\er=er':=by
  rcases h with ⟨a,b,c⟩ | ⟨a,b,c,d⟩ | ⟨a,b,c,d⟩<;>rcases h' with ⟨a',b',c'⟩ | ⟨a',b',c',d'⟩ | ⟨a',b',c',d'⟩<;>first
    | exact absurd a' a
    | exact absurd a a'
    | exact absurd b' b
    | exact absurd b b'
    | (subst b c b' c';exact ⟨rfl,rfl⟩)
    | (subst c d c' d';exact ⟨rfl,rfl⟩)
theorem away_bd {k:Int} {sl ic:Nat} {fr to:Int} {f:Nat->Int} {n:Nat} (h:errM sl ic fr to=0) (k0:0<=k) (hn:(n:Int)=to-fr) (bd:∀ i,i<n->0<=f i/\f i<18446744073709551616):∀ i,i<n->-4294967296<=away k sl ic fr to f i/\away k sl ic fr to f i<=4294967296:=by
  intro i hi;obtain ⟨a,b,c,d,e⟩:=errM_ok.1 h;have:=guessV_in h k0 (bd i hi).2;unfold away;omega
theorem roff_any (k:Int) (sl ic:Nat) (fr to:Int) (k0:0<=k) (k1:k<18446744073709551616) (hf0:-9223372036854775808<=fr) (hf1:fr<9223372036854775808) (ht0:-9223372036854775808<=to) (ht1:to<9223372036854775808) (ao:Option Addr) (n cp:Nat) (f:Nat->Int) (hn:n<4611686018427387904) (w:World) (K:KS w ao n f) :
    Calls prog 136 #[segV k sl ic fr to,.slice ao n cp] w fun e w'=>(∃ N er:Int,e=.returned (.tuple #[.int .i64 N,.int .i64 er])/\OffR k sl ic fr to n f N er)/\Gw w w':=by
  have G0:Aside (Gw w (w.alloc (.cells #[.int .u64 k,.float .f64 sl,.float .f64 ic,.int .i64 fr,.int .i64 to] 110))):=(Gw.refl w).alloc _ _;have C:Hid _:=fun W=>rcheck_any k sl ic fr to W hf0 hf1 ht0 ht1
  have GU:Hid _:=fun (q:Int) (q0:0<=q) (q1:q<18446744073709551616) W=>rguess_any k sl ic fr to q k0 k1 q0 q1 hf0 hf1 ht0 ht1 W
  have RI:Hid _:=fun W (g:Gw w W)=>rrising_any ao n cp f hn W (K.gw g)
  have K':Hid (KS w ao n f):=K;clear K;by_cases h:errM sl ic fr to=0
  · obtain ⟨a,b,c,d,e⟩:=errM_ok.1 h
    have h':Aside (errM sl ic fr to=0):=h;rw [h] at C;clear h d e;go_enter func136,ntmps136;go_wp2_with fail;refine (C.out _).mono ?_;rintro ex w1 ⟨rfl,g1⟩;have x0:w1.cell? ⟨w.heap.size,0,none⟩=some (.int .u64 k):=(g1.cell _ _ (by simp)).trans (by simp [go_sem])
    have x1:w1.cell? ⟨w.heap.size,1,none⟩=some (.float .f64 sl):=(g1.cell _ _ (by simp)).trans (by simp [go_sem])
    have x2:w1.cell? ⟨w.heap.size,2,none⟩=some (.float .f64 ic):=(g1.cell _ _ (by simp)).trans (by simp [go_sem])
    have x3:w1.cell? ⟨w.heap.size,3,none⟩=some (.int .i64 fr):=(g1.cell _ _ (by simp)).trans (by simp [go_sem])
    have x4:w1.cell? ⟨w.heap.size,4,none⟩=some (.int .i64 to):=(g1.cell _ _ (by simp)).trans (by simp [go_sem])
    have s1:w.heap.size<w1.heap.size:=by have:=g1.size;simp at this;omega
    have G:Aside (Gw w w1):=G0.out.trans g1;clear g1 G0 C;obtain ⟨S,hS⟩:∃ S,to-fr=S:=⟨_,rfl⟩;have wz:IntKind.i64.wrap (to-fr)=S:=by rw [IntKind.wrap_i64];omega
    have BOX:Hid (∀ w',Gw w1 w'->w'.cell? ⟨w.heap.size,0,none⟩=some (.int .u64 k)/\w'.cell? ⟨w.heap.size,1,none⟩=some (.float .f64 sl)/\w'.cell? ⟨w.heap.size,2,none⟩=some (.float .f64 ic)/\w'.cell? ⟨w.heap.size,3,none⟩=some (.int .i64 fr)/\w'.cell? ⟨w.heap.size,4,none⟩=some (.int .i64 to)) :=
      fun w' g=>⟨(g.cell _ _ s1).trans x0,(g.cell _ _ s1).trans x1,(g.cell _ _ s1).trans x2,(g.cell _ _ s1).trans x3,(g.cell _ _ s1).trans x4⟩
    by_cases h1:(n:Int)=S
    · have n0:0<n:=by omega
      obtain ⟨bk,off,rfl,hb,hc⟩:=(K'.out.gw G.out).cells n0;have t1:((n:Int) != S)=false:=by simpa using h1
      have c0:w1.cell? ⟨bk,off,none⟩=some (.int .u64 (f 0)):=hc 0 n0;obtain ⟨f0,hf⟩:∃ f0,f 0=f0:=⟨_,rfl⟩;rw [hf] at c0;by_cases h2:f0=k
      · have t2:(f0 != k)=false:=by simpa using h2
        have FC:Aside ((n:Int)=to-fr/\f 0=k/\∀ i,i<n->w1.cell? ⟨bk,off+i,none⟩=some (.int .u64 (f i))):=⟨h1.trans hS.symm,hf.trans h2,hc⟩;clear h1 h2 hf hS hc;by_cases hu:Up f n
        · have U:Aside (Up f n):=hu
          have RT:Hid (∀ W,Gw w1 W->Calls prog 132 #[.slice (some ⟨bk,off,none⟩) n cp] W fun e w'=>e=.returned (.bool true)/\Gw W w'):=fun W g =>
            (RI.out W (G.out.trans g)).mono fun ex w' (hx:(∃ r:Bool,ex=.returned (.bool r)/\(r=true↔Up f n))/\Gw W w')=>⟨(by obtain ⟨⟨r,e1,e2⟩,-⟩:=hx;rw [e1,e2.2 hu]),hx.2⟩
          clear hu RI;have HK:Hid (∀ w',Gw w1 w'->Gw w1 w'/\w'.cell? ⟨w.heap.size,0,none⟩=some (.int .u64 k)/\w'.cell? ⟨w.heap.size,3,none⟩=some (.int .i64 fr)/\w'.cell? ⟨w.heap.size,4,none⟩=some (.int .i64 to)/\w'.cell? ⟨bk,off,none⟩=some (.int .u64 f0)) :=
            fun w' g=>⟨g,(g.cell _ _ s1).trans x0,(g.cell _ _ s1).trans x3,(g.cell _ _ s1).trans x4,(g.cell _ _ hb).trans c0⟩
          go_wp2_with fail;go_region_held3 (fun w'=>Gw w1 w'/\w'.cell? ⟨w.heap.size,0,none⟩=some (.int .u64 k)/\w'.cell? ⟨w.heap.size,3,none⟩=some (.int .i64 fr)/\w'.cell? ⟨w.heap.size,4,none⟩=some (.int .i64 to)/\w'.cell? ⟨bk,off,none⟩=some (.int .u64 f0))
            ((refine HK.out _ ?_;(repeat (first | exact Gw.refl _ | exact And.left (by assumption) | exact Hid.out (by assumption) | refine Gw.drew ?_ | refine Gw.trans ?_ (by assumption)));done))
            ((go_at_call 132;refine (RT.out _ (by repeat (first | exact Gw.refl _ | exact And.left (by assumption) | exact Hid.out (by assumption) | refine Gw.drew ?_))).mono ?_;rintro ex w2 ⟨rfl,g2⟩;have G2:Hid (Gw w1 w2):=(Gw.trans (by repeat (first | exact Gw.refl _ | exact And.left (by assumption) | exact Hid.out (by assumption) | refine Gw.drew ?_)) g2);clear g2))
          all_goals go_wp2_with fail
          go_loopg [7,8] n (fun gg s7 s8 wr=>∃ i:Nat,s7=.int .i64 (worst (away k sl ic fr to f) i)/\s8=.int .i64 i/\i<=n/\n-i<=gg/\Aside (Gw w1 wr))
          case atStart=>exact ⟨0,rfl,rfl,Nat.zero_le _,by omega,(by first | exact Hid.out (by assumption) | exact And.left (by assumption))⟩
          case round =>
            obtain ⟨i,rfl,rfl,h2,h3,GR⟩:=hrel;by_cases hlt:i<n
            · obtain ⟨y0,y1,y2,y3,y4⟩:=BOX.out _ GR.out
              have ci:=(GR.out.cell _ _ hb).trans (FC.out.2.2 i hlt);have lb:=Nat.lt_of_lt_of_le hb GR.out.size;have ls:=Nat.lt_of_lt_of_le s1 GR.out.size;have bi:=K'.out.bd i hlt;have aw:=away_bd h'.out k0 FC.out.1 K'.out.bd;have gin:=guessV_in (q:=f i) h'.out k0 bi.2;have wi:=(worst_in (away k sl ic fr to f) i).1;have wl:=worst_le (g:=away k sl ic fr to f) (M:=4294967296) (by decide) i (fun j hj=>aw j (by omega))
              have ai:=aw i hlt;clear aw;have ae:away k sl ic fr to f i=guessV k sl ic fr to (f i)-(fr+i):=rfl;have WS:Aside (worst (away k sl ic fr to f) (i+1)=max (max (worst (away k sl ic fr to f) i) (away k sl ic fr to f i)) (-(away k sl ic fr to f i))):=rfl;have GI:Hid _:=fun W=>GU.out (f i) bi.1 bi.2 W
              generalize worst (away k sl ic fr to f) i=Wi at *;generalize guessV k sl ic fr to (f i)=gi at *;generalize away k sl ic fr to f i=D at *;obtain ⟨E,hE⟩:∃ E,fr+(i:Int)=E:=⟨_,rfl⟩;rw [hE] at ae;obtain ⟨M,hM⟩:∃ M,-D=M:=⟨_,rfl⟩;rw [hM] at WS;have hin:(i:Int)<to-fr:=by have:=FC.out.1;omega
              have z1:IntKind.i64.wrap (fr+(i:Int))=E:=by rw [IntKind.wrap_i64];omega
              have z2:IntKind.i64.wrap (gi-E)=D:=by rw [IntKind.wrap_i64];omega
              have z3:IntKind.i64.wrap (-D)=M:=by rw [IntKind.wrap_i64];omega
              generalize f i=yi at *;clear ae hE hM wi wl ai gin bi hin;rename_i wr _ _ _ _;have HW:Hid (∀ w',Gw wr w'->Gw wr w'/\w'.cell? ⟨w.heap.size,0,none⟩=some (.int .u64 k)/\w'.cell? ⟨w.heap.size,1,none⟩=some (.float .f64 sl)/\w'.cell? ⟨w.heap.size,2,none⟩=some (.float .f64 ic)/\w'.cell? ⟨w.heap.size,3,none⟩=some (.int .i64 fr)/\w'.cell? ⟨w.heap.size,4,none⟩=some (.int .i64 to)/\w'.cell? ⟨bk,off+i,none⟩=some (.int .u64 yi)) :=
                fun w' g=>⟨g,(g.cell _ _ ls).trans y0,(g.cell _ _ ls).trans y1,(g.cell _ _ ls).trans y2,(g.cell _ _ ls).trans y3,(g.cell _ _ ls).trans y4,(g.cell _ _ lb).trans ci⟩
              clear x0 x1 x2 x3 x4 s1 HK RT c0 hb GU BOX G2;go_wp2_with fail;go_region_held3 (fun w'=>Gw wr w'/\w'.cell? ⟨w.heap.size,0,none⟩=some (.int .u64 k)/\w'.cell? ⟨w.heap.size,1,none⟩=some (.float .f64 sl)/\w'.cell? ⟨w.heap.size,2,none⟩=some (.float .f64 ic)/\w'.cell? ⟨w.heap.size,3,none⟩=some (.int .i64 fr)/\w'.cell? ⟨w.heap.size,4,none⟩=some (.int .i64 to)/\w'.cell? ⟨bk,off+i,none⟩=some (.int .u64 yi))
                ((refine HW.out _ ?_;(repeat (first | exact Gw.refl _ | exact And.left (by assumption) | exact Hid.out (by assumption) | refine Gw.drew ?_ | refine Gw.trans ?_ (by assumption)));done))
                ((go_at_call 160;refine (GI.out _).mono ?_;rintro ex w3 ⟨rfl,g3⟩;have G3:Hid (Gw wr w3):=(Gw.trans (by repeat (first | exact Gw.refl _ | exact And.left (by assumption) | exact Hid.out (by assumption) | refine Gw.drew ?_)) g3);clear g3))
              all_goals go_wp2_with fail
              all_goals
                go_roundg (n-(i+1))
                case measure=>omega
                case rel =>
                  refine ⟨i+1,?_,by go_num,hlt,Nat.le_refl _,(show Aside _ from GR.out.trans (by repeat (first | exact Gw.refl _ | exact And.left (by assumption) | exact Hid.out (by assumption) | refine Gw.drew ?_ | refine Gw.trans ?_ (by assumption))))⟩
                  rw [WS.out];exact congrArg (Value.int .i64) (show (_:Int)=max (max Wi D) M by first | omega | (simp only [*] at *;omega))
            · have e:i=n:=by omega
              subst e;have R:Aside (OffR k sl ic fr to i f (worst (away k sl ic fr to f) i) 0):=.inr (.inr ⟨h'.out,⟨FC.out.1,FC.out.2.1,U.out⟩,rfl,rfl⟩);generalize worst (away k sl ic fr to f) i=Wi at *;go_wp2_with fail;exact bodyPost_ret (v:=.tuple #[.int .i64 Wi,.int .i64 0]) (by simp [results,results136,go_sem]) rfl ⟨⟨Wi,0,rfl,R.out⟩,G.out.trans GR.out⟩
        · have R:Aside (OffR k sl ic fr to n f 0 1):=.inr (.inl ⟨h'.out,fun q=>hu q.2.2,rfl,rfl⟩)
          have RT:Hid (∀ W,Gw w1 W->Calls prog 132 #[.slice (some ⟨bk,off,none⟩) n cp] W fun e w'=>e=.returned (.bool false)/\Gw W w'):=fun W g =>
            (RI.out W (G.out.trans g)).mono fun ex w' (hx:(∃ r:Bool,ex=.returned (.bool r)/\(r=true↔Up f n))/\Gw W w')=>⟨(by
              obtain ⟨⟨r,e1,e2⟩,-⟩:=hx;have:r=false:=by cases r;rfl;exact absurd (e2.1 rfl) hu
              rw [e1,this]),hx.2⟩
          clear hu RI;have HK:Hid (∀ w',Gw w1 w'->Gw w1 w'/\w'.cell? ⟨w.heap.size,0,none⟩=some (.int .u64 k)/\w'.cell? ⟨w.heap.size,3,none⟩=some (.int .i64 fr)/\w'.cell? ⟨w.heap.size,4,none⟩=some (.int .i64 to)/\w'.cell? ⟨bk,off,none⟩=some (.int .u64 f0)) :=
            fun w' g=>⟨g,(g.cell _ _ s1).trans x0,(g.cell _ _ s1).trans x3,(g.cell _ _ s1).trans x4,(g.cell _ _ hb).trans c0⟩
          go_wp2_with fail;go_region_held3 (fun w'=>Gw w1 w'/\w'.cell? ⟨w.heap.size,0,none⟩=some (.int .u64 k)/\w'.cell? ⟨w.heap.size,3,none⟩=some (.int .i64 fr)/\w'.cell? ⟨w.heap.size,4,none⟩=some (.int .i64 to)/\w'.cell? ⟨bk,off,none⟩=some (.int .u64 f0))
            ((refine HK.out _ ?_;(repeat (first | exact Gw.refl _ | exact And.left (by assumption) | exact Hid.out (by assumption) | refine Gw.drew ?_ | refine Gw.trans ?_ (by assumption)));done))
            ((go_at_call 132;refine (RT.out _ (by repeat (first | exact Gw.refl _ | exact And.left (by assumption) | exact Hid.out (by assumption) | refine Gw.drew ?_))).mono ?_;rintro ex w2 ⟨rfl,g2⟩;have G2:Hid (Gw w1 w2):=(Gw.trans (by repeat (first | exact Gw.refl _ | exact And.left (by assumption) | exact Hid.out (by assumption) | refine Gw.drew ?_)) g2);clear g2))
          all_goals go_wp2_with fail
          all_goals exact bodyPost_ret (v:=.tuple #[.int .i64 0,.int .i64 1]) (by simp [results,results136,go_sem]) rfl ⟨⟨0,1,rfl,R.out⟩,Gw.trans G.out (by repeat (first | exact Gw.refl _ | exact And.left (by assumption) | exact Hid.out (by assumption) | refine Gw.drew ?_ | refine Gw.trans ?_ (by assumption)))⟩
      · have t2:(f0 != k)=true:=by simpa using h2
        have R:Aside (OffR k sl ic fr to n f 0 1):=.inr (.inl ⟨h'.out,fun q=>h2 (hf.symm.trans q.2.1),rfl,rfl⟩)
        clear h1 hS h2 hf hc RI GU;go_wp2_with fail;go_quiet (fail);go_wp2_with fail;exact bodyPost_ret (v:=.tuple #[.int .i64 0,.int .i64 1]) (by simp [results,results136,go_sem]) rfl ⟨⟨0,1,rfl,R.out⟩,G.out.drewN _⟩
    · have t1:((n:Int) != S)=true:=by simpa using h1
      have R:Aside (OffR k sl ic fr to n f 0 1):=.inr (.inl ⟨h'.out,fun q=>h1 (q.1.trans hS),rfl,rfl⟩)
      clear h1 hS RI GU;go_wp2_with fail;go_quiet (fail);go_wp2_with fail;exact bodyPost_ret (v:=.tuple #[.int .i64 0,.int .i64 1]) (by simp [results,results136,go_sem]) rfl ⟨⟨0,1,rfl,R.out⟩,G.out.drewN _⟩
  · have t1:(errM sl ic fr to != 0)=true:=by simpa using h
    have R:Aside (OffR k sl ic fr to n f 0 (errM sl ic fr to)):=.inl ⟨h,rfl,rfl⟩;generalize errM sl ic fr to=er at *;clear h GU RI;go_enter func136,ntmps136;go_wp2_with fail;refine (C.out _).mono ?_;rintro ex w1 ⟨rfl,g1⟩;have G:Aside (Gw w w1):=G0.out.trans g1;clear g1 G0;go_wp2_with fail;exact bodyPost_ret (v:=.tuple #[.int .i64 0,.int .i64 er]) (by simp [results,results136,go_sem]) rfl ⟨⟨0,er,rfl,R.out⟩,G.out⟩
end Go.Proofs.YtpoohadckhphpaaGreat
namespace Go.Proofs.YtpoohadckhphpaaGreat
open Go.RowKit
def SegR (eps fr:Int) (f:Nat->Int) (n:Nat) (k:Int) (s ic:Nat) (F T er:Int):Prop :=
  (∃ a b c,OfR eps f n a b c er/\er≠0/\k=0/\s=0/\ic=0/\F=0/\T=0) \/
  (∃ a b c,OfR eps f n a b c 0/\¬ (0<=fr/\fr+n<=4294967296)/\k=0/\s=0/\ic=0/\F=0/\T=0/\er=1) \/
  (∃ a b c,OfR eps f n a b c 0/\(0<=fr/\fr+n<=4294967296)/\(a<18446744073709551616/\b<18446744073709551616)/\Nr (a.toNat*Un) b.toNat s/\k=f 0/\ic=floatOfInt .f64 (fr+c)/\F=fr/\T=fr+n/\er=0)
def Sb (w:World) (b:Nat) (k:Int) (s ic:Nat) (F T:Int):Prop:=w.heap[b]?=some (.cells #[.int .u64 k,.float .f64 s,.float .f64 ic,.int .i64 F,.int .i64 T] 110 (0,0))
theorem Sb.lt {w:World} {b:Nat} {k:Int} {s ic:Nat} {F T:Int} (h:Sb w b k s ic F T):b<w.heap.size:=(Array.getElem?_eq_some_iff.1 h).1
theorem Sb.gw {w w':World} {b:Nat} {k:Int} {s ic:Nat} {F T:Int} (h:Sb w b k s ic F T) (g:Gw w w'):Sb w' b k s ic F T:=(g.below.block b h.lt).trans h
theorem Sb.cells {w:World} {b:Nat} {k:Int} {s ic:Nat} {F T:Int} (h:Sb w b k s ic F T):w.cell? ⟨b,0,none⟩=some (.int .u64 k)/\w.cell? ⟨b,1,none⟩=some (.float .f64 s)/\w.cell? ⟨b,2,none⟩=some (.float .f64 ic)/\w.cell? ⟨b,3,none⟩=some (.int .i64 F)/\w.cell? ⟨b,4,none⟩=some (.int .i64 T):=by
  unfold Sb at h;simp [World.cell?,h]
theorem run_store_float {P:Program} {w:World} {a:Addr} {m:Mode} (k:FloatKind) (n:Nat):(store a (.float k n) m).run P w=stored P w a (.float k n) m:=run_store P w a _ m rfl
attribute [local go_sem] run_store_float
end Go.Proofs.YtpoohadckhphpaaGreat
namespace Go.Proofs.YtpoohadckhphpaaGreat
theorem guess_before (k:Int) (sl ic:Nat) (fr to q:Int) (h:q<=k):guessV k sl ic fr to q=guessV k sl ic fr to k:=by
  unfold guessV;rw [show (q-k).toNat=(k-k).toNat by omega]
def cntb (f:Nat->Int) (q:Int):Nat->Nat
  | 0=>0
  | j+1=>cntb f q j+(if f j<q then 1 else 0)
theorem cntb_le (f:Nat->Int) (q:Int) (n:Nat):cntb f q n<=n:=by
  induction n with
  | zero=>exact Nat.le_refl _
  | succ n ih=>show cntb f q n+(if f n<q then 1 else 0)<=n+1;split<;>omega
theorem cntb_up {f:Nat->Int} {n:Nat} (u:Up f n) (q:Int):∀ j,j<=n->(∀ i,i<cntb f q j->f i<q)/\(∀ i,cntb f q j<=i->i<j->q<=f i):=by
  intro j;induction j with
  | zero=>intro _;exact ⟨fun i hi=>by simp [cntb] at hi,fun i _ hi=>by omega⟩
  | succ j ih =>
    intro hj;obtain ⟨a,b⟩:=ih (by omega)
    have le:=cntb_le f q j;have e:cntb f q (j+1)=cntb f q j+(if f j<q then 1 else 0):=rfl
    by_cases h:f j<q
    · rw [if_pos h] at e
      have full:cntb f q j=j:=by
        by_cases c:cntb f q j=j
        · exact c
        · have x:=b (cntb f q j) (Nat.le_refl _) (by omega)
          have y:=u.le (show cntb f q j<=j by omega) (by omega)
          omega
      rw [e,full];refine ⟨fun i hi=>?_,fun i h1 h2=>by omega⟩
      by_cases c:i=j
      · subst c;exact h
      · exact a i (by omega)
    · rw [if_neg h] at e
      rw [e,Nat.add_zero];refine ⟨a,fun i h1 h2=>?_⟩
      by_cases c:i=j
      · subst c;omega
      · exact b i h1 (by omega)
theorem probe_off {k:Int} {sl ic:Nat} {fr to:Int} {n:Nat} {f:Nat->Int} {N:Int} (h:errM sl ic fr to=0) (hn:(n:Int)=to-fr) (hk:f 0=k) (u:Up f n) (bd:∀ i,i<n->0<=f i/\f i<18446744073709551616) (N0:0<=N)
    (off:∀ i,i<n->-N<=away k sl ic fr to f i/\away k sl ic fr to f i<=N) (q:Int) (q1:q<18446744073709551616) (first:k<=q):-(N+1)<=guessV k sl ic fr to q-(fr+cntb f q n)/\guessV k sl ic fr to q-(fr+cntb f q n)<=N+1:=by
  obtain ⟨a,b,c,d,e⟩:=errM_ok.1 h;have n0:0<n:=by omega
  have k0:0<=k:=hk▸(bd 0 n0).1;obtain ⟨c1,c2⟩:=cntb_up u q n (Nat.le_refl _);have:=off_probe (f:=f) (n:=n) (g:=fun x=>guessV k sl ic fr to (min x 18446744073709551615)) (lo:=fr) (N:=N) n0 (fun x y _ hxy=>guessV_mono h k0 (by omega) (by omega)) (fun i hi=>u.le (Nat.zero_le i) hi)
    (fun x _=>by have:=guessV_in (q:=min x 18446744073709551615) h k0 (by omega);omega) N0 (fun i hi=>by
      have o:=off i hi;have bi:=bd i hi;unfold away at o;rw [show min (f i) 18446744073709551615=f i by omega]
      omega) q (cntb f q n) (cntb_le f q n) c1 c2 (by omega)
  simp only [show min q 18446744073709551615=q by omega] at this
  omega
open Go.RowKit
structure SegOk (k:Int) (sl ic:Nat) (fr to:Int):Prop where
  k0:0<=k
  k1:k<18446744073709551616
  s1:sl<18446744073709551616
  i1:ic<18446744073709551616
  f0:-9223372036854775808<=fr
  f1:fr<9223372036854775808
  t0:-9223372036854775808<=to
  t1:to<9223372036854775808
def OffOut (ex:Ending) (k:Int) (sl ic:Nat) (fr to:Int) (n:Nat) (f:Nat->Int):Prop:=∃ N er:Int,ex=.returned (.tuple #[.int .i64 N,.int .i64 er])/\OffR k sl ic fr to n f N er
structure ModelC:Prop where
  check:∀ (k:Int) (sl ic:Nat) (fr to:Int),SegOk k sl ic fr to->∀ w:World,Calls prog 216 #[segV k sl ic fr to] w fun e w'=>e=.returned (.int .i64 (errM sl ic fr to))/\Gw w w'
  guess:∀ (k:Int) (sl ic:Nat) (fr to q:Int),SegOk k sl ic fr to->0<=q->q<18446744073709551616->∀ w:World,Calls prog 202 #[segV k sl ic fr to,.int .u64 q] w fun e w'=>e=.returned (.int .i64 (guessV k sl ic fr to q))/\Gw w w'
  off:∀ (k:Int) (sl ic:Nat) (fr to:Int) (ao:Option Addr) (n cp:Nat) (f:Nat->Int),SegOk k sl ic fr to->n*8<=140737488351232->n<=cp->∀ w:World,KS w ao n f->Calls prog 218 #[segV k sl ic fr to,.slice ao n cp] w fun e w'=>OffOut e k sl ic fr to n f/\Gw w w'
def mh (e:Nat):Nat->Nat->Nat
  | 0,_=>0
  | g+1,n=>if n<1 then 0 else if n<=2*e-1 then 1 else mh e g (n/e+1)+1
theorem div_less {e n:Nat} (he:2<=e) (hn:¬ n<=2*e-1):n/e+1<n:=by
  have h1:n/e*e<=n:=Nat.div_mul_le_self n e;have h2:n/e*2<=n/e*e:=Nat.mul_le_mul_left _ he;omega
theorem mh_fuel {e:Nat} (he:2<=e):∀ g g' n,n<=g->n<=g'->mh e g n=mh e g' n:=by
  intro g;induction g with
  | zero =>
    intro g' n h h';cases g' with
    | zero=>rfl
    | succ g' =>
                 have:n<1:=by omega
                 show 0=if n<1 then 0 else _
                 rw [if_pos this]
  | succ g ih =>
    intro g' n h h';cases g' with
    | zero =>
              have:n<1:=by omega
              show (if n<1 then 0 else _)=0
              rw [if_pos this]
    | succ g' =>
      show (if n<1 then 0 else if n<=2*e-1 then 1 else mh e g (n/e+1)+1)=(if n<1 then 0 else if n<=2*e-1 then 1 else mh e g' (n/e+1)+1)
      by_cases h1:n<1
      · rw [if_pos h1,if_pos h1]
      · rw [if_neg h1,if_neg h1]
        by_cases h2:n<=2*e-1
        · rw [if_pos h2,if_pos h2]
        · rw [if_neg h2,if_neg h2]
          have:=div_less he h2
          rw [ih g' (n/e+1) (by omega) (by omega)]
def hgt (e n:Nat):Nat:=mh e n n
theorem hgt_one {e n:Nat} (h0:0<n) (h:n<=2*e-1):hgt e n=1:=by
  cases n with
  | zero=>omega
  | succ n =>
              show (if n+1<1 then 0 else if n+1<=2*e-1 then 1 else _)=1
              rw [if_neg (by omega),if_pos h]
theorem hgt_more {e n:Nat} (he:2<=e) (h:¬ n<=2*e-1):hgt e n=hgt e (n/e+1)+1:=by
  have d:=div_less he h;cases n with
  | zero=>omega
  | succ n =>
    show (if n+1<1 then 0 else if n+1<=2*e-1 then 1 else mh e n ((n+1)/e+1)+1)=_
    rw [if_neg (by omega),if_neg h]
    unfold hgt;rw [mh_fuel he n ((n+1)/e+1) ((n+1)/e+1) (by omega) (Nat.le_refl _)]
theorem hgt_pos {e n:Nat} (he:2<=e) (h:0<n):0<hgt e n:=by
  by_cases k:n<=2*e-1
  · rw [hgt_one h k];exact Nat.one_pos
  · rw [hgt_more he k];omega
structure Sg where
  k:Int
  sl:Nat
  ic:Nat
  fr:Int
  te:Int
def sg0:Sg:=⟨0,0,0,0,0⟩
def fst8 (l:List Sg) (i:Nat):Int:=(l.getD i sg0).k
def SegAt (eps:Int) (f:Nat->Int) (i j:Nat) (s:Sg):Prop:=SegR eps i (sh f i) (j-i) s.k s.sl s.ic s.fr s.te 0
def LvlAt (eps:Int) (f:Nat->Int) (n:Nat):Nat->List Sg->Prop
  | i,[]=>i=n
  | i,s::l=>∃ j,(i<j/\j<=n/\FitsOn (eps-1) (sh f i) (Prs (j-i))/\(j<n->¬ FitsOn (eps-1) (sh f i) (Prs (j+1-i))))/\SegAt eps f i j s/\LvlAt eps f n j l
def tileB (n:Nat):Nat->List Sg->Bool
  | a,[]=>decide (a=n)
  | a,s::l=>decide (s.fr=a)&&decide ((a:Int)<s.te)&&decide (s.te<=n)&&tileB n s.te.toNat l
theorem tileB_cons {n a:Nat} {s:Sg} {l:List Sg}:tileB n a (s::l)=true↔s.fr=a/\(a:Int)<s.te/\s.te<=n/\tileB n s.te.toNat l=true:=by
  simp [tileB,and_assoc]
theorem tileB_nil {n a:Nat}:tileB n a []=true↔a=n:=by simp [tileB]
def segE (eps:Int) (f:Nat->Int) (s:Sg):Int :=
  if errM s.sl s.ic s.fr s.te≠0 then errM s.sl s.ic s.fr s.te else if s.k≠f s.fr.toNat then 83 else if eps<worst (away s.k s.sl s.ic s.fr s.te (sh f s.fr.toNat)) (s.te-s.fr).toNat then 85 else 0
theorem segE_ok {eps:Int} {f:Nat->Int} {s:Sg}:segE eps f s=0↔errM s.sl s.ic s.fr s.te=0/\s.k=f s.fr.toNat/\worst (away s.k s.sl s.ic s.fr s.te (sh f s.fr.toNat)) (s.te-s.fr).toNat<=eps:=by
  unfold segE;by_cases h:errM s.sl s.ic s.fr s.te=0
  · rw [if_neg (fun q=>q h)]
    by_cases h1:s.k=f s.fr.toNat
    · rw [if_neg (fun q=>q h1)]
      by_cases h2:eps<worst (away s.k s.sl s.ic s.fr s.te (sh f s.fr.toNat)) (s.te-s.fr).toNat
      · rw [if_pos h2];constructor
        · intro q;cases q
        · rintro ⟨_,_,q⟩;omega
      · rw [if_neg h2];exact ⟨fun _=>⟨h,h1,by omega⟩,fun _=>rfl⟩
    · rw [if_pos h1];constructor
      · intro q;cases q
      · rintro ⟨_,q,_⟩;exact absurd q h1
  · rw [if_pos h];constructor
    · intro q;exact absurd q h
    · rintro ⟨q,_⟩;exact absurd q h
def lvlE (eps:Int) (f:Nat->Int):List Sg->Int
  | []=>0
  | s::l=>if segE eps f s≠0 then segE eps f s else lvlE eps f l
theorem lvlE_ok {eps:Int} {f:Nat->Int} {l:List Sg}:lvlE eps f l=0↔∀ s∈l,segE eps f s=0:=by
  induction l with
  | nil=>simp [lvlE]
  | cons s l ih =>
    unfold lvlE;by_cases h:segE eps f s=0
    · rw [if_neg (fun q=>q h),ih];simp [h]
    · rw [if_pos h];constructor
      · intro q;exact absurd q h
      · intro q;exact absurd (q s (by simp)) h
def chkE (eps:Int):(Nat->Int)->Nat->List (List Sg)->Int
  | _,_,[]=>0
  | f,n,l::r=>if (tileB n 0 l&&!l.isEmpty)=false then 82 else if lvlE eps f l≠0 then lvlE eps f l else if r=[] then (if l.length=1 then 0 else 84) else chkE eps (fst8 l) l.length r
theorem fst8_up {f:Nat->Int} {n:Nat} (u:Up f n):∀ {l:List Sg} {a:Nat},tileB n a l=true->(∀ s∈l,s.k=f s.fr.toNat)->Up (fst8 l) l.length/\(l≠[]->fst8 l 0=f a/\a<n)/\∀ t,t<l.length->∃ i,a<=i/\i<n/\fst8 l t=f i:=by
  intro l;induction l with
  | nil=>intro a h _;exact ⟨fun j hj=>by simp at hj,fun q=>absurd rfl q,fun t ht=>by simp at ht⟩
  | cons s l ih =>
    intro a h hk;obtain ⟨h1,h2,h3,h4⟩:=tileB_cons.1 h;obtain ⟨u1,u2,u3⟩:=ih h4 (fun s hs=>hk s (List.mem_cons_of_mem _ hs))
    have k0:s.k=f a:=by rw [hk s (by simp),h1];congr 1
    have an:a<n:=by omega
    refine ⟨fun j hj=>?_,fun _=>⟨k0,an⟩,fun t ht=>?_⟩
    · cases j with
      | zero =>
        have ne:l≠[]:=fun q=>by subst q;simp at hj
        obtain ⟨e,lt⟩:=u2 ne;show s.k<fst8 l 0;rw [k0,e];exact u.lt (by omega) lt
      | succ j=>exact u1 j (by simpa using hj)
    · cases t with
      | zero=>exact ⟨a,Nat.le_refl _,an,k0⟩
      | succ t=>obtain ⟨i,i1,i2,i3⟩:=u3 t (by simpa using ht);exact ⟨i,by omega,i2,i3⟩
theorem fst8_bd {f:Nat->Int} {n:Nat} {l:List Sg} (bd:∀ t,t<n->0<=f t/\f t<18446744073709551616) (h:∀ t,t<l.length->∃ i,0<=i/\i<n/\fst8 l t=f i):∀ t,t<l.length->0<=fst8 l t/\fst8 l t<18446744073709551616:=by
  intro t ht;obtain ⟨i,_,i2,i3⟩:=h t ht;rw [i3];exact bd i i2
def mv (B:Int) (s:Sg):Sg:=⟨s.k+B,s.sl,s.ic,s.fr,s.te⟩
theorem cntb_is {f:Nat->Int} {n:Nat} (u:Up f n) (q:Int) (c:Nat) (hc:c<=n) (hl:∀ i,i<c->f i<q) (hr:∀ i,c<=i->i<n->q<=f i):cntb f q n=c:=by
  obtain ⟨a,b⟩:=cntb_up u q n (Nat.le_refl _);have le:=cntb_le f q n;rcases Nat.lt_trichotomy (cntb f q n) c with h | h | h
  · have:=hl _ h;have:=b _ (Nat.le_refl _) (by omega);omega
  · exact h
  · have:=a c h;have:=hr c (Nat.le_refl _) (by omega);omega
theorem tile_at {n:Nat}:∀ {l:List Sg} {a:Nat},tileB n a l=true->∀ t,t<l.length->(a:Int)<=(l.getD t sg0).fr/\(l.getD t sg0).fr<(l.getD t sg0).te/\(l.getD t sg0).te<=n/\(t=0->(l.getD t sg0).fr=a)/\(t+1<l.length->(l.getD (t+1) sg0).fr=(l.getD t sg0).te)/\(t+1=l.length->(l.getD t sg0).te=n):=by
  intro l;induction l with
  | nil=>intro a _ t ht;simp at ht
  | cons s l ih =>
    intro a h t ht;obtain ⟨h1,h2,h3,h4⟩:=tileB_cons.1 h;cases t with
    | zero =>
      refine ⟨by show (a:Int)<=s.fr;omega,by show s.fr<s.te;omega,h3,fun _=>h1,fun q=>?_,fun q=>?_⟩
      · have:=(ih h4 0 (by simpa using q)).2.2.2.1 rfl
        show (l.getD 0 sg0).fr=s.te;omega
      · have:l=[]:=by simpa using q
        subst this;have:=tileB_nil.1 h4;show s.te=n;omega
    | succ t =>
      obtain ⟨q1,q2,q3,q4,q5,q6⟩:=ih h4 t (by simpa using ht)
      refine ⟨?_,q2,q3,fun q=>(by cases q),fun q=>q5 (by simpa using q),fun q=>q6 (by simpa using q)⟩
      show (a:Int)<=(l.getD t sg0).fr;omega
theorem near_lvl {eps:Int} {f:Nat->Int} {n:Nat} {l:List Sg} (u:Up f n) (bd:∀ t,t<n->0<=f t/\f t<18446744073709551616) (tl:tileB n 0 l=true) (ok:∀ s∈l,segE eps f s=0) (q:Int) (q1:q<18446744073709551616) (t:Nat) (ht:t<l.length) (pick:t=0\/fst8 l t<=q) (last:∀ t',t<t'->t'<l.length->q<fst8 l t') (s:Sg) (hs:l.getD t sg0=s) :
    (-(eps+1)<=guessV s.k s.sl s.ic s.fr s.te q-cntb f q n/\guessV s.k s.sl s.ic s.fr s.te q-cntb f q n<=eps+1)/\((∃ i,i<n/\f i=q)->-eps<=guessV s.k s.sl s.ic s.fr s.te q-cntb f q n/\guessV s.k s.sl s.ic s.fr s.te q-cntb f q n<=eps):=by
  have T:=tile_at tl t ht;have mem:s∈l:=by
    rw [<-hs,List.getD_eq_getElem?_getD,List.getElem?_eq_getElem ht];exact List.getElem_mem ht
  obtain ⟨er,hk,off⟩:=segE_ok.1 (ok s mem);rw [hs] at T;obtain ⟨T1,T2,T3,T4,T5,T6⟩:=T;obtain ⟨a,ha⟩:∃ a:Nat,s.fr=a:=⟨s.fr.toNat,by omega⟩
  obtain ⟨b,hb⟩:∃ b:Nat,s.te=b:=⟨s.te.toNat,by omega⟩
  have ab:a<b:=by omega
  have bn:b<=n:=by omega
  have ha':s.fr.toNat=a:=by omega
  rw [ha'] at hk off;rw [show (s.te-s.fr).toNat=b-a by omega] at off
  have sbd:∀ i,i<b-a->0<=sh f a i/\sh f a i<18446744073709551616:=fun i hi=>bd (a+i) (by omega)
  have su:Up (sh f a) (b-a):=sh_up u bn;have k0:0<=s.k:=by rw [hk];exact (bd a (by omega)).1
  obtain ⟨w0,w1⟩:=worst_in (away s.k s.sl s.ic s.fr s.te (sh f a)) (b-a);generalize worst (away s.k s.sl s.ic s.fr s.te (sh f a)) (b-a)=N at off w0 w1;have beh:∀ i,b<=i->i<n->q<f i:=fun i h1 h2=>by
    by_cases c:t+1<l.length
    · have e:=T5 c
      have m':l.getD (t+1) sg0∈l:=by
        rw [List.getD_eq_getElem?_getD,List.getElem?_eq_getElem c];exact List.getElem_mem c
      have k':=(segE_ok.1 (ok _ m')).2.1;have lt:=last (t+1) (by omega) c
      have e2:fst8 l (t+1)=f b:=by
        show (l.getD (t+1) sg0).k=f b;rw [k',e];congr 1;omega
      rw [e2] at lt;have:=u.le h1 h2;omega
    · have:=T6 (by omega)
      omega
  by_cases c:s.k<=q
  ·
    have P:=probe_off er (show ((b-a:Nat):Int)=s.te-s.fr by omega) (show sh f a 0=s.k from hk.symm) su sbd w0 w1 q q1 c
    have le:=cntb_le (sh f a) q (b-a);obtain ⟨c1,c2⟩:=cntb_up su q (b-a) (Nat.le_refl _);have cn:cntb f q n=a+cntb (sh f a) q (b-a):=by
      refine cntb_is u q _ (by omega) (fun i hi=>?_) (fun i h1 h2=>?_)
      · by_cases x:i<a
        · have:=u.lt x (show a<n by omega)
          omega
        · have:=c1 (i-a) (by omega)
          have e:sh f a (i-a)=f i:=by show f (a+(i-a))=f i;rw [show a+(i-a)=i by omega]
          rw [e] at this;exact this
      · by_cases x:i<b
        · have:=c2 (i-a) (by omega) (by omega)
          have e:sh f a (i-a)=f i:=by show f (a+(i-a))=f i;rw [show a+(i-a)=i by omega]
          rw [e] at this;exact this
        · have:=beh i (by omega) h2;omega
    rw [cn];refine ⟨by omega,?_⟩
    rintro ⟨i,hi,hq⟩;have ia:a<=i:=by
      rcases Nat.lt_or_ge i a with x | x
      · have:=u.lt x (show a<n by omega);omega
      · exact x
    have ib:i<b:=by
      rcases Nat.lt_or_ge i b with x | x
      · exact x
      · have:=beh i x hi;omega
    have e:sh f a (i-a)=q:=by show f (a+(i-a))=q;rw [show a+(i-a)=i by omega];exact hq
    have cc:cntb (sh f a) q (b-a)=i-a:=by
      refine cntb_is su q _ (by omega) (fun j hj=>?_) (fun j h1 h2=>?_)
      · rw [<-e];exact su.lt hj (by omega)
      · rw [<-e];exact su.le h1 h2
    have W:=w1 (i-a) (by omega)
    unfold away at W;rw [e] at W;rw [cc];omega
  ·
    have t0:t=0:=by
      rcases pick with x | x
      · exact x
      · have:fst8 l t=s.k:=by show (l.getD t sg0).k=s.k;rw [hs]
        omega
    have a0:a=0:=by have:=T4 t0;omega
    have n0:0<n:=by omega
    have all:∀ i,i<n->q<f i:=fun i hi=>by
      have:=u.le (Nat.zero_le i) hi
      rw [a0] at hk;omega
    have cn:cntb f q n=0:=cntb_is u q 0 (Nat.zero_le _) (fun i hi=>by omega) (fun i _ hi=>by have:=all i hi;omega)
    rw [cn,guess_before _ _ _ _ _ _ (by omega)]
    have W:=w1 0 (by omega)
    unfold away at W;have e:sh f a 0=s.k:=hk.symm;rw [e] at W;refine ⟨by omega,?_⟩
    rintro ⟨i,hi,hq⟩;have:=all i hi;omega
def tileC (n:Nat):Int->List Sg->Bool
  | a,[]=>decide (a=n)
  | a,s::l=>decide (s.fr=a)&&decide (a<s.te)&&tileC n s.te l
theorem tileC_le {n:Nat}:∀ {l:List Sg} {a:Int},tileC n a l=true->a<=n:=by
  intro l;induction l with
  | nil =>
           intro a h;have:a=n:=by simpa [tileC] using h
           omega
  | cons s l ih =>
    intro a h;have h':(s.fr=a/\a<s.te)/\tileC n s.te l=true:=by simpa [tileC] using h
    have:=ih h'.2
    omega
theorem tileC_eq {n:Nat}:∀ (l:List Sg) (a:Nat),tileC n a l=tileB n a l:=by
  intro l;induction l with
  | nil =>
           intro a;show decide ((a:Int)=n)=decide (a=n);by_cases h:a=n
           · simp [h]
           · rw [decide_eq_false (by omega),decide_eq_false h]
  | cons s l ih =>
    intro a;have e:tileC n a (s::l)=true↔tileB n a (s::l)=true:=by
      rw [tileB_cons];have u:tileC n a (s::l)=true↔(s.fr=a/\(a:Int)<s.te)/\tileC n s.te l=true:=by simp [tileC]
      rw [u];constructor
      · rintro ⟨⟨h1,h2⟩,h3⟩
        have le:=tileC_le h3;obtain ⟨t,ht⟩:∃ t:Nat,s.te=t:=⟨s.te.toNat,by omega⟩
        rw [ht] at h3 ⊢;rw [ht] at h2 le;rw [Int.toNat_natCast];exact ⟨h1,h2,le,by rw [<-ih t];exact h3⟩
      · rintro ⟨h1,h2,h3,h4⟩
        obtain ⟨t,ht⟩:∃ t:Nat,s.te=t:=⟨s.te.toNat,by omega⟩
        rw [ht,Int.toNat_natCast] at h4;rw [ht] at h2 ⊢;exact ⟨⟨h1,h2⟩,by rw [ih t];exact h4⟩
    cases h1:tileC n a (s::l) with
    | true=>exact (e.1 h1).symm
    | false =>
      cases h2:tileB n a (s::l) with
      | false=>rfl
      | true=>have:=e.2 h2;rw [h1] at this;cases this
theorem tileC_cons {n:Nat} {a:Int} {s:Sg} {l:List Sg}:tileC n a (s::l)=(decide (s.fr=a)&&decide (a<s.te)&&tileC n s.te l):=rfl
structure SgAt (w:World) (b off:Nat) (s:Sg):Prop where
  c0:w.cell? ⟨b,off,none⟩=some (.int .u64 s.k)
  c1:w.cell? ⟨b,off+1,none⟩=some (.float .f64 s.sl)
  c2:w.cell? ⟨b,off+2,none⟩=some (.float .f64 s.ic)
  c3:w.cell? ⟨b,off+3,none⟩=some (.int .i64 s.fr)
  c4:w.cell? ⟨b,off+4,none⟩=some (.int .i64 s.te)
theorem SgAt.gw {w w':World} {b off:Nat} {s:Sg} (h:SgAt w b off s) (hb:b<w.heap.size) (g:Gw w w'):SgAt w' b off s :=
  ⟨(g.cell _ _ hb).trans h.c0,(g.cell _ _ hb).trans h.c1,(g.cell _ _ hb).trans h.c2,(g.cell _ _ hb).trans h.c3,(g.cell _ _ hb).trans h.c4⟩
abbrev Sg.ok (s:Sg):Prop:=SegOk s.k s.sl s.ic s.fr s.te
abbrev sgV (s:Sg):Value:=segV s.k s.sl s.ic s.fr s.te
structure GS (w:World) (ao:Option Addr) (l:List Sg):Prop where
  cells:0<l.length->∃ b off,ao=some ⟨b,off,none⟩/\b<w.heap.size/\∀ i,i<l.length->SgAt w b (off+i*5) (l.getD i sg0)
  ok:∀ i,i<l.length->(l.getD i sg0).ok
theorem GS.gw {w w':World} {ao:Option Addr} {l:List Sg} (h:GS w ao l) (g:Gw w w'):GS w' ao l :=
  ⟨fun h0=>by
    obtain ⟨b,off,e,hb,hc⟩:=h.cells h0;exact ⟨b,off,e,Nat.lt_of_lt_of_le hb g.size,fun i hi=>(hc i hi).gw hb g⟩,h.ok⟩
structure VS (w:World) (ao:Option Addr) (L:List (List Sg)):Prop where
  cells:0<L.length->∃ b off,ao=some ⟨b,off,none⟩/\b<w.heap.size/\∀ i,i<L.length->∃ bo c,w.cell? ⟨b,off+i,none⟩=some (.slice bo (L.getD i []).length c)/\(L.getD i []).length<=c/\(bo=none->(L.getD i []).length=0/\c=0)/\GS w bo (L.getD i [])
theorem VS.gw {w w':World} {ao:Option Addr} {L:List (List Sg)} (h:VS w ao L) (g:Gw w w'):VS w' ao L :=
  ⟨fun h0=>by
    obtain ⟨b,off,e,hb,hc⟩:=h.cells h0;refine ⟨b,off,e,Nat.lt_of_lt_of_le hb g.size,fun i hi=>?_⟩
    obtain ⟨bo,c,h1,h2,h3,h4⟩:=hc i hi;exact ⟨bo,c,(g.cell _ _ hb).trans h1,h2,h3,h4.gw g⟩⟩
theorem fst8_ok {w:World} {ao:Option Addr} {l:List Sg} (h:GS w ao l):∀ t,t<l.length->0<=fst8 l t/\fst8 l t<18446744073709551616:=fun t ht=>⟨(h.ok t ht).k0,(h.ok t ht).k1⟩
theorem rfirsts_any (ao:Option Addr) (c:Nat) (l:List Sg) (hl:l.length<=4000000) (w:World) (h:GS w ao l) :
    Calls prog 137 #[.slice ao l.length c] w fun e w'=>(∃ b cap,e=.returned (.slice (some ⟨b,0,none⟩) l.length cap)/\w.heap.size<=b/\l.length<=cap/\KS w' (some ⟨b,0,none⟩) l.length (fst8 l))/\Gw w w':=by
  have HG:Aside _:=h;clear h;obtain ⟨n,hn⟩:∃ n,l.length=n:=⟨_,rfl⟩;have LN:Aside _:=hn;rw [hn] at hl;rw [hn];clear hn;obtain ⟨ii,hii,hz,hs,hby⟩:=info_parts info_k;have R3:Aside ((w.alloc (.cells #[] 37)).ownsRow w.heap.size 37 1 (.slice (some ⟨w.heap.size,0,none⟩) 0 0) 0 ((List.range 0).map fun j=>Value.int .u64 (fst8 l j))):=World.ownsRow_made w #[] 0 (Nat.le_refl _) (Nat.zero_le _) rfl
  have G3:Aside (Gw w (w.alloc (.cells #[] 37))):=(Gw.refl w).alloc _ _;have B3:Aside (w.heap.size<=w.heap.size):=Nat.le_refl _;go_enter func137,ntmps137;go_wp2_with fail;generalize w.alloc (.cells #[] 37)=w3 at R3 G3 ⊢;go_loopg [3,4] n (fun gg s3 s4 wr=>∃ i b cap:Nat,s3=.slice (some ⟨b,0,none⟩) i cap/\s4=.int .i64 i/\i<=n/\n-i<=gg/\Aside (w.heap.size<=b)/\Aside (wr.ownsRow w.heap.size 37 1 (.slice (some ⟨b,0,none⟩) i cap) i ((List.range i).map fun j=>Value.int .u64 (fst8 l j)))/\Aside (Gw w wr))
  case atStart=>exact ⟨0,w.heap.size,0,rfl,rfl,Nat.zero_le _,by omega,B3,R3,G3⟩
  case round =>
    clear R3 G3 B3;obtain ⟨i,b,cap,rfl,rfl,h1,h2,BW,R,G⟩:=hrel;by_cases hlt:i<n
    · obtain ⟨bk,off,rfl,hbk,hc⟩:=(HG.out.gw G.out).cells (by rw [LN.out];omega)
      have q1:=(hc i (by rw [LN.out];exact hlt)).c0
      obtain ⟨fi,hfi⟩:∃ y,fst8 l i=y:=⟨_,rfl⟩;have FI:Aside _:=hfi;have q2:wr.cell? ⟨bk,off+i*5,none⟩=some (.int .u64 fi):=by rw [<-hfi];exact q1
      clear hc hfi q1;have z0:=G.out.size;go_wp2_with (at_builtin;refine wpList_append_own _ rfl _ _ 103 rfl w.heap.size 37 ii (.int .u64 0) 1 8 underlying103 hii hz hs hby rfl (by decide) _ i _ rfl (R.out.alloc _) ⟨wr.heap.size,0,none⟩ 1 1 [.int .u64 fi] rfl rfl (new_one wr fi) (ints_oneCell .u64 [fi]) (by simp only [maxLen];omega) (by omega) (by simp;omega) ?_)
      intro v' w5 r1' r2' r3';obtain ⟨b5,cap5,rfl,hb5,_,_⟩:=own_slice r1' (by simpa using r3')
      have R5:Aside (w5.ownsRow w.heap.size 37 1 (.slice (some ⟨b5,0,none⟩) (i+1) cap5) (i+1) ((List.range (i+1)).map fun j=>Value.int .u64 (fst8 l j))):=by
        have:=r1'
        rw [<-FI.out] at this;rw [List.range_succ,List.map_append];exact this
      have G5:Aside (Gw w w5):=(G.out.alloc _ _).grown r2' (fun k hk=>by cases hk;exact BW.out)
      have B5:Aside _:=hb5;clear r1' r2' r3' R G BW hb5 q2 FI;go_wp2_with fail;go_roundg (n-(i+1))
      case measure=>omega
      case rel=>exact ⟨i+1,b5,cap5,rfl,by go_num,by omega,Nat.le_refl _,B5,R5,G5⟩
    · have ei:i=n:=by omega
      subst ei;have K4:Aside (KS wr (some ⟨b,0,none⟩) i (fst8 l)):=ks_own R.out (Nat.le_refl _) (fun j hj=>by simp [hj]) (fun j hj=>fst8_ok HG.out j (by rw [LN.out];exact hj))
      obtain ⟨_,_,ev,_,ic,_⟩:=own_slice R.out (by simp)
      cases ev
      clear R;go_wp2_with fail;go_ret;exact ⟨⟨b,cap,rfl,BW.out,ic,K4.out⟩,G.out⟩
theorem drop_at {l:List Sg} {i:Nat} (h:i<l.length):l.drop i=l.getD i sg0::l.drop (i+1):=by
  rw [List.drop_eq_getElem_cons h,List.getD_eq_getElem?_getD,List.getElem?_eq_getElem h];rfl
theorem rtiles_any (ao:Option Addr) (c:Nat) (l:List Sg) (m:Nat) (hl:l.length<=4000000) (hm:m<=4000000) (w:World) (h:GS w ao l) :
    Calls prog 134 #[.slice ao l.length c,.int .i64 (m:Int)] w fun e w'=>e=.returned (.bool (tileB m 0 l&&!l.isEmpty))/\Gw w w':=by
  have HG:Aside (GS w ao l):=h;clear h;obtain ⟨r,hr⟩:∃ r,(tileB m 0 l&&!l.isEmpty)=r:=⟨_,rfl⟩;have HR:Aside ((tileB m 0 l&&!l.isEmpty)=r):=hr;rw [hr];clear hr;obtain ⟨n,hn⟩:∃ n,l.length=n:=⟨_,rfl⟩;have LN:Aside (l.length=n):=hn;rw [hn] at hl;rw [hn];clear hn;go_enter func134,ntmps134;go_wp2_with fail;go_loopg [5,6] n (fun gg s5 s6 wr=>∃ i a:Nat,s5=.int .i64 a/\s6=.int .i64 i/\i<=n/\n-i<=gg/\a<=m/\Aside (tileB m 0 l=tileB m a (l.drop i))/\Aside (Gw w wr))
  case atStart=>exact ⟨0,0,rfl,rfl,Nat.zero_le _,by omega,Nat.zero_le _,(show Aside _ from rfl),(show Aside _ from Gw.refl w)⟩
  case round =>
    obtain ⟨i,a,rfl,rfl,h1,h2,h3,T,G⟩:=hrel;by_cases hlt:i<n
    · obtain ⟨bk,off,rfl,hbk,hc⟩:=(HG.out.gw G.out).cells (by rw [LN.out];omega)
      have q:=hc i (by rw [LN.out];exact hlt)
      have q3:=q.c3;have q4:=q.c4;have TT:Aside (tileB m 0 l=tileB m a (l.getD i sg0::l.drop (i+1))):=by rw [<-drop_at (by rw [LN.out];exact hlt)];exact T.out
      have bd:=HG.out.ok i (by rw [LN.out];exact hlt)
      generalize l.getD i sg0=s at q3 q4 TT bd;obtain ⟨fr,hfr⟩:∃ y,s.fr=y:=⟨_,rfl⟩;obtain ⟨te,hte⟩:∃ y,s.te=y:=⟨_,rfl⟩;rw [hfr] at q3;rw [hte] at q4;have t0:-9223372036854775808<=te:=by rw [<-hte];exact bd.t0
      have CS:Aside ((fr≠a\/te<=a\/(m:Int)<te)\/(fr=a/\(a:Int)<te/\te<=m)):=by
        show _\/_;omega
      have UF:Aside (tileB m 0 l=true↔fr=a/\(a:Int)<te/\te<=m/\tileB m te.toNat (l.drop (i+1))=true):=by
        show _↔_;rw [TT.out,tileB_cons,hfr,hte]
      clear hc q TT T hfr hte bd;rcases CS.out with cs | ⟨c1,c2,c3⟩
      · have r0:r=false:=by
          rw [<-HR.out];have:tileB m 0 l=false:=by
            cases hh:tileB m 0 l with
            | false=>rfl
            | true=>have:=UF.out.1 hh;omega
          rw [this];rfl
        subst r0;clear CS UF;by_cases d1:fr=a
        · have b1:(fr != (a:Int))=false:=by simpa using d1
          by_cases d2:te<=a
          · have b2:decide (te<=(a:Int))=true:=by simpa using d2
            clear cs d1 d2;go_wp2_with fail;go_ret;exact ⟨rfl,G.out⟩
          · have b2:decide (te<=(a:Int))=false:=by simpa using d2
            have b3:decide ((m:Int)<te)=true:=by simp;omega
            clear cs d1 d2;go_wp2_with fail;go_ret;exact ⟨rfl,G.out⟩
        · have b1:(fr != (a:Int))=true:=by simpa using d1
          clear cs d1;go_wp2_with fail;go_ret;exact ⟨rfl,G.out⟩
      · have b1:(fr != (a:Int))=false:=by simpa using c1
        have b2:decide (te<=(a:Int))=false:=by simp;omega
        have b3:decide ((m:Int)<te)=false:=by simp;omega
        obtain ⟨t,ht⟩:∃ t:Nat,te=t:=⟨te.toNat,by omega⟩
        subst ht;have T':Aside (tileB m 0 l=tileB m t (l.drop (i+1))):=by
          have:=UF.out
          rw [Int.toNat_natCast] at this;show tileB m 0 l=tileB m t (l.drop (i+1));cases hh:tileB m t (l.drop (i+1)) with
          | true=>exact this.2 ⟨c1,c2,c3,hh⟩
          | false =>
            cases hg:tileB m 0 l with
            | false=>rfl
            | true=>have:=(this.1 hg).2.2.2;rw [hh] at this;cases this
        have tm:t<=m:=by omega
        have ta:¬ t<=a:=by omega
        have ta':a<t:=by omega
        have tm':¬ m<t:=by omega
        clear CS UF c1 c2 c3 t0;go_wp2_with fail;go_roundg (n-(i+1))
        case measure=>omega
        case rel=>exact ⟨i+1,t,rfl,by go_num,by omega,Nat.le_refl _,tm,T',G⟩
    · have e:i=n:=by omega
      subst e;have T':Aside (tileB m 0 l=decide (a=m)):=by
        show tileB m 0 l=decide (a=m);rw [T.out,List.drop_eq_nil_of_le (by rw [LN.out];exact Nat.le_refl _)];rfl
      by_cases n0:0<i
      · have tn:decide ((0:Int)<(i:Int))=true:=by simpa using n0
        have ne:l.isEmpty=false:=by
          cases l with
          | nil=>have:=LN.out;simp at this;omega
          | cons s l=>rfl
        by_cases am:a=m
        · have r1:r=true:=by rw [<-HR.out,T'.out,ne];simpa using am
          subst r1 am;go_wp2_with fail;go_ret;exact ⟨by simp,G.out⟩
        · have r1:r=false:=by rw [<-HR.out,T'.out];simp [am]
          have ta:((a:Int) == (m:Int))=false:=by simp;omega
          subst r1;go_wp2_with fail;go_ret;exact ⟨by simp,G.out⟩
      · have tn:decide ((0:Int)<(i:Int))=false:=by simp;omega
        have ne:l.isEmpty=true:=by
          cases l with
          | nil=>rfl
          | cons s l=>have:=LN.out;simp at this;omega
        have r1:r=false:=by rw [<-HR.out,ne];simp
        subst r1;go_wp2_with fail;go_ret;exact ⟨by simp,G.out⟩
def mxh (n eps:Int):Int:=if 2<=eps/\eps<=64/\1<=n then (hgt eps.toNat n.toNat:Nat) else 0
theorem hgt_le {e:Nat} (he:2<=e):∀ n,hgt e n<=n:=by
  intro n;induction n using Nat.strongRecOn with
  | ind n ih =>
    by_cases h0:n=0
    · subst h0;exact Nat.le_refl _
    · by_cases h1:n<=2*e-1
      · rw [hgt_one (by omega) h1];omega
      · rw [hgt_more he h1]
        have:=ih _ (div_less he h1)
        have:=div_less he h1
        omega
theorem rmaxh_any (n eps:Int) (n0:-9223372036854775808<=n) (n1:n<9223372036854775808) (e0:-9223372036854775808<=eps) (e1:eps<9223372036854775808) (w:World) :
    Calls prog 133 #[.int .i64 n,.int .i64 eps] w fun ex w'=>ex=.returned (.int .i64 (mxh n eps))/\Gw w w':=by
  by_cases h:2<=eps/\eps<=64
  · have t1:decide (eps<2)=false:=by simp;omega
    have t2:decide (64<eps)=false:=by simp;omega
    by_cases h1:1<=n
    · have t3:decide (n<1)=false:=by simp;omega
      obtain ⟨e,he⟩:∃ e:Nat,eps=e:=⟨eps.toNat,by omega⟩
      obtain ⟨N,hN⟩:∃ N:Nat,n=N:=⟨n.toNat,by omega⟩
      subst he hN;have MX:mxh (N:Int) (e:Int)=(hgt e N:Nat):=by
        unfold mxh;rw [if_pos ⟨h.1,h.2,h1⟩,Int.toNat_natCast,Int.toNat_natCast]
      rw [MX];clear MX;have ee:2<=e:=by omega
      have e64:e<=64:=by omega
      have HL:hgt e N<=N:=hgt_le ee N;obtain ⟨R,hR⟩:∃ R,hgt e N=R:=⟨_,rfl⟩;have HR:Aside (hgt e N=R):=hR;rw [hR] at HL ⊢;clear hR;have w2:IntKind.i64.wrap (2*(e:Int))=2*(e:Int):=by rw [IntKind.wrap_i64];omega
      have w3:IntKind.i64.wrap (2*(e:Int)-1)=2*(e:Int)-1:=by rw [IntKind.wrap_i64];omega
      have ez:((e:Int) == 0)=false:=by simp;omega
      clear h;go_enter func133,ntmps133;go_wp2_with fail;go_loopg [0,5] N (fun gg s0 s5 wr=>∃ m h:Nat,s0=.int .i64 m/\s5=.int .i64 h/\0<m/\m<=N/\m<=gg/\h<=R/\Aside (h+hgt e m=R+1)/\Aside (Gw w wr))
      case atStart=>exact ⟨N,1,rfl,rfl,by omega,Nat.le_refl _,Nat.le_refl _,(by rw [<-HR.out];exact hgt_pos ee (by omega)),(show Aside _ from by show 1+hgt e N=R+1;rw [HR.out];omega),(show Aside _ from Gw.refl w)⟩
      case round =>
        obtain ⟨m,h,rfl,rfl,m0,m1,m2,m3,HS,G⟩:=hrel;by_cases c:m<=2*e-1
        · have tc:decide (2*(e:Int)-1<(m:Int))=false:=by simp;omega
          have hR:h=R:=by have:=HS.out;rw [hgt_one m0 c] at this;omega
          subst hR;go_wp2_with fail;go_ret;exact ⟨rfl,G.out⟩
        · have tc:decide (2*(e:Int)-1<(m:Int))=true:=by simp;omega
          have dl:=div_less ee c;have NX:h+1+hgt e (m/e+1)=R+1:=by have:=HS.out;rw [hgt_more ee c] at this;omega
          have hp:0<hgt e (m/e+1):=hgt_pos ee (Nat.succ_pos (m/e));obtain ⟨d,hd⟩:∃ d,m/e=d:=⟨_,rfl⟩;have td:Int.tdiv (m:Int) (e:Int)=(d:Int):=by rw [<-hd];rfl
          rw [hd] at dl NX hp;have HS':Aside (h+1+hgt e (d+1)=R+1):=NX;have h3:h+1<=R:=by omega
          clear hd NX HS;go_wp2_with fail;go_roundg (d+1)
          case measure=>omega
          case rel=>exact ⟨d+1,h+1,by go_num,by go_num,by omega,by omega,Nat.le_refl _,h3,HS',G⟩
    · have t3:decide (n<1)=true:=by simp;omega
      have MX:mxh n eps=0:=if_neg (fun q=>h1 q.2.2)
      rw [MX];clear MX h h1;go_enter func133,ntmps133;go_wp2_with fail;go_ret;exact ⟨rfl,Gw.refl w⟩
  · have MX:mxh n eps=0:=if_neg (fun q=>h ⟨q.1,q.2.1⟩)
    rw [MX];clear MX;by_cases h2:eps<2
    · have t1:decide (eps<2)=true:=by simpa using h2
      clear h h2;go_enter func133,ntmps133;go_wp2_with fail;go_ret;exact ⟨rfl,Gw.refl w⟩
    · have t1:decide (eps<2)=false:=by simpa using h2
      have t2:decide (64<eps)=true:=by simp;omega
      clear h h2;go_enter func133,ntmps133;go_wp2_with fail;go_ret;exact ⟨rfl,Gw.refl w⟩
theorem sign_i64 (x:Nat) (hx:x<18446744073709551616):decide (wrap64 (x:Int)<0)=decide (9223372036854775808<=x):=by
  rw [decide_eq_decide];unfold wrap64;omega
theorem signbit (x:Nat) (hx:x<18446744073709551616) (w:World) :
    Calls prog 230 #[.float .f64 x] w fun e w'=>e=.returned (.bool (decide (9223372036854775808<=x)))/\w'=w:=by
  have h:=sign_i64 x hx;go_enter func230,ntmps230;go_wp2_with (simp only [f64bits]);go_ret;exact ⟨rfl,rfl⟩
theorem slope_over {x:Nat} (h:4611686018427387904<x) (n:¬ 9218868437227405312<rg x) (p:x<9223372036854775808):fgt2 x=true:=by
  have r:=rg_small p;unfold fgt2;rw [fmt];rcases Nat.lt_trichotomy (rg x) 9218868437227405312 with q | q | q
  · rw [f_gt q (by decide),SV_small (x:=x) (by omega),SV_small (by decide)]
    have:=V_lt h
    simp;omega
  · unfold Ieee.Format.order;rw [read_inf q,read_fin (by decide),sg_small (x:=x) (by omega)]
    simp [Ieee.Datum.order]
  · exact absurd q n
theorem xcheck_any (k:Int) (sl ic:Nat) (fr to:Int) (s1:sl<18446744073709551616) (i1:ic<18446744073709551616) (w:World) :
    Calls prog 216 #[segV k sl ic fr to] w fun e w'=>e=.returned (.int .i64 (errM sl ic fr to))/\Gw w w':=by
  have G0:Aside (Gw w (w.alloc (.cells #[.int .u64 k,.float .f64 sl,.float .f64 ic,.int .i64 fr,.int .i64 to] 110))):=(Gw.refl w).alloc _ _;have NS:Hid _:=fun W=>isnan sl W
  have NI:Hid _:=fun W=>isnan ic W
  have SB:Hid _:=fun W=>signbit sl s1 W
  have II:Hid _:=fun W=>isinf ic i1 W
  unfold errM;by_cases h:fr<0\/to<=fr\/4294967296<to
  · rw [if_pos h]
    by_cases h1:fr<0
    · have t1:decide (fr<0)=true:=by simpa using h1
      clear h h1;go_enter func216,ntmps216;go_wp2_with fail;exact bodyPost_ret (v:=.int .i64 70) (by simp [results,results216,go_sem]) rfl ⟨rfl,G0.out⟩
    · have t1:decide (fr<0)=false:=by simpa using h1
      by_cases h2:to<=fr
      · have t2:decide (to<=fr)=true:=by simpa using h2
        clear h h1 h2;go_enter func216,ntmps216;go_wp2_with fail;exact bodyPost_ret (v:=.int .i64 70) (by simp [results,results216,go_sem]) rfl ⟨rfl,G0.out⟩
      · have t2:decide (to<=fr)=false:=by simpa using h2
        have t3:decide (4294967296<to)=true:=by simp;omega
        clear h h1 h2;go_enter func216,ntmps216;go_wp2_with fail;exact bodyPost_ret (v:=.int .i64 70) (by simp [results,results216,go_sem]) rfl ⟨rfl,G0.out⟩
  · rw [if_neg h]
    have t1:decide (fr<0)=false:=by simp;omega
    have t2:decide (to<=fr)=false:=by simp;omega
    have t3:decide (4294967296<to)=false:=by simp;omega
    clear h;by_cases h1:4611686018427387904<sl
    · rw [if_pos h1]
      by_cases hn:9218868437227405312<rg sl
      · have q:decide (9218868437227405312<rg sl)=true:=by simpa using hn
        rw [q] at NS;clear hn h1 q;go_enter func216,ntmps216;go_wp2_with (go_at_call 229;refine (NS.out _).mono ?_;rintro e w' ⟨rfl,rfl⟩);exact bodyPost_ret (v:=.int .i64 71) (by simp [results,results216,go_sem]) rfl ⟨rfl,G0.out⟩
      · have q:decide (9218868437227405312<rg sl)=false:=by simpa using hn
        rw [q] at NS;by_cases hp:sl<9223372036854775808
        · have q1:decide (9223372036854775808<=sl)=false:=by simpa using hp
          have q2:(FloatKind.f64.format.order sl 4611686018427387904 == some .gt)=true:=slope_over h1 hn hp;rw [q1] at SB;clear hn h1 q q1 hp;go_enter func216,ntmps216;go_wp2_with (first | (go_at_call 229;refine (NS.out _).mono ?_;rintro e w' ⟨rfl,rfl⟩) | (go_at_call 230;refine (SB.out _).mono ?_;rintro e w' ⟨rfl,rfl⟩))
          exact bodyPost_ret (v:=.int .i64 71) (by simp [results,results216,go_sem]) rfl ⟨rfl,G0.out⟩
        · have q1:decide (9223372036854775808<=sl)=true:=by simpa using hp
          rw [q1] at SB;clear hn h1 q q1 hp;go_enter func216,ntmps216;go_wp2_with (first | (go_at_call 229;refine (NS.out _).mono ?_;rintro e w' ⟨rfl,rfl⟩) | (go_at_call 230;refine (SB.out _).mono ?_;rintro e w' ⟨rfl,rfl⟩))
          exact bodyPost_ret (v:=.int .i64 71) (by simp [results,results216,go_sem]) rfl ⟨rfl,G0.out⟩
    · rw [if_neg h1]
      obtain ⟨-,-,q2⟩:=slope_ok (x:=sl) (by omega)
      have q2':(FloatKind.f64.format.order sl 4611686018427387904 == some .gt)=false:=q2;have q:decide (9218868437227405312<rg sl)=false:=by rw [rg_small (by omega)];simp;omega
      have q1:decide (9223372036854775808<=sl)=false:=by simp;omega
      rw [q] at NS;rw [q1] at SB;clear q q1 q2 h1;by_cases h2:9218868437227405312<=rg ic
      · rw [if_pos h2]
        by_cases hn:9218868437227405312<rg ic
        · have q:decide (9218868437227405312<rg ic)=true:=by simpa using hn
          rw [q] at NI;clear hn h2 q;go_enter func216,ntmps216;go_wp2_with (first | (go_at_call 229;refine (NS.out _).mono ?_;rintro e w' ⟨rfl,rfl⟩) | (go_at_call 230;refine (SB.out _).mono ?_;rintro e w' ⟨rfl,rfl⟩) | (go_at_call 229;refine (NI.out _).mono ?_;rintro e w' ⟨rfl,rfl⟩))
          exact bodyPost_ret (v:=.int .i64 72) (by simp [results,results216,go_sem]) rfl ⟨rfl,G0.out⟩
        · have q:decide (9218868437227405312<rg ic)=false:=by simpa using hn
          have q1:decide (rg ic=9218868437227405312)=true:=by simp;omega
          rw [q] at NI;rw [q1] at II;clear hn h2 q q1;go_enter func216,ntmps216;go_wp2_with (first | (go_at_call 229;refine (NS.out _).mono ?_;rintro e w' ⟨rfl,rfl⟩) | (go_at_call 230;refine (SB.out _).mono ?_;rintro e w' ⟨rfl,rfl⟩) | (go_at_call 229;refine (NI.out _).mono ?_;rintro e w' ⟨rfl,rfl⟩) | (go_at_call 231;refine (II.out _).mono ?_;rintro e w' ⟨rfl,rfl⟩))
          exact bodyPost_ret (v:=.int .i64 72) (by simp [results,results216,go_sem]) rfl ⟨rfl,G0.out⟩
      · rw [if_neg h2]
        have q:decide (9218868437227405312<rg ic)=false:=by simp;omega
        have q1:decide (rg ic=9218868437227405312)=false:=by simp;omega
        rw [q] at NI;rw [q1] at II;clear h2 q q1;go_enter func216,ntmps216;go_wp2_with (first | (go_at_call 229;refine (NS.out _).mono ?_;rintro e w' ⟨rfl,rfl⟩) | (go_at_call 230;refine (SB.out _).mono ?_;rintro e w' ⟨rfl,rfl⟩) | (go_at_call 229;refine (NI.out _).mono ?_;rintro e w' ⟨rfl,rfl⟩) | (go_at_call 231;refine (II.out _).mono ?_;rintro e w' ⟨rfl,rfl⟩))
        exact bodyPost_ret (v:=.int .i64 0) (by simp [results,results216,go_sem]) rfl ⟨rfl,G0.out⟩
theorem predict_any (k:Int) (sl ic:Nat) (fr to q:Int) (k0:0<=k) (k1:k<18446744073709551616) (q0:0<=q) (q1:q<18446744073709551616) (h:errM sl ic fr to=0) (w:World) :
    Calls prog 217 #[segV k sl ic fr to,.int .u64 q] w fun e w'=>e=.returned (.int .i64 (guessV k sl ic fr to q))/\Gw w w':=by
  obtain ⟨a,b,c,d,e⟩:=errM_ok.1 h;obtain ⟨y,p,r,v,hy,ey,hp,ep,hr,ev,fv,sv,-,-⟩:=line_right (far:=(q-k).toNat) d e (by omega)
  have V:Hid (guessV k sl ic fr to q=clampv v fr to):=by
    show guessV k sl ic fr to q=clampv v fr to;unfold guessV;rw [if_pos h,gfl_is ey ep ev]
  have A:Hid _:=fun W=>(along_any sl y (q-k).toNat ic (by omega) ey W).mono fun ex w' (hx:(∃ r,ex=.returned (.float .f64 r)/\AL sl y ic r)/\∃ n,w'=W.drewN n) =>
    show ex=.returned (.float .f64 v)/\Gw W w' from ⟨(by obtain ⟨⟨r,e1,al⟩,-⟩:=hx;rw [e1,al.is ep ev]),(by obtain ⟨-,n,e2⟩:=hx;rw [e2];exact (Gw.refl W).drewN n)⟩
  have L:Hid _:=fun W=>clamp_any v fr to (by omega) (by omega) (by omega) (by omega) W
  have HK:Hid (∀ w',Gw (w.alloc (.cells #[.int .u64 k,.float .f64 sl,.float .f64 ic,.int .i64 fr,.int .i64 to] 110)) w'->Gw (w.alloc (.cells #[.int .u64 k,.float .f64 sl,.float .f64 ic,.int .i64 fr,.int .i64 to] 110)) w'/\w'.cell? ⟨w.heap.size,1,none⟩=some (.float .f64 sl)/\w'.cell? ⟨w.heap.size,2,none⟩=some (.float .f64 ic)/\w'.cell? ⟨w.heap.size,3,none⟩=some (.int .i64 fr)/\w'.cell? ⟨w.heap.size,4,none⟩=some (.int .i64 to)) :=
    fun w' g=>⟨g,(g.cell _ _ (by simp)).trans (by simp [go_sem]),(g.cell _ _ (by simp)).trans (by simp [go_sem]),(g.cell _ _ (by simp)).trans (by simp [go_sem]),(g.cell _ _ (by simp)).trans (by simp [go_sem])⟩
  rw [V.out];have G0:Aside (Gw w (w.alloc (.cells #[.int .u64 k,.float .f64 sl,.float .f64 ic,.int .i64 fr,.int .i64 to] 110))):=(Gw.refl w).alloc _ _;clear hy ey hp ep hr ev fv sv h a b c d e;by_cases g:q<k
  · have wz:((q-k).toNat:Int)=0:=by omega
    rw [wz] at A;go_enter func217,ntmps217;go_wp2_with fail;go_region_held3 (fun w'=>Gw (w.alloc (.cells #[.int .u64 k,.float .f64 sl,.float .f64 ic,.int .i64 fr,.int .i64 to] 110)) w'/\w'.cell? ⟨w.heap.size,1,none⟩=some (.float .f64 sl)/\w'.cell? ⟨w.heap.size,2,none⟩=some (.float .f64 ic)/\w'.cell? ⟨w.heap.size,3,none⟩=some (.int .i64 fr)/\w'.cell? ⟨w.heap.size,4,none⟩=some (.int .i64 to))
      ((refine HK.out _ ?_;(repeat (first | exact Gw.refl _ | exact And.left (by assumption) | exact Hid.out (by assumption) | refine Gw.drew ?_ | refine Gw.trans ?_ (by assumption)));done))
      (first
      | (go_at_call 233;refine (A.out _).mono ?_;rintro ex w2 ⟨rfl,g2⟩;have G2:Hid (Gw (w.alloc (.cells #[.int .u64 k,.float .f64 sl,.float .f64 ic,.int .i64 fr,.int .i64 to] 110)) w2):=(Gw.trans (by repeat (first | exact Gw.refl _ | exact And.left (by assumption) | exact Hid.out (by assumption) | refine Gw.drew ?_)) g2);clear g2)
      | (go_at_call 232;refine (L.out _).mono ?_;rintro ex w3 ⟨rfl,rfl⟩))
    all_goals go_wp2_with fail
    all_goals exact bodyPost_ret (v:=.int .i64 (clampv v fr to)) (by simp [results,results217,go_sem]) rfl ⟨rfl,Gw.trans G0.out (by repeat (first | exact Gw.refl _ | exact And.left (by assumption) | exact Hid.out (by assumption) | refine Gw.drew ?_ | refine Gw.trans ?_ (by assumption)))⟩
  · have mz:IntKind.u64.wrap (q-k)=((q-k).toNat:Int):=by rw [IntKind.wrap_u64];omega
    generalize (q-k).toNat=D at A mz;go_enter func217,ntmps217;go_wp2_with fail;go_region_held3 (fun w'=>Gw (w.alloc (.cells #[.int .u64 k,.float .f64 sl,.float .f64 ic,.int .i64 fr,.int .i64 to] 110)) w'/\w'.cell? ⟨w.heap.size,1,none⟩=some (.float .f64 sl)/\w'.cell? ⟨w.heap.size,2,none⟩=some (.float .f64 ic)/\w'.cell? ⟨w.heap.size,3,none⟩=some (.int .i64 fr)/\w'.cell? ⟨w.heap.size,4,none⟩=some (.int .i64 to))
      ((refine HK.out _ ?_;(repeat (first | exact Gw.refl _ | exact And.left (by assumption) | exact Hid.out (by assumption) | refine Gw.drew ?_ | refine Gw.trans ?_ (by assumption)));done))
      (first
      | (go_at_call 233;refine (A.out _).mono ?_;rintro ex w2 ⟨rfl,g2⟩;have G2:Hid (Gw (w.alloc (.cells #[.int .u64 k,.float .f64 sl,.float .f64 ic,.int .i64 fr,.int .i64 to] 110)) w2):=(Gw.trans (by repeat (first | exact Gw.refl _ | exact And.left (by assumption) | exact Hid.out (by assumption) | refine Gw.drew ?_)) g2);clear g2)
      | (go_at_call 232;refine (L.out _).mono ?_;rintro ex w3 ⟨rfl,rfl⟩))
    all_goals go_wp2_with fail
    all_goals exact bodyPost_ret (v:=.int .i64 (clampv v fr to)) (by simp [results,results217,go_sem]) rfl ⟨rfl,Gw.trans G0.out (by repeat (first | exact Gw.refl _ | exact And.left (by assumption) | exact Hid.out (by assumption) | refine Gw.drew ?_ | refine Gw.trans ?_ (by assumption)))⟩
theorem xguess_any (k:Int) (sl ic:Nat) (fr to q:Int) (k0:0<=k) (k1:k<18446744073709551616) (s1:sl<18446744073709551616) (i1:ic<18446744073709551616) (q0:0<=q) (q1:q<18446744073709551616) (w:World) :
    Calls prog 202 #[segV k sl ic fr to,.int .u64 q] w fun e w'=>e=.returned (.int .i64 (guessV k sl ic fr to q))/\Gw w w':=by
  have G0:Aside (Gw w (w.alloc (.cells #[.int .u64 k,.float .f64 sl,.float .f64 ic,.int .i64 fr,.int .i64 to] 110))):=(Gw.refl w).alloc _ _;have C:Hid _:=fun W=>xcheck_any k sl ic fr to s1 i1 W
  by_cases h:errM sl ic fr to=0
  · have P:Hid _:=fun W=>predict_any k sl ic fr to q k0 k1 q0 q1 h W
    rw [h] at C;generalize guessV k sl ic fr to q=g at *;clear h;go_enter func202,ntmps202;go_wp2_with fail;refine (C.out _).mono ?_;rintro ex w1 ⟨rfl,g1⟩;have x0:w1.cell? ⟨w.heap.size,0,none⟩=some (.int .u64 k):=(g1.cell _ _ (by simp)).trans (by simp [go_sem])
    have x1:w1.cell? ⟨w.heap.size,1,none⟩=some (.float .f64 sl):=(g1.cell _ _ (by simp)).trans (by simp [go_sem])
    have x2:w1.cell? ⟨w.heap.size,2,none⟩=some (.float .f64 ic):=(g1.cell _ _ (by simp)).trans (by simp [go_sem])
    have x3:w1.cell? ⟨w.heap.size,3,none⟩=some (.int .i64 fr):=(g1.cell _ _ (by simp)).trans (by simp [go_sem])
    have x4:w1.cell? ⟨w.heap.size,4,none⟩=some (.int .i64 to):=(g1.cell _ _ (by simp)).trans (by simp [go_sem])
    have l1:w.heap.size<w1.heap.size:=by have:=g1.size;simp at this;omega
    have G:Aside _:=G0.out.trans g1;clear g1 G0;go_wp2_with fail;refine (P.out _).mono ?_;rintro ex w2 ⟨rfl,g2⟩;go_wp2_with fail;exact bodyPost_ret (v:=.int .i64 g) (by simp [results,results202,go_sem]) rfl ⟨rfl,G.out.trans g2⟩
  · have t1:(errM sl ic fr to != 0)=true:=by simpa using h
    have V:guessV k sl ic fr to q=0:=if_neg h;rw [V];generalize errM sl ic fr to=er at *;clear V h;go_enter func202,ntmps202;go_wp2_with fail;refine (C.out _).mono ?_;rintro ex w1 ⟨rfl,g1⟩;have G:Aside _:=G0.out.trans g1;clear g1 G0;go_wp2_with fail;exact bodyPost_ret (v:=.int .i64 0) (by simp [results,results202,go_sem]) rfl ⟨rfl,G.out⟩
theorem KS.drawn {w wr:World} {ao:Option Addr} {n:Nat} {f:Nat->Int} (h:KS w ao n f) (g:∃ m,wr=w.drewN m):KS wr ao n f:=by
  obtain ⟨m,rfl⟩:=g;exact h.gw ((Gw.refl w).drewN m)
theorem qitself_any (x:Int) (w:World):Calls prog 220 #[.int .u64 x] w fun e w'=>e=.returned (.int .u64 x)/\w'=w:=by
  go_enter func220,ntmps220;go_wp2;go_ret;exact ⟨rfl,rfl⟩
theorem qrises_keys (ao:Option Addr) (n c:Nat) (f:Nat->Int) (hn:n<4611686018427387904) (w:World) (h:KS w ao n f) :
    Calls prog 219 #[.slice ao n c,.func (.func 220) #[] #[]] w fun e w'=>(∃ r:Nat,e=.returned (.int .i64 r)/\r<=n/\(∀ j,j+1<r->f j<f (j+1))/\(r<n->1<=r/\f r<=f (r-1)))/\∃ m,w'=w.drewN m:=by
  go_enter func219,ntmps219;go_wp2_with fail;go_loopg [5] n (fun gg s5 wr=>∃ i:Nat,s5=.int .i64 i/\1<=i/\(i<=n\/i=1)/\n-i<=gg/\Aside (∀ j,j+1<i->f j<f (j+1))/\Aside (∃ m,wr=w.drewN m))
  case atStart=>exact ⟨1,rfl,Nat.le_refl _,.inr rfl,by omega,fun j hj=>by omega,⟨0,rfl⟩⟩
  case round =>
    obtain ⟨i,rfl,h1,h2,h3,H4,G⟩:=hrel;by_cases hlt:i<n
    · obtain ⟨b,off,rfl,hb,hc⟩:=(KS.drawn h G.out).cells (by omega)
      obtain ⟨m,hm⟩:∃ m:Nat,(i:Int)-1=m:=⟨i-1,by omega⟩
      have hmn:m<n:=by omega
      have hw:=wrap_nat m (by omega)
      have c1:=hc i hlt;have c0:=hc m hmn;clear hc;generalize hy1:f i=y1 at c1;generalize hy0:f m=y0 at c0;have Y:Aside (f i=y1/\f m=y0/\i=m+1):=⟨hy1,hy0,by omega⟩
      clear hy1 hy0 h h2;by_cases hle:y1<=y0
      · go_wp2_with fail
        go_quiet (first | (go_at_call 220;refine Calls.quiet_of_same (qitself_any _ _)))
        go_wp2_with fail;go_ret
        obtain ⟨e1,e2,e3⟩:=Y.out;refine ⟨⟨i,rfl,by omega,H4.out,fun _=>⟨h1,?_⟩⟩,?_⟩
        · rw [e1,show i-1=m by omega,e2];exact hle
        · obtain ⟨m,e⟩:=G.out;exact ⟨_,by rw [e,World.drewN_drewN]⟩
      · go_wp2_with fail
        go_quiet (first | (go_at_call 220;refine Calls.quiet_of_same (qitself_any _ _)))
        go_wp2_with fail;go_roundg (n-(m+2))
        case measure=>omega
        case rel =>
          obtain ⟨e1,e2,e3⟩:=Y.out;refine ⟨m+2,by go_num,by omega,by omega,Nat.le_refl _,(show Aside _ from fun j hj=>?_),(show Aside _ from by obtain ⟨m,e⟩:=G.out;exact ⟨_,by rw [e,World.drewN_drewN]⟩)⟩
          by_cases hj':j=m
          · subst hj';rw [e2,<-e3,e1];omega
          · exact H4.out j (by omega)
    · go_wp2_with fail
      go_ret
      exact ⟨⟨n,rfl,Nat.le_refl _,fun j hj=>H4.out j (by omega),fun hh=>by omega⟩,G.out⟩
theorem qrising_any (ao:Option Addr) (n c:Nat) (f:Nat->Int) (hn:n<4611686018427387904) (w:World) (h:KS w ao n f) :
    Calls prog 210 #[.slice ao n c] w fun e w'=>(∃ r:Bool,e=.returned (.bool r)/\(r=true↔Up f n))/\∃ m,w'=w.drewN m:=by
  go_enter func210,ntmps210;go_wp2_with fail;refine (qrises_keys ao n c f hn w h).mono ?_;rintro e w1 ⟨⟨r,rfl,h1,h2,h3⟩,g1⟩;have H:Hid ((∀ j,j+1<r->f j<f (j+1))/\(r<n->1<=r/\f r<=f (r-1))):=⟨h2,h3⟩;clear h2 h3;go_wp2_with fail;go_ret;obtain ⟨h2,h3⟩:=H.out;refine ⟨⟨_,rfl,?_⟩,g1⟩;unfold Up;by_cases hr:r=n
  · subst hr;simpa using h2
  · have q:=h3 (by omega)
    have:¬ ((r:Int)=n):=by omega
    simp only [beq_iff_eq];constructor
    · intro hh;omega
    · intro hh
      have:=hh (r-1) (by omega)
      rw [show r-1+1=r by omega] at this
      omega
theorem xrise_any (ao:Option Addr) (n c:Nat) (f:Nat->Int) (hn:n<4611686018427387904) (w:World) (h:KS w ao n f) :
    Calls prog 234 #[.slice ao n c] w fun e w'=>(∃ r:Bool,e=.returned (.bool r)/\(r=true↔Up f n))/\∃ m,w'=w.drewN m:=by
  have HK:Hid (Calls prog 210 #[.slice ao n c] w fun e w'=>(∃ r:Bool,e=.returned (.bool r)/\(r=true↔Up f n))/\∃ m,w'=w.drewN m):=qrising_any ao n c f hn w h
  clear h;go_enter func234,ntmps234;go_wp2_with fail;refine (HK.out).mono ?_;rintro e w1 ⟨⟨r,rfl,hr⟩,m,rfl⟩;have HR:Aside _:=hr;clear hr;go_wp2_with fail;go_ret;exact ⟨⟨r,rfl,HR.out⟩,m,rfl⟩
theorem xoff_any (k:Int) (sl ic:Nat) (fr to:Int) (k0:0<=k) (k1:k<18446744073709551616) (s1':sl<18446744073709551616) (i1':ic<18446744073709551616) (hf0:-9223372036854775808<=fr) (hf1:fr<9223372036854775808) (ht0:-9223372036854775808<=to) (ht1:to<9223372036854775808) (ao:Option Addr) (n cp:Nat) (f:Nat->Int) (hn:n<4611686018427387904) (w:World) (K:KS w ao n f) :
    Calls prog 218 #[segV k sl ic fr to,.slice ao n cp] w fun e w'=>(∃ N er:Int,e=.returned (.tuple #[.int .i64 N,.int .i64 er])/\OffR k sl ic fr to n f N er)/\Gw w w':=by
  have G0:Aside (Gw w (w.alloc (.cells #[.int .u64 k,.float .f64 sl,.float .f64 ic,.int .i64 fr,.int .i64 to] 110))):=(Gw.refl w).alloc _ _;have C:Hid _:=fun W=>xcheck_any k sl ic fr to s1' i1' W
  have GU:Hid _:=fun (he:errM sl ic fr to=0) (q:Int) (q0:0<=q) (q1:q<18446744073709551616) W=>predict_any k sl ic fr to q k0 k1 q0 q1 he W
  have RI:Hid _:=fun W (g:Gw w W)=>xrise_any ao n cp f hn W (K.gw g)
  have K':Hid _:=K;clear K;by_cases h:errM sl ic fr to=0
  · obtain ⟨a,b,c,d,e⟩:=errM_ok.1 h
    have h':Aside _:=h;rw [h] at C;clear h d e;go_enter func218,ntmps218;go_wp2_with fail;refine (C.out _).mono ?_;rintro ex w1 ⟨rfl,g1⟩;have x0:w1.cell? ⟨w.heap.size,0,none⟩=some (.int .u64 k):=(g1.cell _ _ (by simp)).trans (by simp [go_sem])
    have x1:w1.cell? ⟨w.heap.size,1,none⟩=some (.float .f64 sl):=(g1.cell _ _ (by simp)).trans (by simp [go_sem])
    have x2:w1.cell? ⟨w.heap.size,2,none⟩=some (.float .f64 ic):=(g1.cell _ _ (by simp)).trans (by simp [go_sem])
    have x3:w1.cell? ⟨w.heap.size,3,none⟩=some (.int .i64 fr):=(g1.cell _ _ (by simp)).trans (by simp [go_sem])
    have x4:w1.cell? ⟨w.heap.size,4,none⟩=some (.int .i64 to):=(g1.cell _ _ (by simp)).trans (by simp [go_sem])
    have s1:w.heap.size<w1.heap.size:=by have:=g1.size;simp at this;omega
    have G:Aside _:=G0.out.trans g1;clear g1 G0 C;obtain ⟨S,hS⟩:∃ S,to-fr=S:=⟨_,rfl⟩;have wz:IntKind.i64.wrap (to-fr)=S:=by rw [IntKind.wrap_i64];omega
    have BOX:Hid (∀ w',Gw w1 w'->w'.cell? ⟨w.heap.size,0,none⟩=some (.int .u64 k)/\w'.cell? ⟨w.heap.size,1,none⟩=some (.float .f64 sl)/\w'.cell? ⟨w.heap.size,2,none⟩=some (.float .f64 ic)/\w'.cell? ⟨w.heap.size,3,none⟩=some (.int .i64 fr)/\w'.cell? ⟨w.heap.size,4,none⟩=some (.int .i64 to)) :=
      fun w' g=>⟨(g.cell _ _ s1).trans x0,(g.cell _ _ s1).trans x1,(g.cell _ _ s1).trans x2,(g.cell _ _ s1).trans x3,(g.cell _ _ s1).trans x4⟩
    by_cases h1:(n:Int)=S
    · have n0:0<n:=by omega
      obtain ⟨bk,off,rfl,hb,hc⟩:=(K'.out.gw G.out).cells n0;have t1:((n:Int) != S)=false:=by simpa using h1
      have c0:w1.cell? ⟨bk,off,none⟩=some (.int .u64 (f 0)):=hc 0 n0;obtain ⟨f0,hf⟩:∃ f0,f 0=f0:=⟨_,rfl⟩;rw [hf] at c0;have hfd:(f 0=k)↔(f0=k):=by rw [hf]
      by_cases hu:Up f n
      · have U:Aside (Up f n):=hu
        have RT:Hid (∀ m,Calls prog 234 #[.slice (some ⟨bk,off,none⟩) n cp] (w1.drewN m) fun e w'=>e=.returned (.bool true)/\∃ m',w'=(w1.drewN m).drewN m'):=fun m =>
          (RI.out (w1.drewN m) (G.out.drewN m)).mono fun ex w' (hx:(∃ r:Bool,ex=.returned (.bool r)/\(r=true↔Up f n))/\∃ m',w'=(w1.drewN m).drewN m')=>⟨(by
            obtain ⟨⟨r,e1,e2⟩,-⟩:=hx;have:r=true:=by exact e2.2 hu
            rw [e1,this]),hx.2⟩
        clear hu RI;by_cases h2:f0=k
        · have t2:(f0 != k)=false:=by simpa using h2
          have FC:Aside ((n:Int)=to-fr/\f 0=k/\∀ i,i<n->w1.cell? ⟨bk,off+i,none⟩=some (.int .u64 (f i))):=⟨h1.trans hS.symm,hf.trans h2,hc⟩;clear h1 h2 hf hS hc hfd;go_wp2_with fail;go_quiet (first | (go_at_call 234;refine Calls.quiet_of (RT.out _)))
          go_wp2_with fail;go_loopg [7,39] n (fun gg s7 s8 wr=>∃ i:Nat,s7=.int .i64 (worst (away k sl ic fr to f) i)/\s8=.int .i64 i/\i<=n/\n-i<=gg/\Aside (Gw w1 wr))
          case atStart=>exact ⟨0,rfl,rfl,Nat.zero_le _,by omega,(Gw.refl _).drewN _⟩
          case round =>
            obtain ⟨i,rfl,rfl,h2,h3,GR⟩:=hrel;by_cases hlt:i<n
            · obtain ⟨y0,y1,y2,y3,y4⟩:=BOX.out _ GR.out
              have ci:=(GR.out.cell _ _ hb).trans (FC.out.2.2 i hlt);have lb:=Nat.lt_of_lt_of_le hb GR.out.size;have ls:=Nat.lt_of_lt_of_le s1 GR.out.size;have bi:=K'.out.bd i hlt;have aw:=away_bd h'.out k0 FC.out.1 K'.out.bd;have gin:=guessV_in (q:=f i) h'.out k0 bi.2;have wi:=(worst_in (away k sl ic fr to f) i).1;have wl:=worst_le (g:=away k sl ic fr to f) (M:=4294967296) (by decide) i (fun j hj=>aw j (by omega))
              have ai:=aw i hlt;clear aw;have ae:away k sl ic fr to f i=guessV k sl ic fr to (f i)-(fr+i):=rfl;have WS:Aside (worst (away k sl ic fr to f) (i+1)=max (max (worst (away k sl ic fr to f) i) (away k sl ic fr to f i)) (-(away k sl ic fr to f i))):=rfl;have GI:Hid _:=fun W=>GU.out h'.out (f i) bi.1 bi.2 W
              generalize worst (away k sl ic fr to f) i=Wi at *;generalize guessV k sl ic fr to (f i)=gi at *;generalize away k sl ic fr to f i=D at *;obtain ⟨E,hE⟩:∃ E,fr+(i:Int)=E:=⟨_,rfl⟩;rw [hE] at ae;obtain ⟨M,hM⟩:∃ M,-D=M:=⟨_,rfl⟩;rw [hM] at WS;have hin:(i:Int)<to-fr:=by have:=FC.out.1;omega
              have z1:IntKind.i64.wrap (fr+(i:Int))=E:=by rw [IntKind.wrap_i64];omega
              have z2:IntKind.i64.wrap (gi-E)=D:=by rw [IntKind.wrap_i64];omega
              have z3:IntKind.i64.wrap (-D)=M:=by rw [IntKind.wrap_i64];omega
              generalize f i=yi at *;clear ae hE hM wi wl ai gin bi hin;rename_i wr _ _ _ _;have HW:Hid (∀ w',Gw wr w'->Gw wr w'/\w'.cell? ⟨w.heap.size,0,none⟩=some (.int .u64 k)/\w'.cell? ⟨w.heap.size,1,none⟩=some (.float .f64 sl)/\w'.cell? ⟨w.heap.size,2,none⟩=some (.float .f64 ic)/\w'.cell? ⟨w.heap.size,3,none⟩=some (.int .i64 fr)/\w'.cell? ⟨w.heap.size,4,none⟩=some (.int .i64 to)/\w'.cell? ⟨bk,off+i,none⟩=some (.int .u64 yi)) :=
                fun w' g=>⟨g,(g.cell _ _ ls).trans y0,(g.cell _ _ ls).trans y1,(g.cell _ _ ls).trans y2,(g.cell _ _ ls).trans y3,(g.cell _ _ ls).trans y4,(g.cell _ _ lb).trans ci⟩
              clear x0 x1 x2 x3 x4 s1 RT c0 hb GU BOX;go_wp2_with fail;go_region_held3 (fun w'=>Gw wr w'/\w'.cell? ⟨w.heap.size,0,none⟩=some (.int .u64 k)/\w'.cell? ⟨w.heap.size,1,none⟩=some (.float .f64 sl)/\w'.cell? ⟨w.heap.size,2,none⟩=some (.float .f64 ic)/\w'.cell? ⟨w.heap.size,3,none⟩=some (.int .i64 fr)/\w'.cell? ⟨w.heap.size,4,none⟩=some (.int .i64 to)/\w'.cell? ⟨bk,off+i,none⟩=some (.int .u64 yi))
                ((refine HW.out _ ?_;(repeat (first | exact Gw.refl _ | exact And.left (by assumption) | exact Hid.out (by assumption) | refine Gw.drew ?_ | refine Gw.trans ?_ (by assumption)));done))
                ((go_at_call 217;refine (GI.out _).mono ?_;rintro ex w3 ⟨rfl,g3⟩;have G3:Hid (Gw wr w3):=(Gw.trans (by repeat (first | exact Gw.refl _ | exact And.left (by assumption) | exact Hid.out (by assumption) | refine Gw.drew ?_)) g3);clear g3))
              all_goals go_wp2_with fail
              all_goals
                go_roundg (n-(i+1))
                case measure=>omega
                case rel =>
                  refine ⟨i+1,?_,by go_num,hlt,Nat.le_refl _,(show Aside _ from GR.out.trans (by repeat (first | exact Gw.refl _ | exact And.left (by assumption) | exact Hid.out (by assumption) | refine Gw.drew ?_ | refine Gw.trans ?_ (by assumption))))⟩
                  rw [WS.out];exact congrArg (Value.int .i64) (show (_:Int)=max (max Wi D) M by first | omega | (simp only [*] at *;omega))
            · have e:i=n:=by omega
              subst e;have R:Aside (OffR k sl ic fr to i f (worst (away k sl ic fr to f) i) 0):=.inr (.inr ⟨h'.out,⟨FC.out.1,FC.out.2.1,U.out⟩,rfl,rfl⟩);generalize worst (away k sl ic fr to f) i=Wi at *;go_wp2_with fail;exact bodyPost_ret (v:=.tuple #[.int .i64 Wi,.int .i64 0]) (by simp [results,results218,go_sem]) rfl ⟨⟨Wi,0,rfl,R.out⟩,G.out.trans GR.out⟩
        · have t2:(f0 != k)=true:=by simpa using h2
          have R:Aside (OffR k sl ic fr to n f 0 1):=.inr (.inl ⟨h'.out,fun q=>h2 (hfd.1 q.2.1),rfl,rfl⟩)
          clear h1 hS h2 hf hc hfd GU;go_wp2_with fail;go_quiet (first | (go_at_call 234;refine Calls.quiet_of (RT.out _)))
          go_wp2_with fail;exact bodyPost_ret (v:=.tuple #[.int .i64 0,.int .i64 1]) (by simp [results,results218,go_sem]) rfl ⟨⟨0,1,rfl,R.out⟩,G.out.drewN _⟩
      · have R:Aside (OffR k sl ic fr to n f 0 1):=.inr (.inl ⟨h'.out,fun q=>hu q.2.2,rfl,rfl⟩)
        have RT:Hid (∀ m,Calls prog 234 #[.slice (some ⟨bk,off,none⟩) n cp] (w1.drewN m) fun e w'=>e=.returned (.bool false)/\∃ m',w'=(w1.drewN m).drewN m'):=fun m =>
          (RI.out (w1.drewN m) (G.out.drewN m)).mono fun ex w' (hx:(∃ r:Bool,ex=.returned (.bool r)/\(r=true↔Up f n))/\∃ m',w'=(w1.drewN m).drewN m')=>⟨(by
            obtain ⟨⟨r,e1,e2⟩,-⟩:=hx;have:r=false:=by cases r;rfl;exact absurd (e2.1 rfl) hu
            rw [e1,this]),hx.2⟩
        clear h1 hS hf hc hfd GU RI hu;go_wp2_with fail;go_quiet (first | (go_at_call 234;refine Calls.quiet_of (RT.out _)))
        go_wp2_with fail;exact bodyPost_ret (v:=.tuple #[.int .i64 0,.int .i64 1]) (by simp [results,results218,go_sem]) rfl ⟨⟨0,1,rfl,R.out⟩,G.out.drewN _⟩
    · have t1:((n:Int) != S)=true:=by simpa using h1
      have R:Aside (OffR k sl ic fr to n f 0 1):=.inr (.inl ⟨h'.out,fun q=>h1 (q.1.trans hS),rfl,rfl⟩)
      clear h1 hS RI GU;go_wp2_with fail;go_quiet (fail);go_wp2_with fail;exact bodyPost_ret (v:=.tuple #[.int .i64 0,.int .i64 1]) (by simp [results,results218,go_sem]) rfl ⟨⟨0,1,rfl,R.out⟩,G.out.drewN _⟩
  · have t1:(errM sl ic fr to != 0)=true:=by simpa using h
    have R:Aside (OffR k sl ic fr to n f 0 (errM sl ic fr to)):=.inl ⟨h,rfl,rfl⟩;generalize errM sl ic fr to=er at *;clear h GU RI;go_enter func218,ntmps218;go_wp2_with fail;refine (C.out _).mono ?_;rintro ex w1 ⟨rfl,g1⟩;have G:Aside _:=G0.out.trans g1;clear g1 G0;go_wp2_with fail;exact bodyPost_ret (v:=.tuple #[.int .i64 0,.int .i64 er]) (by simp [results,results218,go_sem]) rfl ⟨⟨0,er,rfl,R.out⟩,G.out⟩
end Go.Proofs.YtpoohadckhphpaaGreat
