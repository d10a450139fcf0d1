/- Clamp: a float rounded down and brought into two bounds; the program's and the document's answer are one. -/
import Derived.Test.YtfoliapennaneaaRBase
import Derived.Test.YtfoliapennaneaaFMath3
namespace Go.Proofs.Ytfoliapennaneaa
open Go.RowKit Go.Shelf
set_option linter.unusedVariables false

def cMin (x : Nat) : Bool := Ieee.double.order x 14114281232179134464 == some .lt
def cMax (x : Nat) : Bool := Ieee.double.order x 4890909195324358656 == some .gt || Ieee.double.order x 4890909195324358656 == some .eq

theorem V_two (k : Nat) : V ((k + 1023) * 4503599627370496) = 2 ^ k * Un := by
  have := V_form (k + 1022) 4503599627370496 (by decide) (.inl (by decide))
  rw [show (k + 1022) * 4503599627370496 + 4503599627370496 = (k + 1023) * 4503599627370496 by omega] at this
  rw [this, show (4503599627370496 : Nat) = 2 ^ 52 from rfl, ← Nat.pow_add, Un_pow, show 52 + (k + 1022) = k + 1074 by omega]
theorem V63 : V 4890909195324358656 = 9223372036854775808 * Un := by
  have h := V_two 63
  rw [show (63 + 1023) * 4503599627370496 = 4890909195324358656 from rfl, show (2 : Nat) ^ 63 = 9223372036854775808 from rfl] at h
  exact h
theorem SVmax : SV 4890909195324358656 = 9223372036854775808 * (Un : Int) := by
  unfold SV; rw [show sg 4890909195324358656 = false from rfl, show rg 4890909195324358656 = 4890909195324358656 from rfl, V63]; simp
theorem SVmin : SV 14114281232179134464 = -(9223372036854775808 * (Un : Int)) := by
  unfold SV; rw [show sg 14114281232179134464 = true from rfl, show rg 14114281232179134464 = 4890909195324358656 from rfl, V63]; simp

theorem clamp_in {x : Nat} (h : ¬ 9218868437227405312 < rg x) (h1 : cMin x = false) (h2 : cMax x = false) :
    rg x < 9218868437227405312 ∧ -9223372036854775808 ≤ flo x ∧ flo x < 9223372036854775808 ∧ -9223372036854775808 ≤ tru x ∧ tru x < 9223372036854775808 := by
  have hU := Un_pos
  rcases Nat.lt_or_ge (rg x) 9218868437227405312 with k | k
  · unfold cMin at h1; unfold cMax at h2
    rw [f_lt k (by decide), SVmin] at h1
    rw [f_ge k (by decide), SVmax] at h2
    simp only [decide_eq_false_iff_not] at h1 h2
    have f0 : -9223372036854775808 ≤ flo x := by
      unfold flo
      refine (Int.le_ediv_iff_mul_le (by omega)).2 ?_
      omega
    have f1 : flo x < 9223372036854775808 := by
      unfold flo
      refine (Int.ediv_lt_iff_lt_mul (by omega)).2 ?_
      omega
    obtain ⟨t1, t2⟩ := tru_flo x
    by_cases c : SV x < tru x * Un
    · have := t1 c
      refine ⟨k, f0, f1, by omega, ?_⟩
      by_cases s : sg x = true
      · unfold tru; rw [if_pos s]
        generalize V (rg x) / Un = q
        omega
      · exfalso
        have s' : sg x = false := by simpa using s
        have e1 := flo_eq x
        rw [s'] at e1
        unfold tru at this; rw [s'] at this
        simp at e1 this; omega
    · have := t2 c
      exact ⟨k, f0, f1, by omega, by omega⟩
  · have e : rg x = 9218868437227405312 := by omega
    exfalso
    unfold cMin Ieee.Format.order at h1; unfold cMax Ieee.Format.order at h2
    rw [read_inf e, read_fin (show rg 14114281232179134464 < 9218868437227405312 by decide)] at h1
    rw [read_inf e, read_fin (show rg 4890909195324358656 < 9218868437227405312 by decide)] at h2
    cases hs : sg x <;> rw [hs] at h1 h2 <;> simp [Ieee.Datum.order] at h1 h2

theorem clamp_not {x : Nat} (h : ¬ 9218868437227405312 < rg x) (h1 : cMin x = true) : cMax x = false := by
  have hU := Un_pos
  unfold cMin at h1; unfold cMax
  rcases Nat.lt_or_ge (rg x) 9218868437227405312 with k | k
  · rw [f_lt k (by decide), SVmin] at h1
    rw [f_ge k (by decide), SVmax]
    simp only [decide_eq_true_eq] at h1
    exact decide_eq_false (by omega)
  · have e : rg x = 9218868437227405312 := by omega
    unfold Ieee.Format.order at h1 ⊢
    rw [read_inf e, read_fin (show rg 14114281232179134464 < 9218868437227405312 by decide)] at h1
    rw [read_inf e, read_fin (show rg 4890909195324358656 < 9218868437227405312 by decide)]
    cases hs : sg x <;> rw [hs] at h1 <;> simp [Ieee.Datum.order] at h1 ⊢

def clampv (x : Nat) (lo hi : Int) : Int :=
  if hi < lo ∨ 9218868437227405312 < rg x then lo else if cMin x then lo else if cMax x then hi else min (max (flo x) lo) hi

theorem archfloor {x : Nat} (hx : rg x < 9218868437227405312) (w : World) : (callFunc 43 #[.float .f64 x]).run Try.prog w = .ok (.value (.float .f64 (flb x))) w := by
  rw [run_callFunc_extern Try.func43 (by kernel_rfl) (by kernel_rfl) (by kernel_rfl) (e := Extern.MathFloor.toIntegral "math.archFloor" .down) (by kernel_rfl)]
  have key : Extern.MathFloor.toIntegral "math.archFloor" .down #[.float .f64 x] = pure (.float .f64 (flb x)) := by
    unfold flb
    have e := read_fin hx
    delta Extern.MathFloor.toIntegral
    conv => lhs; whnf
    rw [show FloatKind.f64.decode x = _ from e, e]
    rfl
  rw [key]
  rfl

theorem floor_any {x : Nat} (hx : rg x < 9218868437227405312) (w : World) :
    Calls Try.prog 35 #[.float .f64 x] w fun e w' => e = .returned (.float .f64 (flb x)) ∧ w' = w := by
  go_enter Try.func35, Try.ntmps35
  go_wp2_with (simp only [archfloor hx])
  go_ret
  exact ⟨rfl, rfl⟩

theorem clamp_last {x : Nat} (lo hi : Int) (h0 : -9223372036854775808 ≤ lo) (h1 : lo < 9223372036854775808) (h2 : -9223372036854775808 ≤ hi) (h3 : hi < 9223372036854775808)
    (hl : ¬ hi < lo) (hn : ¬ 9218868437227405312 < rg x) (hx : rg x < 9218868437227405312) (c1 : (FloatKind.f64.format.order x 14114281232179134464 == some .lt) = false) (c2 : (FloatKind.f64.format.order x 4890909195324358656 == some .gt || FloatKind.f64.format.order x 4890909195324358656 == some .eq) = false)
    (n : Int) (n0 : -9223372036854775808 ≤ n) (n1 : n < 9223372036854775808) (hc : ∀ w, (convert 24 2 (.float .f64 (flb x))).run Try.prog w = .ok (.int .i64 n) w) (w : World) :
    Calls Try.prog 19 #[.float .f64 x, .int .i64 lo, .int .i64 hi] w fun e w' => e = .returned (.int .i64 (min (max n lo) hi)) ∧ w' = w := by
  go_enter Try.func19, Try.ntmps19
  go_wp2_with (first | (go_at_call 27; refine (isnan x _).mono ?_; rintro e w' ⟨rfl, rfl⟩) | (go_at_call 35; refine (floor_any hx _).mono ?_; rintro e w' ⟨rfl, rfl⟩))
  go_ret
  exact ⟨rfl, rfl⟩

theorem clamp_any (x : Nat) (lo hi : Int) (h0 : -9223372036854775808 ≤ lo) (h1 : lo < 9223372036854775808) (h2 : -9223372036854775808 ≤ hi) (h3 : hi < 9223372036854775808) (w : World) :
    Calls Try.prog 19 #[.float .f64 x, .int .i64 lo, .int .i64 hi] w fun e w' => e = .returned (.int .i64 (clampv x lo hi)) ∧ w' = w := by
  unfold clampv
  by_cases hl : hi < lo
  · rw [if_pos (.inl hl)]
    go_enter Try.func19, Try.ntmps19
    go_wp2
    go_ret
    exact ⟨rfl, rfl⟩
  · by_cases hn : 9218868437227405312 < rg x
    · rw [if_pos (.inr hn)]
      go_enter Try.func19, Try.ntmps19
      go_wp2_with (go_at_call 27; refine (isnan x _).mono ?_; rintro e w' ⟨rfl, rfl⟩)
      go_ret
      exact ⟨rfl, rfl⟩
    · rw [if_neg (by omega)]
      cases c1 : cMin x
      · cases c2 : cMax x
        · obtain ⟨hx, f0, f1, -, -⟩ := clamp_in hn c1 c2
          exact clamp_last lo hi h0 h1 h2 h3 hl hn hx c1 c2 (flo x) f0 f1 (fun w => run_convert_float_int w _ _ _ _ _ _ (by kernel_rfl) (by kernel_rfl) (toVal_flb hx f0 f1)) w
        · have c1' : (FloatKind.f64.format.order x 14114281232179134464 == some .lt) = false := c1
          have c2' : (FloatKind.f64.format.order x 4890909195324358656 == some .gt || FloatKind.f64.format.order x 4890909195324358656 == some .eq) = true := c2
          clear c1 c2
          rw [if_neg (by decide), if_pos rfl]
          go_enter Try.func19, Try.ntmps19
          go_wp2_with (go_at_call 27; refine (isnan x _).mono ?_; rintro e w' ⟨rfl, rfl⟩)
          go_ret
          exact ⟨rfl, rfl⟩
      · have c1' : (FloatKind.f64.format.order x 14114281232179134464 == some .lt) = true := c1
        clear c1
        rw [if_pos rfl]
        go_enter Try.func19, Try.ntmps19
        go_wp2_with (go_at_call 27; refine (isnan x _).mono ?_; rintro e w' ⟨rfl, rfl⟩)
        go_ret
        exact ⟨rfl, rfl⟩

end Go.Proofs.Ytfoliapennaneaa
