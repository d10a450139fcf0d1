/- Small walks: what is no number, what is infinite, bits of floats, leading zeros, products of two words. -/
import Derived.Test.YtfoliapennaneaaDiv64
import Derived.Test.YtfoliapennaneaaFMath2
import Derived.Deep.QuietTactic
import Derived.BigQuiet
import Derived.Laws.BitsAllLaws
namespace Go.Proofs.Ytfoliapennaneaa
open Go.RowKit Go.Shelf
set_option linter.unusedVariables false

theorem f64bits (b : Nat) (w : World) : (callFunc 12 #[.float .f64 b]).run Try.prog w = .ok (.value (.int .u64 b)) w := by
  rw [run_callFunc_extern Try.func12 (by kernel_rfl) (by kernel_rfl) (by kernel_rfl) (e := Extern.MathFloatBits.float64bits) (by kernel_rfl)]
  rfl
theorem f64from (n : Int) (w : World) : (callFunc 13 #[.int .u64 n]).run Try.prog w = .ok (.value (.float .f64 n.toNat)) w := by
  rw [run_callFunc_extern Try.func13 (by kernel_rfl) (by kernel_rfl) (by kernel_rfl) (e := Extern.MathFloatBits.float64frombits) (by kernel_rfl)]
  rfl

theorem fmt : FloatKind.f64.format = Ieee.double := rfl

theorem self_ne (x : Nat) : (FloatKind.f64.format.order x x != some .eq) = decide (9218868437227405312 < rg x) := by
  rw [fmt]
  rcases Nat.lt_trichotomy (rg x) 9218868437227405312 with h | h | h
  · rw [f_ne h h]; simp; omega
  · unfold Ieee.Format.order; rw [read_inf h]
    simp [Ieee.Datum.order, h]
  · unfold Ieee.Format.order; rw [read_nan h]
    simp [Ieee.Datum.order, h]

theorem isnan (x : Nat) (w : World) :
    Calls Try.prog 27 #[.float .f64 x] w fun e w' => e = .returned (.bool (decide (9218868437227405312 < rg x))) ∧ w' = w := by
  have h := self_ne x
  go_enter Try.func27, Try.ntmps27
  go_wp2
  go_ret
  exact ⟨rfl, rfl⟩

theorem cisnan (x : Nat) (w : World) :
    Calls Try.prog 39 #[.float .f64 x] w fun e w' => e = .returned (.bool (decide (9218868437227405312 < rg x))) ∧ w' = w := by
  have h := self_ne x
  go_enter Try.func39, Try.ntmps39
  go_wp2
  go_ret
  exact ⟨rfl, rfl⟩

theorem andnot_top (x : Nat) (hx : x < 18446744073709551616) : bits .andNot .u64 (x : Int) 9223372036854775808 = ((rg x : Nat) : Int) := by
  have := u64_andNot_nat x 9223372036854775808 hx (by decide)
  rw [show ((9223372036854775808 : Nat) : Int) = 9223372036854775808 from rfl] at this
  rw [this, show (18446744073709551615 - 9223372036854775808 : Nat) = 2 ^ 63 - 1 from rfl, Nat.and_two_pow_sub_one_eq_mod]
  rfl
theorem rg_lt (x : Nat) : rg x < 9223372036854775808 := Nat.mod_lt _ (by decide)
theorem rg_rg (x : Nat) : rg (rg x) = rg x := Nat.mod_eq_of_lt (rg_lt x)
theorem sg_rg (x : Nat) : sg (rg x) = false := by
  have := rg_lt x; unfold sg; simp; omega

theorem abs_any (x : Nat) (hx : x < 18446744073709551616) (w : World) :
    Calls Try.prog 38 #[.float .f64 x] w fun e w' => e = .returned (.float .f64 (rg x)) ∧ w' = w := by
  have h := andnot_top x hx
  go_enter Try.func38, Try.ntmps38
  go_wp2_with (first | simp only [f64bits] | simp only [f64from])
  go_ret
  exact ⟨rfl, rfl⟩

theorem SV_rg (x : Nat) : SV (rg x) = V (rg x) := by unfold SV; rw [sg_rg, rg_rg]; rfl

theorem above_max (x : Nat) : (FloatKind.f64.format.order (rg x) 9218868437227405311 == some .gt) = decide (rg x = 9218868437227405312) := by
  rw [fmt]
  have hm : rg 9218868437227405311 < 9218868437227405312 := by decide
  rcases Nat.lt_trichotomy (rg x) 9218868437227405312 with h | h | h
  · rw [f_gt (by rw [rg_rg]; exact h) hm]
    have e1 : SV 9218868437227405311 = V 9218868437227405311 := SV_rg 9218868437227405311
    rw [SV_rg, e1]
    have : V (rg x) ≤ V 9218868437227405311 := V_le (by omega)
    simp; omega
  · unfold Ieee.Format.order; rw [read_inf (by rw [rg_rg]; exact h), read_fin hm, sg_rg]
    simp [Ieee.Datum.order, h]
  · unfold Ieee.Format.order; rw [read_nan (by rw [rg_rg]; exact h), read_fin hm]
    simp [Ieee.Datum.order]; omega

theorem isinf (x : Nat) (hx : x < 18446744073709551616) (w : World) :
    Calls Try.prog 28 #[.float .f64 x, .int .i64 0] w fun e w' => e = .returned (.bool (decide (rg x = 9218868437227405312))) ∧ w' = w := by
  have h := above_max x
  go_enter Try.func28, Try.ntmps28
  go_wp2_with (go_at_call 38; refine (abs_any x hx _).mono ?_; rintro e w' ⟨rfl, rfl⟩)
  go_ret
  exact ⟨rfl, rfl⟩

theorem divisor_any (a b : Nat) (ha : a < 18446744073709551616) (hb : b < 18446744073709551616) (w : World) :
    Calls Try.prog 26 #[.int .u64 a, .int .u64 b] w fun e w' => e = .returned (.int .u64 (Nat.gcd a b : Nat)) ∧ w' = w := by
  go_enter Try.func26, Try.ntmps26
  go_wp2
  go_loop [0, 1] (fun p q => ∃ c d : Nat, p = .int .u64 c ∧ q = .int .u64 d ∧ c < 18446744073709551616 ∧ d < 18446744073709551616 ∧ Hid (Nat.gcd c d = Nat.gcd a b)) (fun p _ => (intOf p).toNat)
  case atStart => exact ⟨a, b, rfl, rfl, ha, hb, rfl⟩
  case round =>
    obtain ⟨c, d, rfl, rfl, hc, hd, hg⟩ := hrel
    by_cases h : c = 0
    · have h1 : ((c : Int) == 0) = true := by simp; omega
      have e : Hid (a.gcd b = d) := by
        have := hg.out
        rw [h, Nat.gcd_zero_left] at this
        exact this.symm
      clear hg h
      go_wp2
      go_ret
      exact ⟨by rw [e.out]; rfl, rfl⟩
    · have h1 : ((c : Int) == 0) = false := by simp; omega
      have h2 : (d : Int) % c = ((d % c : Nat) : Int) := (Int.natCast_emod d c).symm
      have h3 : d % c < c := Nat.mod_lt _ (by omega)
      go_wp2
      exact ⟨⟨d % c, c, by first | rfl | rw [h2], rfl, by omega, hc, show _ = _ by rw [← hg.out]; exact (Nat.gcd_rec c d).symm⟩, by simp [intOf]; omega⟩

end Go.Proofs.Ytfoliapennaneaa
