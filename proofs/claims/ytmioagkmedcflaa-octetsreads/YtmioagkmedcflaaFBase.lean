/- Small walks: what is no number, what is infinite, bits of floats. -/
import Derived.Test.YtmioagkmedcflaaNBase
import Derived.Test.YtmioagkmedcflaaFMath2
import Derived.Deep.QuietTactic
import Derived.BigQuiet
import Derived.Laws.BitsAllLaws
namespace Go.Proofs.Ytmioagkmedcflaa
open Go.RowKit
set_option linter.unusedVariables false

theorem f64bits (b : Nat) (w : World) : (callFunc 25 #[.float .f64 b]).run Try.prog w = .ok (.value (.int .u64 b)) w := by
  rw [run_callFunc_extern Try.func25 (by kernel_rfl) (by kernel_rfl) (by kernel_rfl) (e := Extern.MathFloatBits.float64bits) (by kernel_rfl)]
  rfl
theorem f64from (n : Int) (w : World) : (callFunc 8 #[.int .u64 n]).run Try.prog w = .ok (.value (.float .f64 n.toNat)) w := by
  rw [run_callFunc_extern Try.func8 (by kernel_rfl) (by kernel_rfl) (by kernel_rfl) (e := Extern.MathFloatBits.float64frombits) (by kernel_rfl)]
  rfl

theorem fmt : FloatKind.f64.format = Ieee.double := rfl

theorem self_ne (x : Nat) : (FloatKind.f64.format.order x x != some .eq) = decide (9218868437227405312 < rg x) := by
  rw [fmt]
  rcases Nat.lt_trichotomy (rg x) 9218868437227405312 with h | h | h
  · rw [f_ne h h]; simp; omega
  · unfold Ieee.Format.order; rw [read_inf h]
    simp [Ieee.Datum.order, h]
  · unfold Ieee.Format.order; rw [read_nan h]
    simp [Ieee.Datum.order, h]



theorem andnot_top (x : Nat) (hx : x < 18446744073709551616) : bits .andNot .u64 (x : Int) 9223372036854775808 = ((rg x : Nat) : Int) := by
  have := u64_andNot_nat x 9223372036854775808 hx (by decide)
  rw [show ((9223372036854775808 : Nat) : Int) = 9223372036854775808 from rfl] at this
  rw [this, show (18446744073709551615 - 9223372036854775808 : Nat) = 2 ^ 63 - 1 from rfl, Nat.and_two_pow_sub_one_eq_mod]
  rfl
theorem rg_lt (x : Nat) : rg x < 9223372036854775808 := Nat.mod_lt _ (by decide)
theorem rg_rg (x : Nat) : rg (rg x) = rg x := Nat.mod_eq_of_lt (rg_lt x)
theorem sg_rg (x : Nat) : sg (rg x) = false := by
  have := rg_lt x; unfold sg; simp; omega


theorem SV_rg (x : Nat) : SV (rg x) = V (rg x) := by unfold SV; rw [sg_rg, rg_rg]; rfl

theorem above_max (x : Nat) : (FloatKind.f64.format.order (rg x) 9218868437227405311 == some .gt) = decide (rg x = 9218868437227405312) := by
  rw [fmt]
  have hm : rg 9218868437227405311 < 9218868437227405312 := by decide
  rcases Nat.lt_trichotomy (rg x) 9218868437227405312 with h | h | h
  · rw [f_gt (by rw [rg_rg]; exact h) hm]
    have e1 : SV 9218868437227405311 = V 9218868437227405311 := SV_rg 9218868437227405311
    rw [SV_rg, e1]
    have : V (rg x) ≤ V 9218868437227405311 := V_le (by omega)
    simp; omega
  · unfold Ieee.Format.order; rw [read_inf (by rw [rg_rg]; exact h), read_fin hm, sg_rg]
    simp [Ieee.Datum.order, h]
  · unfold Ieee.Format.order; rw [read_nan (by rw [rg_rg]; exact h), read_fin hm]
    simp [Ieee.Datum.order]; omega


end Go.Proofs.Ytmioagkmedcflaa
