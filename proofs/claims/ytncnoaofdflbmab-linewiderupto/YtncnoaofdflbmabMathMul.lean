/- Plain arithmetic of products in digits of 16 bits: no Go in it. -/
import Derived.Test.YtncnoaofdflbmabMathDig
namespace Go.Proofs.Ytncnoaofdflbmab
open Go.RowKit
set_option linter.unusedVariables false

/-- What a product by one digit carries into a digit. -/
def mc (a y : Int) (k : Nat) : Int := a * (y % 65536 ^ k) / 65536 ^ k
theorem mc_zero (a y : Int) : mc a y 0 = 0 := by unfold mc; simp
theorem mc_bd (a y : Int) (k : Nat) (a0 : 0 ≤ a) (a1 : a < 65536) : 0 ≤ mc a y k ∧ mc a y k ≤ 65535 := by
  unfold mc
  have hP := pw k
  have b0 := Int.emod_nonneg y (b := 65536 ^ k) (by omega)
  have b1 := Int.emod_lt_of_pos y hP
  have m0 : 0 ≤ a * (y % 65536 ^ k) := Int.mul_nonneg a0 b0
  have m1 : a * (y % 65536 ^ k) ≤ 65535 * (y % 65536 ^ k) := Int.mul_le_mul_of_nonneg_right (by omega) b0
  have h1 : a * (y % 65536 ^ k) / 65536 ^ k < 65536 := Int.ediv_lt_of_lt_mul hP (by omega)
  exact ⟨Int.ediv_nonneg m0 (by omega), by omega⟩
theorem mul_bd (a d : Int) (a0 : 0 ≤ a) (a1 : a < 65536) (d0 : 0 ≤ d) (d1 : d < 65536) : 0 ≤ a * d ∧ a * d ≤ 4294836225 := by
  have m1 : a * d ≤ 65535 * d := Int.mul_le_mul_of_nonneg_right (by omega) d0
  exact ⟨Int.mul_nonneg a0 d0, by omega⟩
theorem mc_sum (a y : Int) (k : Nat) : a * y / 65536 ^ k = mc a y k + a * (y / 65536 ^ k) := by
  unfold mc
  have hP := pw k
  have e := Int.mul_ediv_add_emod y (65536 ^ k)
  have e2 : a * y = a * (y % 65536 ^ k) + a * (y / 65536 ^ k) * 65536 ^ k := by
    have : a * y = a * (65536 ^ k * (y / 65536 ^ k) + y % 65536 ^ k) := by rw [e]
    rw [this, Int.mul_add, Int.mul_comm (65536 ^ k), ← Int.mul_assoc]; omega
  rw [e2, Int.add_mul_ediv_right _ _ (by omega)]
theorem mc_digit (a y : Int) (k : Nat) : (a * dg y k + mc a y k) % 65536 = dg (a * y) k := by
  unfold dg
  rw [mc_sum]
  generalize mc a y k = c
  generalize y / 65536 ^ k = q
  have e := Int.mul_ediv_add_emod q 65536
  have e2 : a * q = a * (q % 65536) + a * (q / 65536) * 65536 := by
    have : a * q = a * (65536 * (q / 65536) + q % 65536) := by rw [e]
    rw [this, Int.mul_add, Int.mul_comm 65536, ← Int.mul_assoc]; omega
  omega
theorem mc_next (a y : Int) (k : Nat) : (a * dg y k + mc a y k) / 65536 = mc a y (k + 1) := by
  have hP := pw k
  rw [mc, mc, mod_next, Int.pow_succ]
  have e : a * (y % 65536 ^ k + 65536 ^ k * dg y k) = a * (y % 65536 ^ k) + (a * dg y k) * 65536 ^ k := by
    rw [Int.mul_add, Int.mul_comm (65536 ^ k), ← Int.mul_assoc]
  rw [e, ← Int.ediv_ediv_of_nonneg (by omega), Int.add_mul_ediv_right _ _ (by omega)]
  congr 1; omega
/-- Moved by some digits. -/
theorem dg_low (z : Int) (i t : Nat) (h : t < i) : dg (z * 65536 ^ i) t = 0 := by
  unfold dg
  obtain ⟨d, rfl⟩ : ∃ d, i = t + (d + 1) := ⟨i - t - 1, by omega⟩
  rw [Int.pow_add, ← Int.mul_assoc, Int.mul_comm (z * 65536 ^ t), Int.mul_comm z, ← Int.mul_assoc, Int.mul_comm (65536 ^ (d + 1) * 65536 ^ t)]
  rw [← Int.mul_assoc, Int.mul_ediv_cancel _ (by have := pw t; omega), Int.pow_succ, ← Int.mul_assoc]
  exact Int.mul_emod_left _ _
theorem dg_high (z : Int) (i k : Nat) : dg (z * 65536 ^ i) (i + k) = dg z k := by
  unfold dg
  rw [Int.pow_add, Int.mul_comm z, Int.mul_ediv_mul_of_pos _ _ (pw i)]
theorem dg_mod (z t : Int) (k : Nat) (h : k < 8) : dg (z + t * 65536 ^ 8) k = dg z k := by
  unfold dg
  obtain ⟨d, hd⟩ : ∃ d, 8 = k + (d + 1) := ⟨8 - k - 1, by omega⟩
  have e : t * 65536 ^ 8 = (t * 65536 ^ d * 65536) * 65536 ^ k := by
    rw [hd, Int.pow_add, Int.pow_succ, Int.mul_comm (65536 ^ k), ← Int.mul_assoc, ← Int.mul_assoc]
  rw [e, Int.add_mul_ediv_right _ _ (by have := pw k; omega)]
  omega
theorem dg_prod (x y : Int) (k : Nat) (h : k < 8) : dg (x % 65536 ^ 8 * y) k = dg (x * y) k := by
  have e := Int.mul_ediv_add_emod x (65536 ^ 8)
  have e2 : x * y = x % 65536 ^ 8 * y + (x / 65536 ^ 8 * y) * 65536 ^ 8 := by
    have : x * y = (65536 ^ 8 * (x / 65536 ^ 8) + x % 65536 ^ 8) * y := by rw [e]
    rw [this, Int.add_mul, Int.mul_comm (65536 ^ 8), Int.mul_assoc, Int.mul_comm (65536 ^ 8) y, ← Int.mul_assoc]; omega
  rw [e2, dg_mod _ _ _ h]

end Go.Proofs.Ytncnoaofdflbmab
