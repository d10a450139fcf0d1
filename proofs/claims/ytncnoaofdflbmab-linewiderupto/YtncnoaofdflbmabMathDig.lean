/- Plain arithmetic of digits of 16 bits: sums, carries, what a number's digits are: no Go in it. -/
import Derived.Test.YtncnoaofdflbmabMath
namespace Go.Proofs.Ytncnoaofdflbmab
open Go.RowKit
set_option linter.unusedVariables false

/-- A digit. -/
def dg (x : Int) (i : Nat) : Int := x / 65536 ^ i % 65536
/-- What a sum carries into a digit. -/
def cr (x y : Int) (k : Nat) : Int := (x % 65536 ^ k + y % 65536 ^ k) / 65536 ^ k

theorem dg_bd (x : Int) (i : Nat) : 0 ≤ dg x i ∧ dg x i < 65536 := by unfold dg; omega
theorem dg_lo (x : Int) : lov x % 65536 = dg x 0 ∧ lov x / 65536 % 65536 = dg x 1 ∧ lov x / 65536 / 65536 % 65536 = dg x 2 ∧ lov x / 65536 / 65536 / 65536 % 65536 = dg x 3 := by
  unfold dg lov; omega
theorem dg_hi (x : Int) : IntKind.u64.wrap (hiv x) % 65536 = dg x 4 ∧ IntKind.u64.wrap (hiv x) / 65536 % 65536 = dg x 5 ∧ IntKind.u64.wrap (hiv x) / 65536 / 65536 % 65536 = dg x 6 ∧ IntKind.u64.wrap (hiv x) / 65536 / 65536 / 65536 % 65536 = dg x 7 := by
  rw [IntKind.wrap_u64]; unfold dg hiv; omega
theorem told_lo (x : Int) : ((dg x 3 * 65536 + dg x 2) * 65536 + dg x 1) * 65536 + dg x 0 = lov x := by unfold dg lov; omega
theorem told_hi (x : Int) : wrap64 (((dg x 7 * 65536 + dg x 6) * 65536 + dg x 5) * 65536 + dg x 4) = hiv x := by unfold dg hiv wrap64; omega

theorem pw (k : Nat) : (0 : Int) < 65536 ^ k := Int.pow_pos (by decide)
theorem div_add (x y P : Int) (hP : 0 < P) : (x + y) / P = x / P + y / P + (x % P + y % P) / P := by
  have e1 := Int.mul_ediv_add_emod x P
  have e2 := Int.mul_ediv_add_emod y P
  have e : x + y = (x % P + y % P) + (x / P + y / P) * P := by
    rw [Int.add_mul, Int.mul_comm (x / P), Int.mul_comm (y / P)]; omega
  rw [e, Int.add_mul_ediv_right _ _ (by omega)]
  omega
theorem cr_bd (x y : Int) (k : Nat) : 0 ≤ cr x y k ∧ cr x y k ≤ 1 := by
  unfold cr
  have hP := pw k
  have a0 := Int.emod_nonneg x (b := 65536 ^ k) (by omega)
  have a1 := Int.emod_lt_of_pos x hP
  have b0 := Int.emod_nonneg y (b := 65536 ^ k) (by omega)
  have b1 := Int.emod_lt_of_pos y hP
  have h1 : (x % 65536 ^ k + y % 65536 ^ k) / 65536 ^ k < 2 := Int.ediv_lt_of_lt_mul hP (by omega)
  exact ⟨Int.ediv_nonneg (by omega) (by omega), by omega⟩
theorem cr_zero (x y : Int) : cr x y 0 = 0 := by unfold cr; simp
theorem dg_add (x y : Int) (k : Nat) : (dg x k + dg y k + cr x y k) % 65536 = dg (x + y) k := by
  unfold dg cr
  rw [div_add x y _ (pw k)]
  generalize x / 65536 ^ k = p
  generalize y / 65536 ^ k = q
  omega
theorem mod_next (x : Int) (k : Nat) : x % 65536 ^ (k + 1) = x % 65536 ^ k + 65536 ^ k * dg x k := by
  unfold dg
  rw [Int.pow_succ]
  have hP := pw k
  have e1 := Int.mul_ediv_add_emod x (65536 ^ k)
  have e2 := Int.mul_ediv_add_emod x (65536 ^ k * 65536)
  have e3 := Int.mul_ediv_add_emod (x / 65536 ^ k) 65536
  have e4 : x / 65536 ^ k / 65536 = x / (65536 ^ k * 65536) := Int.ediv_ediv_of_nonneg (by omega)
  rw [e4] at e3
  have e5 : 65536 ^ k * (x / 65536 ^ k) = 65536 ^ k * (65536 * (x / (65536 ^ k * 65536)) + x / 65536 ^ k % 65536) := by rw [e3]
  rw [Int.mul_add, ← Int.mul_assoc] at e5
  omega
theorem cr_next (x y : Int) (k : Nat) : (dg x k + dg y k + cr x y k) / 65536 = cr x y (k + 1) := by
  have hP := pw k
  rw [cr, cr, mod_next, mod_next, Int.pow_succ]
  have e : x % 65536 ^ k + 65536 ^ k * dg x k + (y % 65536 ^ k + 65536 ^ k * dg y k) = (x % 65536 ^ k + y % 65536 ^ k) + (dg x k + dg y k) * 65536 ^ k := by
    rw [Int.add_mul, Int.mul_comm (dg x k), Int.mul_comm (dg y k)]; omega
  rw [e, ← Int.ediv_ediv_of_nonneg (by omega), Int.add_mul_ediv_right _ _ (by omega)]
  congr 1; omega
/-- Each digit turned. -/
theorem dg_turn (x : Int) (k : Nat) : 65535 - dg x k = dg (-1 - x) k := by
  unfold dg
  have hP := pw k
  have e1 := Int.mul_ediv_add_emod x (65536 ^ k)
  have a0 := Int.emod_nonneg x (b := 65536 ^ k) (by omega)
  have a1 := Int.emod_lt_of_pos x hP
  have e : -1 - x = (65536 ^ k - 1 - x % 65536 ^ k) + (-1 - x / 65536 ^ k) * 65536 ^ k := by
    rw [Int.sub_mul, Int.mul_comm (x / 65536 ^ k)]; omega
  have e2 : (65536 ^ k - 1 - x % 65536 ^ k) / 65536 ^ k = 0 := Int.ediv_eq_zero_of_lt (by omega) (by omega)
  rw [e, Int.add_mul_ediv_right _ _ (by omega), e2]
  generalize x / 65536 ^ k = p
  omega

end Go.Proofs.Ytncnoaofdflbmab
