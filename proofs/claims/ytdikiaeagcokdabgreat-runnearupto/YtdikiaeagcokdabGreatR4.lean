/- The document's own answer for layer 4: products, lowest terms, which fraction is below. -/
import Derived.Test.YtdikiaeagcokdabGreatPBs
namespace Go.Proofs.YtdikiaeagcokdabGreat
open Go.RowKit
set_option linter.unusedVariables false

theorem parts_mul (a1 a0 b1 b0 : Int) : (a1 * 4294967296 + a0) * (b1 * 4294967296 + b0) = a1 * b1 * 18446744073709551616 + (a1 * b0 + a0 * b1) * 4294967296 + a0 * b0 := by
  rw [Int.add_mul, Int.mul_add, Int.mul_add, mul4 a1 4294967296 b1 4294967296, Int.mul_right_comm a1 4294967296 b0, ← Int.mul_assoc a0 b1 4294967296, Int.add_mul]
  omega
theorem mul_lt32 {x y : Int} (hx : 0 ≤ x) (hx' : x < 4294967296) (hy : 0 ≤ y) (hy' : y < 4294967296) : 0 ≤ x * y ∧ x * y ≤ 18446744065119617025 := by
  refine ⟨Int.mul_nonneg hx hy, ?_⟩
  have h1 : x * y ≤ 4294967295 * y := Int.mul_le_mul_of_nonneg_right (by omega) hy
  omega

theorem td32 {x : Int} (h : 0 ≤ x) : x.tdiv 4294967296 = x / 4294967296 := Int.tdiv_eq_ediv_of_nonneg h
theorem tm32 {x : Int} (h : 0 ≤ x) : x.tmod 4294967296 = x % 4294967296 := Int.tmod_eq_emod_of_nonneg h
theorem wu {x : Int} (h : 0 ≤ x) (h' : x < 18446744073709551616) : IntKind.u64.wrap x = x := by rw [IntKind.wrap_u64]; omega




/-- A fraction in lowest terms, and what it came of. -/
structure LowF (num den c d g : Int) : Prop where
  g0 : 0 < g
  ec : c * g = num
  ed : d * g = den
  low : Int.gcd c d = 1
  c0 : 0 ≤ c
  d1 : 1 ≤ d
  cb : c ≤ num
  db : d ≤ den

theorem lowf (num den : Nat) (h0 : 0 < den) : LowF num den ((num / num.gcd den : Nat) : Int) ((den / num.gcd den : Nat) : Int) (num.gcd den : Nat) := by
  have hg : 0 < num.gcd den := Nat.gcd_pos_of_pos_right _ h0
  have e1 : num / num.gcd den * num.gcd den = num := Nat.div_mul_cancel (Nat.gcd_dvd_left _ _)
  have e2 : den / num.gcd den * num.gcd den = den := Nat.div_mul_cancel (Nat.gcd_dvd_right _ _)
  refine ⟨by omega, by rw [← Int.natCast_mul, e1], by rw [← Int.natCast_mul, e2], ?_, Int.natCast_nonneg _, ?_, by have := Nat.div_le_self num (num.gcd den); omega, by have := Nat.div_le_self den (num.gcd den); omega⟩
  · have := Nat.coprime_div_gcd_div_gcd (m := num) (n := den) hg
    exact this
  · have : 0 < den / num.gcd den := Nat.div_pos (Nat.le_of_dvd h0 (Nat.gcd_dvd_right _ _)) hg
    omega



end Go.Proofs.YtdikiaeagcokdabGreat
