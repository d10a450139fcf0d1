/- A product by halves, divided: what the document's 'down' reckons. -/
import Derived.Test.YtncnoaofdflbmabLPlain
namespace Go.Proofs.Ytncnoaofdflbmab
set_option linter.unusedVariables false

theorem div_of {b q r : Int} (r0 : 0 ≤ r) (r1 : r < b) : (b * q + r) / b = q := by
  rw [Int.add_comm, Int.add_mul_ediv_left _ _ (by omega), Int.ediv_eq_zero_of_lt r0 r1]
  omega

/-- What the parts say. -/
structure Parts5 (num den d whole rest x y one a two b : Int) : Prop where
  w0 : 0 ≤ whole
  r0 : 0 ≤ rest
  r1 : rest < den
  ew : num = den * whole + rest
  ex : x = rest / 2 * d
  ey : y = rest / 2 * d + rest % 2 * d
  x0 : 0 ≤ x
  y0 : 0 ≤ y
  e1 : x = den * one + a
  e2 : y = den * two + b
  a0 : 0 ≤ a
  a1 : a < den
  b0 : 0 ≤ b
  b1 : b < den
  o0 : 0 ≤ one
  t0 : 0 ≤ two
  lt : one + two ≤ d
  xs : x < 340282366920938463463374607431768211456

theorem parts5 {num den d : Int} (n0 : 0 ≤ num) (n1 : num < 18446744073709551616) (d0 : 0 < den) (d1 : den < 18446744073709551616) (f0 : 0 ≤ d) (f1 : d < 18446744073709551616) :
    Parts5 num den d (num / den) (num % den) (num % den / 2 * d) (num % den / 2 * d + num % den % 2 * d) (num % den / 2 * d / den) (num % den / 2 * d % den) ((num % den / 2 * d + num % den % 2 * d) / den) ((num % den / 2 * d + num % den % 2 * d) % den) := by
  have r0 := Int.emod_nonneg num (show den ≠ 0 by omega)
  have r1 := Int.emod_lt_of_pos num d0
  generalize hr : num % den = r at r0 r1
  have q1 : 0 ≤ r / 2 * d := Int.mul_nonneg (by omega) f0
  have q2 : 0 ≤ r % 2 * d := Int.mul_nonneg (by omega) f0
  have ee : r / 2 * d + (r / 2 * d + r % 2 * d) = r * d := by
    rw [← Int.add_mul, ← Int.add_mul]; congr 1; omega
  have up : r * d ≤ den * d := Int.mul_le_mul_of_nonneg_right (by omega) f0
  have up2 : r / 2 * d ≤ r * d := Int.mul_le_mul_of_nonneg_right (by omega) f0
  have big : den * d ≤ 18446744073709551616 * d := Int.mul_le_mul_of_nonneg_right (by omega) f0
  have x1 := Int.emod_add_mul_ediv (r / 2 * d) den
  have y1 := Int.emod_add_mul_ediv (r / 2 * d + r % 2 * d) den
  have xa := Int.emod_nonneg (r / 2 * d) (show den ≠ 0 by omega)
  have xb := Int.emod_lt_of_pos (r / 2 * d) d0
  have ya := Int.emod_nonneg (r / 2 * d + r % 2 * d) (show den ≠ 0 by omega)
  have yb := Int.emod_lt_of_pos (r / 2 * d + r % 2 * d) d0
  refine ⟨Int.ediv_nonneg n0 (by omega), r0, r1, ?_, rfl, rfl, q1, by omega, by omega, by omega, xa, xb, ya, yb, Int.ediv_nonneg q1 (by omega), Int.ediv_nonneg (by omega) (by omega), ?_, by omega⟩
  · have := Int.emod_add_mul_ediv num den
    omega
  · have e3 : den * (r / 2 * d / den + (r / 2 * d + r % 2 * d) / den) ≤ den * d := by
      rw [Int.mul_add]
      omega
    exact Int.le_of_mul_le_mul_left e3 d0

theorem Parts5.sum {num den d whole rest x y one a two b : Int} (p : Parts5 num den d whole rest x y one a two b) (d0 : 0 < den) : num * d / den = whole * d + (if den - b ≤ a then one + two + 1 else one + two) := by
  have e : num * d = den * (whole * d + (one + two)) + (a + b) := by
    have h1 : num * d = den * (whole * d) + rest * d := by rw [p.ew, Int.add_mul, Int.mul_assoc]
    have h2 : rest * d = x + y := by
      rw [p.ex, p.ey, ← Int.add_mul, ← Int.add_mul]
      congr 1; omega
    have h3 := p.e1
    have h4 := p.e2
    rw [h1, h2, h3, h4, Int.mul_add, Int.mul_add]
    omega
  have a0 := p.a0; have a1 := p.a1; have b0 := p.b0; have b1 := p.b1
  split
  · rename_i h
    have e' : num * d = den * (whole * d + (one + two + 1)) + (a + b - den) := by
      have q : den * (whole * d + (one + two + 1)) = den * (whole * d + (one + two)) + den := by
        rw [← Int.add_assoc (whole * d), Int.mul_add den _ 1, Int.mul_one]
      omega
    rw [e', div_of (by omega) (by omega)]
  · rename_i h
    rw [e, div_of (by omega) (by omega)]

theorem Parts5.carry {num den d whole rest x y one a two b : Int} (p : Parts5 num den d whole rest x y one a two b) (d0 : 0 < den) (k : den - b ≤ a) : one + two + 1 ≤ d := by
  have h2 : rest * d = x + y := by
    rw [p.ex, p.ey, ← Int.add_mul, ← Int.add_mul]
    congr 1; omega
  have dn : 0 ≤ d := by have := p.o0; have := p.t0; have := p.lt; omega
  have h3 : rest * d ≤ den * d := Int.mul_le_mul_of_nonneg_right (by have := p.r1; omega) dn
  have h4 : den * (one + two + 1) ≤ den * d := by
    have e1 := p.e1
    have e2 := p.e2
    rw [Int.mul_add, Int.mul_add, Int.mul_one]
    omega
  exact Int.le_of_mul_le_mul_left h4 d0

/-- A quotient's bound. -/
theorem cut_far {whole d : Int} (w0 : 0 < whole) (d0 : 0 ≤ d) : 2305843009213693952 / whole < d ↔ 2305843009213693952 < whole * d := by
  rw [Int.ediv_lt_iff_lt_mul w0, Int.mul_comm]

end Go.Proofs.Ytncnoaofdflbmab
