/- Numbers as bytes, the highest first. No Go in it. -/
import Derived.Test.YtmioagkmedcflaaKPlain
namespace Go.Proofs.Ytmioagkmedcflaa
set_option linter.unusedVariables false

/-- The number of k bytes from o on, the highest first. -/
def numR (f : Nat → Int) (o : Nat) : Nat → Int
  | 0 => 0
  | k + 1 => numR f o k * 256 + f (o + k)
/-- The byte number i of n, the lowest being 0. -/
def byt (n : Int) (i : Nat) : Int := n / 256 ^ i % 256
theorem byt_bd (n : Int) (i : Nat) : 0 ≤ byt n i ∧ byt n i < 256 := ⟨Int.emod_nonneg _ (by decide), Int.emod_lt_of_pos _ (by decide)⟩
theorem numR_bd {f : Nat → Int} {o : Nat} : ∀ {k : Nat}, (∀ i, i < k → 0 ≤ f (o + i) ∧ f (o + i) < 256) → 0 ≤ numR f o k ∧ numR f o k < 256 ^ k := by
  intro k
  induction k with
  | zero => intro _; exact ⟨Int.le_refl _, by show (0 : Int) < 256 ^ 0; rw [Int.pow_zero]; decide⟩
  | succ k ih =>
    intro h
    obtain ⟨a, b⟩ := ih fun i hi => h i (by omega)
    obtain ⟨c, d⟩ := h k (by omega)
    have e : (256 : Int) ^ (k + 1) = 256 ^ k * 256 := Int.pow_succ _ _
    show 0 ≤ numR f o k * 256 + f (o + k) ∧ numR f o k * 256 + f (o + k) < 256 ^ (k + 1)
    rw [e]
    omega
/-- Two rows of bytes alike have one number. -/
theorem numR_congr {f g : Nat → Int} {o o' : Nat} : ∀ {k : Nat}, (∀ i, i < k → f (o + i) = g (o' + i)) → numR f o k = numR g o' k := by
  intro k
  induction k with
  | zero => intro _; rfl
  | succ k ih =>
    intro h
    show numR f o k * 256 + f (o + k) = numR g o' k * 256 + g (o' + k)
    rw [ih fun i hi => h i (by omega), h k (by omega)]
/-- The k highest of m bytes. -/
theorem numR_put (n : Int) (m : Nat) : ∀ k, k ≤ m → numR (fun i => byt n (m - 1 - i)) 0 k = n / 256 ^ (m - k) % 256 ^ k := by
  intro k
  induction k with
  | zero => intro _; show (0 : Int) = _; rw [Int.pow_zero, Int.emod_one]
  | succ k ih =>
    intro h
    show numR _ 0 k * 256 + byt n (m - 1 - (0 + k)) = _
    rw [ih (by omega), Nat.zero_add]
    unfold byt
    have e1 : m - k = (m - (k + 1)) + 1 := by omega
    have e2 : m - 1 - k = m - (k + 1) := by omega
    rw [e2, e1, Int.pow_succ, ← Int.ediv_ediv_of_nonneg (Int.le_of_lt (Int.pow_pos (by decide))), Int.pow_succ]
    generalize n / 256 ^ (m - (k + 1)) = x
    have p : (0 : Int) < 256 ^ k := Int.pow_pos (by decide)
    generalize (256 : Int) ^ k = P at p
    have a := Int.emod_add_mul_ediv x 256
    have b := Int.emod_add_mul_ediv (x / 256) P
    have c0 := Int.emod_nonneg (x / 256) (show P ≠ 0 by omega)
    have c1 := Int.emod_lt_of_pos (x / 256) p
    have d0 := Int.emod_nonneg x (show (256 : Int) ≠ 0 by decide)
    have d1 := Int.emod_lt_of_pos x (show (0 : Int) < 256 by decide)
    generalize x / 256 / P = z at b
    generalize x / 256 % P = y at b c0 c1 ⊢
    generalize x % 256 = r at a d0 d1 ⊢
    have e : x = (y * 256 + r) + (P * 256) * z := by
      rw [← a, ← b, Int.mul_add, Int.mul_comm P 256, Int.mul_assoc]
      omega
    rw [e, Int.add_mul_emod_self_left, Int.emod_eq_of_lt (by omega) (by omega)]
theorem numR_eight {n : Int} (h0 : 0 ≤ n) (h1 : n < 18446744073709551616) : numR (fun i => byt n (7 - i)) 0 8 = n := by
  have := numR_put n 8 8 (Nat.le_refl _)
  rw [show (8 : Nat) - 8 = 0 from rfl, Int.pow_zero, Int.ediv_one, Int.emod_eq_of_lt h0 (by rw [show (256 : Int) ^ 8 = 18446744073709551616 from rfl]; exact h1)] at this
  exact this

end Go.Proofs.Ytmioagkmedcflaa
