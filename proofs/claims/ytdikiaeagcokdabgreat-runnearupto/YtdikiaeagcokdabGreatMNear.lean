/- The document's Near, bit by bit: it ends with the nearest float. -/
import Derived.Test.YtdikiaeagcokdabGreatPFg
import Derived.Test.YtdikiaeagcokdabGreatPFl
namespace Go.Proofs.YtdikiaeagcokdabGreat
open Go.RowKit
set_option linter.unusedVariables false



theorem whole53 (m : Nat) (h0 : 4503599627370496 ≤ m) (h1 : m ≤ 9007199254740992) : floatOfInt .f64 (m : Int) = 1074 * 4503599627370496 + m := by
  obtain ⟨j, hj, eU⟩ := Un_ex
  have hv : V (1074 * 4503599627370496 + m) = m * Un := by
    rw [← hj, V_form j m h1 (.inl h0), eU]
  rw [ofInt_whole (m : Int) (1074 * 4503599627370496 + m) (by omega) (by rw [Int.natAbs_natCast]; exact hv), show decide ((m : Int) < 0) = false from decide_eq_false (by omega), word_false]

theorem mul2_up {c : Nat} (h0 : 4200000000000000000 ≤ c) (h1 : c < 6000000000000000000) : Ieee.double.mul c 4611686018427387904 = some (c + 4503599627370496) := by
  rw [mul_two_f (by omega)]; unfold dbl; rw [if_neg (by omega)]

theorem div_step (A D : Nat) (hD : 0 < D) : 2 * A / D = 2 * (A / D) + (if D ≤ 2 * (A % D) then 1 else 0) ∧ 2 * A % D = 2 * (A % D) % D := by
  have hd := Nat.div_add_mod A D
  have hm := Nat.mod_lt A hD
  generalize A / D = q at *
  generalize A % D = r at *
  have e : 2 * A = 2 * r + D * (2 * q) := by rw [← hd, Nat.mul_add, Nat.mul_left_comm]; omega
  rw [e, Nat.add_mul_div_left _ _ hD, Nat.add_mul_mod_self_left]
  refine ⟨?_, rfl⟩
  split
  · rename_i c
    rw [show 2 * r / D = 1 from Nat.div_eq_of_lt_le (by omega) (by omega)]; omega
  · rw [Nat.div_eq_of_lt (by omega)]; omega

theorem rne_bits (A D j : Nat) (hD : 0 < D) :
    rne A (D * 2 ^ (j + 1)) = A / D / 2 ^ j / 2 + (if A / D / 2 ^ j % 2 = 1 ∧ (A / D % 2 ^ j ≠ 0 ∨ A % D ≠ 0 ∨ A / D / 2 ^ j / 2 % 2 = 1) then 1 else 0) := by
  have hm := Nat.mod_lt A hD
  have hP := Nat.two_pow_pos j
  unfold rne
  have q1 : A / (D * 2 ^ (j + 1)) = A / D / 2 ^ j / 2 := by rw [Nat.pow_succ, ← Nat.div_div_eq_div_mul, ← Nat.div_div_eq_div_mul]
  have q2 : A % (D * 2 ^ (j + 1)) = D * (A / D % 2 ^ (j + 1)) + A % D := by rw [Nat.mod_mul]; omega
  have q3 : A / D % 2 ^ (j + 1) = A / D % 2 ^ j + 2 ^ j * (A / D / 2 ^ j % 2) := by rw [Nat.pow_succ, Nat.mod_mul]
  have q4 : D * 2 ^ (j + 1) = 2 * (D * 2 ^ j) := by rw [Nat.pow_succ, ← Nat.mul_assoc]; omega
  rw [q1, q2, q3, q4, show D * (A / D % 2 ^ j + 2 ^ j * (A / D / 2 ^ j % 2)) = D * (A / D % 2 ^ j) + D * 2 ^ j * (A / D / 2 ^ j % 2) by rw [Nat.mul_add, Nat.mul_assoc]]
  clear q1 q2 q3 q4
  have hs := Nat.mod_lt (A / D) hP
  generalize A / D / 2 ^ j = M at *
  generalize A / D % 2 ^ j = s at *
  generalize A % D = r at *
  have d1 : D * s + D ≤ D * 2 ^ j := by
    have := Nat.mul_le_mul_left D (show s + 1 ≤ 2 ^ j by omega)
    rw [Nat.mul_add, Nat.mul_one] at this; exact this
  have d2 : D * s = 0 ↔ s = 0 := by
    constructor
    · intro h; rcases Nat.mul_eq_zero.1 h with h | h <;> omega
    · intro h; rw [h, Nat.mul_zero]
  generalize D * 2 ^ j = K at *
  generalize D * s = T at *
  congr 1
  rcases Nat.mod_two_eq_zero_or_one M with h | h
  · rw [h, Nat.mul_zero, Nat.add_zero, if_neg (by omega), decide_eq_false (by omega), show (2 * K == 2 * (T + r)) = false by rw [beq_eq_false_iff_ne]; omega]
    rfl
  · rw [h, Nat.mul_one]
    by_cases c : s ≠ 0 ∨ r ≠ 0
    · rw [decide_eq_true (by omega), if_pos ⟨rfl, by omega⟩]; rfl
    · rw [decide_eq_false (by omega), show (2 * K == 2 * (T + K + r)) = true by rw [beq_iff_eq]; omega]
      by_cases o : M / 2 % 2 = 1
      · rw [if_pos ⟨rfl, .inr (.inr o)⟩, o]; rfl
      · rw [if_neg (by omega), show (M / 2 % 2 == 1) = false by rw [beq_eq_false_iff_ne]; exact o]; rfl

/-- What the bits end in is the nearest float. -/
theorem bits_near (num den k j : Nat) (b0 : Nat) (h : Nr (num * Un) den b0) (d0 : 0 < den) (hk : k ≤ 200) (hM0 : 9007199254740992 ≤ num * 2 ^ k / den / 2 ^ j) (hM1 : num * 2 ^ k / den / 2 ^ j < 18014398509481984) (c m : Nat)
    (hm : m = num * 2 ^ k / den / 2 ^ j / 2 + (if num * 2 ^ k / den / 2 ^ j % 2 = 1 ∧ (num * 2 ^ k / den % 2 ^ j ≠ 0 ∨ num * 2 ^ k % den ≠ 0 ∨ num * 2 ^ k / den / 2 ^ j / 2 % 2 = 1) then 1 else 0))
    (hc : (c : Int) = (1074 + ((j : Int) - k + 1)) * 4503599627370496 + m) : c = b0 := by
  have hP := Nat.two_pow_pos (j + 1)
  have hg : 0 < den * 2 ^ (j + 1) := Nat.mul_pos d0 hP
  have q1 : num * 2 ^ k / (den * 2 ^ (j + 1)) = num * 2 ^ k / den / 2 ^ j / 2 := by rw [Nat.pow_succ, ← Nat.div_div_eq_div_mul, ← Nat.div_div_eq_div_mul]
  rw [← rne_bits _ _ _ d0] at hm
  obtain ⟨e, he⟩ : ∃ e : Nat, (e : Int) = 1074 + ((j : Int) - k + 1) := ⟨(1074 + ((j : Int) - k + 1)).toNat, by omega⟩
  have nr := Nr.of_rne (num * 2 ^ k) (den * 2 ^ (j + 1)) e hg (by rw [q1]; clear hm hc h; omega) (.inl (by rw [q1]; clear hm hc h; omega))
  have ec : c = e * 4503599627370496 + m := by rw [← he] at hc; clear hm h nr hM0 hM1 q1; omega
  rw [← hm, ← ec] at nr
  refine (nr.scale hg d0 ?_).uniq h d0
  obtain ⟨u, hu, eU⟩ := Un_ex
  rw [eU]
  have e1 : num * 2 ^ k * 2 ^ e * den = num * den * 2 ^ (k + e) := by rw [Nat.pow_add]; ac_rfl
  have e2 : num * 2 ^ u * (den * 2 ^ (j + 1)) = num * den * 2 ^ (u + (j + 1)) := by rw [Nat.pow_add 2 u]; ac_rfl
  rw [e1, e2, show k + e = u + (j + 1) by clear eU hm h nr hM0 hM1 q1; omega]


end Go.Proofs.YtdikiaeagcokdabGreat
