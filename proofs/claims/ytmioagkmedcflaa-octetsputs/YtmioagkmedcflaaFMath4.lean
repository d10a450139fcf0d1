/- Floats doubled and halved: exact: no Go in it. -/
import Derived.Test.YtmioagkmedcflaaFMath3
namespace Go.Proofs.Ytmioagkmedcflaa
open Ieee

theorem V_pw2 (k : Nat) : V ((k + 1023) * 4503599627370496) = 2 ^ k * Un := by
  have := V_form (k + 1022) 4503599627370496 (by decide) (.inl (by decide))
  rw [show (k + 1022) * 4503599627370496 + 4503599627370496 = (k + 1023) * 4503599627370496 by omega] at this
  rw [this, show (4503599627370496 : Nat) = 2 ^ 52 from rfl, ← Nat.pow_add, Un_pow, show 52 + (k + 1022) = k + 1074 by omega]
theorem V2 : V 4611686018427387904 = 2 * Un := by
  have h := V_pw2 1
  rw [show (1 + 1023) * 4503599627370496 = 4611686018427387904 from rfl, show (2 : Nat) ^ 1 = 2 from rfl] at h
  exact h
theorem V1 : V 4607182418800017408 = Un := by
  have h := V_pw2 0
  rw [show (0 + 1023) * 4503599627370496 = 4607182418800017408 from rfl, show (2 : Nat) ^ 0 = 1 from rfl, Nat.one_mul] at h
  exact h

/-- The rung of the double. -/
def dbl (t : Nat) : Nat := if t < 4503599627370496 then 2 * t else t + 4503599627370496
theorem V_dbl (t : Nat) : V (dbl t) = 2 * V t := by
  unfold dbl
  split
  · rename_i h
    have a := V_form 0 t (by omega) (.inr rfl)
    have b := V_form 0 (2 * t) (by omega) (.inr rfl)
    simp only [Nat.zero_mul, Nat.zero_add, Nat.pow_zero, Nat.mul_one] at a b
    rw [a, b]
  · rename_i h
    obtain ⟨e, m, rfl, h1, h2, -⟩ := form t
    have a := V_form e m (by omega) h2
    have b := V_form (e + 1) m (by omega) (by omega)
    rw [show e * 4503599627370496 + m + 4503599627370496 = (e + 1) * 4503599627370496 + m by omega, a, b, Nat.pow_succ, Nat.mul_comm (2 ^ e), ← Nat.mul_assoc, Nat.mul_comm m 2, Nat.mul_assoc]
theorem dbl_le (t : Nat) : dbl t ≤ t + 4503599627370496 := by unfold dbl; split <;> omega

theorem two_mul_f {t : Nat} (h : t + 4503599627370496 < 9218868437227405312) : double.mul 4611686018427387904 t = some (dbl t) := by
  have hr : rg t = t := Nat.mod_eq_of_lt (by omega)
  have hs : sg t = false := by unfold sg; simp; omega
  obtain ⟨b, hb, e⟩ := mul_fin (x := 4611686018427387904) (y := t) (by decide) (by omega)
  rw [hr, show rg 4611686018427387904 = 4611686018427387904 from rfl, V2] at hb
  have hd : b = dbl t := by
    refine hb.uniq (Nr.of_eq Un_pos ?_) Un_pos
    rw [V_dbl, Nat.mul_assoc, Nat.mul_assoc, Nat.mul_comm Un]
  have := dbl_le t
  rw [e, hd, hs, show sg 4611686018427387904 = false from rfl, Nat.min_eq_left (by omega)]
  rfl
theorem mul_two_f {t : Nat} (h : t + 4503599627370496 < 9218868437227405312) : double.mul t 4611686018427387904 = some (dbl t) := by
  have hr : rg t = t := Nat.mod_eq_of_lt (by omega)
  have hs : sg t = false := by unfold sg; simp; omega
  obtain ⟨b, hb, e⟩ := mul_fin (x := t) (y := 4611686018427387904) (by omega) (by decide)
  rw [hr, show rg 4611686018427387904 = 4611686018427387904 from rfl, V2] at hb
  have hd : b = dbl t := by
    refine hb.uniq (Nr.of_eq Un_pos ?_) Un_pos
    rw [V_dbl, ← Nat.mul_assoc, Nat.mul_comm (V t) 2]
  have := dbl_le t
  rw [e, hd, hs, show sg 4611686018427387904 = false from rfl, Nat.min_eq_left (by omega)]
  rfl

theorem div_two_f {t : Nat} (h0 : 9007199254740992 ≤ t) (h : t < 9218868437227405312) : double.div t 4611686018427387904 = some (t - 4503599627370496) := by
  have hr : rg t = t := Nat.mod_eq_of_lt (by omega)
  have hs : sg t = false := by unfold sg; simp; omega
  have r2 : double.read 4611686018427387904 = .number false 4503599627370496 (-51) := by decide +kernel
  unfold Format.div
  rw [read_fin (x := t) (by omega), r2, hr, hs]
  obtain ⟨e, m, ht, h1, h2, he⟩ := form t
  have hm : mg t = m := by unfold mg; rw [if_neg (by omega)]; omega
  have m0 : 4503599627370496 ≤ m := by omega
  have hx : xp t = e := by unfold xp; omega
  have e0 : 0 < e := by omega
  have lg : m.log2 = 52 := (Nat.log2_eq_iff (by omega)).2 ⟨by omega, by omega⟩
  unfold Datum.quotient
  rw [hm, hx]
  simp only [show double.fractionBits = 52 from rfl, lg, show Nat.log2 4503599627370496 = 52 by decide +kernel, Nat.shiftLeft_eq]
  rw [if_neg (by decide)]
  have q1 : m * 2 ^ (52 + 2 + 52 - 52) / 4503599627370496 = m * 4 := by
    rw [show (2 : Nat) ^ (52 + 2 + 52 - 52) = 4 * 4503599627370496 from rfl, ← Nat.mul_assoc, Nat.mul_div_cancel _ (by decide)]
  have q2 : m * 2 ^ (52 + 2 + 52 - 52) % 4503599627370496 = 0 := by
    rw [show (2 : Nat) ^ (52 + 2 + 52 - 52) = 4 * 4503599627370496 from rfl, ← Nat.mul_assoc, Nat.mul_mod_left]
  rw [q1, q2]
  simp only [Option.map]
  have hw := nearest_eq (false ^^ false) (2 * (m * 4) + (0 != 0).toNat) (-1074 + (e : Int) - -51 - ((52 + 2 + 52 - 52 : Nat) : Int) - 1) ((e - 1) * 4503599627370496 + m) e 4 (by omega) (by omega) (by
    refine Nr.of_eq (by decide) ?_
    rw [V_form (e - 1) m (by omega) (.inl m0)]
    have : 2 ^ e = 2 ^ (e - 1) * 2 := by rw [← Nat.pow_succ]; congr 1; omega
    rw [this]
    simp
    rw [show (2 : Nat) * (m * 4) = m * 8 by omega, Nat.mul_assoc, Nat.mul_assoc]
    congr 1
    omega)
  show some (double.nearest _ _ _) = _
  rw [hw, Nat.min_eq_left (by omega)]
  rw [show (false ^^ false) = false from rfl, word_false]
  refine congrArg some ?_
  omega
end Go.Proofs.Ytmioagkmedcflaa
