/- Whole parts of floats, and whole numbers as floats: no Go in it. -/
import Derived.Test.YtmioagkmedcflaaFMath2
namespace Go.Proofs.Ytmioagkmedcflaa
open Ieee

theorem cut_down (neg : Bool) (n d : Nat) : Toward.down.cut neg n d = n / 2 ^ d + (neg && n % 2 ^ d != 0).toNat := by
  unfold Toward.cut
  simp only [Nat.one_shiftLeft]
  have hl : n < 2 ^ (n.log2 + 1) := Nat.lt_log2_self
  by_cases h : d ≤ n.log2 + 2
  · rw [Nat.min_eq_left h]
  · rw [Nat.min_eq_right (by omega)]
    have p1 : 2 ^ (n.log2 + 2) = 2 * 2 ^ (n.log2 + 1) := by rw [Nat.pow_succ, Nat.mul_comm]
    have p2 : 2 ^ (n.log2 + 2) ≤ 2 ^ d := Nat.pow_le_pow_right (by decide) (by omega)
    have q1 : n / 2 ^ (n.log2 + 2) = 0 := Nat.div_eq_of_lt (by omega)
    have q2 : n % 2 ^ (n.log2 + 2) = n := Nat.mod_eq_of_lt (by omega)
    have q3 : n / 2 ^ d = 0 := Nat.div_eq_of_lt (by omega)
    have q4 : n % 2 ^ d = n := Nat.mod_eq_of_lt (by omega)
    rw [q1, q2, q3, q4]

theorem rest_nat (m k : Nat) : (m * 2 ^ ((-1074 + (k : Int)).toNat) % 2 ^ ((-(-1074 + (k : Int))).toNat) != 0) = (m * 2 ^ k % Un != 0) := by
  by_cases h : 1074 ≤ k
  · rw [show (-(-1074 + (k : Int))).toNat = 0 by omega, Nat.pow_zero, Nat.mod_one]
    have : m * 2 ^ k = m * 2 ^ (k - 1074) * Un := by rw [Nat.mul_assoc, Un_pow (k - 1074)]; congr 2; omega
    rw [this, Nat.mul_mod_left]
  · rw [show (-1074 + (k : Int)).toNat = 0 by omega, show (-(-1074 + (k : Int))).toNat = 1074 - k by omega, Nat.pow_zero, Nat.mul_one]
    have hp := Nat.two_pow_pos k
    have : Un = 2 ^ (1074 - k) * 2 ^ k := by rw [← Nat.pow_add, Un_at _ (show 1074 - k + k = 1074 by omega)]
    rw [this, Nat.mul_mod_mul_right]
    by_cases z : m % 2 ^ (1074 - k) = 0
    · rw [z, Nat.zero_mul]
    · have z2 : ¬ m % 2 ^ (1074 - k) * 2 ^ k = 0 := Nat.ne_of_gt (Nat.mul_pos (Nat.pos_of_ne_zero z) hp)
      rw [bne, bne, beq_false_of_ne z, beq_false_of_ne z2]

/-- Whole numbers up to 2^53 are floats. -/
theorem rep_small (k : Nat) (h : k ≤ 9007199254740992) : ∃ b, b < 9218868437227405312 ∧ V b = k * Un := by
  by_cases h0 : k = 0
  · exact ⟨0, by decide, by rw [h0, V_zero, Nat.zero_mul]⟩
  · have l1 : 2 ^ k.log2 ≤ k := Nat.log2_self_le h0
    have l2 : k < 2 ^ (k.log2 + 1) := Nat.lt_log2_self
    by_cases h1 : k = 9007199254740992
    · refine ⟨1074 * 4503599627370496 + 9007199254740992, by decide, ?_⟩
      rw [V_form 1074 9007199254740992 (by decide) (.inl (by decide)), h1]
      obtain ⟨j, hj, e⟩ := Un_ex
      rw [e, hj]
    · have hL : k.log2 ≤ 52 := by
        rcases Nat.lt_or_ge k.log2 53 with z | z
        · omega
        · have : 2 ^ 53 ≤ 2 ^ k.log2 := Nat.pow_le_pow_right (by decide) z
          omega
      generalize k.log2 = L at *
      have e1 : 4503599627370496 ≤ k * 2 ^ (52 - L) := by
        have : 2 ^ L * 2 ^ (52 - L) ≤ k * 2 ^ (52 - L) := Nat.mul_le_mul_right _ l1
        rw [← Nat.pow_add, show L + (52 - L) = 52 by omega] at this
        exact this
      have e2 : k * 2 ^ (52 - L) < 9007199254740992 := by
        have : k * 2 ^ (52 - L) < 2 ^ (L + 1) * 2 ^ (52 - L) := Nat.mul_lt_mul_of_pos_right l2 (Nat.two_pow_pos _)
        rw [← Nat.pow_add, show L + 1 + (52 - L) = 53 by omega] at this
        exact this
      refine ⟨(1074 - (52 - L)) * 4503599627370496 + k * 2 ^ (52 - L), by omega, ?_⟩
      rw [V_form _ _ (by omega) (.inl e1), Nat.mul_assoc, ← Nat.pow_add, Un_at _ (by omega)]

/-- A finite float's whole part, rounded down or up, is a float. -/
theorem rep_floor {r : Nat} (h : r < 9218868437227405312) : ∃ b, b < 9218868437227405312 ∧ V b = V r / Un * Un := by
  by_cases c : 1074 ≤ xp r
  · refine ⟨r, h, ?_⟩
    have e : V r = mg r * 2 ^ (xp r - 1074) * Un := by
      rw [V_mg, Nat.mul_assoc, Un_pow]; congr 2; omega
    rw [e, Nat.mul_div_cancel _ Un_pos]
  · refine rep_small _ ?_
    have e : Un = 2 ^ (1074 - xp r) * 2 ^ xp r := by rw [← Nat.pow_add, Un_at _ (by omega)]
    rw [V_mg, e, Nat.mul_div_mul_right _ _ (Nat.two_pow_pos _)]
    have := mg_lt r
    have := Nat.div_le_self (mg r) (2 ^ (1074 - xp r))
    omega
theorem rep_ceil {r : Nat} (h : r < 9218868437227405312) : ∃ b, b < 9218868437227405312 ∧ V b = (V r / Un + (V r % Un != 0).toNat) * Un := by
  by_cases c : 1074 ≤ xp r
  · refine ⟨r, h, ?_⟩
    have e : V r = mg r * 2 ^ (xp r - 1074) * Un := by
      rw [V_mg, Nat.mul_assoc, Un_pow]; congr 2; omega
    have e2 : V r % Un = 0 := by rw [e, Nat.mul_mod_left]
    rw [e2, e, Nat.mul_div_cancel _ Un_pos]; simp
  · refine rep_small _ ?_
    have e : Un = 2 ^ (1074 - xp r) * 2 ^ xp r := by rw [← Nat.pow_add, Un_at _ (by omega)]
    have q : V r / Un = mg r / 2 ^ (1074 - xp r) := by rw [V_mg, e, Nat.mul_div_mul_right _ _ (Nat.two_pow_pos _)]
    have := mg_lt r
    have := Nat.div_le_self (mg r) (2 ^ (1074 - xp r))
    have := Bool.toNat_le (V r % Un != 0)
    omega

/-- A whole number that is a float is written exactly. -/
theorem nearest_whole (neg : Bool) (k b : Nat) (hb : b < 9218868437227405312) (hV : V b = k * Un) : double.nearest neg k 0 = double.word neg b := by
  by_cases h0 : k = 0
  · have : b = 0 := V_inj (by rw [hV, h0, Nat.zero_mul, V_zero])
    unfold Format.nearest
    rw [if_pos h0, this]
  · obtain ⟨j, hj, e⟩ := Un_ex
    rw [nearest_eq neg k 0 b j 0 (by omega) (by omega) (Nr.of_eq (by decide) (by rw [hV, e, Nat.pow_zero, Nat.mul_one])), Nat.min_eq_left (by omega)]

theorem ofInt_whole (n : Int) (b : Nat) (hb : b < 9218868437227405312) (hV : V b = n.natAbs * Un) : floatOfInt .f64 n = double.word (n < 0) b := by
  show double.nearest (decide (n < 0)) n.natAbs 0 = _
  exact nearest_whole _ _ _ hb hV

theorem ofInt_any (n : Int) : ∃ b, Nr (n.natAbs * Un) 1 b ∧ floatOfInt .f64 n = double.word (n < 0) (min b 9218868437227405312) := by
  show ∃ b, _ ∧ double.nearest (decide (n < 0)) n.natAbs 0 = _
  obtain ⟨j, hj, e⟩ := Un_ex
  obtain ⟨b, h1, h2⟩ := nearest_ex (decide (n < 0)) n.natAbs 0 j 0 (by omega)
  exact ⟨b, by rw [e]; exact h1, h2⟩

theorem SV_word (neg : Bool) (b : Nat) (h : b < 9223372036854775808) : SV (double.word neg b) = if neg then -(V b : Int) else V b := by
  unfold SV; rw [word_sg _ _ h, word_rg _ _ h]

/-- Floor of a finite float, as an int. -/
def flo (x : Nat) : Int := SV x / (Un : Int)

def flb (x : Nat) : Nat := double.write ((double.read x).integral .down)

theorem flo_eq (x : Nat) : flo x = if sg x then -((V (rg x) / Un + (V (rg x) % Un != 0).toNat : Nat) : Int) else ((V (rg x) / Un : Nat) : Int) := by
  have hU := Un_pos
  unfold flo SV
  cases sg x
  · simp
  · simp only [if_true]
    have hd := Nat.div_add_mod (V (rg x)) Un
    have hm := Nat.mod_lt (V (rg x)) hU
    generalize V (rg x) / Un = q at *
    generalize V (rg x) % Un = r at *
    rw [← hd]
    by_cases z : r = 0
    · subst z
      rw [show (-((Un * q + 0 : Nat) : Int)) = (Un : Int) * (-(q : Int)) by rw [Nat.add_zero, Int.natCast_mul, Int.mul_neg], Int.mul_ediv_cancel_left _ (by omega)]
      simp
    · have b : (r != 0) = true := by simp [z]
      rw [b]
      have e : (-((Un * q + r : Nat) : Int)) = ((Un - r : Nat) : Int) + (Un : Int) * (-((q : Int) + 1)) := by
        rw [Int.mul_neg, Int.mul_add, Int.natCast_add, Int.natCast_mul]; omega
      rw [e, Int.add_mul_ediv_left _ _ (by omega), Int.ediv_eq_zero_of_lt (by omega) (by omega)]
      simp

theorem flb_eq {x : Nat} (hx : rg x < 9218868437227405312) : ∃ b, b < 9218868437227405312 ∧ flb x = double.word (sg x) b ∧ V b = (flo x).natAbs * Un := by
  unfold flb
  rw [read_fin hx, flo_eq]
  unfold Datum.integral
  simp only [cut_down, Nat.shiftLeft_eq, Format.write]
  rw [down_nat, rest_nat, ← V_mg]
  cases sg x
  · obtain ⟨b, hb, hV⟩ := rep_floor hx
    refine ⟨b, hb, ?_, ?_⟩
    · simp only [Bool.false_and, Bool.toNat_false, Nat.add_zero]
      exact nearest_whole _ _ _ hb hV
    · rw [if_neg (by decide), Int.natAbs_natCast]; exact hV
  · obtain ⟨b, hb, hV⟩ := rep_ceil hx
    refine ⟨b, hb, ?_, ?_⟩
    · simp only [Bool.true_and]
      exact nearest_whole _ _ _ hb hV
    · rw [if_pos rfl, Int.natAbs_neg, Int.natAbs_natCast]; exact hV

theorem toInt_word (neg : Bool) (b k : Nat) (hb : b < 9218868437227405312) (hV : V b = k * Un) : (double.read (double.word neg b)).toInt .zero = some (if neg then -(k : Int) else k) := by
  have hl : b < 9223372036854775808 := by omega
  rw [toInt_fin (by rw [word_rg _ _ hl]; exact hb), word_sg _ _ hl, word_rg _ _ hl, hV, Nat.mul_div_cancel _ Un_pos]

theorem flo_sign (x : Nat) : (if sg x then -((flo x).natAbs : Int) else (flo x).natAbs) = flo x := by
  rw [flo_eq]; cases sg x
  · rw [if_neg (by decide), if_neg (by decide), Int.natAbs_natCast]
  · rw [if_pos rfl, if_pos rfl, Int.natAbs_neg, Int.natAbs_natCast]

theorem toVal_flb {x : Nat} (hx : rg x < 9218868437227405312) (h0 : -9223372036854775808 ≤ flo x) (h1 : flo x < 9223372036854775808) : floatToIntVal .f64 (flb x) .i64 = some (flo x) := by
  obtain ⟨b, hb, e, hV⟩ := flb_eq hx
  unfold floatToIntVal
  show (match (double.read (flb x)).toInt .zero with | some n => _ | none => _) = _
  rw [e, toInt_word _ _ _ hb hV, flo_sign]
  simp only
  rw [if_pos]
  exact ⟨h0, by show flo x ≤ 9223372036854775807; omega⟩

/-- Cut towards zero. -/
def tru (x : Nat) : Int := if sg x then -((V (rg x) / Un : Nat) : Int) else (V (rg x) / Un : Nat)

theorem toVal_fin {x : Nat} (hx : rg x < 9218868437227405312) (h0 : -9223372036854775808 ≤ tru x) (h1 : tru x < 9223372036854775808) : floatToIntVal .f64 x .i64 = some (tru x) := by
  unfold floatToIntVal
  show (match (double.read x).toInt .zero with | some n => _ | none => _) = _
  rw [toInt_fin hx]
  simp only
  rw [if_pos]
  · rfl
  · exact ⟨h0, by show tru x ≤ 9223372036854775807; omega⟩
theorem toVal_u {x : Nat} (hx : rg x < 9218868437227405312) (h0 : 0 ≤ tru x) (h1 : tru x < 18446744073709551616) : floatToIntVal .f64 x .u64 = some (tru x) := by
  unfold floatToIntVal
  show (match (double.read x).toInt .zero with | some n => _ | none => _) = _
  rw [toInt_fin hx]
  simp only
  rw [if_pos]
  · rfl
  · exact ⟨h0, by show tru x ≤ 18446744073709551615; omega⟩

/-- The whole part as a float, and whether it is above. -/
theorem back_tru {x : Nat} (hx : rg x < 9218868437227405312) : ∃ b, b < 9218868437227405312 ∧ floatOfInt .f64 (tru x) = double.word (tru x < 0) b ∧ SV (floatOfInt .f64 (tru x)) = tru x * Un ∧ V b = (tru x).natAbs * Un := by
  obtain ⟨b, hb, hV⟩ := rep_floor hx
  have e : (tru x).natAbs = V (rg x) / Un := by
    unfold tru; cases sg x
    · rw [if_neg (by decide), Int.natAbs_natCast]
    · rw [if_pos rfl, Int.natAbs_neg, Int.natAbs_natCast]
  rw [← e] at hV
  refine ⟨b, hb, ofInt_whole _ _ hb hV, ?_, hV⟩
  rw [ofInt_whole _ _ hb hV, SV_word _ _ (by omega), hV, Int.natCast_mul]
  by_cases h : tru x < 0
  · simp only [h, decide_true, if_true]
    rw [← Int.neg_mul]; congr 1; omega
  · simp only [h, decide_false]
    rw [if_neg (by decide)]; congr 1; omega

theorem tru_flo (x : Nat) : (SV x < tru x * Un → flo x = tru x - 1) ∧ (¬ SV x < tru x * Un → flo x = tru x) := by
  have hU := Un_pos
  rw [flo_eq]; unfold tru SV
  have hd := Nat.div_add_mod (V (rg x)) Un
  have hm := Nat.mod_lt (V (rg x)) hU
  generalize V (rg x) / Un = q at *
  generalize V (rg x) % Un = r at *
  rw [← hd]
  cases sg x
  · simp only [if_neg (show ¬ false = true by decide)]
    have : ((Un * q + r : Nat) : Int) = (q : Int) * Un + r := by rw [Int.natCast_add, Int.natCast_mul, Int.mul_comm]
    rw [this]
    exact ⟨fun h => by omega, fun _ => trivial⟩
  · simp only [if_true]
    have : ((Un * q + r : Nat) : Int) = (q : Int) * Un + r := by rw [Int.natCast_add, Int.natCast_mul, Int.mul_comm]
    rw [this, Int.neg_mul]
    by_cases z : r = 0
    · subst z
      exact ⟨fun h => by omega, fun _ => by simp⟩
    · have b : (r != 0) = true := by simp [z]
      rw [b]
      exact ⟨fun h => by simp; omega, fun h => by omega⟩
end Go.Proofs.Ytmioagkmedcflaa
