/- The model's floats, read as rungs of the ladder: order, sums, products, whole parts: no Go in it. -/
import Derived.Test.YtmioagkmedcflaaFMath
namespace Go.Proofs.Ytmioagkmedcflaa
open Ieee

def sg (wd : Nat) : Bool := wd / 9223372036854775808 % 2 == 1
def rg (wd : Nat) : Nat := wd % 9223372036854775808
def mg (r : Nat) : Nat := if r < 4503599627370496 then r else 4503599627370496 + r % 4503599627370496
def xp (r : Nat) : Nat := r / 4503599627370496 - 1

theorem V_mg (r : Nat) : V r = mg r * 2 ^ xp r := by
  unfold V mg xp
  split
  · rename_i h; rw [show r / 4503599627370496 - 1 = 0 by omega]; simp
  · rfl
theorem mg_lt (r : Nat) : mg r < 9007199254740992 := by unfold mg; split <;> omega
theorem mg_pos {r : Nat} (h : 0 < r) : 0 < mg r := by unfold mg; split <;> omega
theorem mg_zero : mg 0 = 0 := rfl

theorem least : double.leastPlace = -1074 := by decide
theorem bin : double.binade = 4503599627370496 := by decide
theorem swt : double.signWeight = 9223372036854775808 := by decide
theorem inf : double.infRung = 9218868437227405312 := by decide

theorem read_fin {x : Nat} (h : rg x < 9218868437227405312) : double.read x = .number (sg x) (mg (rg x)) (-1074 + (xp (rg x) : Int)) := by
  unfold Format.read
  rw [least, bin, swt, inf]
  simp only [← show rg x = x % 9223372036854775808 from rfl, ← show sg x = (x / 9223372036854775808 % 2 == 1) from rfl]
  unfold mg xp
  by_cases c : rg x < 4503599627370496
  · rw [if_pos c, if_pos c, show rg x / 4503599627370496 - 1 = 0 by omega]; rfl
  · rw [if_neg c, if_pos h, if_neg c]
theorem read_inf {x : Nat} (h : rg x = 9218868437227405312) : double.read x = .infinity (sg x) := by
  unfold Format.read
  rw [least, bin, swt, inf]
  simp only [← show rg x = x % 9223372036854775808 from rfl, ← show sg x = (x / 9223372036854775808 % 2 == 1) from rfl]
  rw [if_neg (by omega), if_neg (by omega), if_pos h]
theorem read_nan {x : Nat} (h : 9218868437227405312 < rg x) : double.read x = .nan (sg x) (rg x - 9218868437227405312) := by
  unfold Format.read
  rw [least, bin, swt, inf]
  simp only [← show rg x = x % 9223372036854775808 from rfl, ← show sg x = (x / 9223372036854775808 % 2 == 1) from rfl]
  rw [if_neg (by omega), if_neg (by omega), if_neg (by omega)]

/-- What a finite word stands for, in units of 2^-1074. -/
def SV (x : Nat) : Int := if sg x then -(V (rg x) : Int) else V (rg x)

theorem signed_up (s : Bool) (m u k : Nat) : signed s m (u + k) = signed s m u * 2 ^ k := by
  unfold signed
  have e : m <<< (u + k) = m <<< u * 2 ^ k := by rw [Nat.shiftLeft_eq, Nat.shiftLeft_eq, Nat.pow_add, Nat.mul_assoc]
  cases s <;> simp [e, Int.neg_mul]
theorem SV_signed (x : Nat) : SV x = signed (sg x) (mg (rg x)) (xp (rg x)) := by
  unfold SV signed
  rw [V_mg, Nat.shiftLeft_eq]

theorem cmp_scale (a b k : Int) (h : 0 < k) : compare (a * k) (b * k) = compare a b := by
  show compareOfLessAndEq _ _ = compareOfLessAndEq _ _
  unfold compareOfLessAndEq
  have e1 : (a * k < b * k) ↔ a < b := Int.mul_lt_mul_right h
  have e2 : (a * k = b * k) ↔ a = b := Int.mul_eq_mul_right_iff (by omega)
  simp only [e1, e2]

theorem two_pow_pos (k : Nat) : (0 : Int) < 2 ^ k := Int.pow_pos (by decide)

theorem order_fin {x y : Nat} (hx : rg x < 9218868437227405312) (hy : rg y < 9218868437227405312) : double.order x y = some (compare (SV x) (SV y)) := by
  unfold Format.order
  rw [read_fin hx, read_fin hy]
  unfold Datum.order
  simp only
  have e : min (-1074 + (xp (rg x) : Int)) (-1074 + (xp (rg y) : Int)) = -1074 + ((min (xp (rg x)) (xp (rg y)) : Nat) : Int) := by omega
  rw [e]
  have e1 : (-1074 + (xp (rg x) : Int) - (-1074 + ((min (xp (rg x)) (xp (rg y)) : Nat) : Int))).toNat = xp (rg x) - min (xp (rg x)) (xp (rg y)) := by omega
  have e2 : (-1074 + (xp (rg y) : Int) - (-1074 + ((min (xp (rg x)) (xp (rg y)) : Nat) : Int))).toNat = xp (rg y) - min (xp (rg x)) (xp (rg y)) := by omega
  rw [e1, e2]
  have f1 : SV x = signed (sg x) (mg (rg x)) (xp (rg x) - min (xp (rg x)) (xp (rg y))) * 2 ^ (min (xp (rg x)) (xp (rg y))) := by
    rw [← signed_up, SV_signed]; congr 1; omega
  have f2 : SV y = signed (sg y) (mg (rg y)) (xp (rg y) - min (xp (rg x)) (xp (rg y))) * 2 ^ (min (xp (rg x)) (xp (rg y))) := by
    rw [← signed_up, SV_signed]; congr 1; omega
  rw [f1, f2, cmp_scale _ _ _ (two_pow_pos _)]

theorem fcmp_lt (a b : Int) : (some (compare a b) == some Ordering.lt) = decide (a < b) := by
  rw [show compare a b = compareOfLessAndEq a b from rfl]; unfold compareOfLessAndEq
  by_cases h : a < b
  · simp [h]
  · by_cases k : a = b <;> simp [h, k]
theorem fcmp_eq (a b : Int) : (some (compare a b) == some Ordering.eq) = decide (a = b) := by
  rw [show compare a b = compareOfLessAndEq a b from rfl]; unfold compareOfLessAndEq
  by_cases h : a < b
  · have : ¬ a = b := by omega
    simp [h, this]
  · by_cases k : a = b <;> simp [h, k]
theorem cmp_gt (a b : Int) : (some (compare a b) == some Ordering.gt) = decide (b < a) := by
  rw [show compare a b = compareOfLessAndEq a b from rfl]; unfold compareOfLessAndEq
  by_cases h : a < b
  · have : ¬ b < a := by omega
    simp [h, this]
  · by_cases k : a = b
    · simp [k]
    · have : b < a := by omega
      simp [h, k, this]

theorem f_lt {x y : Nat} (hx : rg x < 9218868437227405312) (hy : rg y < 9218868437227405312) : (double.order x y == some .lt) = decide (SV x < SV y) := by rw [order_fin hx hy, fcmp_lt]
theorem f_gt {x y : Nat} (hx : rg x < 9218868437227405312) (hy : rg y < 9218868437227405312) : (double.order x y == some .gt) = decide (SV y < SV x) := by rw [order_fin hx hy, cmp_gt]
theorem f_eq {x y : Nat} (hx : rg x < 9218868437227405312) (hy : rg y < 9218868437227405312) : (double.order x y == some .eq) = decide (SV x = SV y) := by rw [order_fin hx hy, fcmp_eq]
theorem f_ne {x y : Nat} (hx : rg x < 9218868437227405312) (hy : rg y < 9218868437227405312) : (double.order x y != some .eq) = !decide (SV x = SV y) := by rw [bne, f_eq hx hy]
theorem f_le {x y : Nat} (hx : rg x < 9218868437227405312) (hy : rg y < 9218868437227405312) : (double.order x y == some .lt || double.order x y == some .eq) = decide (SV x ≤ SV y) := by
  rw [f_lt hx hy, f_eq hx hy]
  by_cases h : SV x < SV y
  · have : SV x ≤ SV y := by omega
    simp [h, this]
  · by_cases k : SV x = SV y
    · simp [k]
    · have : ¬ SV x ≤ SV y := by omega
      simp [h, k, this]
theorem f_ge {x y : Nat} (hx : rg x < 9218868437227405312) (hy : rg y < 9218868437227405312) : (double.order x y == some .gt || double.order x y == some .eq) = decide (SV y ≤ SV x) := by
  rw [f_gt hx hy, f_eq hx hy]
  by_cases h : SV y < SV x
  · have : SV y ≤ SV x := by omega
    simp [h, this]
  · by_cases k : SV x = SV y
    · simp [k]
    · have : ¬ SV y ≤ SV x := by omega
      simp [h, k, this]

theorem cut_even (neg : Bool) (n d : Nat) : Toward.even.cut neg n d = rne n (2 ^ d) := by
  unfold Toward.cut rne
  simp only [Nat.one_shiftLeft]
  have hl : n < 2 ^ (n.log2 + 1) := Nat.lt_log2_self
  by_cases h : d ≤ n.log2 + 2
  · rw [Nat.min_eq_left h]
  · rw [Nat.min_eq_right (by omega)]
    have p1 : 2 ^ (n.log2 + 2) = 2 * 2 ^ (n.log2 + 1) := by rw [Nat.pow_succ, Nat.mul_comm]
    have p2 : 2 ^ (n.log2 + 2) ≤ 2 ^ d := Nat.pow_le_pow_right (by decide) (by omega)
    have q1 : n / 2 ^ (n.log2 + 2) = 0 := Nat.div_eq_of_lt (by omega)
    have q2 : n % 2 ^ (n.log2 + 2) = n := Nat.mod_eq_of_lt (by omega)
    have q3 : n / 2 ^ d = 0 := Nat.div_eq_of_lt (by omega)
    have q4 : n % 2 ^ d = n := Nat.mod_eq_of_lt (by omega)
    rw [q1, q2, q3, q4]
    have d1 : decide (2 ^ (n.log2 + 2) < 2 * n) = false := decide_eq_false (by omega)
    have d2 : decide (2 ^ d < 2 * n) = false := decide_eq_false (by omega)
    rw [d1, d2]
    simp

theorem nearest_eq (neg : Bool) (mag : Nat) (place : Int) (b a c : Nat) (h0 : 0 < mag) (hp : place + 1074 = (a : Int) - c) (h : Nr (mag * 2 ^ a) (2 ^ c) b) :
    double.nearest neg mag place = double.word neg (min b 9218868437227405312) := by
  have l1 : 2 ^ mag.log2 ≤ mag := Nat.log2_self_le (by omega)
  have l2 : mag < 2 ^ (mag.log2 + 1) := Nat.lt_log2_self
  unfold Format.nearest
  rw [if_neg (by omega), least, bin, inf]
  simp only [cut_even, Nat.shiftLeft_eq, show double.fractionBits = 52 from rfl]
  generalize hL : mag.log2 = L at *
  generalize hl : max (place + (L : Int) - (52 : Nat)) (-1074) = last
  generalize hd : (last - place).toNat = d
  generalize hu : (place - last).toNat = u
  generalize he : (last - -1074).toNat = e
  have pd := Nat.two_pow_pos d
  have pu := Nat.two_pow_pos u
  have pc := Nat.two_pow_pos c
  have n1 : mag * 2 ^ u / 2 ^ d < 9007199254740992 := by
    refine Nat.div_lt_of_lt_mul ?_
    have z1 : mag * 2 ^ u < 2 ^ (L + 1) * 2 ^ u := Nat.mul_lt_mul_of_pos_right l2 pu
    have z2 : 2 ^ (L + 1) * 2 ^ u ≤ 2 ^ d * 9007199254740992 := by
      rw [← Nat.pow_add, show (9007199254740992 : Nat) = 2 ^ 53 from rfl, ← Nat.pow_add]
      exact Nat.pow_le_pow_right (by decide) (by omega)
    omega
  have n2 : 4503599627370496 ≤ mag * 2 ^ u / 2 ^ d ∨ e = 0 := by
    by_cases k : e = 0
    · exact .inr k
    · refine .inl ((Nat.le_div_iff_mul_le pd).2 ?_)
      have z1 : 2 ^ L * 2 ^ u ≤ mag * 2 ^ u := Nat.mul_le_mul_right _ l1
      have z2 : 4503599627370496 * 2 ^ d ≤ 2 ^ L * 2 ^ u := by
        rw [← Nat.pow_add, show (4503599627370496 : Nat) = 2 ^ 52 from rfl, ← Nat.pow_add]
        exact Nat.pow_le_pow_right (by decide) (by omega)
      omega
  have key := Nr.of_rne (mag * 2 ^ u) (2 ^ d) e pd n1 n2
  have key2 : Nr (mag * 2 ^ a) (2 ^ c) (e * 4503599627370496 + rne (mag * 2 ^ u) (2 ^ d)) := by
    refine key.scale pd pc ?_
    rw [Nat.mul_assoc, Nat.mul_assoc, Nat.mul_assoc, ← Nat.pow_add, ← Nat.pow_add, ← Nat.pow_add]
    congr 2; omega
  rw [key2.uniq h pc]

theorem Nr.zero (y : Nat) (hy : 0 < y) : Nr 0 y 0 := Nr.of_eq hy (by rw [V_zero]; omega)

/-- Every number has a nearest float, and it is written so. -/
theorem nearest_ex (neg : Bool) (mag : Nat) (place : Int) (a c : Nat) (hp : place + 1074 = (a : Int) - c) :
    ∃ b, Nr (mag * 2 ^ a) (2 ^ c) b ∧ double.nearest neg mag place = double.word neg (min b 9218868437227405312) := by
  have pc := Nat.two_pow_pos c
  by_cases h0 : mag = 0
  · refine ⟨0, by rw [h0, Nat.zero_mul]; exact Nr.zero _ pc, ?_⟩
    unfold Format.nearest; rw [if_pos h0]; rfl
  · have l1 : 2 ^ mag.log2 ≤ mag := Nat.log2_self_le (by omega)
    have l2 : mag < 2 ^ (mag.log2 + 1) := Nat.lt_log2_self
    suffices ∃ b, Nr (mag * 2 ^ a) (2 ^ c) b by
      obtain ⟨b, hb⟩ := this
      exact ⟨b, hb, nearest_eq neg mag place b a c (by omega) hp hb⟩
    generalize hL : mag.log2 = L at *
    -- n / g with 53 binary digits at the most
    have := Nat.two_pow_pos a
    obtain ⟨e, u, d, q1, q2, q3⟩ : ∃ e u d : Nat, L + 1 + u ≤ 53 + d ∧ (52 + d ≤ L + u ∨ e = 0) ∧ u + e + c = a + d := by
      by_cases k : a + L ≤ 52 + c
      · exact ⟨0, a, c, by omega, .inr rfl, by omega⟩
      · by_cases k2 : L ≤ 52
        · exact ⟨a - c - (52 - L), 52 - L, 0, by omega, by omega, by omega⟩
        · exact ⟨a + (L - 52) - c, 0, L - 52, by omega, by omega, by omega⟩
    have pd := Nat.two_pow_pos d
    have pu := Nat.two_pow_pos u
    have n1 : mag * 2 ^ u / 2 ^ d < 9007199254740992 := by
      refine Nat.div_lt_of_lt_mul ?_
      have z1 : mag * 2 ^ u < 2 ^ (L + 1) * 2 ^ u := Nat.mul_lt_mul_of_pos_right l2 pu
      have z2 : 2 ^ (L + 1) * 2 ^ u ≤ 2 ^ d * 9007199254740992 := by
        rw [← Nat.pow_add, show (9007199254740992 : Nat) = 2 ^ 53 from rfl, ← Nat.pow_add]
        exact Nat.pow_le_pow_right (by decide) (by omega)
      omega
    have n2 : 4503599627370496 ≤ mag * 2 ^ u / 2 ^ d ∨ e = 0 := by
      rcases q2 with q2 | q2
      · refine .inl ((Nat.le_div_iff_mul_le pd).2 ?_)
        have z1 : 2 ^ L * 2 ^ u ≤ mag * 2 ^ u := Nat.mul_le_mul_right _ l1
        have z2 : 4503599627370496 * 2 ^ d ≤ 2 ^ L * 2 ^ u := by
          rw [← Nat.pow_add, show (4503599627370496 : Nat) = 2 ^ 52 from rfl, ← Nat.pow_add]
          exact Nat.pow_le_pow_right (by decide) (by omega)
        omega
      · exact .inr q2
    refine ⟨_, (Nr.of_rne (mag * 2 ^ u) (2 ^ d) e pd n1 n2).scale pd pc ?_⟩
    rw [Nat.mul_assoc, Nat.mul_assoc, Nat.mul_assoc, ← Nat.pow_add, ← Nat.pow_add, ← Nat.pow_add]
    congr 2; omega

theorem word_rg (neg : Bool) (b : Nat) (h : b < 9223372036854775808) : rg (double.word neg b) = b := by
  unfold rg Format.word; rw [swt]; split <;> omega
theorem word_sg (neg : Bool) (b : Nat) (h : b < 9223372036854775808) : sg (double.word neg b) = neg := by
  unfold sg Format.word; rw [swt]
  cases neg
  · simp; omega
  · simp; omega
theorem word_false (b : Nat) : double.word false b = b := rfl

theorem natAbs_mul_pow (t : Int) (k : Nat) : t.natAbs * 2 ^ k = (t * 2 ^ k).natAbs := by
  rw [Int.natAbs_mul, Int.natAbs_pow]; rfl

theorem opp_signed (s : Bool) (m u : Nat) : signed (!s) m u = - signed s m u := by
  unfold signed; cases s <;> simp

/-- A sum of two finite floats, rounded once. -/
theorem sum_fin (s t : Bool) (m n i j : Nat) :
    ∃ b, Nr (signed s m i + signed t n j).natAbs 1 b ∧ ((Datum.number s m (-1074 + (i : Int))).sum (.number t n (-1074 + (j : Int)))).map double.write =
      some (double.word (if signed s m i + signed t n j = 0 then s && t else signed s m i + signed t n j < 0) (min b 9218868437227405312)) := by
  have e : min (-1074 + (i : Int)) (-1074 + (j : Int)) = -1074 + ((min i j : Nat) : Int) := by omega
  have e1 : (-1074 + (i : Int) - (-1074 + ((min i j : Nat) : Int))).toNat = i - min i j := by omega
  have e2 : (-1074 + (j : Int) - (-1074 + ((min i j : Nat) : Int))).toNat = j - min i j := by omega
  unfold Datum.sum
  simp only [e, e1, e2, Option.map]
  have f1 : signed s m i = signed s m (i - min i j) * 2 ^ (min i j) := by rw [← signed_up]; congr 1; omega
  have f2 : signed t n j = signed t n (j - min i j) * 2 ^ (min i j) := by rw [← signed_up]; congr 1; omega
  rw [f1, f2, ← Int.add_mul, ← natAbs_mul_pow]
  generalize signed s m (i - min i j) + signed t n (j - min i j) = tot
  generalize min i j = k
  have hp := two_pow_pos k
  have z1 : (tot * 2 ^ k = 0) ↔ tot = 0 := ⟨fun h => by rcases Int.mul_eq_zero.1 h with h | h <;> omega, fun h => by rw [h]; simp⟩
  have z2 : (tot * 2 ^ k < 0) ↔ tot < 0 := by
    have := Int.mul_lt_mul_right (b := tot) (c := 0) hp
    rw [Int.zero_mul] at this; exact this
  obtain ⟨b, hb, hw⟩ := nearest_ex (if tot = 0 then s && t else decide (tot < 0)) tot.natAbs (-1074 + (k : Int)) k 0 (by omega)
  refine ⟨b, by simpa using hb, ?_⟩
  show some (double.nearest _ _ _) = _
  rw [hw]
  congr 2
  by_cases c : tot = 0
  · rw [if_pos c, if_pos (z1.2 c)]
  · rw [if_neg c, if_neg (fun h => c (z1.1 h))]
    simp only [z2]

theorem add_fin {x y : Nat} (hx : rg x < 9218868437227405312) (hy : rg y < 9218868437227405312) :
    ∃ b, Nr (SV x + SV y).natAbs 1 b ∧ double.add x y = some (double.word (if SV x + SV y = 0 then sg x && sg y else SV x + SV y < 0) (min b 9218868437227405312)) := by
  unfold Format.add
  rw [read_fin hx, read_fin hy, SV_signed, SV_signed]
  exact sum_fin _ _ _ _ _ _
theorem sub_fin {x y : Nat} (hx : rg x < 9218868437227405312) (hy : rg y < 9218868437227405312) :
    ∃ b, Nr (SV x - SV y).natAbs 1 b ∧ double.sub x y = some (double.word (if SV x - SV y = 0 then sg x && !sg y else SV x - SV y < 0) (min b 9218868437227405312)) := by
  unfold Format.sub
  rw [read_fin hx, read_fin hy, SV_signed, SV_signed]
  have := sum_fin (sg x) (!sg y) (mg (rg x)) (mg (rg y)) (xp (rg x)) (xp (rg y))
  rw [opp_signed, ← Int.sub_eq_add_neg] at this
  exact this

/-- 2^1074, kept shut. -/
def fpw (k : Nat) : Nat := 2 ^ k
def Un : Nat := fpw 1074
theorem Un_at (k : Nat) (h : k = 1074) : 2 ^ k = Un := congrArg fpw h
theorem Un_ex : ∃ k, k = 1074 ∧ Un = 2 ^ k := ⟨1074, rfl, (Un_at 1074 rfl).symm⟩
theorem Un_pos : 0 < Un := by obtain ⟨k, _, e⟩ := Un_ex; rw [e]; exact Nat.two_pow_pos k
theorem Un_pow (k : Nat) : 2 ^ k * Un = 2 ^ (k + 1074) := by obtain ⟨j, h, e⟩ := Un_ex; rw [e, ← h, Nat.pow_add]

/-- A product of two finite floats, rounded once. -/
theorem mul_fin {x y : Nat} (hx : rg x < 9218868437227405312) (hy : rg y < 9218868437227405312) :
    ∃ b, Nr (V (rg x) * V (rg y)) (Un) b ∧ double.mul x y = some (double.word (sg x ^^ sg y) (min b 9218868437227405312)) := by
  unfold Format.mul
  rw [read_fin hx, read_fin hy]
  obtain ⟨k, hk, hU⟩ := Un_ex
  obtain ⟨b, hb, hw⟩ := nearest_ex (sg x ^^ sg y) (mg (rg x) * mg (rg y)) (-1074 + (xp (rg x) : Int) + (-1074 + (xp (rg y) : Int))) (xp (rg x) + xp (rg y)) k (by omega)
  refine ⟨b, ?_, ?_⟩
  · rw [V_mg, V_mg (rg y)]
    have : mg (rg x) * 2 ^ xp (rg x) * (mg (rg y) * 2 ^ xp (rg y)) = mg (rg x) * mg (rg y) * 2 ^ (xp (rg x) + xp (rg y)) := by
      rw [Nat.pow_add, Nat.mul_mul_mul_comm]
    rw [this, hU]; exact hb
  · show some (double.nearest _ _ _) = _
    rw [hw]

theorem cut_zero (neg : Bool) (n d : Nat) : Toward.zero.cut neg n d = n / 2 ^ d := by
  unfold Toward.cut
  simp only [Nat.one_shiftLeft, Bool.toNat_false, Nat.add_zero]
  have hl : n < 2 ^ (n.log2 + 1) := Nat.lt_log2_self
  by_cases h : d ≤ n.log2 + 2
  · rw [Nat.min_eq_left h]
  · rw [Nat.min_eq_right (by omega)]
    have p1 : 2 ^ (n.log2 + 2) = 2 * 2 ^ (n.log2 + 1) := by rw [Nat.pow_succ, Nat.mul_comm]
    have p2 : 2 ^ (n.log2 + 2) ≤ 2 ^ d := Nat.pow_le_pow_right (by decide) (by omega)
    rw [Nat.div_eq_of_lt (by omega), Nat.div_eq_of_lt (by omega)]

theorem down_nat (m k : Nat) : m * 2 ^ ((-1074 + (k : Int)).toNat) / 2 ^ ((-(-1074 + (k : Int))).toNat) = m * 2 ^ k / Un := by
  by_cases h : 1074 ≤ k
  · rw [show (-1074 + (k : Int)).toNat = k - 1074 by omega, show (-(-1074 + (k : Int))).toNat = 0 by omega, Nat.pow_zero, Nat.div_one]
    refine (Nat.div_eq_of_eq_mul_left Un_pos ?_).symm
    rw [Nat.mul_assoc, Un_pow (k - 1074)]; congr 2; omega
  · rw [show (-1074 + (k : Int)).toNat = 0 by omega, show (-(-1074 + (k : Int))).toNat = 1074 - k by omega, Nat.pow_zero, Nat.mul_one]
    have : Un = 2 ^ (1074 - k) * 2 ^ k := by rw [← Nat.pow_add, Un_at _ (show 1074 - k + k = 1074 by omega)]
    rw [this, Nat.mul_div_mul_right _ _ (Nat.two_pow_pos _)]

/-- A finite float cut towards zero. -/
theorem toInt_fin {x : Nat} (hx : rg x < 9218868437227405312) : (double.read x).toInt .zero = some (if sg x then -((V (rg x) / Un : Nat) : Int) else (V (rg x) / Un : Nat)) := by
  rw [read_fin hx]
  unfold Datum.toInt Datum.integral
  simp only [cut_zero, Nat.shiftLeft_eq]
  rw [down_nat, ← V_mg]
  unfold signed
  simp only [Nat.shiftLeft_zero]
end Go.Proofs.Ytmioagkmedcflaa
