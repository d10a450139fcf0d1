/- Lines over keys with their ranks, in plain words: the least and the greatest slope that all pairs leave, as fractions in lowest terms. -/
import Derived.Test.YtlocnkoeffoflaaKPlain
namespace Go.Proofs.Ytlocnkoeffoflaa
set_option linter.unusedVariables false

/-- a / b is below c / d; b or d is 0 for what is above all others. -/
def Blw (a b c d : Int) : Prop := (b ≠ 0 ∧ d = 0) ∨ (b ≠ 0 ∧ d ≠ 0 ∧ a * d < c * b)

/-- The pairs that are asked. -/
structure Pairs (f : Nat → Int) (S : Nat → Nat → Prop) : Prop where
  lt : ∀ i j, S i j → i < j
  pos : ∀ i j, S i j → 0 < f j - f i

/-- a / b is the greatest of 0 and all (j - i - 2 e) / (f j - f i). -/
structure LowOn (e : Int) (f : Nat → Int) (S : Nat → Nat → Prop) (a b : Int) : Prop where
  a0 : 0 ≤ a
  b1 : 1 ≤ b
  low : Int.gcd a b = 1
  bound : ∀ i j, S i j → ((j : Int) - i - 2 * e) * b ≤ a * (f j - f i)
  att : a = 0 ∨ ∃ i j, S i j ∧ 0 < (j : Int) - i - 2 * e ∧ ((j : Int) - i - 2 * e) * b = a * (f j - f i)

/-- a / b is the least of all (j - i + 2 e) / (f j - f i); without a pair it is 1 / 0. -/
def TopOn (e : Int) (f : Nat → Int) (S : Nat → Nat → Prop) (a b : Int) : Prop :=
  (a = 1 ∧ b = 0 ∧ ∀ i j, ¬ S i j) ∨
  (1 ≤ a ∧ 1 ≤ b ∧ Int.gcd a b = 1 ∧ (∀ i j, S i j → a * (f j - f i) ≤ ((j : Int) - i + 2 * e) * b) ∧ ∃ i j, S i j ∧ a * (f j - f i) = ((j : Int) - i + 2 * e) * b)

/-- Each lower bound is at most each upper one. -/
def FitsOn (e : Int) (f : Nat → Int) (S : Nat → Nat → Prop) : Prop :=
  ∀ i j i' j', S i j → S i' j' → ((j : Int) - i - 2 * e) * (f j' - f i') ≤ ((j' : Int) - i' + 2 * e) * (f j - f i)

theorem mul4 (p q r s : Int) : p * q * (r * s) = p * r * (q * s) := by
  rw [Int.mul_assoc, ← Int.mul_assoc q r s, Int.mul_comm q r, Int.mul_assoc r q s, ← Int.mul_assoc]

theorem cop_dvd {b a d : Int} (h : Int.gcd a b = 1) (hd : b ∣ a * d) : b ∣ d := by
  have h1 : b.natAbs.Coprime a.natAbs := by
    show Nat.gcd b.natAbs a.natAbs = 1
    rw [Nat.gcd_comm]
    exact h
  have h2 : b.natAbs ∣ a.natAbs * d.natAbs := by
    rw [← Int.natAbs_mul]
    exact Int.natAbs_dvd_natAbs.2 hd
  exact Int.natAbs_dvd_natAbs.1 (h1.dvd_of_dvd_mul_left h2)

/-- Fractions in lowest terms that are alike are one. -/
theorem frac_one {a b c d : Int} (a0 : 0 ≤ a) (c0 : 0 ≤ c) (b1 : 1 ≤ b) (d1 : 1 ≤ d) (h : Int.gcd a b = 1) (k : Int.gcd c d = 1) (e : a * d = c * b) : a = c ∧ b = d := by
  have hb : b ∣ d := cop_dvd h ⟨c, by rw [e, Int.mul_comm]⟩
  have hd : d ∣ b := cop_dvd k ⟨a, by rw [← e, Int.mul_comm]⟩
  have hbd : b = d := Int.dvd_antisymm (by omega) (by omega) hb hd
  subst hbd
  exact ⟨Int.eq_of_mul_eq_mul_right (by omega) e, rfl⟩

theorem low_le {e : Int} {f : Nat → Int} {S T : Nat → Nat → Prop} {a b c d : Int} (p : Pairs f S) (h : LowOn e f S a b) (k : LowOn e f T c d) (sub : ∀ i j, S i j → T i j) : a * d ≤ c * b := by
  have hb := h.b1; have hd := k.b1; have hc := k.a0
  rcases h.att with h0 | ⟨i, j, s, m0, m1⟩
  · subst h0
    have : 0 ≤ c * b := Int.mul_nonneg hc (by omega)
    omega
  · have D := p.pos i j s
    have k1 := k.bound i j (sub i j s)
    -- m b = a D; m d <= c D
    have e1 : (a * d) * (f j - f i) = ((j : Int) - i - 2 * e) * d * b := by
      rw [Int.mul_right_comm, ← m1, Int.mul_right_comm]
    have e2 : ((j : Int) - i - 2 * e) * d * b ≤ c * (f j - f i) * b := Int.mul_le_mul_of_nonneg_right k1 (by omega)
    have e3 : c * (f j - f i) * b = (c * b) * (f j - f i) := Int.mul_right_comm _ _ _
    exact Int.le_of_mul_le_mul_right (by rw [e1, ← e3]; exact e2) D

theorem LowOn.one {e : Int} {f : Nat → Int} {S : Nat → Nat → Prop} {a b c d : Int} (p : Pairs f S) (h : LowOn e f S a b) (k : LowOn e f S c d) : a = c ∧ b = d :=
  frac_one h.a0 k.a0 h.b1 k.b1 h.low k.low (Int.le_antisymm (low_le p h k fun _ _ s => s) (low_le p k h fun _ _ s => s))

/-- An upper bound that is reached is at least as great as the least one. -/
theorem top_le {e : Int} {f : Nat → Int} {S T : Nat → Nat → Prop} {a b c d : Int} (p : Pairs f S) (h : TopOn e f S a b) (k : TopOn e f T c d) (sub : ∀ i j, S i j → T i j) (hb : b ≠ 0) : d ≠ 0 ∧ c * b ≤ a * d := by
  rcases h with ⟨_, h0, _⟩ | ⟨a1, b1, _, _, i, j, s, m1⟩
  · exact absurd h0 hb
  · rcases k with ⟨_, _, no⟩ | ⟨c1, d1, _, kb, _⟩
    · exact absurd (sub i j s) (no i j)
    · refine ⟨by omega, ?_⟩
      have D := p.pos i j s
      have k1 := kb i j (sub i j s)
      -- c D <= M d, a D = M b
      have e1 : (a * d) * (f j - f i) = ((j : Int) - i + 2 * e) * d * b := by
        rw [Int.mul_right_comm, m1, Int.mul_right_comm]
      have e2 : c * (f j - f i) * b ≤ ((j : Int) - i + 2 * e) * d * b := Int.mul_le_mul_of_nonneg_right k1 (by omega)
      have e3 : c * (f j - f i) * b = (c * b) * (f j - f i) := Int.mul_right_comm _ _ _
      exact Int.le_of_mul_le_mul_right (by rw [e1, ← e3]; exact e2) D

theorem TopOn.one {e : Int} {f : Nat → Int} {S : Nat → Nat → Prop} {a b c d : Int} (p : Pairs f S) (h : TopOn e f S a b) (k : TopOn e f S c d) : a = c ∧ b = d := by
  have h' := h
  have k' := k
  rcases h with ⟨rfl, rfl, no⟩ | ⟨a1, b1, hg, _, i, j, s, m1⟩
  · rcases k with ⟨rfl, rfl, _⟩ | ⟨_, _, _, _, i, j, s, _⟩
    · exact ⟨rfl, rfl⟩
    · exact absurd s (no i j)
  · rcases k with ⟨_, _, no⟩ | ⟨c1, d1, kg, kb, _⟩
    · exact absurd s (no i j)
    · have q1 := (top_le p h' k' (fun _ _ s => s) (by omega)).2
      have q2 := (top_le p k' h' (fun _ _ s => s) (by omega)).2
      exact frac_one (by omega) (by omega) b1 d1 hg kg (Int.le_antisymm q2 q1)

/-- The least slope is not above the greatest one just if all bounds agree. -/
theorem fits_iff {e : Int} {f : Nat → Int} {S : Nat → Nat → Prop} {a b c d : Int} (he : 0 ≤ e) (p : Pairs f S) (h : LowOn e f S a b) (k : TopOn e f S c d) : ¬ Blw c d a b ↔ FitsOn e f S := by
  have hb := h.b1; have ha := h.a0
  constructor
  · intro hn i j i' j' s s'
    have D := p.pos i j s
    have D' := p.pos i' j' s'
    have M' : 0 ≤ (j' : Int) - i' + 2 * e := by have := p.lt i' j' s'; omega
    have R : 0 ≤ ((j' : Int) - i' + 2 * e) * (f j - f i) := Int.mul_nonneg M' (by omega)
    by_cases m0 : (j : Int) - i - 2 * e ≤ 0
    · have : ((j : Int) - i - 2 * e) * (f j' - f i') ≤ 0 := by
        have := Int.mul_le_mul_of_nonneg_right m0 (show 0 ≤ f j' - f i' by omega)
        omega
      omega
    · rcases k with ⟨_, _, no⟩ | ⟨c1, d1, _, kb, _⟩
      · exact absurd s (no i j)
      · have hle : a * d ≤ c * b := by
          rcases Int.lt_or_le (c * b) (a * d) with q | q
          · exact absurd (.inr ⟨by omega, by omega, q⟩) hn
          · exact q
        have h1 := h.bound i j s
        have k1 := kb i' j' s'
        -- m b <= a D; c D' <= M' d; a d <= c b
        have s1 : ((j : Int) - i - 2 * e) * b * ((f j' - f i') * d) ≤ a * (f j - f i) * ((f j' - f i') * d) := Int.mul_le_mul_of_nonneg_right h1 (Int.mul_nonneg (by omega) (by omega))
        have s2 : a * d * ((f j - f i) * (f j' - f i')) ≤ c * b * ((f j - f i) * (f j' - f i')) := Int.mul_le_mul_of_nonneg_right hle (Int.mul_nonneg (by omega) (by omega))
        have s3 : c * (f j' - f i') * ((f j - f i) * b) ≤ ((j' : Int) - i' + 2 * e) * d * ((f j - f i) * b) := Int.mul_le_mul_of_nonneg_right k1 (Int.mul_nonneg (by omega) (by omega))
        have t1 : ((j : Int) - i - 2 * e) * b * ((f j' - f i') * d) = ((j : Int) - i - 2 * e) * (f j' - f i') * (b * d) := mul4 _ _ _ _
        have t2 : a * (f j - f i) * ((f j' - f i') * d) = a * d * ((f j - f i) * (f j' - f i')) := by
          rw [Int.mul_comm (f j' - f i') d, mul4]
        have t3 : c * b * ((f j - f i) * (f j' - f i')) = c * (f j' - f i') * ((f j - f i) * b) := by
          rw [Int.mul_comm (f j - f i) (f j' - f i'), mul4, Int.mul_comm b]
        have t4 : ((j' : Int) - i' + 2 * e) * d * ((f j - f i) * b) = ((j' : Int) - i' + 2 * e) * (f j - f i) * (b * d) := by
          rw [mul4, Int.mul_comm d b]
        have fin : ((j : Int) - i - 2 * e) * (f j' - f i') * (b * d) ≤ ((j' : Int) - i' + 2 * e) * (f j - f i) * (b * d) := by
          rw [← t1, ← t4]
          refine Int.le_trans s1 ?_
          rw [t2]
          refine Int.le_trans s2 ?_
          rw [t3]
          exact s3
        exact Int.le_of_mul_le_mul_right fin (Int.mul_pos (by omega) (by omega))
  · intro hF hB
    rcases hB with ⟨_, q⟩ | ⟨_, _, q⟩
    · omega
    · rcases k with ⟨rfl, rfl, _⟩ | ⟨c1, d1, _, _, i', j', s', k1⟩
      · omega
      · rcases h.att with h0 | ⟨i, j, s, _, h1⟩
        · subst h0
          have : 0 ≤ c * b := Int.mul_nonneg (by omega) (by omega)
          omega
        · have D := p.pos i j s
          have D' := p.pos i' j' s'
          have h2 := hF i j i' j' s s'
          have s1 : ((j : Int) - i - 2 * e) * (f j' - f i') * (b * d) ≤ ((j' : Int) - i' + 2 * e) * (f j - f i) * (b * d) := Int.mul_le_mul_of_nonneg_right h2 (Int.mul_nonneg (by omega) (by omega))
          rw [mul4, h1, Int.mul_comm b d, mul4 ((j' : Int) - i' + 2 * e), ← k1] at s1
          -- a D (D' d) <= c D' (D b)
          have t1 : a * (f j - f i) * ((f j' - f i') * d) = a * d * ((f j - f i) * (f j' - f i')) := by
            rw [Int.mul_comm (f j' - f i') d, mul4]
          have t2 : c * (f j' - f i') * ((f j - f i) * b) = c * b * ((f j - f i) * (f j' - f i')) := by
            rw [Int.mul_comm (f j - f i) b, mul4, Int.mul_comm (f j' - f i')]
          rw [t1, t2] at s1
          have := Int.le_of_mul_le_mul_right s1 (Int.mul_pos D D')
          omega

/-- A pair more. -/
def More (S : Nat → Nat → Prop) (p q : Nat) (i j : Nat) : Prop := S i j ∨ (i = p ∧ j = q)

/-- The greatest lower bound with a pair more that asks for nothing. -/
theorem LowOn.skip {e : Int} {f : Nat → Int} {S : Nat → Nat → Prop} {a b : Int} {p q : Nat} (h : LowOn e f S a b) (hD : 0 < f q - f p) (m0 : (q : Int) - p - 2 * e ≤ 0) : LowOn e f (More S p q) a b := by
  have hb := h.b1; have ha := h.a0
  refine ⟨h.a0, h.b1, h.low, fun i j s => ?_, ?_⟩
  · rcases s with s | ⟨rfl, rfl⟩
    · exact h.bound i j s
    · have h1 := Int.mul_le_mul_of_nonneg_right m0 (show 0 ≤ b by omega)
      have h2 : 0 ≤ a * (f j - f i) := Int.mul_nonneg ha (by omega)
      omega
  · rcases h.att with h0 | ⟨i, j, s, r⟩
    · exact .inl h0
    · exact .inr ⟨i, j, .inl s, r⟩

/-- .. that asks for less than is known. -/
theorem LowOn.keep {e : Int} {f : Nat → Int} {S : Nat → Nat → Prop} {a b c d g : Int} {p q : Nat} (h : LowOn e f S a b) (g0 : 0 < g) (d1 : 1 ≤ d) (ec : c * g = (q : Int) - p - 2 * e) (ed : d * g = f q - f p) (hn : ¬ Blw a b c d) : LowOn e f (More S p q) a b := by
  have hb := h.b1; have ha := h.a0
  have hle : c * b ≤ a * d := by
    rcases Int.lt_or_le (a * d) (c * b) with r | r
    · exact absurd (.inr ⟨by omega, by omega, r⟩) hn
    · exact r
  refine ⟨h.a0, h.b1, h.low, fun i j s => ?_, ?_⟩
  · rcases s with s | ⟨rfl, rfl⟩
    · exact h.bound i j s
    · rw [← ec, ← ed, Int.mul_right_comm, ← Int.mul_assoc]
      exact Int.mul_le_mul_of_nonneg_right hle (by omega)
  · rcases h.att with h0 | ⟨i, j, s, r⟩
    · exact .inl h0
    · exact .inr ⟨i, j, .inl s, r⟩

/-- .. that asks for more. -/
theorem LowOn.take {e : Int} {f : Nat → Int} {S : Nat → Nat → Prop} {a b c d g : Int} {p q : Nat} (ps : Pairs f S) (h : LowOn e f S a b) (g0 : 0 < g) (c1 : 1 ≤ c) (d1 : 1 ≤ d) (hg : Int.gcd c d = 1) (ec : c * g = (q : Int) - p - 2 * e) (ed : d * g = f q - f p) (hB : Blw a b c d) : LowOn e f (More S p q) c d := by
  have hb := h.b1; have ha := h.a0
  have hle : a * d ≤ c * b := by
    rcases hB with ⟨_, r⟩ | ⟨_, _, r⟩ <;> omega
  refine ⟨by omega, d1, hg, fun i j s => ?_, .inr ⟨p, q, .inr ⟨rfl, rfl⟩, by rw [← ec]; exact Int.mul_pos (by omega) g0, by rw [← ec, ← ed, Int.mul_right_comm, ← Int.mul_assoc]⟩⟩
  rcases s with s | ⟨rfl, rfl⟩
  · have h1 := h.bound i j s
    have D := ps.pos i j s
    -- m b <= a D, a d <= c b : m d b <= a D d <= c D b
    have s1 : ((j : Int) - i - 2 * e) * b * d ≤ a * (f j - f i) * d := Int.mul_le_mul_of_nonneg_right h1 (by omega)
    have s2 : a * d * (f j - f i) ≤ c * b * (f j - f i) := Int.mul_le_mul_of_nonneg_right hle (by omega)
    have t1 : a * (f j - f i) * d = a * d * (f j - f i) := Int.mul_right_comm _ _ _
    have t2 : c * b * (f j - f i) = c * (f j - f i) * b := Int.mul_right_comm _ _ _
    have t3 : ((j : Int) - i - 2 * e) * b * d = ((j : Int) - i - 2 * e) * d * b := Int.mul_right_comm _ _ _
    rw [t3, t1] at s1
    rw [t2] at s2
    exact Int.le_of_mul_le_mul_right (Int.le_trans s1 s2) (by omega)
  · rw [← ec, ← ed, Int.mul_right_comm, ← Int.mul_assoc]
    exact Int.le_refl _

/-- The least upper bound with a pair more that asks for no less. -/
theorem TopOn.keep {e : Int} {f : Nat → Int} {S : Nat → Nat → Prop} {a b c d g : Int} {p q : Nat} (h : TopOn e f S a b) (g0 : 0 < g) (c1 : 1 ≤ c) (d1 : 1 ≤ d) (ec : c * g = (q : Int) - p + 2 * e) (ed : d * g = f q - f p) (hn : ¬ Blw c d a b) : TopOn e f (More S p q) a b := by
  rcases h with ⟨rfl, rfl, _⟩ | ⟨a1, b1, hg, hb, i, j, s, r⟩
  · exact absurd (.inl ⟨by omega, rfl⟩) hn
  · have hle : a * d ≤ c * b := by
      rcases Int.lt_or_le (c * b) (a * d) with r | r
      · exact absurd (.inr ⟨by omega, by omega, r⟩) hn
      · exact r
    refine .inr ⟨a1, b1, hg, fun i j s => ?_, i, j, .inl s, r⟩
    rcases s with s | ⟨rfl, rfl⟩
    · exact hb i j s
    · rw [← ec, ← ed, Int.mul_right_comm, ← Int.mul_assoc]
      exact Int.mul_le_mul_of_nonneg_right hle (by omega)

/-- .. that asks for less. -/
theorem TopOn.take {e : Int} {f : Nat → Int} {S : Nat → Nat → Prop} {a b c d g : Int} {p q : Nat} (ps : Pairs f S) (h : TopOn e f S a b) (g0 : 0 < g) (c1 : 1 ≤ c) (d1 : 1 ≤ d) (hg : Int.gcd c d = 1) (ec : c * g = (q : Int) - p + 2 * e) (ed : d * g = f q - f p) (hB : Blw c d a b) : TopOn e f (More S p q) c d := by
  refine .inr ⟨c1, d1, hg, fun i j s => ?_, p, q, .inr ⟨rfl, rfl⟩, by rw [← ec, ← ed, Int.mul_right_comm, ← Int.mul_assoc]⟩
  rcases s with s | ⟨rfl, rfl⟩
  · rcases h with ⟨_, _, no⟩ | ⟨a1, b1, _, hb, _⟩
    · exact absurd s (no i j)
    · have hle : c * b ≤ a * d := by
        rcases hB with ⟨_, r⟩ | ⟨_, _, r⟩ <;> omega
      have h1 := hb i j s
      have D := ps.pos i j s
      -- a D <= M b, c b <= a d : c D b <= a D d <= M b d
      have s1 : a * (f j - f i) * d ≤ ((j : Int) - i + 2 * e) * b * d := Int.mul_le_mul_of_nonneg_right h1 (by omega)
      have s2 : c * b * (f j - f i) ≤ a * d * (f j - f i) := Int.mul_le_mul_of_nonneg_right hle (by omega)
      have t1 : a * (f j - f i) * d = a * d * (f j - f i) := Int.mul_right_comm _ _ _
      have t2 : c * b * (f j - f i) = c * (f j - f i) * b := Int.mul_right_comm _ _ _
      have t3 : ((j : Int) - i + 2 * e) * b * d = ((j : Int) - i + 2 * e) * d * b := Int.mul_right_comm _ _ _
      rw [t1, t3] at s1
      rw [t2] at s2
      exact Int.le_of_mul_le_mul_right (Int.le_trans s2 s1) (by omega)
  · rw [← ec, ← ed, Int.mul_right_comm, ← Int.mul_assoc]
    exact Int.le_refl _

end Go.Proofs.Ytlocnkoeffoflaa
