/- The slopes of n keys, one key more, few keys, lines that are near, keys that are moved or turned round: in plain words. -/
import Derived.Test.YtlocnkoeffoflaaHPlain
namespace Go.Proofs.Ytlocnkoeffoflaa
set_option linter.unusedVariables false

/-- The pairs of n keys. -/
def Prs (n : Nat) (i j : Nat) : Prop := i < j ∧ j < n

/-- A key at place n. -/
def upd (f : Nat → Int) (n : Nat) (x : Int) (i : Nat) : Int := if i = n then x else f i
theorem upd_at (f : Nat → Int) (n : Nat) (x : Int) : upd f n x n = x := if_pos rfl
theorem upd_lo {f : Nat → Int} {n : Nat} {x : Int} {i : Nat} (h : i < n) : upd f n x i = f i := if_neg (by omega)

theorem up_step {f : Nat → Int} {n : Nat} (u : Up f n) : ∀ {i j : Nat}, i ≤ j → j < n → (j : Int) - i ≤ f j - f i := by
  intro i j hij hj
  induction j with
  | zero => have : i = 0 := by omega
            subst this; omega
  | succ j ih =>
    by_cases e : i = j + 1
    · subst e; omega
    · have h1 := ih (by omega) (by omega)
      have h2 := u j hj
      omega

theorem prs_pairs {f : Nat → Int} {n : Nat} (u : Up f n) : Pairs f (Prs n) :=
  ⟨fun i j s => s.1, fun i j s => by have := u.lt s.1 s.2; omega⟩

theorem up_upd {f : Nat → Int} {n : Nat} {x : Int} (u : Up f n) (h : 0 < n → f (n - 1) < x) : Up (upd f n x) (n + 1) := by
  intro j hj
  by_cases e : j + 1 = n
  · rw [e, upd_at, upd_lo (by omega)]
    have := h (by omega)
    rw [show n - 1 = j by omega] at this
    exact this
  · rw [upd_lo (by omega), upd_lo (by omega)]
    exact u j (by omega)

theorem LowOn.congr {e : Int} {f g : Nat → Int} {S T : Nat → Nat → Prop} {a b : Int} (h : LowOn e f S a b) (st : ∀ i j, S i j ↔ T i j) (q : ∀ i j, S i j → f j - f i = g j - g i) : LowOn e g T a b :=
  ⟨h.a0, h.b1, h.low, fun i j s => by rw [← q i j ((st i j).2 s)]; exact h.bound i j ((st i j).2 s), by
    rcases h.att with h0 | ⟨i, j, s, m, r⟩
    · exact .inl h0
    · exact .inr ⟨i, j, (st i j).1 s, m, by rw [← q i j s]; exact r⟩⟩
theorem TopOn.congr {e : Int} {f g : Nat → Int} {S T : Nat → Nat → Prop} {a b : Int} (h : TopOn e f S a b) (st : ∀ i j, S i j ↔ T i j) (q : ∀ i j, S i j → f j - f i = g j - g i) : TopOn e g T a b := by
  rcases h with ⟨h1, h2, no⟩ | ⟨a1, b1, hg, hb, i, j, s, r⟩
  · exact .inl ⟨h1, h2, fun i j s => no i j ((st i j).2 s)⟩
  · exact .inr ⟨a1, b1, hg, fun i j s => by rw [← q i j ((st i j).2 s)]; exact hb i j ((st i j).2 s), i, j, (st i j).1 s, by rw [← q i j s]; exact r⟩
theorem FitsOn.congr {e : Int} {f g : Nat → Int} {S T : Nat → Nat → Prop} (h : FitsOn e f S) (st : ∀ i j, T i j → S i j) (q : ∀ i j, T i j → f j - f i = g j - g i) : FitsOn e g T :=
  fun i j i' j' s s' => by rw [← q i j s, ← q i' j' s']; exact h i j i' j' (st i j s) (st i' j' s')

/-- The pairs of n keys, and those of the new one with the first i. -/
def Prs1 (n i : Nat) (p q : Nat) : Prop := (p < q ∧ q < n) ∨ (p < i ∧ q = n)
theorem prs1_zero (n : Nat) (p q : Nat) : Prs n p q ↔ Prs1 n 0 p q := by unfold Prs Prs1; omega
theorem prs1_succ (n i : Nat) (p q : Nat) : More (Prs1 n i) i n p q ↔ Prs1 n (i + 1) p q := by unfold More Prs1; omega
theorem prs1_all (n : Nat) (p q : Nat) : Prs1 n n p q ↔ Prs (n + 1) p q := by unfold Prs Prs1; omega
theorem prs1_pairs {f : Nat → Int} {n i : Nat} (u : Up f (n + 1)) (hi : i ≤ n) : Pairs f (Prs1 n i) :=
  ⟨fun p q s => by unfold Prs1 at s; omega, fun p q s => by
    have h1 : p < q ∧ q < n + 1 := by unfold Prs1 at s; omega
    have := u.lt h1.1 h1.2; omega⟩

/-- What an Add answers. -/
def AddR (e : Int) (n : Nat) (f : Nat → Int) (x : Int) (ok : Bool) (err : Int) : Prop :=
  (0 < n ∧ x ≤ f (n - 1) ∧ ok = false ∧ err = 40) ∨ (¬ (0 < n ∧ x ≤ f (n - 1)) ∧ err = 0 ∧ (ok = true ↔ FitsOn e (upd f n x) (Prs (n + 1))))
theorem AddR.one {e : Int} {n : Nat} {f : Nat → Int} {x : Int} {ok ok' : Bool} {err err' : Int} (h : AddR e n f x ok err) (k : AddR e n f x ok' err') : ok = ok' ∧ err = err' := by
  rcases h with ⟨h1, h2, rfl, rfl⟩ | ⟨h1, rfl, h3⟩
  · rcases k with ⟨_, _, rfl, rfl⟩ | ⟨k1, _⟩
    · exact ⟨rfl, rfl⟩
    · exact absurd ⟨h1, h2⟩ k1
  · rcases k with ⟨k1, k2, _⟩ | ⟨_, rfl, k3⟩
    · exact absurd ⟨k1, k2⟩ h1
    · refine ⟨?_, rfl⟩
      have := h3.trans k3.symm
      cases ok <;> cases ok' <;> simp_all

/-- Few always fit. -/
theorem few_fit {e : Int} {f : Nat → Int} {n : Nat} (he : 0 ≤ e) (u : Up f n) (hn : (n : Int) ≤ 2 * e + 1) : FitsOn e f (Prs n) := by
  intro i j i' j' s s'
  have p := prs_pairs u
  have D := p.pos i j s
  have D' := p.pos i' j' s'
  have h1 : (j : Int) - i - 2 * e ≤ 0 := by have := s.2; omega
  have h2 : 0 ≤ (j' : Int) - i' + 2 * e := by have := s'.1; omega
  have h3 := Int.mul_le_mul_of_nonneg_right h1 (show 0 ≤ f j' - f i' by omega)
  have h4 : 0 ≤ ((j' : Int) - i' + 2 * e) * (f j - f i) := Int.mul_nonneg h2 (by omega)
  omega

/-- The least slope is at most 1. -/
theorem low_one {e : Int} {f : Nat → Int} {n : Nat} {a b : Int} (he : 0 ≤ e) (u : Up f n) (h : LowOn e f (Prs n) a b) : a ≤ b := by
  have hb := h.b1
  rcases h.att with h0 | ⟨i, j, s, m0, r⟩
  · omega
  · have D := up_step u (show i ≤ j by have := s.1; omega) s.2
    have h1 : ((j : Int) - i - 2 * e) * b ≤ (f j - f i) * b := Int.mul_le_mul_of_nonneg_right (by omega) (by omega)
    rw [r, Int.mul_comm (f j - f i) b] at h1
    exact Int.le_of_mul_le_mul_right h1 (by omega)

theorem top_pos {e : Int} {f : Nat → Int} {S : Nat → Nat → Prop} {a b : Int} (h : TopOn e f S a b) : 1 ≤ a := by
  rcases h with ⟨rfl, _⟩ | ⟨a1, _⟩ <;> omega
theorem top_two {e : Int} {f : Nat → Int} {n : Nat} {a b : Int} (hn : 2 ≤ n) (h : TopOn e f (Prs n) a b) : 1 ≤ b := by
  rcases h with ⟨_, _, no⟩ | ⟨_, b1, _⟩
  · exact absurd ⟨by decide, by omega⟩ (no 0 1)
  · exact b1
theorem top_few {e : Int} {f : Nat → Int} {n : Nat} {a b : Int} (hn : n < 2) (h : TopOn e f (Prs n) a b) : a = 1 ∧ b = 0 := by
  rcases h with ⟨h1, h2, _⟩ | ⟨_, _, _, _, i, j, s, _⟩
  · exact ⟨h1, h2⟩
  · have := s.1; have := s.2; omega
theorem low_zero (e : Int) (f : Nat → Int) {n : Nat} (hn : n < 2) : LowOn e f (Prs n) 0 1 :=
  ⟨by omega, by omega, by decide, fun i j s => by have := s.1; have := s.2; omega, .inl rfl⟩
theorem top_none (e : Int) (f : Nat → Int) {n : Nat} (hn : n < 2) : TopOn e f (Prs n) 1 0 :=
  .inl ⟨rfl, rfl, fun i j s => by have := s.1; have := s.2; omega⟩

/-- A line with the slope a / b is near to n keys. -/
def NearR (e : Int) (f : Nat → Int) (n : Nat) (a b : Int) : Prop := ∀ i j, i < n → j < n → ((i : Int) - j - 2 * e) * b ≤ a * (f i - f j)

theorem near_fits {e : Int} {f : Nat → Int} {n : Nat} {a b : Int} (u : Up f n) (b1 : 1 ≤ b) (h : NearR e f n a b) : FitsOn e f (Prs n) := by
  intro i j i' j' s s'
  have p := prs_pairs u
  have D := p.pos i j s
  have D' := p.pos i' j' s'
  have h1 := h j i s.2 (by have := s.1; have := s.2; omega)
  have h2 := h i' j' (by have := s'.1; have := s'.2; omega) s'.2
  -- m b <= a D ; - M' b <= - a D'
  have h3 : a * (f j' - f i') ≤ ((j' : Int) - i' + 2 * e) * b := by
    have e1 : ((i' : Int) - j' - 2 * e) * b = -(((j' : Int) - i' + 2 * e) * b) := by rw [← Int.neg_mul]; congr 1; omega
    have e2 : a * (f i' - f j') = -(a * (f j' - f i')) := by rw [← Int.mul_neg]; congr 1; omega
    rw [e1, e2] at h2
    omega
  have s1 : ((j : Int) - i - 2 * e) * b * (f j' - f i') ≤ a * (f j - f i) * (f j' - f i') := Int.mul_le_mul_of_nonneg_right h1 (by omega)
  have s2 : a * (f j' - f i') * (f j - f i) ≤ ((j' : Int) - i' + 2 * e) * b * (f j - f i) := Int.mul_le_mul_of_nonneg_right h3 (by omega)
  have t1 : ((j : Int) - i - 2 * e) * b * (f j' - f i') = ((j : Int) - i - 2 * e) * (f j' - f i') * b := Int.mul_right_comm _ _ _
  have t2 : a * (f j - f i) * (f j' - f i') = a * (f j' - f i') * (f j - f i) := Int.mul_right_comm _ _ _
  have t3 : ((j' : Int) - i' + 2 * e) * b * (f j - f i) = ((j' : Int) - i' + 2 * e) * (f j - f i) * b := Int.mul_right_comm _ _ _
  rw [t1, t2] at s1
  rw [t3] at s2
  exact Int.le_of_mul_le_mul_right (Int.le_trans s1 s2) (by omega)

/-- Bounds from both sides are all that is asked. -/
theorem near_mk {e : Int} {f : Nat → Int} {n : Nat} {a b : Int} (he : 0 ≤ e) (b1 : 1 ≤ b) (h1 : ∀ i j, Prs n i j → ((j : Int) - i - 2 * e) * b ≤ a * (f j - f i)) (h2 : ∀ i j, Prs n i j → a * (f j - f i) ≤ ((j : Int) - i + 2 * e) * b) : NearR e f n a b := by
  intro i j hi hj
  rcases Nat.lt_trichotomy i j with q | q | q
  · have := h2 i j ⟨q, hj⟩
    have e1 : ((i : Int) - j - 2 * e) * b = -(((j : Int) - i + 2 * e) * b) := by rw [← Int.neg_mul]; congr 1; omega
    have e2 : a * (f i - f j) = -(a * (f j - f i)) := by rw [← Int.mul_neg]; congr 1; omega
    rw [e1, e2]
    omega
  · subst q
    have : ((i : Int) - i - 2 * e) * b ≤ 0 * b := Int.mul_le_mul_of_nonneg_right (by omega) (by omega)
    have e2 : a * (f i - f i) = 0 := by rw [Int.sub_self, Int.mul_zero]
    rw [e2]
    omega
  · exact h1 j i ⟨q, hi⟩

theorem near_low {e : Int} {f : Nat → Int} {n : Nat} {a b c d : Int} (he : 0 ≤ e) (u : Up f n) (h : LowOn e f (Prs n) a b) (k : TopOn e f (Prs n) c d) (hF : FitsOn e f (Prs n)) : NearR e f n a b := by
  have p := prs_pairs u
  have b1 := h.b1
  refine near_mk he h.b1 h.bound fun i j s => ?_
  have D := p.pos i j s
  have hn := (fits_iff he p h k).2 hF
  rcases k with ⟨_, _, no⟩ | ⟨c1, d1, _, kb, _⟩
  · exact absurd s (no i j)
  · have hle : a * d ≤ c * b := by
      rcases Int.lt_or_le (c * b) (a * d) with q | q
      · exact absurd (.inr ⟨by omega, by omega, q⟩) hn
      · exact q
    have k1 := kb i j s
    have s1 : a * d * (f j - f i) ≤ c * b * (f j - f i) := Int.mul_le_mul_of_nonneg_right hle (by omega)
    have s2 : c * (f j - f i) * b ≤ ((j : Int) - i + 2 * e) * d * b := Int.mul_le_mul_of_nonneg_right k1 (by omega)
    rw [Int.mul_right_comm a d, Int.mul_right_comm c b] at s1
    rw [Int.mul_right_comm _ d b] at s2
    exact Int.le_of_mul_le_mul_right (Int.le_trans s1 s2) (by omega)
theorem near_top {e : Int} {f : Nat → Int} {n : Nat} {a b c d : Int} (he : 0 ≤ e) (hn2 : 2 ≤ n) (u : Up f n) (h : LowOn e f (Prs n) a b) (k : TopOn e f (Prs n) c d) (hF : FitsOn e f (Prs n)) : NearR e f n c d := by
  have p := prs_pairs u
  have b1 := h.b1
  have hn := (fits_iff he p h k).2 hF
  have dd := top_two hn2 k
  rcases k with ⟨_, q, _⟩ | ⟨c1, d1, _, kb, _⟩
  · omega
  · refine near_mk he d1 (fun i j s => ?_) kb
    have D := p.pos i j s
    have hle : a * d ≤ c * b := by
      rcases Int.lt_or_le (c * b) (a * d) with q | q
      · exact absurd (.inr ⟨by omega, by omega, q⟩) hn
      · exact q
    have h1 := h.bound i j s
    have s1 : a * d * (f j - f i) ≤ c * b * (f j - f i) := Int.mul_le_mul_of_nonneg_right hle (by omega)
    have s2 : ((j : Int) - i - 2 * e) * b * d ≤ a * (f j - f i) * d := Int.mul_le_mul_of_nonneg_right h1 (by omega)
    rw [Int.mul_right_comm a d, Int.mul_right_comm c b] at s1
    rw [Int.mul_right_comm _ b d] at s2
    exact Int.le_of_mul_le_mul_right (Int.le_trans s2 s1) (by omega)

/-- Turned round. -/
def rev (x : Int) (n : Nat) (f : Nat → Int) (i : Nat) : Int := x - f (n - 1 - i)
theorem rev_diff {x : Int} {n : Nat} {f : Nat → Int} {i j : Nat} : rev x n f j - rev x n f i = f (n - 1 - i) - f (n - 1 - j) := by unfold rev; omega
theorem rev_up {x : Int} {n : Nat} {f : Nat → Int} (u : Up f n) : Up (rev x n f) n := by
  intro j hj
  have h := u.lt (a := n - 1 - (j + 1)) (b := n - 1 - j) (by omega) (by omega)
  have := @rev_diff x n f j (j + 1)
  omega
theorem rev_low {x e : Int} {n : Nat} {f : Nat → Int} {a b : Int} (h : LowOn e f (Prs n) a b) : LowOn e (rev x n f) (Prs n) a b := by
  refine ⟨h.a0, h.b1, h.low, fun i j s => ?_, ?_⟩
  · have := s.1; have := s.2
    have h1 := h.bound (n - 1 - j) (n - 1 - i) ⟨by omega, by omega⟩
    rw [rev_diff]
    rw [show ((n - 1 - i : Nat) : Int) - (n - 1 - j : Nat) = (j : Int) - i by omega] at h1
    exact h1
  · rcases h.att with h0 | ⟨i, j, s, m0, r⟩
    · exact .inl h0
    · have := s.1; have := s.2
      refine .inr ⟨n - 1 - j, n - 1 - i, ⟨by omega, by omega⟩, ?_, ?_⟩
      · rw [show ((n - 1 - i : Nat) : Int) - (n - 1 - j : Nat) = (j : Int) - i by omega]; exact m0
      · rw [rev_diff, show ((n - 1 - i : Nat) : Int) - (n - 1 - j : Nat) = (j : Int) - i by omega, show n - 1 - (n - 1 - j) = j by omega, show n - 1 - (n - 1 - i) = i by omega]; exact r
theorem rev_top {x e : Int} {n : Nat} {f : Nat → Int} {a b : Int} (h : TopOn e f (Prs n) a b) : TopOn e (rev x n f) (Prs n) a b := by
  rcases h with ⟨h1, h2, no⟩ | ⟨a1, b1, hg, hb, i, j, s, r⟩
  · exact .inl ⟨h1, h2, no⟩
  · have := s.1; have := s.2
    refine .inr ⟨a1, b1, hg, fun i j s => ?_, n - 1 - j, n - 1 - i, ⟨by omega, by omega⟩, ?_⟩
    · have := s.1; have := s.2
      have h1 := hb (n - 1 - j) (n - 1 - i) ⟨by omega, by omega⟩
      rw [rev_diff]
      rw [show ((n - 1 - i : Nat) : Int) - (n - 1 - j : Nat) = (j : Int) - i by omega] at h1
      exact h1
    · rw [rev_diff, show ((n - 1 - i : Nat) : Int) - (n - 1 - j : Nat) = (j : Int) - i by omega, show n - 1 - (n - 1 - j) = j by omega, show n - 1 - (n - 1 - i) = i by omega]; exact r
theorem rev_fits {x e : Int} {n : Nat} {f : Nat → Int} (h : FitsOn e f (Prs n)) : FitsOn e (rev x n f) (Prs n) := by
  intro i j i' j' s s'
  have := s.1; have := s.2; have := s'.1; have := s'.2
  have h1 := h (n - 1 - j) (n - 1 - i) (n - 1 - j') (n - 1 - i') ⟨by omega, by omega⟩ ⟨by omega, by omega⟩
  rw [rev_diff, rev_diff]
  rw [show ((n - 1 - i : Nat) : Int) - (n - 1 - j : Nat) = (j : Int) - i by omega, show ((n - 1 - i' : Nat) : Int) - (n - 1 - j' : Nat) = (j' : Int) - i' by omega] at h1
  exact h1
theorem fits_less {e : Int} {f : Nat → Int} {n m : Nat} (h : FitsOn e f (Prs n)) (hm : m ≤ n) : FitsOn e f (Prs m) :=
  h.congr (fun i j s => ⟨s.1, by have := s.2; omega⟩) (fun _ _ _ => rfl)

end Go.Proofs.Ytlocnkoeffoflaa
