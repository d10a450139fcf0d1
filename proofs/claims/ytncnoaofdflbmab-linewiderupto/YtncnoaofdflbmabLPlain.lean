/- Lines over keys, in plain words: where a line is, whether it fits, the line of keys; what follows. -/
import Derived.Test.YtncnoaofdflbmabHPlain2
namespace Go.Proofs.Ytncnoaofdflbmab
set_option linter.unusedVariables false

theorem LowOn.one_le {e : Int} {f : Nat → Int} {n : Nat} {a b : Int} (h : LowOn e f (Prs n) a b) : 1 ≤ b := h.b1

/-- At refuses. -/
def AtBad (a b c d : Int) : Prop := b = 0 ∨ c < -2305843009213693952 ∨ 2305843009213693952 < c ∨ 2305843009213693952 < a * d / b
/-- Where a line is. -/
def AtR (a b c d r err : Int) : Prop := (AtBad a b c d ∧ r = 0 ∧ err = 1) ∨ (¬ AtBad a b c d ∧ r = a * d / b + c ∧ err = 0)
theorem AtR.one {a b c d r err r' err' : Int} (h : AtR a b c d r err) (k : AtR a b c d r' err') : r = r' ∧ err = err' := by
  rcases h with ⟨h1, rfl, rfl⟩ | ⟨h1, rfl, rfl⟩
  · rcases k with ⟨_, rfl, rfl⟩ | ⟨k1, _⟩
    · exact ⟨rfl, rfl⟩
    · exact absurd h1 k1
  · rcases k with ⟨k1, _⟩ | ⟨_, rfl, rfl⟩
    · exact absurd k1 h1
    · exact ⟨rfl, rfl⟩

/-- A line is within e of the ranks of n keys, and At takes it there. -/
def Stays (e : Int) (f : Nat → Int) (n : Nat) (a b c : Int) : Prop := ∀ i, i < n → ¬ AtBad a b c (f i - f 0) ∧ (i : Int) - e ≤ a * (f i - f 0) / b + c ∧ a * (f i - f 0) / b + c ≤ (i : Int) + e
/-- What Fits asks. -/
def FitR (eps : Int) (f : Nat → Int) (n : Nat) (a b c : Int) : Prop := (2 ≤ eps ∧ eps ≤ 64) ∧ 0 < n ∧ Up f n ∧ Stays (eps - 1) f n a b c

/-- The least Base. -/
structure BaseR (e : Int) (f : Nat → Int) (n : Nat) (a b c : Int) : Prop where
  ge : ∀ i, i < n → (i : Int) - e ≤ a * (f i - f 0) / b + c
  att : ∃ i, i < n ∧ (i : Int) - e = a * (f i - f 0) / b + c
theorem BaseR.one {e : Int} {f : Nat → Int} {n : Nat} {a b c c' : Int} (h : BaseR e f n a b c) (k : BaseR e f n a b c') : c = c' := by
  obtain ⟨i, hi, ei⟩ := h.att
  obtain ⟨j, hj, ej⟩ := k.att
  have := h.ge j hj
  have := k.ge i hi
  omega

/-- The line of keys. -/
def OfR (eps : Int) (f : Nat → Int) (n : Nat) (a b c err : Int) : Prop :=
  (¬ (2 ≤ eps ∧ eps ≤ 64) ∧ a = 0 ∧ b = 0 ∧ c = 0 ∧ err = 1) ∨
  ((2 ≤ eps ∧ eps ≤ 64) ∧ ¬ (0 < n ∧ Up f n) ∧ a = 0 ∧ b = 0 ∧ c = 0 ∧ err = 50) ∨
  ((2 ≤ eps ∧ eps ≤ 64) ∧ (0 < n ∧ Up f n) ∧ ¬ FitsOn (eps - 1) f (Prs n) ∧ a = 0 ∧ b = 0 ∧ c = 0 ∧ err = 51) ∨
  ((2 ≤ eps ∧ eps ≤ 64) ∧ (0 < n ∧ Up f n) ∧ FitsOn (eps - 1) f (Prs n) ∧ LowOn (eps - 1) f (Prs n) a b ∧ BaseR (eps - 1) f n a b c ∧ err = 0)
theorem OfR.one {eps : Int} {f : Nat → Int} {n : Nat} {a b c err a' b' c' err' : Int} (h : OfR eps f n a b c err) (k : OfR eps f n a' b' c' err') : (a = a' ∧ b = b' ∧ c = c') ∧ err = err' := by
  rcases h with ⟨h1, rfl, rfl, rfl, rfl⟩ | ⟨h1, h2, rfl, rfl, rfl, rfl⟩ | ⟨h1, h2, h3, rfl, rfl, rfl, rfl⟩ | ⟨h1, h2, h3, h4, h5, rfl⟩
  · rcases k with ⟨k1, rfl, rfl, rfl, rfl⟩ | ⟨k1, _⟩ | ⟨k1, _⟩ | ⟨k1, _⟩
    · exact ⟨⟨rfl, rfl, rfl⟩, rfl⟩
    all_goals exact absurd k1 h1
  · rcases k with ⟨k1, _⟩ | ⟨_, k2, rfl, rfl, rfl, rfl⟩ | ⟨_, k2, _⟩ | ⟨_, k2, _⟩
    · exact absurd h1 k1
    · exact ⟨⟨rfl, rfl, rfl⟩, rfl⟩
    all_goals exact absurd k2 h2
  · rcases k with ⟨k1, _⟩ | ⟨_, k2, _⟩ | ⟨_, k2, k3, rfl, rfl, rfl, rfl⟩ | ⟨_, k2, k3, _⟩
    · exact absurd h1 k1
    · exact absurd h2 k2
    · exact ⟨⟨rfl, rfl, rfl⟩, rfl⟩
    · exact absurd k3 h3
  · rcases k with ⟨k1, _⟩ | ⟨_, k2, _⟩ | ⟨_, k2, k3, _⟩ | ⟨_, k2, k3, k4, k5, rfl⟩
    · exact absurd h1 k1
    · exact absurd h2 k2
    · exact absurd h3 k3
    · obtain ⟨rfl, rfl⟩ := h4.one (prs_pairs h2.2) k4
      exact ⟨⟨rfl, rfl, h5.one k5⟩, rfl⟩

/-- Floors of two fractions apart. -/
theorem floor_apart {x y b k : Int} (b1 : 1 ≤ b) (h : k * b ≤ x - y) : k ≤ x / b - y / b := by
  have hx := Int.emod_add_mul_ediv x b
  have hy := Int.emod_add_mul_ediv y b
  have rx := Int.emod_nonneg x (show b ≠ 0 by omega)
  have rx' := Int.emod_lt_of_pos x (show 0 < b by omega)
  have ry := Int.emod_nonneg y (show b ≠ 0 by omega)
  have ry' := Int.emod_lt_of_pos y (show 0 < b by omega)
  have key : (k - 1) * b < (x / b - y / b) * b := by
    have e1 : (k - 1) * b = k * b - b := by rw [Int.sub_mul, Int.one_mul]
    have e2 : (x / b - y / b) * b = b * (x / b) - b * (y / b) := by rw [Int.sub_mul, Int.mul_comm, Int.mul_comm (y / b)]
    omega
  have := Int.lt_of_mul_lt_mul_right key (by omega)
  omega

/-- The line of keys is within e of all ranks. -/
theorem near_stays {e : Int} {f : Nat → Int} {n : Nat} {a b c : Int} (he : 0 ≤ e) (b1 : 1 ≤ b) (h : NearR e f n a b) (B : BaseR e f n a b c) : ∀ i, i < n → (i : Int) - e ≤ a * (f i - f 0) / b + c ∧ a * (f i - f 0) / b + c ≤ (i : Int) + e := by
  intro i hi
  refine ⟨B.ge i hi, ?_⟩
  obtain ⟨j, hj, ej⟩ := B.att
  have k := h j i hj hi
  have e1 : a * (f j - f i) = a * (f j - f 0) - a * (f i - f 0) := by rw [← Int.mul_sub]; congr 1; omega
  rw [e1] at k
  have := floor_apart b1 k
  omega

/-- How great what a line of keys reckons is. -/
theorem line_small {e : Int} {f : Nat → Int} {n : Nat} {a b : Int} (he : 0 ≤ e) (u : Up f n) (h : LowOn e f (Prs n) a b) (hF : FitsOn e f (Prs n)) {i : Nat} (hi : i < n) : 0 ≤ a * (f i - f 0) / b ∧ a * (f i - f 0) / b ≤ (n : Int) + 2 * e := by
  have b1 := h.b1
  have d0 := u.le (Nat.zero_le i) hi
  refine ⟨Int.ediv_nonneg (Int.mul_nonneg h.a0 (by omega)) (by omega), ?_⟩
  by_cases z : i = 0
  · subst z
    rw [Int.sub_self, Int.mul_zero, Int.zero_ediv]
    omega
  · -- the pair (0, i)
    have p := prs_pairs u
    have s : Prs n 0 i := ⟨by omega, hi⟩
    have D := p.pos 0 i s
    have up : a * (f i - f 0) ≤ ((i : Int) - (0 : Nat) + 2 * e) * b := by
      rcases h.att with q | ⟨i0, j0, s0, m0, r⟩
      · rw [q, Int.zero_mul]
        exact Int.mul_nonneg (by omega) (by omega)
      · have D0 := p.pos i0 j0 s0
        have k := hF i0 j0 0 i s0 s
        have k1 := Int.mul_le_mul_of_nonneg_right k (show 0 ≤ b by omega)
        rw [Int.mul_right_comm _ (f i - f 0) b, r, Int.mul_right_comm _ (f j0 - f i0) b, Int.mul_right_comm a (f j0 - f i0) (f i - f 0)] at k1
        exact Int.le_of_mul_le_mul_right k1 D0
    have := Int.ediv_le_of_le_mul (show 0 < b by omega) up
    omega

/-- P5.4: the line that Of tells fits. -/
theorem of_stays {eps : Int} {f : Nat → Int} {n : Nat} {a b c : Int} (k : 2 ≤ eps ∧ eps ≤ 64) (u : Up f n) (n0 : 0 < n) (hn : n ≤ 100000000) (hF : FitsOn (eps - 1) f (Prs n)) (h : LowOn (eps - 1) f (Prs n) a b) (nr : NearR (eps - 1) f n a b) (B : BaseR (eps - 1) f n a b c) : Stays (eps - 1) f n a b c ∧ (-(eps - 1) ≤ c ∧ c ≤ n) := by
  have b1 := h.b1
  have hc0 := B.ge 0 n0
  rw [Int.sub_self, Int.mul_zero, Int.zero_ediv] at hc0
  obtain ⟨j, hj, ej⟩ := B.att
  have sj := line_small (by omega) u h hF hj
  have hc : -(eps - 1) ≤ c ∧ c ≤ n := by omega
  refine ⟨fun i hi => ⟨fun q => ?_, near_stays (by omega) b1 nr B i hi⟩, hc⟩
  have si := line_small (by omega) u h hF hi
  rcases q with q | q | q | q <;> omega

/-- P5.5: with a lesser Base it does not fit. -/
theorem less_base {e : Int} {f : Nat → Int} {n : Nat} {a b c : Int} (B : BaseR e f n a b c) : ¬ Stays e f n a b (c - 1) := by
  intro h
  obtain ⟨j, hj, ej⟩ := B.att
  have := (h j hj).2.1
  omega

/-- Keys moved by a number. -/
theorem of_moved {eps : Int} {f g : Nat → Int} {n : Nat} {a b c err : Int} (h : OfR eps f n a b c err) (d : ∀ i j, i < n → j < n → f j - f i = g j - g i) : OfR eps g n a b c err := by
  have up : Up f n → Up g n := fun u j hj => by have := d j (j + 1) (by omega) hj; have := u j hj; omega
  have up' : Up g n → Up f n := fun u j hj => by have := d j (j + 1) (by omega) hj; have := u j hj; omega
  have dd : ∀ i j, Prs n i j → f j - f i = g j - g i := fun i j s => d i j (by have := s.1; have := s.2; omega) s.2
  rcases h with h | ⟨h1, h2, h3⟩ | ⟨h1, h2, h3, h4⟩ | ⟨h1, h2, h3, h4, h5, h6⟩
  · exact .inl h
  · exact .inr (.inl ⟨h1, fun q => h2 ⟨q.1, up' q.2⟩, h3⟩)
  · exact .inr (.inr (.inl ⟨h1, ⟨h2.1, up h2.2⟩, fun q => h3 (q.congr (fun _ _ s => s) (fun i j s => (dd i j s).symm)), h4⟩))
  · refine .inr (.inr (.inr ⟨h1, ⟨h2.1, up h2.2⟩, h3.congr (fun _ _ s => s) dd, h4.congr (fun _ _ => Iff.rfl) dd, ⟨fun i hi => ?_, ?_⟩, h6⟩))
    · rw [← d 0 i h2.1 hi]; exact h5.ge i hi
    · obtain ⟨i, hi, e⟩ := h5.att
      exact ⟨i, hi, by rw [← d 0 i h2.1 hi]; exact e⟩

/-- A greater eps lets what fits fit. -/
theorem fits_wider {e e' : Int} {f : Nat → Int} {n : Nat} (u : Up f n) (he : e ≤ e') (h : FitsOn e f (Prs n)) : FitsOn e' f (Prs n) := by
  intro i j i' j' s s'
  have p := prs_pairs u
  have D := p.pos i j s
  have D' := p.pos i' j' s'
  have k := h i j i' j' s s'
  have k1 : ((j : Int) - i - 2 * e') * (f j' - f i') ≤ ((j : Int) - i - 2 * e) * (f j' - f i') := Int.mul_le_mul_of_nonneg_right (by omega) (by omega)
  have k2 : ((j' : Int) - i' + 2 * e) * (f j - f i) ≤ ((j' : Int) - i' + 2 * e') * (f j - f i) := Int.mul_le_mul_of_nonneg_right (by omega) (by omega)
  omega
/-- .. and asks for no steeper slope. -/
theorem low_wider {e e' : Int} {f : Nat → Int} {n : Nat} {a b c d : Int} (u : Up f n) (he : e ≤ e') (h : LowOn e f (Prs n) a b) (k : LowOn e' f (Prs n) c d) : c * b ≤ a * d := by
  have p := prs_pairs u
  have hb := h.b1; have hd := k.b1; have ha := h.a0
  rcases k.att with q | ⟨i, j, s, m0, m1⟩
  · rw [q, Int.zero_mul]
    exact Int.mul_nonneg ha (by omega)
  · have D := p.pos i j s
    have h1 := h.bound i j s
    -- m' d = c D; m b <= a D; m' <= m
    have k1 : ((j : Int) - i - 2 * e') * b ≤ ((j : Int) - i - 2 * e) * b := Int.mul_le_mul_of_nonneg_right (by omega) (by omega)
    have k2 : ((j : Int) - i - 2 * e') * b * d ≤ a * (f j - f i) * d := Int.mul_le_mul_of_nonneg_right (by omega) (by omega)
    rw [Int.mul_right_comm _ b d, m1, Int.mul_right_comm c _ b, Int.mul_right_comm a _ d] at k2
    exact Int.le_of_mul_le_mul_right k2 D
theorem stays_wider {e e' : Int} {f : Nat → Int} {n : Nat} {a b c : Int} (he : e ≤ e') (h : Stays e f n a b c) : Stays e' f n a b c := fun i hi => by
  obtain ⟨h1, h2, h3⟩ := h i hi
  exact ⟨h1, by omega, by omega⟩

end Go.Proofs.Ytncnoaofdflbmab
