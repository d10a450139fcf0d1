/- Lists of keys and of entries, in plain words: rising, ranks, what is wrong, how many live. -/
import Init
namespace Go.Proofs.Ytkojcjfjmlompaa

/-- Each key is above the one ahead of it. -/
def Up (f : Nat → Int) (n : Nat) : Prop := ∀ j, j + 1 < n → f j < f (j + 1)

theorem Up.lt {f : Nat → Int} {n : Nat} (h : Up f n) : ∀ {a b : Nat}, a < b → b < n → f a < f b := by
  intro a b hab hb
  induction b with
  | zero => omega
  | succ b ih =>
    have h1 := h b hb
    by_cases e : a = b
    · subst e; exact h1
    · have h2 := ih (by omega) (by omega)
      omega
theorem Up.le {f : Nat → Int} {n : Nat} (h : Up f n) {a b : Nat} (hab : a ≤ b) (hb : b < n) : f a ≤ f b := by
  by_cases e : a = b
  · subst e; omega
  · have := h.lt (show a < b by omega) hb; omega

/-- m keys are below q; t tells whether q is one. -/
structure RankR (f : Nat → Int) (n : Nat) (q : Int) (m : Nat) (t : Bool) : Prop where
  le : m ≤ n
  lo : ∀ j, j < m → f j < q
  hi : ∀ j, m ≤ j → j < n → q ≤ f j
  at_ : t = true ↔ (m < n ∧ f m = q)

theorem RankR.one {f : Nat → Int} {n : Nat} {q : Int} {m m' : Nat} {t t' : Bool} (h : RankR f n q m t) (k : RankR f n q m' t') : m = m' ∧ t = t' := by
  have e : m = m' := by
    have h1 := h.le; have h2 := k.le
    rcases Nat.lt_trichotomy m m' with hh | hh | hh
    · have := h.hi m (Nat.le_refl _) (by omega); have := k.lo m hh; omega
    · exact hh
    · have := k.hi m' (Nat.le_refl _) (by omega); have := h.lo m' hh; omega
  subst e
  refine ⟨rfl, ?_⟩
  have := h.at_; have := k.at_
  cases t <;> cases t' <;> simp_all

theorem RankR.congr {f g : Nat → Int} {n : Nat} {q : Int} {m : Nat} {t : Bool} (h : RankR f n q m t) (e : ∀ i, i < n → f i = g i) : RankR g n q m t := by
  have hle := h.le
  refine ⟨h.le, fun j hj => by rw [← e j (by omega)]; exact h.lo j hj, fun j h1 h2 => by rw [← e j h2]; exact h.hi j h1 h2, ?_⟩
  rw [h.at_]
  constructor
  · intro ⟨a, b⟩; exact ⟨a, by rw [← e m a]; exact b⟩
  · intro ⟨a, b⟩; exact ⟨a, by rw [e m a]; exact b⟩

theorem RankR.mono {f : Nat → Int} {n : Nat} {q p : Int} {m k : Nat} {t s : Bool} (h : RankR f n q m t) (h' : RankR f n p k s) (hp : p ≤ q) : k ≤ m := by
  rcases Nat.lt_or_ge m k with hh | hh
  · have := h'.le
    have := h.hi m (Nat.le_refl _) (by omega); have := h'.lo m hh; omega
  · exact hh

theorem RankR.self {f : Nat → Int} {n : Nat} {i m : Nat} {t : Bool} (u : Up f n) (hi : i < n) (h : RankR f n (f i) m t) : m = i ∧ t = true := by
  have e : m = i := by
    rcases Nat.lt_trichotomy m i with hh | hh | hh
    · have := h.hi m (Nat.le_refl _) (by omega); have := u.lt hh hi; omega
    · exact hh
    · have := h.lo i hh; omega
  subst e
  exact ⟨rfl, h.at_.2 ⟨hi, rfl⟩⟩

/-- What is wrong with entries, the first one that counts. -/
def ChkR (k v : Nat → Int) (g : Nat → Bool) (n : Nat) (e : Int) : Prop :=
  (e = 0 ∧ Up k n ∧ ∀ j, j < n → ¬ (g j = true ∧ v j ≠ 0)) ∨
  (e = 30 ∧ ∃ i, i + 1 < n ∧ Up k (i + 1) ∧ (∀ j, j < i + 1 → ¬ (g j = true ∧ v j ≠ 0)) ∧ k (i + 1) ≤ k i) ∨
  (e = 31 ∧ ∃ i, i < n ∧ Up k (i + 1) ∧ (∀ j, j < i → ¬ (g j = true ∧ v j ≠ 0)) ∧ (g i = true ∧ v i ≠ 0))

theorem ChkR.ok {k v : Nat → Int} {g : Nat → Bool} {n : Nat} (u : Up k n) (b : ∀ j, j < n → ¬ (g j = true ∧ v j ≠ 0)) : ChkR k v g n 0 := .inl ⟨rfl, u, b⟩
theorem ChkR.order {k v : Nat → Int} {g : Nat → Bool} {n : Nat} (i : Nat) (hi : i + 1 < n) (u : Up k (i + 1)) (b : ∀ j, j < i + 1 → ¬ (g j = true ∧ v j ≠ 0)) (d : k (i + 1) ≤ k i) : ChkR k v g n 30 := .inr (.inl ⟨rfl, i, hi, u, b, d⟩)
theorem ChkR.gone {k v : Nat → Int} {g : Nat → Bool} {n : Nat} (i : Nat) (hi : i < n) (u : Up k (i + 1)) (b : ∀ j, j < i → ¬ (g j = true ∧ v j ≠ 0)) (d : g i = true ∧ v i ≠ 0) : ChkR k v g n 31 := .inr (.inr ⟨rfl, i, hi, u, b, d⟩)

theorem ChkR.one {k v : Nat → Int} {g : Nat → Bool} {n : Nat} {e e' : Int} (h : ChkR k v g n e) (h' : ChkR k v g n e') : e = e' := by
  rcases h with ⟨e1, u, b⟩ | ⟨e1, i, hi, u, b, d⟩ | ⟨e1, i, hi, u, b, d⟩
  · rcases h' with ⟨e2, u', b'⟩ | ⟨e2, i, hi, u', b', d⟩ | ⟨e2, i, hi, u', b', d⟩
    · omega
    · have := u i hi; omega
    · exact absurd d (b i hi)
  · rcases h' with ⟨e2, u', b'⟩ | ⟨e2, j, hj, u', b', d'⟩ | ⟨e2, j, hj, u', b', d'⟩
    · have := u' i hi; omega
    · omega
    · rcases Nat.lt_or_ge j (i + 1) with hh | hh
      · exact absurd d' (b j hh)
      · have := u' i (by omega); omega
  · rcases h' with ⟨e2, u', b'⟩ | ⟨e2, j, hj, u', b', d'⟩ | ⟨e2, j, hj, u', b', d'⟩
    · exact absurd d (b' i hi)
    · rcases Nat.lt_or_ge i (j + 1) with hh | hh
      · exact absurd d (b' i hh)
      · have := u j (by omega); omega
    · omega

theorem ChkR.zero {k v : Nat → Int} {g : Nat → Bool} {n : Nat} {e : Int} (h : ChkR k v g n e) : e = 0 ↔ (Up k n ∧ ∀ j, j < n → ¬ (g j = true ∧ v j ≠ 0)) := by
  constructor
  · intro e0
    rcases h with ⟨_, u, b⟩ | ⟨e1, _⟩ | ⟨e1, _⟩
    · exact ⟨u, b⟩
    · omega
    · omega
  · intro ⟨u, b⟩
    exact h.one (.ok u b)

/-- How many are no tombstones. -/
def lv (g : Nat → Bool) : Nat → Nat
  | 0 => 0
  | n + 1 => lv g n + (if g n = true then 0 else 1)

theorem lv_le (g : Nat → Bool) (n : Nat) : lv g n ≤ n := by
  induction n with
  | zero => simp [lv]
  | succ n ih => simp only [lv]; split <;> omega
theorem lv_congr {g g' : Nat → Bool} {n : Nat} (h : ∀ i, i < n → g i = g' i) : lv g n = lv g' n := by
  induction n with
  | zero => rfl
  | succ n ih => simp only [lv]; rw [ih fun i hi => h i (by omega), h n (by omega)]
theorem lv_add (g : Nat → Bool) (a b : Nat) : lv g (a + b) = lv g a + lv (fun i => g (a + i)) b := by
  induction b with
  | zero => simp [lv]
  | succ b ih => rw [show a + (b + 1) = (a + b) + 1 by omega]; simp only [lv]; rw [ih]; omega

end Go.Proofs.Ytkojcjfjmlompaa
