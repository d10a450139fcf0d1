/- MergeOnce: the walk. -/
import Derived.Test.YtnkcnfpbbdlifabGC
import Derived.Test.YtnkcnfpbbdlifabGRank
import Derived.Deep.DeepCutAuto
import Derived.Deep.CutBlock
import Derived.Deep.RegionHeld3
namespace Go.Proofs.Ytnkcnfpbbdlifab
open Go.RowKit
set_option linter.unusedVariables false

/-- A list's keys. -/
def kAt (l : List Ent) (i : Nat) : Int := (l.getD i ent0).k
theorem look_at {l : List Ent} (h : Rise Ent.k l) {i : Nat} (hi : i < l.length) : look Ent.k (kAt l i) l = some (l.getD i ent0) := by
  have e : l.getD i ent0 = l[i] := by simp [List.getD, hi]
  have hm : l[i] ∈ l := List.getElem_mem hi
  have : ∀ (o : List Ent), Rise Ent.k o → ∀ y ∈ o, look Ent.k y.k o = some y := by
    intro o
    induction o with
    | nil => intro _ y hy; cases hy
    | cons z o ih =>
      intro hr y hy
      obtain ⟨z1, z2⟩ := List.pairwise_cons.1 hr
      rw [look_cons]
      rcases List.mem_cons.1 hy with rfl | q
      · rw [if_pos rfl]
      · have := z1 y q
        rw [if_neg (by omega)]
        exact ih z2 y q
  unfold kAt
  rw [e]
  exact this l h _ hm
/-- What Rank says of a rising list. -/
theorem rank_look {l : List Ent} (h : Rise Ent.k l) {q : Int} {m : Int} {t : Bool} (r : RankA (kAt l) l.length q m t) : ∃ k : Nat, m = k ∧ k ≤ l.length ∧ (t = true → k < l.length ∧ look Ent.k q l = some (l.getD k ent0)) ∧ (t = true ↔ look Ent.k q l ≠ none) := by
  have u : Up (kAt l) l.length := rise_up.1 h
  rcases r with ⟨_, k, e, R⟩ | ⟨nu, _⟩
  · have tt : t = true → k < l.length ∧ look Ent.k q l = some (l.getD k ent0) := fun ht => by
      obtain ⟨h1, h2⟩ := R.at_.1 ht
      refine ⟨h1, ?_⟩
      rw [← h2]
      exact look_at h h1
    refine ⟨k, e, R.le, tt, ⟨fun ht => by rw [(tt ht).2]; simp, fun hn => ?_⟩⟩
    cases hl : look Ent.k q l with
    | none => exact absurd hl hn
    | some x =>
      have hx := List.mem_of_find?_eq_some hl
      obtain ⟨i, hi, ei⟩ := List.mem_iff_getElem.1 hx
      have ek := look_key hl
      have eg : l.getD i ent0 = x := by simp [List.getD, hi, ei]
      refine R.at_.2 ?_
      have hk : kAt l i = q := by unfold kAt; rw [eg]; exact ek
      rcases Nat.lt_trichotomy k i with c | c | c
      · have h1 := R.hi k (Nat.le_refl _) (by omega)
        have h2 := u.lt c hi
        omega
      · rw [c]; exact ⟨hi, hk⟩
      · have := R.lo i c
        omega
  · exact absurd u nu
theorem sizes_take {L : List (List Ent)} {i : Nat} (hi : i < L.length) : sizes (L.take (i + 1)) = sizes (L.take i) + (L.getD i []).length := by
  have e : L.take (i + 1) = L.take i ++ [L.getD i []] := by
    rw [List.take_add_one, List.getElem?_eq_getElem hi, List.getD_eq_getElem?_getD, List.getElem?_eq_getElem hi]
    rfl
  rw [e, sizes_app]
  simp [sizes]
theorem sizes_take_le (L : List (List Ent)) (i : Nat) : sizes (L.take i) ≤ sizes L := by
  have := sizes_app (L.take i) (L.drop i)
  rw [List.take_append_drop] at this
  omega
theorem firstOf_at {L : List (List Ent)} {k : Int} : ∀ {i : Nat}, i < L.length → (∀ t, t < i → look Ent.k k (L.getD t []) = none) → ∀ {x : Ent}, look Ent.k k (L.getD i []) = some x → firstOf Ent.k k L = some x := by
  induction L with
  | nil => intro i hi; simp at hi
  | cons l r ih =>
    intro i hi h x hx
    cases i with
    | zero =>
      have e : look Ent.k k l = some x := hx
      simp only [firstOf, e]
    | succ i =>
      have e : look Ent.k k l = none := h 0 (by omega)
      simp only [firstOf, e]
      exact ih (by simpa using hi) (fun t ht => h (t + 1) (by omega)) hx
theorem firstOf_has {L : List (List Ent)} {k : Int} {l : List Ent} (hl : l ∈ L) (h : look Ent.k k l ≠ none) : firstOf Ent.k k L ≠ none := by
  induction L with
  | nil => cases hl
  | cons a r ih =>
    simp only [firstOf]
    cases e : look Ent.k k a with
    | some x => simp
    | none =>
      rcases List.mem_cons.1 hl with rfl | q
      · exact absurd e h
      · exact ih q
end Go.Proofs.Ytnkcnfpbbdlifab
