/- The document's layer 13: Merge. -/
import Derived.Test.YtnkcnfpbbdlifabGMem
import Derived.Deep.QuietTactic
import Derived.BigQuiet
import Derived.Deep.LoopGhost
namespace Go.Proofs.Ytnkcnfpbbdlifab
open Go.RowKit
set_option linter.unusedVariables false

/-- The key at a place. -/
def keyP (K : List (List Int)) (p : Nat × Nat) : Int := (K.getD p.1 []).getD p.2 0
def lenK (K : List (List Int)) (i : Nat) : Nat := (K.getD i []).length
theorem froms_congr {ln : Nat} {len a a' : Nat → Nat} (e : ∀ i, i < ln → a i = a' i) : froms ln len a = froms ln len a' := by
  unfold froms
  refine List.map_congr_left fun i hi => ?_
  unfold frow
  rw [e i (List.mem_range.1 hi)]
/-- What the first i lists' heads say. -/
def FI (key : Nat × Nat → Int) (len a : Nat → Nat) (i : Nat) (z : Int) : Prop := (z = -1 ∧ ∀ j, j < i → ¬ a j < len j) ∨ ∃ f : Nat, z = f ∧ f < i ∧ a f < len f ∧ (∀ j, j < f → a j < len j → key (f, a f) < key (j, a j)) ∧ ∀ j, j < i → a j < len j → key (f, a f) ≤ key (j, a j)
theorem FI.zero (key : Nat × Nat → Int) (len a : Nat → Nat) : FI key len a 0 (-1) := .inl ⟨rfl, fun j hj => by omega⟩
theorem FI.skip {key : Nat × Nat → Int} {len a : Nat → Nat} {i : Nat} {z : Int} (h : FI key len a i z) (hi : ¬ a i < len i) : FI key len a (i + 1) z := by
  rcases h with ⟨e, h⟩ | ⟨f, e, h1, h2, h3, h4⟩
  · refine .inl ⟨e, fun j hj => ?_⟩
    by_cases q : j = i
    · rw [q]; exact hi
    · exact h j (by omega)
  · refine .inr ⟨f, e, by omega, h2, h3, fun j hj hl => ?_⟩
    by_cases q : j = i
    · rw [q] at hl; exact absurd hl hi
    · exact h4 j (by omega) hl
theorem FI.first {key : Nat × Nat → Int} {len a : Nat → Nat} {i : Nat} (h : FI key len a i (-1)) (hi : a i < len i) : FI key len a (i + 1) i := by
  rcases h with ⟨e, h⟩ | ⟨f, e, _⟩
  · refine .inr ⟨i, rfl, by omega, hi, fun j hj hl => absurd hl (h j hj), fun j hj hl => ?_⟩
    by_cases q : j = i
    · rw [q]; exact Int.le_refl _
    · exact absurd hl (h j (by omega))
  · omega
theorem FI.less {key : Nat × Nat → Int} {len a : Nat → Nat} {i f : Nat} (h : FI key len a i f) (hi : a i < len i) (k : key (i, a i) < key (f, a f)) : FI key len a (i + 1) i := by
  rcases h with ⟨e, _⟩ | ⟨f', e, h1, h2, h3, h4⟩
  · omega
  · have : f = f' := by omega
    subst this
    refine .inr ⟨i, rfl, by omega, hi, fun j hj hl => ?_, fun j hj hl => ?_⟩
    · have := h4 j hj hl; omega
    · by_cases q : j = i
      · rw [q]; exact Int.le_refl _
      · have := h4 j (by omega) hl; omega
theorem FI.more {key : Nat × Nat → Int} {len a : Nat → Nat} {i f : Nat} (h : FI key len a i f) (hi : a i < len i) (k : ¬ key (i, a i) < key (f, a f)) : FI key len a (i + 1) f := by
  rcases h with ⟨e, _⟩ | ⟨f', e, h1, h2, h3, h4⟩
  · omega
  · have : f = f' := by omega
    subst this
    refine .inr ⟨f, rfl, by omega, h2, h3, fun j hj hl => ?_⟩
    by_cases q : j = i
    · rw [q]; omega
    · exact h4 j (by omega) hl
/-- What was told so far. -/
structure MI (key : Nat × Nat → Int) (ln : Nat) (len a : Nat → Nat) (P : List (Nat × Nat)) : Prop where
  cn : ∀ o, Mg key (froms ln len a) o → Mg key (froms ln len fun _ => 0) (P ++ o)
  al : ∀ i, i < ln → a i ≤ len i
  pb : ∀ p ∈ P, p.1 < ln ∧ p.2 < len p.1
theorem MI.start (key : Nat × Nat → Int) (ln : Nat) (len : Nat → Nat) : MI key ln len (fun _ => 0) [] := ⟨fun o h => h, fun _ _ => Nat.zero_le _, fun p hp => by cases hp⟩
theorem MI.more {key : Nat × Nat → Int} {ln : Nat} {len a : Nat → Nat} {P : List (Nat × Nat)} (h : MI key ln len a P) {f : Nat} (hf : FI key len a ln f) : MI key ln len (passA key (key (f, a f)) len a) (P ++ [(f, a f)]) := by
  rcases hf with ⟨e, _⟩ | ⟨f', e, h1, h2, h3, h4⟩
  · omega
  · have : f = f' := by omega
    subst this
    have ls := froms_least (key := key) h1 h2 h3 h4
    refine ⟨fun o ho => ?_, fun i hi => ?_, fun p hp => ?_⟩
    · rw [List.append_assoc]
      refine h.cn _ (.step ls ?_)
      rw [froms_pass]
      exact ho
    · unfold passA
      have := h.al i hi
      split <;> omega
    · rcases List.mem_append.1 hp with q | q
      · exact h.pb p q
      · rw [List.mem_singleton.1 q]; exact ⟨h1, h2⟩
theorem MI.done {key : Nat × Nat → Int} {ln : Nat} {len a : Nat → Nat} {P : List (Nat × Nat)} (h : MI key ln len a P) (hf : FI key len a ln (-1)) : Mg key (froms ln len fun _ => 0) P := by
  rcases hf with ⟨_, q⟩ | ⟨f', e, _⟩
  · have := h.cn [] (.done (froms_none q))
    rwa [List.append_nil] at this
  · omega
theorem MI.few {key : Nat × Nat → Int} {ln : Nat} {len a : Nat → Nat} {P : List (Nat × Nat)} (h : MI key ln len a P) : P.length ≤ sizes (froms ln len fun _ => 0) := by
  obtain ⟨o, ho⟩ := Mg.ex key _ (froms ln len a) (Nat.le_refl _)
  have := (h.cn o ho).few
  rw [List.length_append] at this
  omega

/-- The first j of p, the others of a. -/
def mixA (p a : Nat → Nat) (j t : Nat) : Nat := if t < j then p t else a t
theorem mixA_zero (p a : Nat → Nat) (t : Nat) : mixA p a 0 t = a t := if_neg (by omega)
theorem mixA_lt {p a : Nat → Nat} {j t : Nat} (h : t < j) : mixA p a j t = p t := if_pos h
theorem mixA_at (p a : Nat → Nat) (j : Nat) : mixA p a j j = a j := if_neg (by omega)
theorem mixA_next (p a : Nat → Nat) (j t : Nat) : mixA p a (j + 1) t = if t = j then p j else mixA p a j t := by
  unfold mixA
  by_cases e : t = j
  · rw [if_pos (by omega), if_pos e, e]
  · rw [if_neg e]
    by_cases e2 : t < j
    · rw [if_pos (by omega), if_pos e2]
    · rw [if_neg (by omega), if_neg e2]
end Go.Proofs.Ytnkcnfpbbdlifab
