/- The document's layer 21: the pieces of a text. -/
import Derived.Test.YtocnmdabilaccabDoorS1Ref1
namespace Go.Proofs.YtocnmdabilaccabDoor
open Go.RowKit
set_option linter.unusedVariables false

/-- The pieces told so far, the next one begun at 'f', 'i' the next byte. -/
def SplI (c : UInt8) (s : List UInt8) (O : List (List UInt8)) (f i : Nat) : Prop :=
  (i ≤ s.length → f ≤ i ∧ O ++ spl c ((s.drop f).take (i - f)) (s.drop i) = spl c [] s) ∧ (s.length < i → O = spl c [] s) ∧ O.length ≤ i
theorem SplI.start (c : UInt8) (s : List UInt8) : SplI c s [] 0 0 := ⟨fun _ => ⟨Nat.le_refl _, by simp⟩, fun h => by omega, Nat.le_refl _⟩
theorem SplI.last {c : UInt8} {s : List UInt8} {O : List (List UInt8)} {f i : Nat} (h : SplI c s O f i) (e : i = s.length) : SplI c s (O ++ [(s.drop f).take (i - f)]) (i + 1) (i + 1) := by
  refine ⟨fun q => by omega, fun _ => ?_, by have := h.2.2; simp; omega⟩
  have := (h.1 (by omega)).2
  rw [e, List.drop_length, spl] at this
  rw [e]
  exact this
theorem SplI.at {c : UInt8} {s : List UInt8} {O : List (List UInt8)} {f i : Nat} (h : SplI c s O f i) (e : s[i]? = some c) : SplI c s (O ++ [(s.drop f).take (i - f)]) (i + 1) (i + 1) := by
  obtain ⟨hi, e'⟩ := List.getElem?_eq_some_iff.1 e
  refine ⟨fun q => ⟨Nat.le_refl _, ?_⟩, fun q => by omega, by have := h.2.2; simp; omega⟩
  have := (h.1 (by omega)).2
  rw [List.drop_eq_getElem_cons hi, e', spl_at] at this
  rw [← this]
  simp
theorem SplI.past {c b : UInt8} {s : List UInt8} {O : List (List UInt8)} {f i : Nat} (h : SplI c s O f i) (e : s[i]? = some b) (ne : b ≠ c) : SplI c s O f (i + 1) := by
  obtain ⟨hi, e'⟩ := List.getElem?_eq_some_iff.1 e
  obtain ⟨h1, h2⟩ := h.1 (by omega)
  refine ⟨fun q => ⟨by omega, ?_⟩, fun q => by omega, by have := h.2.2; omega⟩
  rw [List.drop_eq_getElem_cons hi, spl, if_neg (by rw [e']; exact ne)] at h2
  rw [← h2, show i + 1 - f = (i - f) + 1 by omega, List.take_add_one]
  have : (s.drop f)[i - f]? = some s[i] := by
    rw [List.getElem?_drop, show f + (i - f) = i by omega]
    exact List.getElem?_eq_getElem hi
  rw [this]
  rfl

/-- A row of texts of a call's own. -/
def txs (L : List (List UInt8)) : List Value := L.map fun l => .string (Bs l)
theorem txs_one (L : List (List UInt8)) : ∀ u ∈ txs L, u.oneCell' = true := by
  intro u hu
  obtain ⟨_, _, rfl⟩ := List.mem_map.1 hu
  rfl
def TXO (w : World) (base : Nat) (v : Value) (L : List (List UInt8)) : Prop := w.ownsRow base 9 1 v L.length (txs L)
theorem TXO.more {w : World} {base : Nat} {v : Value} {L : List (List UInt8)} {l : List UInt8} (h : w.ownsRow base 9 1 v (L.length + 1) (txs L ++ [.string (Bs l)])) : TXO w base v (L ++ [l]) := by
  unfold TXO txs
  rw [List.length_append, List.map_append]
  exact h
theorem new_text (w : World) (l : List UInt8) : ∀ j u, [Value.string (Bs l)][j]? = some u → (w.alloc (.cells #[.string (Bs l)] 9)).cell? ((⟨w.heap.size, 0, none⟩ : Addr).add j) = some u := by
  intro j u hu
  cases j with
  | zero =>
    simp only [List.getElem?_cons_zero, Option.some.injEq] at hu
    subst hu
    simp [Addr.add, go_sem]
  | succ j => simp at hu
theorem info_text : (Tryd.prog.info? 9).map (fun i => (i.zero, i.size, i.bytes)) = some (some (.string (Bs [])), 1, 16) := by kernel_rfl
theorem own_gw {w w' : World} {base e size n : Nat} {v : Value} {xs : List Value} (h : w.ownsRow base e size v n xs) (g : Gw w w') : w'.ownsRow base e size v n xs := by
  refine ⟨h.1, ?_⟩
  rcases h.2 with q | ⟨b, cap, cur, rfl, hb, hh, r⟩
  · exact .inl q
  · exact .inr ⟨b, cap, cur, rfl, hb, (g.below.block b (Array.getElem?_eq_some_iff.1 hh).1).trans hh, r⟩
theorem TXO.gw {w w' : World} {base : Nat} {v : Value} {L : List (List UInt8)} (h : TXO w base v L) (g : Gw w w') : TXO w' base v L := own_gw h g
theorem TXO.cell {w : World} {base b cap n : Nat} {L : List (List UInt8)} (h : TXO w base (.slice (some ⟨b, 0, none⟩) n cap) L) (hn : n = L.length) {i : Nat} {l : List UInt8} (hi : L[i]? = some l) : w.cell? ⟨b, i, none⟩ = some (.string (Bs l)) := by
  subst hn
  have hl := (List.getElem?_eq_some_iff.1 hi).1
  have := World.ownsRow.cellAt h i (by omega)
  rw [this]
  simp [txs, hi]
def TXv (w w' : World) (e : Ending) (L : List (List UInt8)) : Prop := ∃ b cap, e = .returned (.slice (some ⟨b, 0, none⟩) L.length cap) ∧ TXO w' w.heap.size (.slice (some ⟨b, 0, none⟩) L.length cap) L
end Go.Proofs.YtocnmdabilaccabDoor
