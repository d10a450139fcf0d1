/- The statements' listed, one for each list of a row. -/
import Derived.Test.YthkahedhmfkhhaaPLie
import Derived.Test.YthkahedhmfkhhaaPFam
namespace Go.Proofs.Ythkahedhmfkhhaa
open Go.RowKit Go.Shelf
set_option linter.unusedVariables false

/-- Where a list that is gone through keeps its slice: the box, the slice's address, its capacity. -/
structure Bxe where
  b : Nat
  a : Option Addr
  c : Nat
def bx0e : Bxe := ⟨0, none, 0⟩
/-- Lists that are gone through, in memory. -/
structure Fle (L : List (Lst Ent)) (B : List Bxe) (W : World) : Prop where
  len : B.length = L.length
  ls : ∀ i (h : i < L.length), Lsde (B.getD i bx0e).b (B.getD i bx0e).a (B.getD i bx0e).c L[i] W
def rdFe (L : List (Lst Ent)) (B : List Bxe) (q : Nat) : Prop := ∃ i, ∃ h : i < L.length, rdLe (B.getD i bx0e).b L[i] q
theorem Fle.keep {L : List (Lst Ent)} {B : List Bxe} {W W' : World} (h : Fle L B W) (z : W.heap.size ≤ W'.heap.size) (k : ∀ q, rdFe L B q → W'.heap[q]? = W.heap[q]?) : Fle L B W' := ⟨h.len, fun i hi => (h.ls i hi).keep z fun q hq => k q ⟨i, hi, hq⟩⟩
theorem Fle.lt {L : List (Lst Ent)} {B : List Bxe} {W : World} (h : Fle L B W) : ∀ q, rdFe L B q → q < W.heap.size := fun q ⟨i, hi, hq⟩ => (h.ls i hi).lt q hq
theorem Fle.gw {L : List (Lst Ent)} {B : List Bxe} {W W' : World} (h : Fle L B W) (g : Gw W W') : Fle L B W' := h.keep g.size fun q hq => g.below.block q (h.lt q hq)
theorem Fle.none (W : World) : Fle [] [] W := ⟨rfl, fun i h => by simp at h⟩
theorem Fle.step {L : List (Lst Ent)} {B : List Bxe} {W : World} {s : Lst Ent} {b : Bxe} (h : Fle L B W) (hs : Lsde b.b b.a b.c s W) : Fle (L ++ [s]) (B ++ [b]) W := by
  refine ⟨by simp [h.len], fun i hi => ?_⟩
  by_cases q : i < L.length
  · have e : (B ++ [b]).getD i bx0e = B.getD i bx0e := by
      rw [List.getD_eq_getElem?_getD, List.getD_eq_getElem?_getD, List.getElem?_append_left (by rw [h.len]; exact q)]
    rw [List.getElem_append_left q, e]
    exact h.ls i q
  · have e : i = L.length := by simp at hi; omega
    subst e
    have e : (B ++ [b]).getD L.length bx0e = b := by
      rw [List.getD_eq_getElem?_getD, List.getElem?_append_right (by rw [h.len]; exact Nat.le_refl _), h.len]
      simp
    rw [e]
    simpa using hs
def fvFe (B : List Bxe) (i : Nat) : Nat × Array Value := (23, #[.pointer (some ⟨(B.getD i bx0e).b, 0, none⟩)])
theorem fam_le (L : List (Lst Ent)) (B : List Bxe) (hl : ∀ s ∈ L, s.l.length ≤ 4000000) : Fam encE (L.map Lst.l) (rdFe L B) (fun _ => False) (fun _ => Fle L B) (fvFe B) := by
  refine ⟨fun i hi => ?_, fun i hi args W => rfl, fun i W W' h z k => h.keep z fun q hq => k q (.inl hq)⟩
  have il : i < L.length := by simpa using hi
  have e : (L.map Lst.l)[i] = L[i].l := List.getElem_map _
  rw [e]
  exact SeqO.more (listed_e Fence.wide 2 trivial rfl (by omega) (B.getD i bx0e).b (B.getD i bx0e).a (B.getD i bx0e).c L[i] (hl _ (List.getElem_mem il))) (fun q hq => ⟨i, il, hq⟩) (fun W h => h.ls i il) (fun W W' a z zs k => a.keep zs fun q hq => k q hq (a.lt q hq)) (fun _ _ e => e)
/-- The functions of boxes, as cells. -/
def fnFe (B : List Bxe) : List Value := B.map fun b => .func (.func 23) #[] #[.pointer (some ⟨b.b, 0, none⟩)]
theorem frow_e {W : World} {lo : Nat} {v : Value} {n : Nat} {B : List Bxe} (hB : B.length = n) (h : W.ownsRow lo 28 1 v n (fnFe B)) : ∃ bo c, v = .slice bo n c ∧ FRow (fvFe B) W bo n (fun _ => False) := by
  rcases h.2 with ⟨e, z⟩ | ⟨g, cap, cur, e, hb, hh, hc, _⟩
  · subst z
    exact ⟨none, 0, e, ⟨fun h0 => by omega⟩⟩
  · subst e
    refine ⟨some ⟨g, 0, none⟩, cap, rfl, ⟨fun h0 => ⟨g, 0, rfl, blkl hh, fun e => e, fun i hi => ?_⟩⟩⟩
    have := World.ownsRow.cellAt h i (by omega)
    rw [Nat.zero_add, this]
    have ib : i < B.length := by omega
    simp [fnFe, fvFe, List.getD, ib]
end Go.Proofs.Ythkahedhmfkhhaa
