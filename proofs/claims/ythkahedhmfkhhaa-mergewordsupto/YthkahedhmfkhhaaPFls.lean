/- The statements' listed, one for each list of a row. -/
import Derived.Test.YthkahedhmfkhhaaPLis
import Derived.Test.YthkahedhmfkhhaaPFam
namespace Go.Proofs.Ythkahedhmfkhhaa
open Go.RowKit Go.Shelf
set_option linter.unusedVariables false

/-- Where a list that is gone through keeps its slice: the box, the slice's address, its capacity. -/
structure Bxs where
  b : Nat
  a : Option Addr
  c : Nat
def bx0s : Bxs := ⟨0, none, 0⟩
/-- Lists that are gone through, in memory. -/
structure Fls (L : List (Lst ByteArray)) (B : List Bxs) (W : World) : Prop where
  len : B.length = L.length
  ls : ∀ i (h : i < L.length), Lsds (B.getD i bx0s).b (B.getD i bx0s).a (B.getD i bx0s).c L[i] W
def rdFs (L : List (Lst ByteArray)) (B : List Bxs) (q : Nat) : Prop := ∃ i, ∃ h : i < L.length, rdLs (B.getD i bx0s).b L[i] q
theorem Fls.keep {L : List (Lst ByteArray)} {B : List Bxs} {W W' : World} (h : Fls L B W) (z : W.heap.size ≤ W'.heap.size) (k : ∀ q, rdFs L B q → W'.heap[q]? = W.heap[q]?) : Fls L B W' := ⟨h.len, fun i hi => (h.ls i hi).keep z fun q hq => k q ⟨i, hi, hq⟩⟩
theorem Fls.lt {L : List (Lst ByteArray)} {B : List Bxs} {W : World} (h : Fls L B W) : ∀ q, rdFs L B q → q < W.heap.size := fun q ⟨i, hi, hq⟩ => (h.ls i hi).lt q hq
theorem Fls.gw {L : List (Lst ByteArray)} {B : List Bxs} {W W' : World} (h : Fls L B W) (g : Gw W W') : Fls L B W' := h.keep g.size fun q hq => g.below.block q (h.lt q hq)
theorem Fls.none (W : World) : Fls [] [] W := ⟨rfl, fun i h => by simp at h⟩
theorem Fls.step {L : List (Lst ByteArray)} {B : List Bxs} {W : World} {s : Lst ByteArray} {b : Bxs} (h : Fls L B W) (hs : Lsds b.b b.a b.c s W) : Fls (L ++ [s]) (B ++ [b]) W := by
  refine ⟨by simp [h.len], fun i hi => ?_⟩
  by_cases q : i < L.length
  · have e : (B ++ [b]).getD i bx0s = B.getD i bx0s := by
      rw [List.getD_eq_getElem?_getD, List.getD_eq_getElem?_getD, List.getElem?_append_left (by rw [h.len]; exact q)]
    rw [List.getElem_append_left q, e]
    exact h.ls i q
  · have e : i = L.length := by simp at hi; omega
    subst e
    have e : (B ++ [b]).getD L.length bx0s = b := by
      rw [List.getD_eq_getElem?_getD, List.getElem?_append_right (by rw [h.len]; exact Nat.le_refl _), h.len]
      simp
    rw [e]
    simpa using hs
def fvFs (B : List Bxs) (i : Nat) : Nat × Array Value := (28, #[.pointer (some ⟨(B.getD i bx0s).b, 0, none⟩)])
theorem fam_ls (L : List (Lst ByteArray)) (B : List Bxs) (hl : ∀ s ∈ L, s.l.length ≤ 4000000) : Fam encS (L.map Lst.l) (rdFs L B) (fun _ => False) (fun _ => Fls L B) (fvFs B) := by
  refine ⟨fun i hi => ?_, fun i hi args W => rfl, fun i W W' h z k => h.keep z fun q hq => k q (.inl hq)⟩
  have il : i < L.length := by simpa using hi
  have e : (L.map Lst.l)[i] = L[i].l := List.getElem_map _
  rw [e]
  exact SeqO.more (listed_s Fence.wide 2 trivial rfl (by omega) (B.getD i bx0s).b (B.getD i bx0s).a (B.getD i bx0s).c L[i] (hl _ (List.getElem_mem il))) (fun q hq => ⟨i, il, hq⟩) (fun W h => h.ls i il) (fun W W' a z zs k => a.keep zs fun q hq => k q hq (a.lt q hq)) (fun _ _ e => e)
/-- The functions of boxes, as cells. -/
def fnFs (B : List Bxs) : List Value := B.map fun b => .func (.func 28) #[] #[.pointer (some ⟨b.b, 0, none⟩)]
theorem frow_s {W : World} {lo : Nat} {v : Value} {n : Nat} {B : List Bxs} (hB : B.length = n) (h : W.ownsRow lo 42 1 v n (fnFs B)) : ∃ bo c, v = .slice bo n c ∧ FRow (fvFs B) W bo n (fun _ => False) := by
  rcases h.2 with ⟨e, z⟩ | ⟨g, cap, cur, e, hb, hh, hc, _⟩
  · subst z
    exact ⟨none, 0, e, ⟨fun h0 => by omega⟩⟩
  · subst e
    refine ⟨some ⟨g, 0, none⟩, cap, rfl, ⟨fun h0 => ⟨g, 0, rfl, blkl hh, fun e => e, fun i hi => ?_⟩⟩⟩
    have := World.ownsRow.cellAt h i (by omega)
    rw [Nat.zero_add, this]
    have ib : i < B.length := by omega
    simp [fnFs, fvFs, List.getD, ib]
end Go.Proofs.Ythkahedhmfkhhaa
