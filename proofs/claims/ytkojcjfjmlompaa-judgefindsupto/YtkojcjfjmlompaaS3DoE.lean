/- Layer 23, the document's Do: what stands ahead of its return. -/
import Derived.Test.YtkojcjfjmlompaaS3Do
import Derived.Deep.CutBlock
import Derived.BigRegion
import Derived.Deep.RegionLaw
namespace Go.Proofs.Ytkojcjfjmlompaa
open Go.RowKit
set_option linter.unusedVariables false

def awC (A : Aw) (bo : Option Addr) (c : Nat) : Array Value := #[.int .i64 A.c, .bool A.is, .int .u64 A.k, .int .u64 A.v, .int .i64 A.n, .slice bo A.L.length c]
structure AtE (w W : World) (p : Nat) (S : Nat → Prop) (most : Int) (l : Ps) (A : Aw) (b3 : Nat) (bo : Option Addr) (c : Nat) : Prop where
  ge : w.heap.size = b3
  res : W.heap[b3 + 1]? = some (.cells #[.int .i64 0, .bool false, .int .u64 0, .int .u64 0, .int .i64 0, .slice none 0 0] 36 (0, 0))
  box : W.heap[b3 + 2]? = some (.cells (awC A bo c) 36 (0, 0))
  rest : ∃ S' : Nat → Prop, HPl W p S' most l ∧ Gx S w W ∧ (∀ q, S' q → S q ∨ w.heap.size ≤ q) ∧ ¬ S' (b3 + 1) ∧ PLr W bo A.L ∧ (∀ a, bo = some a → ¬ S' a.block ∧ a.block ≠ b3 + 1 ∧ w.heap.size ≤ a.block) ∧ (bo = none → c = 0)
/-- The result's cells are written. -/
def set6 (W : World) (b : Nat) (A : Aw) (bo : Option Addr) (c : Nat) : World := (((((W.setCell ⟨b, 0, none⟩ (.int .i64 A.c)).setCell ⟨b, 1, none⟩ (.bool A.is)).setCell ⟨b, 2, none⟩ (.int .u64 A.k)).setCell ⟨b, 3, none⟩ (.int .u64 A.v)).setCell ⟨b, 4, none⟩ (.int .i64 A.n)).setCell ⟨b, 5, none⟩ (.slice bo A.L.length c)
theorem set6_other (W : World) (b : Nat) (A : Aw) (bo : Option Addr) (c q : Nat) (h : q ≠ b) : (set6 W b A bo c).heap[q]? = W.heap[q]? := by
  unfold set6
  have k : ∀ (W : World) (j : Nat) (u : Value), (W.setCell ⟨b, j, none⟩ u).heap[q]? = W.heap[q]? := fun W j u => Go.Deep.blk_setCell_other W ⟨b, j, none⟩ u q h
  simp only [k]
theorem set6_size (W : World) (b : Nat) (A : Aw) (bo : Option Addr) (c : Nat) : (set6 W b A bo c).heap.size = W.heap.size := by simp [set6, World.setCell]
theorem set6_gx {S : Nat → Prop} {w W : World} (g : Gx S w W) (b : Nat) (hb : w.heap.size ≤ b) (A : Aw) (bo : Option Addr) (c : Nat) : Gx S w (set6 W b A bo c) :=
  (((((g.set (.inr hb) _ _).set (.inr hb) _ _).set (.inr hb) _ _).set (.inr hb) _ _).set (.inr hb) _ _).set (.inr hb) _ _
theorem AtE.out {w W : World} {p : Nat} {S : Nat → Prop} {most : Int} {l : Ps} {A : Aw} {b3 : Nat} {bo : Option Addr} {c : Nat} (h : AtE w W p S most l A b3 bo c) : DoO w (set6 W (b3 + 1) A bo c) (.returned (awV A bo c)) p S most l A := by
  obtain ⟨S', h1, h2, h3, h4, h5, h6, h7⟩ := h.rest
  refine ⟨bo, c, S', rfl, h1.keep (fun q hq _ => set6_other _ _ _ _ _ q (fun e => h4 (e ▸ hq))), set6_gx h2 _ (by rw [h.ge]; omega) A bo c, h3, h5.keep (Nat.le_of_eq (set6_size _ _ _ _ _).symm) (fun a e _ => set6_other _ _ _ _ _ _ (h6 a e).2.1), fun a e => ⟨(h6 a e).1, (h6 a e).2.2⟩, h7⟩
theorem HPl.trim {w : World} {p : Nat} {S : Nat → Prop} {most : Int} {l : Ps} (h : HPl w p S most l) : HPl w p (fun q => S q ∧ q < w.heap.size) most l := by
  obtain ⟨v, h1, h2, h3, h4⟩ := h.lies
  exact ⟨⟨v, h1, h2, fun q hq => ⟨⟨(h3 q hq).1, (World.ownsRow.lt h2 q hq).2⟩, (h3 q hq).2⟩, h4, blkl h1⟩, h.bd⟩
/-- Questions: nothing but new blocks. -/
theorem AtE.ask {w W : World} {p : Nat} {S : Nat → Prop} {most : Int} {l : Ps} (A : Aw) {b3 : Nat} (h : HPl w p S most l) (hA : A.L = []) (ge : w.heap.size = b3) (g : Gw w W) (res : W.heap[b3 + 1]? = some (.cells #[.int .i64 0, .bool false, .int .u64 0, .int .u64 0, .int .i64 0, .slice none 0 0] 36 (0, 0))) (box : W.heap[b3 + 2]? = some (.cells (awC A none 0) 36 (0, 0))) : AtE w W p S most l A b3 none 0 :=
  ⟨ge, res, box, fun q => S q ∧ q < w.heap.size, h.trim.gw g, g.gx S, fun q hq => .inl hq.1, fun hq => by have := hq.2; omega, ⟨fun h0 => by rw [hA] at h0; simp at h0⟩, (fun a e => by cases e), (fun _ => rfl)⟩
end Go.Proofs.Ytkojcjfjmlompaa
