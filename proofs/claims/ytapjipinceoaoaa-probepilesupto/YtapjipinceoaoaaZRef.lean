/- The document's Path and Find of layer 9. -/
import Derived.Test.YtapjipinceoaoaaZMem
import Derived.Lib.MinMax
namespace Go.Proofs.Ytapjipinceoaoaa
open Go.RowKit
set_option linter.unusedVariables false
attribute [local go_sem] run_store_float

theorem pathL_take (eps q : Int) (f : Nat → Int) (n : Nat) (L : List (List Sg)) (j : Nat) (hj : j < L.length) : (pathL eps q f n L).take (j + 1) = (pathL eps q f n L).take j ++ [visAt eps q f n L (L.length - 1 - j)] := by
  rw [List.take_add_one, List.getElem?_eq_getElem (by rw [pathL_len]; exact hj)]
  simp [pathL]

/-- A block of a visit. -/
def Vb (w : World) (b : Nat) (v : Vis) : Prop := w.heap[b]? = some (.cells #[.int .i64 v.lv, .int .i64 v.sl, .int .i64 v.gu, .int .i64 v.lo, .int .i64 v.hi, .int .i64 v.rk] 40 (0, 0))
theorem Vb.lt {w : World} {b : Nat} {v : Vis} (h : Vb w b v) : b < w.heap.size := (Array.getElem?_eq_some_iff.1 h).1
theorem Vb.cells {w : World} {b : Nat} {v : Vis} (h : Vb w b v) : w.cell? ⟨b, 0, none⟩ = some (.int .i64 v.lv) ∧ w.cell? ⟨b, 1, none⟩ = some (.int .i64 v.sl) ∧ w.cell? ⟨b, 2, none⟩ = some (.int .i64 v.gu) ∧ w.cell? ⟨b, 3, none⟩ = some (.int .i64 v.lo) ∧ w.cell? ⟨b, 4, none⟩ = some (.int .i64 v.hi) ∧ w.cell? ⟨b, 5, none⟩ = some (.int .i64 v.rk) := by
  unfold Vb at h; simp [World.cell?, h]
theorem Vb.fz {w : World} {b : Nat} {v : Vis} (h : Vb w b v) (o : Nat) : w.frozen? ⟨b, o, none⟩ = false := by unfold Vb at h; simp [World.frozen?, h]
theorem Vb.rank {w : World} {b : Nat} {v : Vis} (h : Vb w b v) (r : Int) : Vb (w.setCell ⟨b, 5, none⟩ (.int .i64 r)) b ⟨v.lv, v.sl, v.gu, v.lo, v.hi, r⟩ := by
  unfold Vb at h ⊢
  simp [World.setCell, Array.getElem?_modify, h]
theorem Vb.keep {w w' : World} {b : Nat} {v : Vis} (h : Vb w b v) (e : w'.heap[b]? = w.heap[b]?) : Vb w' b v := e.trans h

theorem orow_gw9 {w w' : World} {base e size n : Nat} {v : Value} {xs : List Value} (h : w.ownsRow base e size v n xs) (g : Gw w w') : w'.ownsRow base e size v n xs := by
  refine ⟨h.1, ?_⟩
  rcases h.2 with q | ⟨b, cap, cur, rfl, hb, hh, r⟩
  · exact .inl q
  · exact .inr ⟨b, cap, cur, rfl, hb, (g.below.block b (Array.getElem?_eq_some_iff.1 hh).1).trans hh, r⟩


end Go.Proofs.Ytapjipinceoaoaa
