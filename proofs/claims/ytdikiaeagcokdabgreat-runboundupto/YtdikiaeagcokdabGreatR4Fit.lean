/- The document's own Fit in memory: New, Count, Least, Most. -/
import Derived.Test.YtdikiaeagcokdabGreatR4
namespace Go.Proofs.YtdikiaeagcokdabGreat
open Go.RowKit
set_option linter.unusedVariables false

/-- A variable of two cells that may be written. -/
def Bx (w : World) (b : Nat) (t : TypeId) (u v : Value) : Prop := w.heap[b]? = some (.cells #[u, v] t (0, 0))
theorem Bx.lt {w : World} {b : Nat} {t : TypeId} {u v : Value} (h : Bx w b t u v) : b < w.heap.size := (Array.getElem?_eq_some_iff.1 h).1
theorem Bx.c0 {w : World} {b : Nat} {t : TypeId} {u v : Value} (h : Bx w b t u v) : w.cell? ⟨b, 0, none⟩ = some u := by unfold Bx at h; simp [World.cell?, h]
theorem Bx.c1 {w : World} {b : Nat} {t : TypeId} {u v : Value} (h : Bx w b t u v) : w.cell? ⟨b, 1, none⟩ = some v := by unfold Bx at h; simp [World.cell?, h]
theorem Bx.fz {w : World} {b : Nat} {t : TypeId} {u v : Value} (h : Bx w b t u v) (o : Nat) : w.frozen? ⟨b, o, none⟩ = false := by unfold Bx at h; simp [World.frozen?, h]
theorem Bx.gw {w w' : World} {b : Nat} {t : TypeId} {u v : Value} (h : Bx w b t u v) (g : Gw w w') : Bx w' b t u v := (g.below.block b h.lt).trans h
theorem Bx.new (w : World) (t : TypeId) (u v : Value) : Bx (w.alloc (.cells #[u, v] t)) w.heap.size t u v := heap_alloc_new w _
theorem Bx.set {w : World} {b : Nat} {t : TypeId} {u v : Value} (h : Bx w b t u v) (u' v' : Value) : Bx ((w.setCell ⟨b, 0, none⟩ u').setCell ⟨b, 1, none⟩ v') b t u' v' := by
  unfold Bx at h ⊢
  simp [World.setCell, Array.getElem?_modify, h]
theorem Bx.far {w : World} {b : Nat} {t : TypeId} {u v : Value} (h : Bx w b t u v) {q o : Nat} (x : Value) (hq : b ≠ q) : Bx (w.setCell ⟨q, o, none⟩ x) b t u v := (Go.Deep.blk_setCell_other _ _ _ _ hq).trans h
theorem Bx.alloc {w : World} {b : Nat} {t : TypeId} {u v : Value} (h : Bx w b t u v) (o : Obj) : Bx (w.alloc o) b t u v := (heap_alloc_old w o h.lt).trans h
theorem Bx.at {w : World} {b b' : Nat} {t : TypeId} {u v : Value} (h : Bx w b t u v) (e : b = b') : Bx w b' t u v := e ▸ h




end Go.Proofs.YtdikiaeagcokdabGreat
