/- The library's table of powers of ten: that it lies as it was laid; numerals by the library's words and by ours. -/
import Derived.Test.YtocnmdabilaccaaDoorHBase
import Derived.Test.YtocnmdabilaccaaDoorS1Mem
import Derived.Lib.LaidTab
import Derived.Lib.ItoaNum
import Derived.Lib.ItoaMem
namespace Go.Proofs.YtocnmdabilaccaaDoor
open Go.RowKit
set_option linter.unusedVariables false

/-- The table of powers of ten reads as it was laid. -/
def Tab (w : World) : Prop := Lib.TabIs Tryd.prog w "internal/strconv.uint64pow10" .u64 Lib.pow10Tab
theorem Tab.gw {w w' : World} (h : Tab w) (g : Gw w w') : Tab w' := by
  unfold Tab Lib.TabIs World.var? at h ⊢
  obtain ⟨q, hq⟩ : ∃ q, Tryd.prog.globalNamed "internal/strconv.uint64pow10" = q := ⟨_, rfl⟩
  rw [hq] at h ⊢
  cases q with
  | none => simp at h
  | some q =>
    simp only [Option.bind_some] at h ⊢
    have hlt : q < w.heap.size := by
      rcases Nat.lt_or_ge q w.heap.size with z | z
      · exact z
      · rw [Array.getElem?_eq_none z] at h; cases h
    rw [g.below.block q hlt]
    exact h
theorem dec_digits (n : Nat) : Lib.decDigits n = digits n := by
  induction n using digits_ind with
  | h1 n h => rw [Lib.decDigits, dif_pos h, digits_lt h]; rfl
  | h2 n h ih => rw [Lib.decDigits, dif_neg h, digits_ge h, ih]; rfl
theorem itoa_signed (n : Int) : Lib.itoa n = signed n := by
  unfold Lib.itoa signed
  split
  · rw [dec_digits]; congr 2; omega
  · rw [dec_digits]
theorem gw_grow (w : World) (k : Nat) (os : Array Obj) : Gw w (Sort.grow (w.drewN k) os) :=
  ⟨⟨rfl, rfl, rfl, by show w.heap.size ≤ (w.heap ++ os).size; rw [Array.size_append]; omega, fun _ hj => Sort.heap_grow_old (w.drewN k) os hj⟩⟩
end Go.Proofs.YtocnmdabilaccaaDoor
