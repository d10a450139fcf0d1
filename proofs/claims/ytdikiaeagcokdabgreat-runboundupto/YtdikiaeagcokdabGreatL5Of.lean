/- The document's Of, over what its 'down' does. -/
import Derived.Test.YtdikiaeagcokdabGreatPLn
import Derived.Test.YtdikiaeagcokdabGreatR4All
namespace Go.Proofs.YtdikiaeagcokdabGreat
open Go.RowKit
set_option linter.unusedVariables false

/-- What Of answers. -/
def OfOut (ex : Ending) (eps : Int) (f : Nat → Int) (n : Nat) : Prop := ∃ a b c err : Int, ex = .returned (.tuple #[.agg #[.int .u64 a, .int .u64 b, .int .i64 c], .int .i64 err]) ∧ OfR eps f n a b c err ∧ (0 ≤ a ∧ a < 18446744073709551616) ∧ (0 ≤ b ∧ b < 18446744073709551616) ∧ (-9223372036854775808 ≤ c ∧ c < 9223372036854775808)

theorem upd_self (f : Nat → Int) (i : Nat) : upd f i (f i) = f := by
  funext j
  by_cases h : j = i
  · subst h; exact upd_at _ _ _
  · exact if_neg h
theorem Gs.gw5 {S : Nat → Prop} {W w w' : World} (h : Gw W w) (g : Gs S w w') (hS : ∀ q, S q → W.heap.size ≤ q) : Gw W w' :=
  ⟨⟨g.os.trans h.below.os, g.tape.trans h.below.tape, g.output.trans h.below.output, Nat.le_trans h.below.size g.size, fun q hq => (g.block q (Nat.lt_of_lt_of_le hq h.below.size) (fun s => by have := hS q s; omega)).trans (h.below.block q hq)⟩⟩
theorem FitsOn.part {e : Int} {f : Nat → Int} {n m : Nat} (h : FitsOn e f (Prs n)) (hm : m ≤ n) : FitsOn e f (Prs m) := fun i j i' j' s s' => h i j i' j' ⟨s.1, by have := s.2; omega⟩ ⟨s'.1, by have := s'.2; omega⟩

theorem base_next {e : Int} {f : Nat → Int} {a b C C' Q : Int} {j : Nat} (EQ : a * (f j - f 0) / b = Q) (h : ∀ x, x < j → (x : Int) - e ≤ a * (f x - f 0) / b + C) (h' : 0 < j → ∃ x, x < j ∧ (x : Int) - e = a * (f x - f 0) / b + C)
    (k1 : (j : Int) - e - Q ≤ C') (k2 : 0 < j → C ≤ C') (k3 : C' = (j : Int) - e - Q ∨ (0 < j ∧ C' = C)) : (∀ x, x < j + 1 → (x : Int) - e ≤ a * (f x - f 0) / b + C') ∧ (0 < j + 1 → ∃ x, x < j + 1 ∧ (x : Int) - e = a * (f x - f 0) / b + C') := by
  refine ⟨fun x hx => ?_, fun _ => ?_⟩
  · by_cases q : x = j
    · rw [q, EQ]; omega
    · have := h x (by omega)
      have := k2 (by omega)
      omega
  · rcases k3 with k3 | ⟨q, k3⟩
    · exact ⟨j, by omega, by rw [EQ, k3]; omega⟩
    · obtain ⟨x, hx, ex⟩ := h' q
      exact ⟨x, by omega, by rw [k3]; exact ex⟩

/-- A block of a line. -/
def Ln (w : World) (b : Nat) (x y z : Int) : Prop := w.heap[b]? = some (.cells #[.int .u64 x, .int .u64 y, .int .i64 z] 138 (0, 0))
theorem Ln.lt {w : World} {b : Nat} {x y z : Int} (h : Ln w b x y z) : b < w.heap.size := (Array.getElem?_eq_some_iff.1 h).1
theorem Ln.c0 {w : World} {b : Nat} {x y z : Int} (h : Ln w b x y z) : w.cell? ⟨b, 0, none⟩ = some (.int .u64 x) := by unfold Ln at h; simp [World.cell?, h]
theorem Ln.c1 {w : World} {b : Nat} {x y z : Int} (h : Ln w b x y z) : w.cell? ⟨b, 1, none⟩ = some (.int .u64 y) := by unfold Ln at h; simp [World.cell?, h]
theorem Ln.c2 {w : World} {b : Nat} {x y z : Int} (h : Ln w b x y z) : w.cell? ⟨b, 2, none⟩ = some (.int .i64 z) := by unfold Ln at h; simp [World.cell?, h]
theorem Ln.fz {w : World} {b : Nat} {x y z : Int} (h : Ln w b x y z) (o : Nat) : w.frozen? ⟨b, o, none⟩ = false := by unfold Ln at h; simp [World.frozen?, h]
theorem Ln.gw {w w' : World} {b : Nat} {x y z : Int} (h : Ln w b x y z) (g : Gw w w') : Ln w' b x y z := (g.below.block b h.lt).trans h
theorem Ln.far {w : World} {b : Nat} {x y z : Int} (h : Ln w b x y z) {q o : Nat} (u : Value) (hq : b ≠ q) : Ln (w.setCell ⟨q, o, none⟩ u) b x y z := (Go.Deep.blk_setCell_other _ _ _ _ hq).trans h
theorem Ln.set2 {w : World} {b : Nat} {x y z : Int} (h : Ln w b x y z) (z' : Int) : Ln (w.setCell ⟨b, 2, none⟩ (.int .i64 z')) b x y z' := by
  unfold Ln at h ⊢
  simp [World.setCell, Array.getElem?_modify, h]
theorem Ln.gs {S : Nat → Prop} {w w' : World} {b : Nat} {x y z : Int} (h : Ln w b x y z) (g : Gs S w w') (n : ¬ S b) : Ln w' b x y z := (g.block b h.lt n).trans h


end Go.Proofs.YtdikiaeagcokdabGreat
