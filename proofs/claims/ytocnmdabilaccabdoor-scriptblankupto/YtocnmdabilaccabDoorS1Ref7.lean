/- The document's layer 21: the operation of a command. -/
import Derived.Test.YtocnmdabilaccabDoorS1Ref6
namespace Go.Proofs.YtocnmdabilaccabDoor
open Go.RowKit
set_option linter.unusedVariables false

def words7 : List (List UInt8) := [wPut, wDel, wGet, wFloor, wCeil, wRank, wRange]
theorem op_hit {c : Cd} {i : Nat} {x : List UInt8} (h : words7[i]? = some x) (e : x = c.word) (t : takes c.word = (c.nums.length : Int)) : opOf c = (true, (i : Int) + 1, c.nums.getD 0 0, c.nums.getD 1 0) := by
  have hi := (List.getElem?_eq_some_iff.1 h).1
  have k : kindOf c.word = (i : Int) + 1 := by
    rw [← e]
    match i, h with
    | 0, h => cases h; decide
    | 1, h => cases h; decide
    | 2, h => cases h; decide
    | 3, h => cases h; decide
    | 4, h => cases h; decide
    | 5, h => cases h; decide
    | 6, h => cases h; decide
    | i + 7, h => simp [words7] at hi; omega
  unfold opOf
  rw [if_neg (by rw [k]; rintro (q | q); omega; exact q t), k]
theorem op_miss {c : Cd} (h : ∀ (i : Nat) (x : List UInt8), words7[i]? = some x → ¬ (x = c.word ∧ takes c.word = (c.nums.length : Int))) : opOf c = (false, 0, 0, 0) := by
  unfold opOf
  rw [if_pos]
  by_cases t : takes c.word = (c.nums.length : Int)
  · left
    have n : ∀ (i : Nat) (x : List UInt8), words7[i]? = some x → c.word ≠ x := fun i x hx e => h i x hx ⟨e.symm, t⟩
    unfold kindOf
    rw [if_neg (n 0 _ rfl), if_neg (n 1 _ rfl), if_neg (n 2 _ rfl), if_neg (n 3 _ rfl), if_neg (n 4 _ rfl), if_neg (n 5 _ rfl), if_neg (n 6 _ rfl)]
  · exact .inr t
theorem op_nums {c : Cd} {i : Nat} {x : List UInt8} (h : words7[i]? = some x) (e : x = c.word) (t : takes c.word = (c.nums.length : Int)) : c.nums.length = 1 ∨ c.nums.length = 2 := by
  have hi := (List.getElem?_eq_some_iff.1 h).1
  have k : takes c.word = 1 ∨ takes c.word = 2 := by
    rw [← e]
    match i, h with
    | 0, h => cases h; decide
    | 1, h => cases h; decide
    | 2, h => cases h; decide
    | 3, h => cases h; decide
    | 4, h => cases h; decide
    | 5, h => cases h; decide
    | 6, h => cases h; decide
    | i + 7, h => simp [words7] at hi; omega
  omega
/-- What Op answers. -/
def opR (r : Bool × Int × Int × Int) : Ending := .returned (.tuple #[opw r.2.1 r.2.2.1 r.2.2.2, .bool r.1])
theorem box3w {b : Nat} {w : World} {x y z : Value} {t : TypeId} (h : w.heap[b]? = some (.cells #[x, y, z] t (0, 0))) (u v s : Value) :
    (((w.setCell ⟨b, 0, none⟩ u).setCell ⟨b, 1, none⟩ v).setCell ⟨b, 2, none⟩ s).heap[b]? = some (.cells #[u, v, s] t (0, 0)) := by
  have h1 : (w.setCell ⟨b, 0, none⟩ u).heap[b]? = some (.cells #[u, y, z] t (0, 0)) := by simp [World.setCell, Array.getElem?_modify, h]
  generalize w.setCell ⟨b, 0, none⟩ u = w1 at h1
  have h2 : (w1.setCell ⟨b, 1, none⟩ v).heap[b]? = some (.cells #[u, v, z] t (0, 0)) := by simp [World.setCell, Array.getElem?_modify, h1]
  generalize w1.setCell ⟨b, 1, none⟩ v = w2 at h2
  simp [World.setCell, Array.getElem?_modify, h2]
end Go.Proofs.YtocnmdabilaccabDoor
