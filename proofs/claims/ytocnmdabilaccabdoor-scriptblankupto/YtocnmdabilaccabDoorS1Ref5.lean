/- The document's layer 21: commands written. -/
import Derived.Test.YtocnmdabilaccabDoorS1Ref4
import Derived.Deep.QuietTactic
import Derived.BigQuiet
namespace Go.Proofs.YtocnmdabilaccabDoor
open Go.RowKit
set_option linter.unusedVariables false

theorem chk_step {L : List Cd} {i : Nat} {c : Cd} (h : L[i]? = some c) : chk (L.drop i) = if takes c.word < 0 then 211 else if takes c.word ≠ (c.nums.length : Int) then 213 else chk (L.drop (i + 1)) := by
  obtain ⟨hi, e⟩ := List.getElem?_eq_some_iff.1 h
  rw [List.drop_eq_getElem_cons hi, e, chk]
theorem text_take {L : List Cd} {i : Nat} {c : Cd} (h : L[i]? = some c) : text (L.take (i + 1)) = text (L.take i) ++ (lineOf c ++ [10]) := by
  rw [List.take_add_one, h]
  simp [text]
theorem text_len (L : List Cd) (i : Nat) : (text (L.take i)).length ≤ (text L).length := by
  have : text L = text (L.take i) ++ text (L.drop i) := by
    unfold text
    rw [← List.flatMap_append, List.take_append_drop]
  rw [this]
  simp
/-- A command's line up to its number k. -/
def lineTo (c : Cd) (k : Nat) : List UInt8 := c.word ++ (c.nums.take k).flatMap (fun n => 32 :: digits n.toNat)
theorem lineTo_step {c : Cd} {k : Nat} {n : Int} (h : c.nums[k]? = some n) : lineTo c (k + 1) = lineTo c k ++ (32 :: digits n.toNat) := by
  unfold lineTo
  rw [List.take_add_one, h]
  simp
theorem lineTo_all {c : Cd} {k : Nat} (h : c.nums.length ≤ k) : lineTo c k = lineOf c := by
  unfold lineTo lineOf
  rw [List.take_of_length_le h]
theorem takes_bd (l : List UInt8) : -1 ≤ takes l ∧ takes l ≤ 3 := by
  unfold takes
  repeat' split
  all_goals decide
theorem takes_len {l : List UInt8} (h : ¬ takes l < 0) : l.length ≤ 5 := by
  unfold takes at h
  split at h
  · rename_i q; rcases q with rfl | rfl | rfl <;> decide
  split at h
  · rename_i q; rcases q with rfl | rfl | rfl | rfl | rfl <;> decide
  split at h
  · rename_i q; rcases q with rfl | rfl | rfl <;> decide
  split at h
  · rename_i q; subst q; decide
  · exact absurd (by decide) h
end Go.Proofs.YtocnmdabilaccabDoor
