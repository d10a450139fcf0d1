/- The document's layer 21: a text read. -/
import Derived.Test.YtocnmdabilaccabDoorS1Cmd
namespace Go.Proofs.YtocnmdabilaccabDoor
open Go.RowKit
set_option linter.unusedVariables false

/-- What Parse answers. -/
def ParO (w w' : World) (e : Ending) (r : List Cd × Int × Int) : Prop := ∃ bo n cp V, e = .returned (.tuple #[.slice bo n cp, .int .i64 r.2.1, .int .i64 r.2.2]) ∧ n = r.1.length ∧ CO w' w.heap.size (.slice bo n cp) r.1 V
theorem go_from {P : List (List UInt8)} {i : Nat} {x : List UInt8} (hx : P[i]? = some x) (O : List Cd) : goP (P.drop i) i O =
    if (cmdOf (wordsOf x) O.length).2.1 ≠ 0 then ([], (i : Int) + 1, (cmdOf (wordsOf x) O.length).2.1)
    else if (cmdOf (wordsOf x) O.length).1 = true then goP (P.drop (i + 1)) (i + 1) (O ++ [(cmdOf (wordsOf x) O.length).2.2])
    else goP (P.drop (i + 1)) (i + 1) O := by
  obtain ⟨hi, e⟩ := List.getElem?_eq_some_iff.1 hx
  rw [List.drop_eq_getElem_cons hi, e, goP]
theorem cmd_ok {ws : List (List UInt8)} {n : Nat} : NumsOk (cmdOf ws n).2.2 ∧ 0 ≤ (cmdOf ws n).2.1 ∧ (cmdOf ws n).2.1 ≤ 213 := by
  unfold cmdOf
  cases ws with
  | nil => exact ⟨fun n h => by simp at h, by simp, by simp⟩
  | cons w r =>
    simp only
    split
    · exact ⟨fun n h => by simp at h, by decide, by decide⟩
    split
    · exact ⟨fun n h => by simp at h, by decide, by decide⟩
    split
    · exact ⟨fun n h => by simp at h, by decide, by decide⟩
    split
    · exact ⟨fun n h => by simp at h, by decide, by decide⟩
    cases e : numsOf r with
    | none => exact ⟨fun n h => by simp at h, by simp, by simp⟩
    | some ns => exact ⟨(nums_some e).2, by simp, by simp⟩
end Go.Proofs.YtocnmdabilaccabDoor
