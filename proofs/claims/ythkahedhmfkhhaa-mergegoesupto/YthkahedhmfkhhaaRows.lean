/-
  No cell of these rows narrows 'for every input' (looked for: loops, veiled, ifaces, maps, wideKeys, modest, calm, conditions, laid).
  DERIVED. THE GIVEN ROWS OF THIS SEAT. 3 by the template 'for every input the law returns true; each argument reads behind the call as it read before'; 0 by the template 'total and deterministic' (their statements: YthkahedhmfkhhaaTotals.lean).
  GIVEN WITH THE SEED: the statements are not yours to turn. If you find one false, say at which input.
  Laid BY PROGRAM, IN A SANDBOX (cutbox-rows.mjs): the forced cells as the released guide's own fill.sh prints them over the translation b26e5313686c9f2c… (all of the seat's roots in one cut). By AI agents, Wed Nov 11 2026. No macro, syntax, notation, axiom, sorry.
-/
import Derived.Test.YthkahedhmfkhhaaChecked
import GoSem.Claim
import GoSem.ClaimJoined
import GoSem.ClaimMapViews
import Derived.JoinedTies
import Derived.KernelRfl
namespace Go.Proofs.Ythkahedhmfkhhaa
/- THE CELL 'sum', in the pinned program and in every row, IS THE sha256 OF THE DUMP (.gsa) THAT YthkahedhmfkhhaaProg.lean LOADS. Nothing in Lean hashes anything: it is a label: what it is worth is what the hold of that sum in a sandbox is worth. -/
noncomputable def Try.pinned : Pinned := { name := "ythkahedhmfkhhaa", sum := "b26e5313686c9f2c6a9fff8849ce98749ce7eaf612008a08efaa13016bce9336", checked := Try.checked }
namespace Rows
def none {H : Type} : Left H := { results := [], args := [] }

/-- 'inclinelaw13.MergeGoes': WHATEVER THE INPUT: true; the input reads as it did. -/
def mergeGoesSpec : ChangeSpec := { name := "mergeGoes", fn := fun _ => fun
  | [d1, d2] => { results := [.lit (.bool true)], args := [d1, d2] }
  | _ => none }
def mergeGoesRow : OpenClaim := { program := "ythkahedhmfkhhaa", sum := "b26e5313686c9f2c6a9fff8849ce98749ce7eaf612008a08efaa13016bce9336", func := "incline/inclinelaw13.MergeGoes", spec := "mergeGoes", unfollowed := true, recurses := true, apart := false }
def MergeGoesSaid : Prop := mergeGoesRow.holds Try.pinned (OpenSpec.ofChange mergeGoesSpec)

/-- ITS FALSE NEIGHBOUR: 'it returns false'. Refute it at one input. -/
def mergeGoesWrong : ChangeSpec := { name := "mergeGoes", fn := fun _ => fun
  | [d1, d2] => { results := [.lit (.bool false)], args := [d1, d2] }
  | _ => none }
def MergeGoesWrongFalsely : Prop := mergeGoesRow.holds Try.pinned (OpenSpec.ofChange mergeGoesWrong)

/-- 'inclinelaw13.MergeWords': WHATEVER THE INPUT: true; the input reads as it did. -/
def mergeWordsSpec : ChangeSpec := { name := "mergeWords", fn := fun _ => fun
  | [d] => { results := [.lit (.bool true)], args := [d] }
  | _ => none }
def mergeWordsRow : OpenClaim := { program := "ythkahedhmfkhhaa", sum := "b26e5313686c9f2c6a9fff8849ce98749ce7eaf612008a08efaa13016bce9336", func := "incline/inclinelaw13.MergeWords", spec := "mergeWords", unfollowed := true, recurses := true, apart := false }
def MergeWordsSaid : Prop := mergeWordsRow.holds Try.pinned (OpenSpec.ofChange mergeWordsSpec)

/-- ITS FALSE NEIGHBOUR: 'it returns false'. Refute it at one input. -/
def mergeWordsWrong : ChangeSpec := { name := "mergeWords", fn := fun _ => fun
  | [d] => { results := [.lit (.bool false)], args := [d] }
  | _ => none }
def MergeWordsWrongFalsely : Prop := mergeWordsRow.holds Try.pinned (OpenSpec.ofChange mergeWordsWrong)

/-- 'inclinelaw13.MergeOften': WHATEVER THE INPUT: true; the input reads as it did. -/
def mergeOftenSpec : ChangeSpec := { name := "mergeOften", fn := fun _ => fun
  | [d1, d2] => { results := [.lit (.bool true)], args := [d1, d2] }
  | _ => none }
def mergeOftenRow : OpenClaim := { program := "ythkahedhmfkhhaa", sum := "b26e5313686c9f2c6a9fff8849ce98749ce7eaf612008a08efaa13016bce9336", func := "incline/inclinelaw13.MergeOften", spec := "mergeOften", unfollowed := true, recurses := true, apart := false }
def MergeOftenSaid : Prop := mergeOftenRow.holds Try.pinned (OpenSpec.ofChange mergeOftenSpec)

/-- ITS FALSE NEIGHBOUR: 'it returns false'. Refute it at one input. -/
def mergeOftenWrong : ChangeSpec := { name := "mergeOften", fn := fun _ => fun
  | [d1, d2] => { results := [.lit (.bool false)], args := [d1, d2] }
  | _ => none }
def MergeOftenWrongFalsely : Prop := mergeOftenRow.holds Try.pinned (OpenSpec.ofChange mergeOftenWrong)

/- THE SECOND FORM. 'bulk': how many values and letters a reading holds, each counted each time it is reached (what is shared counts as often as it is met; a slice's spare places count too). A statement '..UptoSaid' is the law's where the arguments, and the package variables that the reading takes, are together of bulk at most 1048576: NARROWER than '..Said'. Prove '..Said' where nothing that the law and all that it calls make is longer than what came in: it says more and counts as full. Else prove '..UptoSaid'. A law counts once. -/
mutual
def uptoBulk {H : Type} : DataW H → Nat
  | .lit (.string bytes) => bytes.length + 1
  | .lit _ => 1
  | .nil => 1
  | .ptr d => uptoBulk d + 1
  | .slice elems spare => uptoBulkAll elems + uptoBulkAll spare + 1
  | .agg parts => uptoBulkAll parts + 1
  | .iface _ d => uptoBulk d + 1
  | .map entries => uptoBulkEntries entries + 1
  | .held _ => 1
def uptoBulkAll {H : Type} : List (DataW H) → Nat
  | [] => 0
  | d :: r => uptoBulk d + uptoBulkAll r
def uptoBulkEntries {H : Type} : List (Lit × DataW H) → Nat
  | [] => 0
  | x :: r => uptoBulkEntry x + uptoBulkEntries r
def uptoBulkEntry {H : Type} : Lit × DataW H → Nat
  | (.string bytes, d) => bytes.length + uptoBulk d + 1
  | (_, d) => uptoBulk d + 1
 end
def uptoSmall : (H : Type) → List (DataW H) → Bool := fun _ ds => decide (uptoBulkAll ds ≤ 1048576)
def OpenSpec.upto (s : _root_.Go.ChangeSpec) : _root_.Go.OpenSpec := { _root_.Go.OpenSpec.ofChange s with cond := some uptoSmall }

/-- 'inclinelaw13.MergeGoes', WHERE WHAT IT READS IS OF BULK AT MOST 1048576: true; the input reads as it did. -/
def mergeGoesUptoRow : OpenClaim := { program := "ythkahedhmfkhhaa", sum := "b26e5313686c9f2c6a9fff8849ce98749ce7eaf612008a08efaa13016bce9336", func := "incline/inclinelaw13.MergeGoes", spec := "mergeGoes", unfollowed := true, recurses := true, apart := false, narrowed := true }
def MergeGoesUptoSaid : Prop := mergeGoesUptoRow.holds Try.pinned (OpenSpec.upto mergeGoesSpec)

/-- 'inclinelaw13.MergeWords', WHERE WHAT IT READS IS OF BULK AT MOST 1048576: true; the input reads as it did. -/
def mergeWordsUptoRow : OpenClaim := { program := "ythkahedhmfkhhaa", sum := "b26e5313686c9f2c6a9fff8849ce98749ce7eaf612008a08efaa13016bce9336", func := "incline/inclinelaw13.MergeWords", spec := "mergeWords", unfollowed := true, recurses := true, apart := false, narrowed := true }
def MergeWordsUptoSaid : Prop := mergeWordsUptoRow.holds Try.pinned (OpenSpec.upto mergeWordsSpec)

/-- 'inclinelaw13.MergeOften', WHERE WHAT IT READS IS OF BULK AT MOST 1048576: true; the input reads as it did. -/
def mergeOftenUptoRow : OpenClaim := { program := "ythkahedhmfkhhaa", sum := "b26e5313686c9f2c6a9fff8849ce98749ce7eaf612008a08efaa13016bce9336", func := "incline/inclinelaw13.MergeOften", spec := "mergeOften", unfollowed := true, recurses := true, apart := false, narrowed := true }
def MergeOftenUptoSaid : Prop := mergeOftenUptoRow.holds Try.pinned (OpenSpec.upto mergeOftenSpec)

end Rows
end Go.Proofs.Ythkahedhmfkhhaa
