/-
  No cell of these rows narrows 'for every input' (looked for: loops, veiled, ifaces, maps, wideKeys, modest, calm, conditions, laid).
  DERIVED. THE GIVEN ROWS OF THIS SEAT. 5 by the template 'for every input the law returns true; each argument reads behind the call as it read before'; 0 by the template 'total and deterministic' (their statements: YtlocnkoeffoflaaTotals.lean).
  GIVEN WITH THE SEED: the statements are not yours to turn. If you find one false, say at which input.
  Laid BY PROGRAM, IN A SANDBOX (cutbox-rows.mjs): the forced cells as the released guide's own fill.sh prints them over the translation 95c6372c86410e19… (all of the seat's roots in one cut). By AI agents, Wed Nov 11 2026. No macro, syntax, notation, axiom, sorry.
-/
import Derived.Test.YtlocnkoeffoflaaChecked
import GoSem.Claim
import GoSem.ClaimJoined
import GoSem.ClaimMapViews
import Derived.JoinedTies
import Derived.KernelRfl
namespace Go.Proofs.Ytlocnkoeffoflaa
/- THE CELL 'sum', in the pinned program and in every row, IS THE sha256 OF THE DUMP (.gsa) THAT YtlocnkoeffoflaaProg.lean LOADS. Nothing in Lean hashes anything: it is a label: what it is worth is what the hold of that sum in a sandbox is worth. -/
noncomputable def Try.pinned : Pinned := { name := "ytlocnkoeffoflaa", sum := "95c6372c86410e1913cea8b06cfb216a71c781bf9b3864a1f1f59c46da41f873", checked := Try.checked }
namespace Rows
def none {H : Type} : Left H := { results := [], args := [] }

/-- 'inclinelaw06.CutEnds': WHATEVER THE INPUT: true; the input reads as it did. -/
def cutEndsSpec : ChangeSpec := { name := "cutEnds", fn := fun _ => fun
  | [d1, d2] => { results := [.lit (.bool true)], args := [d1, d2] }
  | _ => none }
def cutEndsRow : OpenClaim := { program := "ytlocnkoeffoflaa", sum := "95c6372c86410e1913cea8b06cfb216a71c781bf9b3864a1f1f59c46da41f873", func := "incline/inclinelaw06.CutEnds", spec := "cutEnds", unfollowed := true, recurses := true, apart := false }
def CutEndsSaid : Prop := cutEndsRow.holds Try.pinned (OpenSpec.ofChange cutEndsSpec)

/-- ITS FALSE NEIGHBOUR: 'it returns false'. Refute it at one input. -/
def cutEndsWrong : ChangeSpec := { name := "cutEnds", fn := fun _ => fun
  | [d1, d2] => { results := [.lit (.bool false)], args := [d1, d2] }
  | _ => none }
def CutEndsWrongFalsely : Prop := cutEndsRow.holds Try.pinned (OpenSpec.ofChange cutEndsWrong)

/-- 'inclinelaw06.CutFew': WHATEVER THE INPUT: true; the input reads as it did. -/
def cutFewSpec : ChangeSpec := { name := "cutFew", fn := fun _ => fun
  | [d1, d2] => { results := [.lit (.bool true)], args := [d1, d2] }
  | _ => none }
def cutFewRow : OpenClaim := { program := "ytlocnkoeffoflaa", sum := "95c6372c86410e1913cea8b06cfb216a71c781bf9b3864a1f1f59c46da41f873", func := "incline/inclinelaw06.CutFew", spec := "cutFew", unfollowed := true, recurses := true, apart := false }
def CutFewSaid : Prop := cutFewRow.holds Try.pinned (OpenSpec.ofChange cutFewSpec)

/-- ITS FALSE NEIGHBOUR: 'it returns false'. Refute it at one input. -/
def cutFewWrong : ChangeSpec := { name := "cutFew", fn := fun _ => fun
  | [d1, d2] => { results := [.lit (.bool false)], args := [d1, d2] }
  | _ => none }
def CutFewWrongFalsely : Prop := cutFewRow.holds Try.pinned (OpenSpec.ofChange cutFewWrong)

/-- 'inclinelaw06.CutLong': WHATEVER THE INPUT: true; the input reads as it did. -/
def cutLongSpec : ChangeSpec := { name := "cutLong", fn := fun _ => fun
  | [d1, d2] => { results := [.lit (.bool true)], args := [d1, d2] }
  | _ => none }
def cutLongRow : OpenClaim := { program := "ytlocnkoeffoflaa", sum := "95c6372c86410e1913cea8b06cfb216a71c781bf9b3864a1f1f59c46da41f873", func := "incline/inclinelaw06.CutLong", spec := "cutLong", unfollowed := true, recurses := true, apart := false }
def CutLongSaid : Prop := cutLongRow.holds Try.pinned (OpenSpec.ofChange cutLongSpec)

/-- ITS FALSE NEIGHBOUR: 'it returns false'. Refute it at one input. -/
def cutLongWrong : ChangeSpec := { name := "cutLong", fn := fun _ => fun
  | [d1, d2] => { results := [.lit (.bool false)], args := [d1, d2] }
  | _ => none }
def CutLongWrongFalsely : Prop := cutLongRow.holds Try.pinned (OpenSpec.ofChange cutLongWrong)

/-- 'inclinelaw06.CutComes': WHATEVER THE INPUT: true; the input reads as it did. -/
def cutComesSpec : ChangeSpec := { name := "cutComes", fn := fun _ => fun
  | [d1, d2, d3] => { results := [.lit (.bool true)], args := [d1, d2, d3] }
  | _ => none }
def cutComesRow : OpenClaim := { program := "ytlocnkoeffoflaa", sum := "95c6372c86410e1913cea8b06cfb216a71c781bf9b3864a1f1f59c46da41f873", func := "incline/inclinelaw06.CutComes", spec := "cutComes", unfollowed := true, recurses := true, apart := false }
def CutComesSaid : Prop := cutComesRow.holds Try.pinned (OpenSpec.ofChange cutComesSpec)

/-- ITS FALSE NEIGHBOUR: 'it returns false'. Refute it at one input. -/
def cutComesWrong : ChangeSpec := { name := "cutComes", fn := fun _ => fun
  | [d1, d2, d3] => { results := [.lit (.bool false)], args := [d1, d2, d3] }
  | _ => none }
def CutComesWrongFalsely : Prop := cutComesRow.holds Try.pinned (OpenSpec.ofChange cutComesWrong)

/-- 'inclinelaw06.CutMoved': WHATEVER THE INPUT: true; the input reads as it did. -/
def cutMovedSpec : ChangeSpec := { name := "cutMoved", fn := fun _ => fun
  | [d1, d2, d3] => { results := [.lit (.bool true)], args := [d1, d2, d3] }
  | _ => none }
def cutMovedRow : OpenClaim := { program := "ytlocnkoeffoflaa", sum := "95c6372c86410e1913cea8b06cfb216a71c781bf9b3864a1f1f59c46da41f873", func := "incline/inclinelaw06.CutMoved", spec := "cutMoved", unfollowed := true, recurses := true, apart := false }
def CutMovedSaid : Prop := cutMovedRow.holds Try.pinned (OpenSpec.ofChange cutMovedSpec)

/-- ITS FALSE NEIGHBOUR: 'it returns false'. Refute it at one input. -/
def cutMovedWrong : ChangeSpec := { name := "cutMoved", fn := fun _ => fun
  | [d1, d2, d3] => { results := [.lit (.bool false)], args := [d1, d2, d3] }
  | _ => none }
def CutMovedWrongFalsely : Prop := cutMovedRow.holds Try.pinned (OpenSpec.ofChange cutMovedWrong)

/- THE SECOND FORM. 'bulk': how many values and letters a reading holds, each counted each time it is reached (what is shared counts as often as it is met; a slice's spare places count too). A statement '..UptoSaid' is the law's where the arguments, and the package variables that the reading takes, are together of bulk at most 1048576: NARROWER than '..Said'. Prove '..Said' where nothing that the law and all that it calls make is longer than what came in: it says more and counts as full. Else prove '..UptoSaid'. A law counts once. -/
mutual
def uptoBulk {H : Type} : DataW H → Nat
  | .lit (.string bytes) => bytes.length + 1
  | .lit _ => 1
  | .nil => 1
  | .ptr d => uptoBulk d + 1
  | .slice elems spare => uptoBulkAll elems + uptoBulkAll spare + 1
  | .agg parts => uptoBulkAll parts + 1
  | .iface _ d => uptoBulk d + 1
  | .map entries => uptoBulkEntries entries + 1
  | .held _ => 1
def uptoBulkAll {H : Type} : List (DataW H) → Nat
  | [] => 0
  | d :: r => uptoBulk d + uptoBulkAll r
def uptoBulkEntries {H : Type} : List (Lit × DataW H) → Nat
  | [] => 0
  | x :: r => uptoBulkEntry x + uptoBulkEntries r
def uptoBulkEntry {H : Type} : Lit × DataW H → Nat
  | (.string bytes, d) => bytes.length + uptoBulk d + 1
  | (_, d) => uptoBulk d + 1
 end
def uptoSmall : (H : Type) → List (DataW H) → Bool := fun _ ds => decide (uptoBulkAll ds ≤ 1048576)
def OpenSpec.upto (s : _root_.Go.ChangeSpec) : _root_.Go.OpenSpec := { _root_.Go.OpenSpec.ofChange s with cond := some uptoSmall }

/-- 'inclinelaw06.CutEnds', WHERE WHAT IT READS IS OF BULK AT MOST 1048576: true; the input reads as it did. -/
def cutEndsUptoRow : OpenClaim := { program := "ytlocnkoeffoflaa", sum := "95c6372c86410e1913cea8b06cfb216a71c781bf9b3864a1f1f59c46da41f873", func := "incline/inclinelaw06.CutEnds", spec := "cutEnds", unfollowed := true, recurses := true, apart := false, narrowed := true }
def CutEndsUptoSaid : Prop := cutEndsUptoRow.holds Try.pinned (OpenSpec.upto cutEndsSpec)

/-- 'inclinelaw06.CutFew', WHERE WHAT IT READS IS OF BULK AT MOST 1048576: true; the input reads as it did. -/
def cutFewUptoRow : OpenClaim := { program := "ytlocnkoeffoflaa", sum := "95c6372c86410e1913cea8b06cfb216a71c781bf9b3864a1f1f59c46da41f873", func := "incline/inclinelaw06.CutFew", spec := "cutFew", unfollowed := true, recurses := true, apart := false, narrowed := true }
def CutFewUptoSaid : Prop := cutFewUptoRow.holds Try.pinned (OpenSpec.upto cutFewSpec)

/-- 'inclinelaw06.CutLong', WHERE WHAT IT READS IS OF BULK AT MOST 1048576: true; the input reads as it did. -/
def cutLongUptoRow : OpenClaim := { program := "ytlocnkoeffoflaa", sum := "95c6372c86410e1913cea8b06cfb216a71c781bf9b3864a1f1f59c46da41f873", func := "incline/inclinelaw06.CutLong", spec := "cutLong", unfollowed := true, recurses := true, apart := false, narrowed := true }
def CutLongUptoSaid : Prop := cutLongUptoRow.holds Try.pinned (OpenSpec.upto cutLongSpec)

/-- 'inclinelaw06.CutComes', WHERE WHAT IT READS IS OF BULK AT MOST 1048576: true; the input reads as it did. -/
def cutComesUptoRow : OpenClaim := { program := "ytlocnkoeffoflaa", sum := "95c6372c86410e1913cea8b06cfb216a71c781bf9b3864a1f1f59c46da41f873", func := "incline/inclinelaw06.CutComes", spec := "cutComes", unfollowed := true, recurses := true, apart := false, narrowed := true }
def CutComesUptoSaid : Prop := cutComesUptoRow.holds Try.pinned (OpenSpec.upto cutComesSpec)

/-- 'inclinelaw06.CutMoved', WHERE WHAT IT READS IS OF BULK AT MOST 1048576: true; the input reads as it did. -/
def cutMovedUptoRow : OpenClaim := { program := "ytlocnkoeffoflaa", sum := "95c6372c86410e1913cea8b06cfb216a71c781bf9b3864a1f1f59c46da41f873", func := "incline/inclinelaw06.CutMoved", spec := "cutMoved", unfollowed := true, recurses := true, apart := false, narrowed := true }
def CutMovedUptoSaid : Prop := cutMovedUptoRow.holds Try.pinned (OpenSpec.upto cutMovedSpec)

end Rows
end Go.Proofs.Ytlocnkoeffoflaa
