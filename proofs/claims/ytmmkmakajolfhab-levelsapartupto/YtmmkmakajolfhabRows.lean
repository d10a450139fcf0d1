/-
  No cell of these rows narrows 'for every input' (looked for: loops, veiled, ifaces, maps, wideKeys, modest, calm, conditions, laid).
  DERIVED. THE GIVEN ROWS OF THIS SEAT. 4 by the template 'for every input the law returns true; each argument reads behind the call as it read before'; 0 by the template 'total and deterministic' (their statements: YtmmkmakajolfhabTotals.lean).
  GIVEN WITH THE SEED: the statements are not yours to turn. If you find one false, say at which input.
  Laid BY PROGRAM, IN A SANDBOX (cutbox-rows.mjs): the forced cells as the released guide's own fill.sh prints them over the translation 7ae96a5d1fb14f28… (all of the seat's roots in one cut). By AI agents, Wed Nov 11 2026. No macro, syntax, notation, axiom, sorry.
-/
import Derived.Test.YtmmkmakajolfhabChecked
import GoSem.Claim
import GoSem.ClaimJoined
import GoSem.ClaimMapViews
import Derived.JoinedTies
import Derived.KernelRfl
namespace Go.Proofs.Ytmmkmakajolfhab
/- THE CELL 'sum', in the pinned program and in every row, IS THE sha256 OF THE DUMP (.gsa) THAT YtmmkmakajolfhabProg.lean LOADS. Nothing in Lean hashes anything: it is a label: what it is worth is what the hold of that sum in a sandbox is worth. -/
noncomputable def Try.pinned : Pinned := { name := "ytmmkmakajolfhab", sum := "7ae96a5d1fb14f2847a63c261ef4770713abe8cc606481955a5148d03f3ae4b9", checked := Try.checked }
namespace Rows
def none {H : Type} : Left H := { results := [], args := [] }

/-- 'inclinelaw08.LevelsBound': WHATEVER THE INPUT: true; the input reads as it did. -/
def levelsBoundSpec : ChangeSpec := { name := "levelsBound", fn := fun _ => fun
  | [d1, d2, d3] => { results := [.lit (.bool true)], args := [d1, d2, d3] }
  | _ => none }
def levelsBoundRow : OpenClaim := { program := "ytmmkmakajolfhab", sum := "7ae96a5d1fb14f2847a63c261ef4770713abe8cc606481955a5148d03f3ae4b9", func := "incline/inclinelaw08.LevelsBound", spec := "levelsBound", inPlace := ["math.Float64frombits", "math.Float64bits", "math.archFloor", "math.archTrunc"], unfollowed := true, recurses := true, named := ["math/bits.divideError", "math/bits.overflowError"], apart := false }
def LevelsBoundSaid : Prop := levelsBoundRow.holds Try.pinned (OpenSpec.ofChange levelsBoundSpec)

/-- ITS FALSE NEIGHBOUR: 'it returns false'. Refute it at one input. -/
def levelsBoundWrong : ChangeSpec := { name := "levelsBound", fn := fun _ => fun
  | [d1, d2, d3] => { results := [.lit (.bool false)], args := [d1, d2, d3] }
  | _ => none }
def LevelsBoundWrongFalsely : Prop := levelsBoundRow.holds Try.pinned (OpenSpec.ofChange levelsBoundWrong)

/-- 'inclinelaw08.LevelsApart': WHATEVER THE INPUT: true; the input reads as it did. -/
def levelsApartSpec : ChangeSpec := { name := "levelsApart", fn := fun _ => fun
  | [d1, d2, d3] => { results := [.lit (.bool true)], args := [d1, d2, d3] }
  | _ => none }
def levelsApartRow : OpenClaim := { program := "ytmmkmakajolfhab", sum := "7ae96a5d1fb14f2847a63c261ef4770713abe8cc606481955a5148d03f3ae4b9", func := "incline/inclinelaw08.LevelsApart", spec := "levelsApart", inPlace := ["math.Float64frombits", "math.Float64bits", "math.archFloor", "math.archTrunc"], unfollowed := true, recurses := true, named := ["math/bits.divideError", "math/bits.overflowError"], apart := false }
def LevelsApartSaid : Prop := levelsApartRow.holds Try.pinned (OpenSpec.ofChange levelsApartSpec)

/-- ITS FALSE NEIGHBOUR: 'it returns false'. Refute it at one input. -/
def levelsApartWrong : ChangeSpec := { name := "levelsApart", fn := fun _ => fun
  | [d1, d2, d3] => { results := [.lit (.bool false)], args := [d1, d2, d3] }
  | _ => none }
def LevelsApartWrongFalsely : Prop := levelsApartRow.holds Try.pinned (OpenSpec.ofChange levelsApartWrong)

/-- 'inclinelaw08.LevelsMoved': WHATEVER THE INPUT: true; the input reads as it did. -/
def levelsMovedSpec : ChangeSpec := { name := "levelsMoved", fn := fun _ => fun
  | [d1, d2, d3] => { results := [.lit (.bool true)], args := [d1, d2, d3] }
  | _ => none }
def levelsMovedRow : OpenClaim := { program := "ytmmkmakajolfhab", sum := "7ae96a5d1fb14f2847a63c261ef4770713abe8cc606481955a5148d03f3ae4b9", func := "incline/inclinelaw08.LevelsMoved", spec := "levelsMoved", inPlace := ["math.Float64frombits", "math.Float64bits", "math.archFloor", "math.archTrunc"], unfollowed := true, recurses := true, named := ["math/bits.divideError", "math/bits.overflowError"], apart := false }
def LevelsMovedSaid : Prop := levelsMovedRow.holds Try.pinned (OpenSpec.ofChange levelsMovedSpec)

/-- ITS FALSE NEIGHBOUR: 'it returns false'. Refute it at one input. -/
def levelsMovedWrong : ChangeSpec := { name := "levelsMoved", fn := fun _ => fun
  | [d1, d2, d3] => { results := [.lit (.bool false)], args := [d1, d2, d3] }
  | _ => none }
def LevelsMovedWrongFalsely : Prop := levelsMovedRow.holds Try.pinned (OpenSpec.ofChange levelsMovedWrong)

/-- 'inclinetop.TopFew': WHATEVER THE INPUT: true; the input reads as it did. -/
def topFewSpec : ChangeSpec := { name := "topFew", fn := fun _ => fun
  | [d1, d2] => { results := [.lit (.bool true)], args := [d1, d2] }
  | _ => none }
def topFewRow : OpenClaim := { program := "ytmmkmakajolfhab", sum := "7ae96a5d1fb14f2847a63c261ef4770713abe8cc606481955a5148d03f3ae4b9", func := "incline/inclinetop.TopFew", spec := "topFew", inPlace := ["math.Float64frombits"], unfollowed := true, recurses := true, named := ["math/bits.divideError", "math/bits.overflowError"], apart := false }
def TopFewSaid : Prop := topFewRow.holds Try.pinned (OpenSpec.ofChange topFewSpec)

/-- ITS FALSE NEIGHBOUR: 'it returns false'. Refute it at one input. -/
def topFewWrong : ChangeSpec := { name := "topFew", fn := fun _ => fun
  | [d1, d2] => { results := [.lit (.bool false)], args := [d1, d2] }
  | _ => none }
def TopFewWrongFalsely : Prop := topFewRow.holds Try.pinned (OpenSpec.ofChange topFewWrong)

/- THE SECOND FORM. 'bulk': how many values and letters a reading holds, each counted each time it is reached (what is shared counts as often as it is met; a slice's spare places count too). A statement '..UptoSaid' is the law's where the arguments, and the package variables that the reading takes, are together of bulk at most 1048576: NARROWER than '..Said'. Prove '..Said' where nothing that the law and all that it calls make is longer than what came in: it says more and counts as full. Else prove '..UptoSaid'. A law counts once. -/
mutual
def uptoBulk {H : Type} : DataW H → Nat
  | .lit (.string bytes) => bytes.length + 1
  | .lit _ => 1
  | .nil => 1
  | .ptr d => uptoBulk d + 1
  | .slice elems spare => uptoBulkAll elems + uptoBulkAll spare + 1
  | .agg parts => uptoBulkAll parts + 1
  | .iface _ d => uptoBulk d + 1
  | .map entries => uptoBulkEntries entries + 1
  | .held _ => 1
def uptoBulkAll {H : Type} : List (DataW H) → Nat
  | [] => 0
  | d :: r => uptoBulk d + uptoBulkAll r
def uptoBulkEntries {H : Type} : List (Lit × DataW H) → Nat
  | [] => 0
  | x :: r => uptoBulkEntry x + uptoBulkEntries r
def uptoBulkEntry {H : Type} : Lit × DataW H → Nat
  | (.string bytes, d) => bytes.length + uptoBulk d + 1
  | (_, d) => uptoBulk d + 1
 end
def uptoSmall : (H : Type) → List (DataW H) → Bool := fun _ ds => decide (uptoBulkAll ds ≤ 1048576)
def OpenSpec.upto (s : _root_.Go.ChangeSpec) : _root_.Go.OpenSpec := { _root_.Go.OpenSpec.ofChange s with cond := some uptoSmall }

/-- 'inclinelaw08.LevelsBound', WHERE WHAT IT READS IS OF BULK AT MOST 1048576: true; the input reads as it did. -/
def levelsBoundUptoRow : OpenClaim := { program := "ytmmkmakajolfhab", sum := "7ae96a5d1fb14f2847a63c261ef4770713abe8cc606481955a5148d03f3ae4b9", func := "incline/inclinelaw08.LevelsBound", spec := "levelsBound", inPlace := ["math.Float64frombits", "math.Float64bits", "math.archFloor", "math.archTrunc"], unfollowed := true, recurses := true, named := ["math/bits.divideError", "math/bits.overflowError"], apart := false, narrowed := true }
def LevelsBoundUptoSaid : Prop := levelsBoundUptoRow.holds Try.pinned (OpenSpec.upto levelsBoundSpec)

/-- 'inclinelaw08.LevelsApart', WHERE WHAT IT READS IS OF BULK AT MOST 1048576: true; the input reads as it did. -/
def levelsApartUptoRow : OpenClaim := { program := "ytmmkmakajolfhab", sum := "7ae96a5d1fb14f2847a63c261ef4770713abe8cc606481955a5148d03f3ae4b9", func := "incline/inclinelaw08.LevelsApart", spec := "levelsApart", inPlace := ["math.Float64frombits", "math.Float64bits", "math.archFloor", "math.archTrunc"], unfollowed := true, recurses := true, named := ["math/bits.divideError", "math/bits.overflowError"], apart := false, narrowed := true }
def LevelsApartUptoSaid : Prop := levelsApartUptoRow.holds Try.pinned (OpenSpec.upto levelsApartSpec)

/-- 'inclinelaw08.LevelsMoved', WHERE WHAT IT READS IS OF BULK AT MOST 1048576: true; the input reads as it did. -/
def levelsMovedUptoRow : OpenClaim := { program := "ytmmkmakajolfhab", sum := "7ae96a5d1fb14f2847a63c261ef4770713abe8cc606481955a5148d03f3ae4b9", func := "incline/inclinelaw08.LevelsMoved", spec := "levelsMoved", inPlace := ["math.Float64frombits", "math.Float64bits", "math.archFloor", "math.archTrunc"], unfollowed := true, recurses := true, named := ["math/bits.divideError", "math/bits.overflowError"], apart := false, narrowed := true }
def LevelsMovedUptoSaid : Prop := levelsMovedUptoRow.holds Try.pinned (OpenSpec.upto levelsMovedSpec)

/-- 'inclinetop.TopFew', WHERE WHAT IT READS IS OF BULK AT MOST 1048576: true; the input reads as it did. -/
def topFewUptoRow : OpenClaim := { program := "ytmmkmakajolfhab", sum := "7ae96a5d1fb14f2847a63c261ef4770713abe8cc606481955a5148d03f3ae4b9", func := "incline/inclinetop.TopFew", spec := "topFew", inPlace := ["math.Float64frombits"], unfollowed := true, recurses := true, named := ["math/bits.divideError", "math/bits.overflowError"], apart := false, narrowed := true }
def TopFewUptoSaid : Prop := topFewUptoRow.holds Try.pinned (OpenSpec.upto topFewSpec)

end Rows
end Go.Proofs.Ytmmkmakajolfhab
