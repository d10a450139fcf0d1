/-
  No cell of these rows narrows 'for every input' (looked for: loops, veiled, ifaces, maps, wideKeys, modest, calm, conditions, laid).
  DERIVED. THE GIVEN ROWS OF THIS SEAT. 5 by the template 'for every input the law returns true; each argument reads behind the call as it read before'; 0 by the template 'total and deterministic' (their statements: YtmmkmakajolfhaaTotals.lean).
  GIVEN WITH THE SEED: the statements are not yours to turn. If you find one false, say at which input.
  Laid BY PROGRAM, IN A SANDBOX (cutbox-rows.mjs): the forced cells as the released guide's own fill.sh prints them over the translation 92f89365953df7f3… (all of the seat's roots in one cut). By AI agents, Wed Nov 11 2026. No macro, syntax, notation, axiom, sorry.
-/
import Derived.Test.YtmmkmakajolfhaaChecked
import GoSem.Claim
import GoSem.ClaimJoined
import GoSem.ClaimMapViews
import Derived.JoinedTies
import Derived.KernelRfl
namespace Go.Proofs.Ytmmkmakajolfhaa
/- THE CELL 'sum', in the pinned program and in every row, IS THE sha256 OF THE DUMP (.gsa) THAT YtmmkmakajolfhaaProg.lean LOADS. Nothing in Lean hashes anything: it is a label: what it is worth is what the hold of that sum in a sandbox is worth. -/
noncomputable def Try.pinned : Pinned := { name := "ytmmkmakajolfhaa", sum := "92f89365953df7f3b35ee6e7755e70cec4a5d265fd862feb3f36b23199c3b098", checked := Try.checked }
namespace Rows
def none {H : Type} : Left H := { results := [], args := [] }

/-- 'inclinelaw08.LevelsChecks': WHATEVER THE INPUT: true; the input reads as it did. -/
def levelsChecksSpec : ChangeSpec := { name := "levelsChecks", fn := fun _ => fun
  | [d1, d2, d3] => { results := [.lit (.bool true)], args := [d1, d2, d3] }
  | _ => none }
def levelsChecksRow : OpenClaim := { program := "ytmmkmakajolfhaa", sum := "92f89365953df7f3b35ee6e7755e70cec4a5d265fd862feb3f36b23199c3b098", func := "incline/inclinelaw08.LevelsChecks", spec := "levelsChecks", inPlace := ["math.Float64frombits", "math.Float64bits", "math.archFloor", "math.archTrunc"], unfollowed := true, recurses := true, named := ["math/bits.divideError", "math/bits.overflowError"], apart := false }
def LevelsChecksSaid : Prop := levelsChecksRow.holds Try.pinned (OpenSpec.ofChange levelsChecksSpec)

/-- ITS FALSE NEIGHBOUR: 'it returns false'. Refute it at one input. -/
def levelsChecksWrong : ChangeSpec := { name := "levelsChecks", fn := fun _ => fun
  | [d1, d2, d3] => { results := [.lit (.bool false)], args := [d1, d2, d3] }
  | _ => none }
def LevelsChecksWrongFalsely : Prop := levelsChecksRow.holds Try.pinned (OpenSpec.ofChange levelsChecksWrong)

/-- 'inclinelaw08.LevelsHeights': WHATEVER THE INPUT: true; the input reads as it did. -/
def levelsHeightsSpec : ChangeSpec := { name := "levelsHeights", fn := fun _ => fun
  | [d1, d2] => { results := [.lit (.bool true)], args := [d1, d2] }
  | _ => none }
def levelsHeightsRow : OpenClaim := { program := "ytmmkmakajolfhaa", sum := "92f89365953df7f3b35ee6e7755e70cec4a5d265fd862feb3f36b23199c3b098", func := "incline/inclinelaw08.LevelsHeights", spec := "levelsHeights", inPlace := ["math.Float64frombits", "math.Float64bits", "math.archFloor", "math.archTrunc"], unfollowed := true, recurses := true, named := ["math/bits.divideError", "math/bits.overflowError"], apart := false }
def LevelsHeightsSaid : Prop := levelsHeightsRow.holds Try.pinned (OpenSpec.ofChange levelsHeightsSpec)

/-- ITS FALSE NEIGHBOUR: 'it returns false'. Refute it at one input. -/
def levelsHeightsWrong : ChangeSpec := { name := "levelsHeights", fn := fun _ => fun
  | [d1, d2] => { results := [.lit (.bool false)], args := [d1, d2] }
  | _ => none }
def LevelsHeightsWrongFalsely : Prop := levelsHeightsRow.holds Try.pinned (OpenSpec.ofChange levelsHeightsWrong)

/-- 'inclinelaw08.LevelsRight': WHATEVER THE INPUT: true; the input reads as it did. -/
def levelsRightSpec : ChangeSpec := { name := "levelsRight", fn := fun _ => fun
  | [d1, d2] => { results := [.lit (.bool true)], args := [d1, d2] }
  | _ => none }
def levelsRightRow : OpenClaim := { program := "ytmmkmakajolfhaa", sum := "92f89365953df7f3b35ee6e7755e70cec4a5d265fd862feb3f36b23199c3b098", func := "incline/inclinelaw08.LevelsRight", spec := "levelsRight", inPlace := ["math.Float64frombits", "math.Float64bits", "math.archFloor", "math.archTrunc"], unfollowed := true, recurses := true, named := ["math/bits.divideError", "math/bits.overflowError"], apart := false }
def LevelsRightSaid : Prop := levelsRightRow.holds Try.pinned (OpenSpec.ofChange levelsRightSpec)

/-- ITS FALSE NEIGHBOUR: 'it returns false'. Refute it at one input. -/
def levelsRightWrong : ChangeSpec := { name := "levelsRight", fn := fun _ => fun
  | [d1, d2] => { results := [.lit (.bool false)], args := [d1, d2] }
  | _ => none }
def LevelsRightWrongFalsely : Prop := levelsRightRow.holds Try.pinned (OpenSpec.ofChange levelsRightWrong)

/-- 'inclinelaw08.LevelsFew': WHATEVER THE INPUT: true; the input reads as it did. -/
def levelsFewSpec : ChangeSpec := { name := "levelsFew", fn := fun _ => fun
  | [d1, d2] => { results := [.lit (.bool true)], args := [d1, d2] }
  | _ => none }
def levelsFewRow : OpenClaim := { program := "ytmmkmakajolfhaa", sum := "92f89365953df7f3b35ee6e7755e70cec4a5d265fd862feb3f36b23199c3b098", func := "incline/inclinelaw08.LevelsFew", spec := "levelsFew", inPlace := ["math.Float64frombits", "math.Float64bits", "math.archFloor", "math.archTrunc"], unfollowed := true, recurses := true, named := ["math/bits.divideError", "math/bits.overflowError"], apart := false }
def LevelsFewSaid : Prop := levelsFewRow.holds Try.pinned (OpenSpec.ofChange levelsFewSpec)

/-- ITS FALSE NEIGHBOUR: 'it returns false'. Refute it at one input. -/
def levelsFewWrong : ChangeSpec := { name := "levelsFew", fn := fun _ => fun
  | [d1, d2] => { results := [.lit (.bool false)], args := [d1, d2] }
  | _ => none }
def LevelsFewWrongFalsely : Prop := levelsFewRow.holds Try.pinned (OpenSpec.ofChange levelsFewWrong)

/-- 'inclinelaw08.LevelsNear': WHATEVER THE INPUT: true; the input reads as it did. -/
def levelsNearSpec : ChangeSpec := { name := "levelsNear", fn := fun _ => fun
  | [d1, d2, d3, d4] => { results := [.lit (.bool true)], args := [d1, d2, d3, d4] }
  | _ => none }
def levelsNearRow : OpenClaim := { program := "ytmmkmakajolfhaa", sum := "92f89365953df7f3b35ee6e7755e70cec4a5d265fd862feb3f36b23199c3b098", func := "incline/inclinelaw08.LevelsNear", spec := "levelsNear", inPlace := ["math.Float64frombits", "math.Float64bits", "math.archFloor", "math.archTrunc"], unfollowed := true, recurses := true, named := ["math/bits.divideError", "math/bits.overflowError"], apart := false }
def LevelsNearSaid : Prop := levelsNearRow.holds Try.pinned (OpenSpec.ofChange levelsNearSpec)

/-- ITS FALSE NEIGHBOUR: 'it returns false'. Refute it at one input. -/
def levelsNearWrong : ChangeSpec := { name := "levelsNear", fn := fun _ => fun
  | [d1, d2, d3, d4] => { results := [.lit (.bool false)], args := [d1, d2, d3, d4] }
  | _ => none }
def LevelsNearWrongFalsely : Prop := levelsNearRow.holds Try.pinned (OpenSpec.ofChange levelsNearWrong)

/- THE SECOND FORM. 'bulk': how many values and letters a reading holds, each counted each time it is reached (what is shared counts as often as it is met; a slice's spare places count too). A statement '..UptoSaid' is the law's where the arguments, and the package variables that the reading takes, are together of bulk at most 1048576: NARROWER than '..Said'. Prove '..Said' where nothing that the law and all that it calls make is longer than what came in: it says more and counts as full. Else prove '..UptoSaid'. A law counts once. -/
mutual
def uptoBulk {H : Type} : DataW H → Nat
  | .lit (.string bytes) => bytes.length + 1
  | .lit _ => 1
  | .nil => 1
  | .ptr d => uptoBulk d + 1
  | .slice elems spare => uptoBulkAll elems + uptoBulkAll spare + 1
  | .agg parts => uptoBulkAll parts + 1
  | .iface _ d => uptoBulk d + 1
  | .map entries => uptoBulkEntries entries + 1
  | .held _ => 1
def uptoBulkAll {H : Type} : List (DataW H) → Nat
  | [] => 0
  | d :: r => uptoBulk d + uptoBulkAll r
def uptoBulkEntries {H : Type} : List (Lit × DataW H) → Nat
  | [] => 0
  | x :: r => uptoBulkEntry x + uptoBulkEntries r
def uptoBulkEntry {H : Type} : Lit × DataW H → Nat
  | (.string bytes, d) => bytes.length + uptoBulk d + 1
  | (_, d) => uptoBulk d + 1
 end
def uptoSmall : (H : Type) → List (DataW H) → Bool := fun _ ds => decide (uptoBulkAll ds ≤ 1048576)
def OpenSpec.upto (s : _root_.Go.ChangeSpec) : _root_.Go.OpenSpec := { _root_.Go.OpenSpec.ofChange s with cond := some uptoSmall }

/-- 'inclinelaw08.LevelsChecks', WHERE WHAT IT READS IS OF BULK AT MOST 1048576: true; the input reads as it did. -/
def levelsChecksUptoRow : OpenClaim := { program := "ytmmkmakajolfhaa", sum := "92f89365953df7f3b35ee6e7755e70cec4a5d265fd862feb3f36b23199c3b098", func := "incline/inclinelaw08.LevelsChecks", spec := "levelsChecks", inPlace := ["math.Float64frombits", "math.Float64bits", "math.archFloor", "math.archTrunc"], unfollowed := true, recurses := true, named := ["math/bits.divideError", "math/bits.overflowError"], apart := false, narrowed := true }
def LevelsChecksUptoSaid : Prop := levelsChecksUptoRow.holds Try.pinned (OpenSpec.upto levelsChecksSpec)

/-- 'inclinelaw08.LevelsHeights', WHERE WHAT IT READS IS OF BULK AT MOST 1048576: true; the input reads as it did. -/
def levelsHeightsUptoRow : OpenClaim := { program := "ytmmkmakajolfhaa", sum := "92f89365953df7f3b35ee6e7755e70cec4a5d265fd862feb3f36b23199c3b098", func := "incline/inclinelaw08.LevelsHeights", spec := "levelsHeights", inPlace := ["math.Float64frombits", "math.Float64bits", "math.archFloor", "math.archTrunc"], unfollowed := true, recurses := true, named := ["math/bits.divideError", "math/bits.overflowError"], apart := false, narrowed := true }
def LevelsHeightsUptoSaid : Prop := levelsHeightsUptoRow.holds Try.pinned (OpenSpec.upto levelsHeightsSpec)

/-- 'inclinelaw08.LevelsRight', WHERE WHAT IT READS IS OF BULK AT MOST 1048576: true; the input reads as it did. -/
def levelsRightUptoRow : OpenClaim := { program := "ytmmkmakajolfhaa", sum := "92f89365953df7f3b35ee6e7755e70cec4a5d265fd862feb3f36b23199c3b098", func := "incline/inclinelaw08.LevelsRight", spec := "levelsRight", inPlace := ["math.Float64frombits", "math.Float64bits", "math.archFloor", "math.archTrunc"], unfollowed := true, recurses := true, named := ["math/bits.divideError", "math/bits.overflowError"], apart := false, narrowed := true }
def LevelsRightUptoSaid : Prop := levelsRightUptoRow.holds Try.pinned (OpenSpec.upto levelsRightSpec)

/-- 'inclinelaw08.LevelsFew', WHERE WHAT IT READS IS OF BULK AT MOST 1048576: true; the input reads as it did. -/
def levelsFewUptoRow : OpenClaim := { program := "ytmmkmakajolfhaa", sum := "92f89365953df7f3b35ee6e7755e70cec4a5d265fd862feb3f36b23199c3b098", func := "incline/inclinelaw08.LevelsFew", spec := "levelsFew", inPlace := ["math.Float64frombits", "math.Float64bits", "math.archFloor", "math.archTrunc"], unfollowed := true, recurses := true, named := ["math/bits.divideError", "math/bits.overflowError"], apart := false, narrowed := true }
def LevelsFewUptoSaid : Prop := levelsFewUptoRow.holds Try.pinned (OpenSpec.upto levelsFewSpec)

/-- 'inclinelaw08.LevelsNear', WHERE WHAT IT READS IS OF BULK AT MOST 1048576: true; the input reads as it did. -/
def levelsNearUptoRow : OpenClaim := { program := "ytmmkmakajolfhaa", sum := "92f89365953df7f3b35ee6e7755e70cec4a5d265fd862feb3f36b23199c3b098", func := "incline/inclinelaw08.LevelsNear", spec := "levelsNear", inPlace := ["math.Float64frombits", "math.Float64bits", "math.archFloor", "math.archTrunc"], unfollowed := true, recurses := true, named := ["math/bits.divideError", "math/bits.overflowError"], apart := false, narrowed := true }
def LevelsNearUptoSaid : Prop := levelsNearUptoRow.holds Try.pinned (OpenSpec.upto levelsNearSpec)

end Rows
end Go.Proofs.Ytmmkmakajolfhaa
