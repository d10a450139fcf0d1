/-
  No cell of these rows narrows 'for every input' (looked for: loops, veiled, ifaces, maps, wideKeys, modest, calm, conditions, laid).
  DERIVED. THE GIVEN ROWS OF THIS SEAT. 6 by the template 'for every input the law returns true; each argument reads behind the call as it read before'; 0 by the template 'total and deterministic' (their statements: YtocahgiabeifeaaTotals.lean).
  GIVEN WITH THE SEED: the statements are not yours to turn. If you find one false, say at which input.
  Laid BY PROGRAM, IN A SANDBOX (cutbox-rows.mjs): the forced cells as the released guide's own fill.sh prints them over the translation da54b31dbf927317… (all of the seat's roots in one cut). By AI agents, Wed Nov 11 2026. No macro, syntax, notation, axiom, sorry.
-/
import Derived.Test.YtocahgiabeifeaaChecked
import GoSem.Claim
import GoSem.ClaimJoined
import GoSem.ClaimMapViews
import Derived.JoinedTies
import Derived.KernelRfl
namespace Go.Proofs.Ytocahgiabeifeaa
/- THE CELL 'sum', in the pinned program and in every row, IS THE sha256 OF THE DUMP (.gsa) THAT YtocahgiabeifeaaProg.lean LOADS. Nothing in Lean hashes anything: it is a label: what it is worth is what the hold of that sum in a sandbox is worth. -/
noncomputable def Try.pinned : Pinned := { name := "ytocahgiabeifeaa", sum := "da54b31dbf927317ce8c87345f997cb2054e9342c4ec9d6d28c94246a961f13c", checked := Try.checked }
namespace Rows
def none {H : Type} : Left H := { results := [], args := [] }

/-- 'inclinelaw04.HullPlays': WHATEVER THE INPUT: true; the input reads as it did. -/
def hullPlaysSpec : ChangeSpec := { name := "hullPlays", fn := fun _ => fun
  | [d1, d2] => { results := [.lit (.bool true)], args := [d1, d2] }
  | _ => none }
def hullPlaysRow : OpenClaim := { program := "ytocahgiabeifeaa", sum := "da54b31dbf927317ce8c87345f997cb2054e9342c4ec9d6d28c94246a961f13c", func := "incline/inclinelaw04.HullPlays", spec := "hullPlays", unfollowed := true, recurses := true, apart := false }
def HullPlaysSaid : Prop := hullPlaysRow.holds Try.pinned (OpenSpec.ofChange hullPlaysSpec)

/-- ITS FALSE NEIGHBOUR: 'it returns false'. Refute it at one input. -/
def hullPlaysWrong : ChangeSpec := { name := "hullPlays", fn := fun _ => fun
  | [d1, d2] => { results := [.lit (.bool false)], args := [d1, d2] }
  | _ => none }
def HullPlaysWrongFalsely : Prop := hullPlaysRow.holds Try.pinned (OpenSpec.ofChange hullPlaysWrong)

/-- 'inclinelaw04.HullRuns': WHATEVER THE INPUT: true; the input reads as it did. -/
def hullRunsSpec : ChangeSpec := { name := "hullRuns", fn := fun _ => fun
  | [d1, d2] => { results := [.lit (.bool true)], args := [d1, d2] }
  | _ => none }
def hullRunsRow : OpenClaim := { program := "ytocahgiabeifeaa", sum := "da54b31dbf927317ce8c87345f997cb2054e9342c4ec9d6d28c94246a961f13c", func := "incline/inclinelaw04.HullRuns", spec := "hullRuns", unfollowed := true, recurses := true, apart := false }
def HullRunsSaid : Prop := hullRunsRow.holds Try.pinned (OpenSpec.ofChange hullRunsSpec)

/-- ITS FALSE NEIGHBOUR: 'it returns false'. Refute it at one input. -/
def hullRunsWrong : ChangeSpec := { name := "hullRuns", fn := fun _ => fun
  | [d1, d2] => { results := [.lit (.bool false)], args := [d1, d2] }
  | _ => none }
def HullRunsWrongFalsely : Prop := hullRunsRow.holds Try.pinned (OpenSpec.ofChange hullRunsWrong)

/-- 'inclinelaw04.HullFirst': WHATEVER THE INPUT: true; the input reads as it did. -/
def hullFirstSpec : ChangeSpec := { name := "hullFirst", fn := fun _ => fun
  | [d1, d2] => { results := [.lit (.bool true)], args := [d1, d2] }
  | _ => none }
def hullFirstRow : OpenClaim := { program := "ytocahgiabeifeaa", sum := "da54b31dbf927317ce8c87345f997cb2054e9342c4ec9d6d28c94246a961f13c", func := "incline/inclinelaw04.HullFirst", spec := "hullFirst", unfollowed := true, recurses := true, apart := false }
def HullFirstSaid : Prop := hullFirstRow.holds Try.pinned (OpenSpec.ofChange hullFirstSpec)

/-- ITS FALSE NEIGHBOUR: 'it returns false'. Refute it at one input. -/
def hullFirstWrong : ChangeSpec := { name := "hullFirst", fn := fun _ => fun
  | [d1, d2] => { results := [.lit (.bool false)], args := [d1, d2] }
  | _ => none }
def HullFirstWrongFalsely : Prop := hullFirstRow.holds Try.pinned (OpenSpec.ofChange hullFirstWrong)

/-- 'inclinelaw04.HullNarrows': WHATEVER THE INPUT: true; the input reads as it did. -/
def hullNarrowsSpec : ChangeSpec := { name := "hullNarrows", fn := fun _ => fun
  | [d1, d2] => { results := [.lit (.bool true)], args := [d1, d2] }
  | _ => none }
def hullNarrowsRow : OpenClaim := { program := "ytocahgiabeifeaa", sum := "da54b31dbf927317ce8c87345f997cb2054e9342c4ec9d6d28c94246a961f13c", func := "incline/inclinelaw04.HullNarrows", spec := "hullNarrows", unfollowed := true, recurses := true, apart := false }
def HullNarrowsSaid : Prop := hullNarrowsRow.holds Try.pinned (OpenSpec.ofChange hullNarrowsSpec)

/-- ITS FALSE NEIGHBOUR: 'it returns false'. Refute it at one input. -/
def hullNarrowsWrong : ChangeSpec := { name := "hullNarrows", fn := fun _ => fun
  | [d1, d2] => { results := [.lit (.bool false)], args := [d1, d2] }
  | _ => none }
def HullNarrowsWrongFalsely : Prop := hullNarrowsRow.holds Try.pinned (OpenSpec.ofChange hullNarrowsWrong)

/-- 'inclinelaw04.HullFits': WHATEVER THE INPUT: true; the input reads as it did. -/
def hullFitsSpec : ChangeSpec := { name := "hullFits", fn := fun _ => fun
  | [d1, d2] => { results := [.lit (.bool true)], args := [d1, d2] }
  | _ => none }
def hullFitsRow : OpenClaim := { program := "ytocahgiabeifeaa", sum := "da54b31dbf927317ce8c87345f997cb2054e9342c4ec9d6d28c94246a961f13c", func := "incline/inclinelaw04.HullFits", spec := "hullFits", unfollowed := true, recurses := true, apart := false }
def HullFitsSaid : Prop := hullFitsRow.holds Try.pinned (OpenSpec.ofChange hullFitsSpec)

/-- ITS FALSE NEIGHBOUR: 'it returns false'. Refute it at one input. -/
def hullFitsWrong : ChangeSpec := { name := "hullFits", fn := fun _ => fun
  | [d1, d2] => { results := [.lit (.bool false)], args := [d1, d2] }
  | _ => none }
def HullFitsWrongFalsely : Prop := hullFitsRow.holds Try.pinned (OpenSpec.ofChange hullFitsWrong)

/-- 'inclinelaw04.HullMoved': WHATEVER THE INPUT: true; the input reads as it did. -/
def hullMovedSpec : ChangeSpec := { name := "hullMoved", fn := fun _ => fun
  | [d1, d2, d3] => { results := [.lit (.bool true)], args := [d1, d2, d3] }
  | _ => none }
def hullMovedRow : OpenClaim := { program := "ytocahgiabeifeaa", sum := "da54b31dbf927317ce8c87345f997cb2054e9342c4ec9d6d28c94246a961f13c", func := "incline/inclinelaw04.HullMoved", spec := "hullMoved", unfollowed := true, recurses := true, apart := false }
def HullMovedSaid : Prop := hullMovedRow.holds Try.pinned (OpenSpec.ofChange hullMovedSpec)

/-- ITS FALSE NEIGHBOUR: 'it returns false'. Refute it at one input. -/
def hullMovedWrong : ChangeSpec := { name := "hullMoved", fn := fun _ => fun
  | [d1, d2, d3] => { results := [.lit (.bool false)], args := [d1, d2, d3] }
  | _ => none }
def HullMovedWrongFalsely : Prop := hullMovedRow.holds Try.pinned (OpenSpec.ofChange hullMovedWrong)

/- THE SECOND FORM. 'bulk': how many values and letters a reading holds, each counted each time it is reached (what is shared counts as often as it is met; a slice's spare places count too). A statement '..UptoSaid' is the law's where the arguments, and the package variables that the reading takes, are together of bulk at most 1048576: NARROWER than '..Said'. Prove '..Said' where nothing that the law and all that it calls make is longer than what came in: it says more and counts as full. Else prove '..UptoSaid'. A law counts once. -/
mutual
def uptoBulk {H : Type} : DataW H → Nat
  | .lit (.string bytes) => bytes.length + 1
  | .lit _ => 1
  | .nil => 1
  | .ptr d => uptoBulk d + 1
  | .slice elems spare => uptoBulkAll elems + uptoBulkAll spare + 1
  | .agg parts => uptoBulkAll parts + 1
  | .iface _ d => uptoBulk d + 1
  | .map entries => uptoBulkEntries entries + 1
  | .held _ => 1
def uptoBulkAll {H : Type} : List (DataW H) → Nat
  | [] => 0
  | d :: r => uptoBulk d + uptoBulkAll r
def uptoBulkEntries {H : Type} : List (Lit × DataW H) → Nat
  | [] => 0
  | x :: r => uptoBulkEntry x + uptoBulkEntries r
def uptoBulkEntry {H : Type} : Lit × DataW H → Nat
  | (.string bytes, d) => bytes.length + uptoBulk d + 1
  | (_, d) => uptoBulk d + 1
 end
def uptoSmall : (H : Type) → List (DataW H) → Bool := fun _ ds => decide (uptoBulkAll ds ≤ 1048576)
def OpenSpec.upto (s : _root_.Go.ChangeSpec) : _root_.Go.OpenSpec := { _root_.Go.OpenSpec.ofChange s with cond := some uptoSmall }

/-- 'inclinelaw04.HullPlays', WHERE WHAT IT READS IS OF BULK AT MOST 1048576: true; the input reads as it did. -/
def hullPlaysUptoRow : OpenClaim := { program := "ytocahgiabeifeaa", sum := "da54b31dbf927317ce8c87345f997cb2054e9342c4ec9d6d28c94246a961f13c", func := "incline/inclinelaw04.HullPlays", spec := "hullPlays", unfollowed := true, recurses := true, apart := false, narrowed := true }
def HullPlaysUptoSaid : Prop := hullPlaysUptoRow.holds Try.pinned (OpenSpec.upto hullPlaysSpec)

/-- 'inclinelaw04.HullRuns', WHERE WHAT IT READS IS OF BULK AT MOST 1048576: true; the input reads as it did. -/
def hullRunsUptoRow : OpenClaim := { program := "ytocahgiabeifeaa", sum := "da54b31dbf927317ce8c87345f997cb2054e9342c4ec9d6d28c94246a961f13c", func := "incline/inclinelaw04.HullRuns", spec := "hullRuns", unfollowed := true, recurses := true, apart := false, narrowed := true }
def HullRunsUptoSaid : Prop := hullRunsUptoRow.holds Try.pinned (OpenSpec.upto hullRunsSpec)

/-- 'inclinelaw04.HullFirst', WHERE WHAT IT READS IS OF BULK AT MOST 1048576: true; the input reads as it did. -/
def hullFirstUptoRow : OpenClaim := { program := "ytocahgiabeifeaa", sum := "da54b31dbf927317ce8c87345f997cb2054e9342c4ec9d6d28c94246a961f13c", func := "incline/inclinelaw04.HullFirst", spec := "hullFirst", unfollowed := true, recurses := true, apart := false, narrowed := true }
def HullFirstUptoSaid : Prop := hullFirstUptoRow.holds Try.pinned (OpenSpec.upto hullFirstSpec)

/-- 'inclinelaw04.HullNarrows', WHERE WHAT IT READS IS OF BULK AT MOST 1048576: true; the input reads as it did. -/
def hullNarrowsUptoRow : OpenClaim := { program := "ytocahgiabeifeaa", sum := "da54b31dbf927317ce8c87345f997cb2054e9342c4ec9d6d28c94246a961f13c", func := "incline/inclinelaw04.HullNarrows", spec := "hullNarrows", unfollowed := true, recurses := true, apart := false, narrowed := true }
def HullNarrowsUptoSaid : Prop := hullNarrowsUptoRow.holds Try.pinned (OpenSpec.upto hullNarrowsSpec)

/-- 'inclinelaw04.HullFits', WHERE WHAT IT READS IS OF BULK AT MOST 1048576: true; the input reads as it did. -/
def hullFitsUptoRow : OpenClaim := { program := "ytocahgiabeifeaa", sum := "da54b31dbf927317ce8c87345f997cb2054e9342c4ec9d6d28c94246a961f13c", func := "incline/inclinelaw04.HullFits", spec := "hullFits", unfollowed := true, recurses := true, apart := false, narrowed := true }
def HullFitsUptoSaid : Prop := hullFitsUptoRow.holds Try.pinned (OpenSpec.upto hullFitsSpec)

/-- 'inclinelaw04.HullMoved', WHERE WHAT IT READS IS OF BULK AT MOST 1048576: true; the input reads as it did. -/
def hullMovedUptoRow : OpenClaim := { program := "ytocahgiabeifeaa", sum := "da54b31dbf927317ce8c87345f997cb2054e9342c4ec9d6d28c94246a961f13c", func := "incline/inclinelaw04.HullMoved", spec := "hullMoved", unfollowed := true, recurses := true, apart := false, narrowed := true }
def HullMovedUptoSaid : Prop := hullMovedUptoRow.holds Try.pinned (OpenSpec.upto hullMovedSpec)

end Rows
end Go.Proofs.Ytocahgiabeifeaa
