/-
  No cell of these rows narrows 'for every input' (looked for: loops, veiled, ifaces, maps, wideKeys, modest, calm, conditions, laid).
  DERIVED. THE GIVEN ROWS OF THIS SEAT. 5 by the template 'for every input the law returns true; each argument reads behind the call as it read before'; 0 by the template 'total and deterministic' (their statements: YtemijdhemdhclaaGreatTotals.lean).
  GIVEN WITH THE SEED: the statements are not yours to turn. If you find one false, say at which input.
  Laid BY PROGRAM, IN A SANDBOX (cutbox-rows.mjs): the forced cells as the released guide's own fill.sh prints them over the translation f17511a9fc03208d… (all of the seat's roots in one cut). By AI agents, Wed Nov 11 2026. No macro, syntax, notation, axiom, sorry.
-/
import Derived.Test.YtemijdhemdhclaaGreatChecked
import GoSem.Claim
import GoSem.ClaimJoined
import GoSem.ClaimMapViews
import Derived.JoinedTies
import Derived.KernelRfl
namespace Go.Proofs.YtemijdhemdhclaaGreat
/- THE CELL 'sum', in the pinned program and in every row, IS THE sha256 OF THE DUMP (.gsa) THAT YtemijdhemdhclaaGreatProg.lean LOADS. Nothing in Lean hashes anything: it is a label: what it is worth is what the hold of that sum in a sandbox is worth. -/
noncomputable def Tryz.pinned : Pinned := { name := "ytemijdhemdhclaagreat", sum := "f17511a9fc03208d39ea3fe35dfead3c467f315335e163e2bb092bc3ff4b5885", checked := Tryz.checked }
namespace Rows
def none {H : Type} : Left H := { results := [], args := [] }

/-- 'inclinelaw16.TowerChecks': WHATEVER THE INPUT: true; the input reads as it did. -/
def towerChecksSpec : ChangeSpec := { name := "towerChecks", fn := fun _ => fun
  | [d] => { results := [.lit (.bool true)], args := [d] }
  | _ => none }
def towerChecksRow : OpenClaim := { program := "ytemijdhemdhclaagreat", sum := "f17511a9fc03208d39ea3fe35dfead3c467f315335e163e2bb092bc3ff4b5885", func := "incline/inclinelaw16.TowerChecks", spec := "towerChecks", inPlace := ["math.Float64bits", "math.Float64frombits", "math.archFloor", "math.archTrunc"], unfollowed := true, recurses := true, named := ["math/bits.divideError", "math/bits.overflowError"], apart := false }
def TowerChecksSaid : Prop := towerChecksRow.holds Tryz.pinned (OpenSpec.ofChange towerChecksSpec)

/-- ITS FALSE NEIGHBOUR: 'it returns false'. Refute it at one input. -/
def towerChecksWrong : ChangeSpec := { name := "towerChecks", fn := fun _ => fun
  | [d] => { results := [.lit (.bool false)], args := [d] }
  | _ => none }
def TowerChecksWrongFalsely : Prop := towerChecksRow.holds Tryz.pinned (OpenSpec.ofChange towerChecksWrong)

/-- 'inclinelaw16.TowerMap': WHATEVER THE INPUT: true; the input reads as it did. -/
def towerMapSpec : ChangeSpec := { name := "towerMap", fn := fun _ => fun
  | [d1, d2] => { results := [.lit (.bool true)], args := [d1, d2] }
  | _ => none }
def towerMapRow : OpenClaim := { program := "ytemijdhemdhclaagreat", sum := "f17511a9fc03208d39ea3fe35dfead3c467f315335e163e2bb092bc3ff4b5885", func := "incline/inclinelaw16.TowerMap", spec := "towerMap", inPlace := ["math.Float64bits", "math.Float64frombits", "math.archFloor", "math.archTrunc"], unfollowed := true, recurses := true, named := ["math/bits.divideError", "math/bits.overflowError"], apart := false }
def TowerMapSaid : Prop := towerMapRow.holds Tryz.pinned (OpenSpec.ofChange towerMapSpec)

/-- ITS FALSE NEIGHBOUR: 'it returns false'. Refute it at one input. -/
def towerMapWrong : ChangeSpec := { name := "towerMap", fn := fun _ => fun
  | [d1, d2] => { results := [.lit (.bool false)], args := [d1, d2] }
  | _ => none }
def TowerMapWrongFalsely : Prop := towerMapRow.holds Tryz.pinned (OpenSpec.ofChange towerMapWrong)

/-- 'inclinelaw16.TowerWrites': WHATEVER THE INPUT: true; the input reads as it did. -/
def towerWritesSpec : ChangeSpec := { name := "towerWrites", fn := fun _ => fun
  | [d1, d2] => { results := [.lit (.bool true)], args := [d1, d2] }
  | _ => none }
def towerWritesRow : OpenClaim := { program := "ytemijdhemdhclaagreat", sum := "f17511a9fc03208d39ea3fe35dfead3c467f315335e163e2bb092bc3ff4b5885", func := "incline/inclinelaw16.TowerWrites", spec := "towerWrites", inPlace := ["math.Float64bits", "math.Float64frombits", "math.archFloor", "math.archTrunc"], unfollowed := true, recurses := true, named := ["math/bits.divideError", "math/bits.overflowError"], apart := false }
def TowerWritesSaid : Prop := towerWritesRow.holds Tryz.pinned (OpenSpec.ofChange towerWritesSpec)

/-- ITS FALSE NEIGHBOUR: 'it returns false'. Refute it at one input. -/
def towerWritesWrong : ChangeSpec := { name := "towerWrites", fn := fun _ => fun
  | [d1, d2] => { results := [.lit (.bool false)], args := [d1, d2] }
  | _ => none }
def TowerWritesWrongFalsely : Prop := towerWritesRow.holds Tryz.pinned (OpenSpec.ofChange towerWritesWrong)

/-- 'inclinelaw16.TowerAgain': WHATEVER THE INPUT: true; the input reads as it did. -/
def towerAgainSpec : ChangeSpec := { name := "towerAgain", fn := fun _ => fun
  | [d1, d2, d3] => { results := [.lit (.bool true)], args := [d1, d2, d3] }
  | _ => none }
def towerAgainRow : OpenClaim := { program := "ytemijdhemdhclaagreat", sum := "f17511a9fc03208d39ea3fe35dfead3c467f315335e163e2bb092bc3ff4b5885", func := "incline/inclinelaw16.TowerAgain", spec := "towerAgain", inPlace := ["math.Float64bits", "math.Float64frombits", "math.archFloor", "math.archTrunc"], unfollowed := true, recurses := true, named := ["math/bits.divideError", "math/bits.overflowError"], apart := false }
def TowerAgainSaid : Prop := towerAgainRow.holds Tryz.pinned (OpenSpec.ofChange towerAgainSpec)

/-- ITS FALSE NEIGHBOUR: 'it returns false'. Refute it at one input. -/
def towerAgainWrong : ChangeSpec := { name := "towerAgain", fn := fun _ => fun
  | [d1, d2, d3] => { results := [.lit (.bool false)], args := [d1, d2, d3] }
  | _ => none }
def TowerAgainWrongFalsely : Prop := towerAgainRow.holds Tryz.pinned (OpenSpec.ofChange towerAgainWrong)

/-- 'inclinelaw16.TowerOrder': WHATEVER THE INPUT: true; the input reads as it did. -/
def towerOrderSpec : ChangeSpec := { name := "towerOrder", fn := fun _ => fun
  | [d1, d2, d3] => { results := [.lit (.bool true)], args := [d1, d2, d3] }
  | _ => none }
def towerOrderRow : OpenClaim := { program := "ytemijdhemdhclaagreat", sum := "f17511a9fc03208d39ea3fe35dfead3c467f315335e163e2bb092bc3ff4b5885", func := "incline/inclinelaw16.TowerOrder", spec := "towerOrder", inPlace := ["math.Float64bits", "math.Float64frombits", "math.archFloor", "math.archTrunc"], unfollowed := true, recurses := true, named := ["math/bits.divideError", "math/bits.overflowError"], apart := false }
def TowerOrderSaid : Prop := towerOrderRow.holds Tryz.pinned (OpenSpec.ofChange towerOrderSpec)

/-- ITS FALSE NEIGHBOUR: 'it returns false'. Refute it at one input. -/
def towerOrderWrong : ChangeSpec := { name := "towerOrder", fn := fun _ => fun
  | [d1, d2, d3] => { results := [.lit (.bool false)], args := [d1, d2, d3] }
  | _ => none }
def TowerOrderWrongFalsely : Prop := towerOrderRow.holds Tryz.pinned (OpenSpec.ofChange towerOrderWrong)

/- THE SECOND FORM. 'bulk': how many values and letters a reading holds, each counted each time it is reached (what is shared counts as often as it is met; a slice's spare places count too). A statement '..UptoSaid' is the law's where the arguments, and the package variables that the reading takes, are together of bulk at most 1048576: NARROWER than '..Said'. Prove '..Said' where nothing that the law and all that it calls make is longer than what came in: it says more and counts as full. Else prove '..UptoSaid'. A law counts once. -/
mutual
def uptoBulk {H : Type} : DataW H → Nat
  | .lit (.string bytes) => bytes.length + 1
  | .lit _ => 1
  | .nil => 1
  | .ptr d => uptoBulk d + 1
  | .slice elems spare => uptoBulkAll elems + uptoBulkAll spare + 1
  | .agg parts => uptoBulkAll parts + 1
  | .iface _ d => uptoBulk d + 1
  | .map entries => uptoBulkEntries entries + 1
  | .held _ => 1
def uptoBulkAll {H : Type} : List (DataW H) → Nat
  | [] => 0
  | d :: r => uptoBulk d + uptoBulkAll r
def uptoBulkEntries {H : Type} : List (Lit × DataW H) → Nat
  | [] => 0
  | x :: r => uptoBulkEntry x + uptoBulkEntries r
def uptoBulkEntry {H : Type} : Lit × DataW H → Nat
  | (.string bytes, d) => bytes.length + uptoBulk d + 1
  | (_, d) => uptoBulk d + 1
 end
def uptoSmall : (H : Type) → List (DataW H) → Bool := fun _ ds => decide (uptoBulkAll ds ≤ 1048576)
def OpenSpec.upto (s : _root_.Go.ChangeSpec) : _root_.Go.OpenSpec := { _root_.Go.OpenSpec.ofChange s with cond := some uptoSmall }

/-- 'inclinelaw16.TowerChecks', WHERE WHAT IT READS IS OF BULK AT MOST 1048576: true; the input reads as it did. -/
def towerChecksUptoRow : OpenClaim := { program := "ytemijdhemdhclaagreat", sum := "f17511a9fc03208d39ea3fe35dfead3c467f315335e163e2bb092bc3ff4b5885", func := "incline/inclinelaw16.TowerChecks", spec := "towerChecks", inPlace := ["math.Float64bits", "math.Float64frombits", "math.archFloor", "math.archTrunc"], unfollowed := true, recurses := true, named := ["math/bits.divideError", "math/bits.overflowError"], apart := false, narrowed := true }
def TowerChecksUptoSaid : Prop := towerChecksUptoRow.holds Tryz.pinned (OpenSpec.upto towerChecksSpec)

/-- 'inclinelaw16.TowerMap', WHERE WHAT IT READS IS OF BULK AT MOST 1048576: true; the input reads as it did. -/
def towerMapUptoRow : OpenClaim := { program := "ytemijdhemdhclaagreat", sum := "f17511a9fc03208d39ea3fe35dfead3c467f315335e163e2bb092bc3ff4b5885", func := "incline/inclinelaw16.TowerMap", spec := "towerMap", inPlace := ["math.Float64bits", "math.Float64frombits", "math.archFloor", "math.archTrunc"], unfollowed := true, recurses := true, named := ["math/bits.divideError", "math/bits.overflowError"], apart := false, narrowed := true }
def TowerMapUptoSaid : Prop := towerMapUptoRow.holds Tryz.pinned (OpenSpec.upto towerMapSpec)

/-- 'inclinelaw16.TowerWrites', WHERE WHAT IT READS IS OF BULK AT MOST 1048576: true; the input reads as it did. -/
def towerWritesUptoRow : OpenClaim := { program := "ytemijdhemdhclaagreat", sum := "f17511a9fc03208d39ea3fe35dfead3c467f315335e163e2bb092bc3ff4b5885", func := "incline/inclinelaw16.TowerWrites", spec := "towerWrites", inPlace := ["math.Float64bits", "math.Float64frombits", "math.archFloor", "math.archTrunc"], unfollowed := true, recurses := true, named := ["math/bits.divideError", "math/bits.overflowError"], apart := false, narrowed := true }
def TowerWritesUptoSaid : Prop := towerWritesUptoRow.holds Tryz.pinned (OpenSpec.upto towerWritesSpec)

/-- 'inclinelaw16.TowerAgain', WHERE WHAT IT READS IS OF BULK AT MOST 1048576: true; the input reads as it did. -/
def towerAgainUptoRow : OpenClaim := { program := "ytemijdhemdhclaagreat", sum := "f17511a9fc03208d39ea3fe35dfead3c467f315335e163e2bb092bc3ff4b5885", func := "incline/inclinelaw16.TowerAgain", spec := "towerAgain", inPlace := ["math.Float64bits", "math.Float64frombits", "math.archFloor", "math.archTrunc"], unfollowed := true, recurses := true, named := ["math/bits.divideError", "math/bits.overflowError"], apart := false, narrowed := true }
def TowerAgainUptoSaid : Prop := towerAgainUptoRow.holds Tryz.pinned (OpenSpec.upto towerAgainSpec)

/-- 'inclinelaw16.TowerOrder', WHERE WHAT IT READS IS OF BULK AT MOST 1048576: true; the input reads as it did. -/
def towerOrderUptoRow : OpenClaim := { program := "ytemijdhemdhclaagreat", sum := "f17511a9fc03208d39ea3fe35dfead3c467f315335e163e2bb092bc3ff4b5885", func := "incline/inclinelaw16.TowerOrder", spec := "towerOrder", inPlace := ["math.Float64bits", "math.Float64frombits", "math.archFloor", "math.archTrunc"], unfollowed := true, recurses := true, named := ["math/bits.divideError", "math/bits.overflowError"], apart := false, narrowed := true }
def TowerOrderUptoSaid : Prop := towerOrderUptoRow.holds Tryz.pinned (OpenSpec.upto towerOrderSpec)

end Rows
end Go.Proofs.YtemijdhemdhclaaGreat
