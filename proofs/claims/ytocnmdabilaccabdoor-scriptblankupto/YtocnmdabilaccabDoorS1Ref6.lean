/- The document's layer 21: operations, answers told. -/
import Derived.Test.YtocnmdabilaccabDoorS1Ref5
import Derived.Test.YtocnmdabilaccabDoorS1Byte
import Derived.Test.YtocnmdabilaccabDoorHGrow
namespace Go.Proofs.YtocnmdabilaccabDoor
open Go.RowKit
set_option linter.unusedVariables false

/-- A list of pairs to be read. -/
structure PS2 (w : World) (ao : Option Addr) (l : List (Int × Int)) : Prop where
  cells : 0 < l.length → ∃ b off, ao = some ⟨b, off, none⟩ ∧ b < w.heap.size ∧ ∀ (i : Nat) (p : Int × Int), l[i]? = some p → w.cell? ⟨b, off + i * 2, none⟩ = some (.int .u64 p.1) ∧ w.cell? ⟨b, off + i * 2 + 1, none⟩ = some (.int .u64 p.2)
  bd : ∀ p ∈ l, (0 ≤ p.1 ∧ p.1 < 18446744073709551616) ∧ (0 ≤ p.2 ∧ p.2 < 18446744073709551616)
theorem PS2.gw {w w' : World} {ao : Option Addr} {l : List (Int × Int)} (h : PS2 w ao l) (g : Gw w w') : PS2 w' ao l :=
  ⟨fun h0 => by
    obtain ⟨b, off, e, hb, hc⟩ := h.cells h0
    exact ⟨b, off, e, Nat.lt_of_lt_of_le hb g.size, fun i p hi => ⟨(g.cell _ _ hb).trans (hc i p hi).1, (g.cell _ _ hb).trans (hc i p hi).2⟩⟩, h.bd⟩
/-- The pairs up to i. -/
def pairsTo (l : List (Int × Int)) (i : Nat) : List UInt8 := digits l.length ++ (l.take i).flatMap (fun p => 32 :: digits p.1.toNat ++ 32 :: digits p.2.toNat)
theorem pairsTo_step {l : List (Int × Int)} {i : Nat} {p : Int × Int} (h : l[i]? = some p) : pairsTo l (i + 1) = pairsTo l i ++ [32] ++ digits p.1.toNat ++ [32] ++ digits p.2.toNat := by
  unfold pairsTo
  rw [List.take_add_one, h]
  simp
theorem pairsTo_all (l : List (Int × Int)) : pairsTo l l.length = pairsOf l := by
  unfold pairsTo pairsOf
  rw [List.take_length]
theorem blank_row (w : World) : ∀ j u, (bcs [32])[j]? = some u → (w.alloc (.cells #[.int .u8 32] 5)).cell? ((⟨w.heap.size, 0, none⟩ : Addr).add j) = some u := by
  intro j u hu
  cases j with
  | zero =>
    simp [bcs] at hu
    subst hu
    simp [Addr.add, go_sem]
  | succ j => simp [bcs] at hu
/-- An answer as it lies. -/
def anw (code : Int) (is : Bool) (key value num : Int) (ao : Option Addr) (n cp : Nat) : Value := .agg #[.int .i64 code, .bool is, .int .u64 key, .int .u64 value, .int .i64 num, .slice ao n cp]
def opw (kind key value : Int) : Value := .agg #[.int .i64 kind, .int .u64 key, .int .u64 value]
end Go.Proofs.YtocnmdabilaccabDoor
