/- The document's layer 21: words, numbers. -/
import Derived.Test.YtocnmdabilaccabDoorS1Mem
namespace Go.Proofs.YtocnmdabilaccabDoor
open Go.RowKit
set_option linter.unusedVariables false
theorem under_bytes : Tryd.prog.underlying 23 = some (.slice 5) := by kernel_rfl
theorem under_byte : Tryd.prog.underlying 5 = some (.int .u8) := by kernel_rfl
theorem under_text : Tryd.prog.underlying 9 = some .string := by kernel_rfl
theorem wrap_dig (d : Nat) (h : d < 10) : IntKind.u8.wrap (48 + (d : Int)) = ((dig d).toNat : Int) := by
  rw [dig_nat d h]
  simp only [IntKind.wrap_u8]
  omega
/-- 'string([]byte{b})'. -/
theorem conv_one (b : UInt8) (w : World) : (convert 23 9 (.slice (some ⟨w.heap.size, 0, none⟩) 1 1)).run Tryd.prog (w.alloc (.cells #[.int .u8 (b.toNat : Int)] 5)) = .ok (.string (Bs [b])) (w.alloc (.cells #[.int .u8 (b.toNat : Int)] 5)) := by
  have := run_convert_bytes_back (P := Tryd.prog) (w.alloc (.cells #[.int .u8 (b.toNat : Int)] 5)) 23 9 5 ⟨w.heap.size, 0, none⟩ 1 [b] under_bytes under_byte under_text (fun j hj => by
    have : j = 0 := by simpa using hj
    subst this
    simp [Addr.add, go_sem])
  exact this
theorem index_bs (l : List UInt8) (i : Nat) (b : UInt8) (h : l[i]? = some b) (w : World) : (Instr.index 9 (.string (Bs l)) (.int .i64 (i : Int))).run Tryd.prog w = .ok (.int .u8 (b.toNat : Int)) w := by
  obtain ⟨hi, e⟩ := List.getElem?_eq_some_iff.1 h
  rw [run_index_string w 9 (Bs l) .i64 (i : Int) under_text, dif_pos ⟨by omega, by rw [Bs_size]; omega⟩]
  have e2 : (Bs l)[((i : Int)).toNat]'(by rw [Bs_size]; omega) = b := by
    rw [← e, Bs_get l _ _ (by omega)]
    simp
  rw [e2]
/-- What 'number' tells of a word. -/
def NumT (l : List UInt8) (v : Int) (b : Bool) : Prop := (0 ≤ v ∧ v < 18446744073709551616) ∧ numOf l = if b = true then some v else none
def NumO (l : List UInt8) (e : Ending) : Prop := ∃ v b, e = .returned (.tuple #[.int .u64 v, .bool b]) ∧ NumT l v b
end Go.Proofs.YtocnmdabilaccabDoor
