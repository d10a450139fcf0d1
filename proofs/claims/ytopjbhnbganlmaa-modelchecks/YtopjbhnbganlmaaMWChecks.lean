/- ModelChecks' walk. -/
import Derived.Test.YtopjbhnbganlmaaPSt
import Derived.Deep.RegionHeld3
import Derived.Deep.DeepCutAuto
namespace Go.Proofs.Ytopjbhnbganlmaa
open Go.RowKit
set_option linter.unusedVariables false
attribute [local go_sem] run_store_float

set_option maxRecDepth 10000 in
set_option maxHeartbeats 4000000 in
theorem mchecks_walk (MM : ModelC) (k sl ic fr te : Int) (k0 : 0 ≤ k) (k1 : k < 18446744073709551616) (s0 : 0 ≤ sl) (s1 : sl < 18446744073709551616) (i0 : 0 ≤ ic) (i1 : ic < 18446744073709551616) (f0 : -9223372036854775808 ≤ fr) (f1 : fr < 9223372036854775808) (t0 : -9223372036854775808 ≤ te) (t1 : te < 9223372036854775808) (w : World) :
    Calls Try.prog 3 #[rawV k sl ic fr te] w fun e w' => e = .returned (.bool true) ∧ Gw w w' := by
  have SH : Hid (∀ W, Calls Try.prog 9 #[] W fun e w' => e = .returned (.bool true) ∧ Gw W w') := fun W => shown7 MM W
  have OK : Aside (SegOk k sl.toNat ic.toNat fr te) := ⟨k0, k1, by omega, by omega, f0, f1, t0, t1⟩
  have SO : Hid _ := fun W => segof_any k sl ic fr te W
  have CH : Hid _ := fun W => MM.check k sl.toNat ic.toNat fr te OK.out W
  have RC : Hid _ := fun W => rcheck_any k sl.toNat ic.toNat fr te W f0 f1 t0 t1
  clear MM
  generalize errM sl.toNat ic.toNat fr te = E at CH RC
  generalize sl.toNat = S at OK SO CH RC
  generalize ic.toNat = I at OK SO CH RC
  have R0 : Aside (Rb (w.alloc (.cells #[.int .u64 k, .int .u64 sl, .int .u64 ic, .int .i64 fr, .int .i64 te] 24)) w.heap.size k sl ic fr te) := heap_alloc_new w _
  have G0 : Aside (Gw w (w.alloc (.cells #[.int .u64 k, .int .u64 sl, .int .u64 ic, .int .i64 fr, .int .i64 te] 24))) := (Gw.refl w).alloc _ _
  go_enter Try.func3, Try.ntmps3
  go_wp2_with fail
  obtain ⟨rb, hrb⟩ : ∃ b, w.heap.size = b := ⟨_, rfl⟩
  rw [hrb] at R0 ⊢
  clear hrb
  refine (SH.out _).mono ?_
  rintro e w1 ⟨rfl, g1⟩
  have R1 : Aside (Rb w1 rb k sl ic fr te) := R0.out.gw g1
  have G1 : Aside (Gw w w1) := G0.out.trans g1
  obtain ⟨z0, z1, z2, z3, z4⟩ := R1.out.cells
  have zl := R1.out.lt
  clear g1 R0 G0
  go_wp2_with fail
  refine (SO.out _).mono ?_
  rintro e w2 ⟨rfl, g2⟩
  have S3 : Aside (Sb (w2.alloc (.cells #[.int .u64 k, .float .f64 S, .float .f64 I, .int .i64 fr, .int .i64 te] 28)) w2.heap.size k S I fr te) := heap_alloc_new w2 _
  have BW : Aside (w.heap.size ≤ w2.heap.size) := (G1.out.trans g2).size
  have G3 : Aside (Gw w (w2.alloc (.cells #[.int .u64 k, .float .f64 S, .float .f64 I, .int .i64 fr, .int .i64 te] 28))) := (G1.out.trans g2).alloc _ _
  clear g2 R1 G1 z0 z1 z2 z3 z4 zl
  go_wp2_with fail
  generalize w2.alloc (.cells #[.int .u64 k, .float .f64 S, .float .f64 I, .int .i64 fr, .int .i64 te] 28) = w3 at S3 G3 ⊢
  obtain ⟨b, hb⟩ : ∃ b, w2.heap.size = b := ⟨_, rfl⟩
  rw [hb] at S3 BW ⊢
  clear hb
  obtain ⟨z0, z1, z2, z3, z4⟩ := S3.out.cells
  have zl := S3.out.lt
  refine (CH.out _).mono ?_
  rintro e w4 ⟨rfl, g4⟩
  have S4 : Aside (Sb w4 b k S I fr te) := S3.out.gw g4
  have G4 : Aside (Gw w w4) := G3.out.trans g4
  clear g4 S3 G3 z0 z1 z2 z3 z4 zl
  obtain ⟨z0, z1, z2, z3, z4⟩ := S4.out.cells
  have zl := S4.out.lt
  go_wp2_with fail
  refine (RC.out _).mono ?_
  rintro e w5 ⟨rfl, g5⟩
  have G5 : Aside (Gw w w5) := G4.out.trans g5
  clear g5 S4 G4 z0 z1 z2 z3 z4 zl
  go_wp2_with fail
  go_ret
  exact ⟨by simp, G5.out⟩

end Go.Proofs.Ytopjbhnbganlmaa
