/- ModelMoved's walk. -/
import Derived.Test.YtopjbhnbganlmabPSt
import Derived.Deep.RegionHeld3
import Derived.Deep.DeepCutAuto
namespace Go.Proofs.Ytopjbhnbganlmab
open Go.RowKit
set_option linter.unusedVariables false
attribute [local go_sem] run_store_float

set_option maxRecDepth 10000 in
set_option maxHeartbeats 4000000 in
theorem mmoved_walk (MM : ModelC) (k sl ic fr te : Int) (k0 : 0 ≤ k) (k1 : k < 18446744073709551616) (s0 : 0 ≤ sl) (s1 : sl < 18446744073709551616) (i0 : 0 ≤ ic) (i1 : ic < 18446744073709551616) (f0 : -9223372036854775808 ≤ fr) (f1 : fr < 9223372036854775808) (t0 : -9223372036854775808 ≤ te) (t1 : te < 9223372036854775808) (q by_ : Int) (q0 : 0 ≤ q) (q1 : q < 18446744073709551616) (b0 : 0 ≤ by_) (b1 : by_ < 18446744073709551616) (w : World) :
    Calls Try.prog 3 #[rawV k sl ic fr te, .int .u64 q, .int .u64 by_] w fun e w' => e = .returned (.bool true) ∧ Gw w w' := by
  have SH : Hid (∀ W, Calls Try.prog 4 #[] W fun e w' => e = .returned (.bool true) ∧ Gw W w') := fun W => shown7 MM W
  have OK : Aside (SegOk k sl.toNat ic.toNat fr te) := ⟨k0, k1, by omega, by omega, f0, f1, t0, t1⟩
  have SO : Hid _ := fun W => segof_any k sl ic fr te W
  have CH : Hid _ := fun W => MM.check k sl.toNat ic.toNat fr te OK.out W
  have RC : Hid _ := fun W => rcheck_any k sl.toNat ic.toNat fr te W f0 f1 t0 t1
  have GM : Hid _ := fun k' q k0' k1' q0' q1' W => MM.guess k' sl.toNat ic.toNat fr te q ⟨k0', k1', OK.out.s1, OK.out.i1, OK.out.f0, OK.out.f1, OK.out.t0, OK.out.t1⟩ q0' q1' W
  clear MM
  generalize errM sl.toNat ic.toNat fr te = E at CH RC
  generalize sl.toNat = S at OK SO CH RC GM
  generalize ic.toNat = I at OK SO CH RC GM
  have R0 : Aside (Rb (w.alloc (.cells #[.int .u64 k, .int .u64 sl, .int .u64 ic, .int .i64 fr, .int .i64 te] 24)) w.heap.size k sl ic fr te) := heap_alloc_new w _
  have G0 : Aside (Gw w (w.alloc (.cells #[.int .u64 k, .int .u64 sl, .int .u64 ic, .int .i64 fr, .int .i64 te] 24))) := (Gw.refl w).alloc _ _
  go_enter Try.func3, Try.ntmps3
  go_wp2_with fail
  obtain ⟨rb, hrb⟩ : ∃ b, w.heap.size = b := ⟨_, rfl⟩
  rw [hrb] at R0 ⊢
  clear hrb
  refine (SH.out _).mono ?_
  rintro e w1 ⟨rfl, g1⟩
  have R1 : Aside (Rb w1 rb k sl ic fr te) := R0.out.gw g1
  have G1 : Aside (Gw w w1) := G0.out.trans g1
  obtain ⟨z0, z1, z2, z3, z4⟩ := R1.out.cells
  have zl := R1.out.lt
  clear g1 R0 G0
  go_wp2_with fail
  refine (SO.out _).mono ?_
  rintro e w2 ⟨rfl, g2⟩
  have S3 : Aside (Sb (w2.alloc (.cells #[.int .u64 k, .float .f64 S, .float .f64 I, .int .i64 fr, .int .i64 te] 28)) w2.heap.size k S I fr te) := heap_alloc_new w2 _
  have BW : Aside (w.heap.size ≤ w2.heap.size) := (G1.out.trans g2).size
  have G3 : Aside (Gw w (w2.alloc (.cells #[.int .u64 k, .float .f64 S, .float .f64 I, .int .i64 fr, .int .i64 te] 28))) := (G1.out.trans g2).alloc _ _
  clear g2 R1 G1 z0 z1 z2 z3 z4 zl
  go_wp2_with fail
  generalize w2.alloc (.cells #[.int .u64 k, .float .f64 S, .float .f64 I, .int .i64 fr, .int .i64 te] 28) = w3 at S3 G3 ⊢
  obtain ⟨b, hb⟩ : ∃ b, w2.heap.size = b := ⟨_, rfl⟩
  rw [hb] at S3 BW ⊢
  clear hb
  obtain ⟨z0, z1, z2, z3, z4⟩ := S3.out.cells
  have zl := S3.out.lt
  refine (CH.out _).mono ?_
  rintro e w4 ⟨rfl, g4⟩
  have S4 : Aside (Sb w4 b k S I fr te) := S3.out.gw g4
  have G4 : Aside (Gw w w4) := G3.out.trans g4
  clear g4 S3 G3 z0 z1 z2 z3 z4 zl
  obtain ⟨z0, z1, z2, z3, z4⟩ := S4.out.cells
  have zl := S4.out.lt
  go_wp2_with fail
  refine (RC.out _).mono ?_
  rintro e w5 ⟨rfl, g5⟩
  have S5 : Aside (Sb w5 b k S I fr te) := S4.out.gw g5
  have G5 : Aside (Gw w w5) := G4.out.trans g5
  clear g5 S4 G4 z0 z1 z2 z3 z4 zl
  obtain ⟨z0, z1, z2, z3, z4⟩ := S5.out.cells
  have zl := S5.out.lt
  by_cases lt : q < k
  · have t9 : decide (q < k) = true := by simpa using lt
    have mx : max q k = k := by omega
    have mx' : max k q = k := by omega
    have GB : Aside (guessV k S I fr te q = guessV k S I fr te k) := guess_before k S I fr te q (by omega)
    have GA : Hid (∀ W, _) := fun W => GM.out k k k0 k1 k0 k1 W
    have GQ : Hid (∀ W, _) := fun W => GM.out k q k0 k1 q0 q1 W
    rw [GB.out] at GQ
    generalize guessV k S I fr te k = A at GA GQ
    clear GB GM
    go_wp2_with fail
    refine (GA.out _).mono ?_
    rintro e w6 ⟨rfl, g6⟩
    have S6 : Aside (Sb w6 b k S I fr te) := S5.out.gw g6
    have G6 : Aside (Gw w w6) := G5.out.trans g6
    clear g6 S5 G5 z0 z1 z2 z3 z4 zl
    obtain ⟨z0, z1, z2, z3, z4⟩ := S6.out.cells
    have zl := S6.out.lt
    go_wp2_with fail
    refine (GQ.out _).mono ?_
    rintro e w7 ⟨rfl, g7⟩
    have G7 : Aside (Gw w w7) := G6.out.trans g7
    clear g7 S6 G6 z0 z1 z2 z3 z4 zl
    go_wp2_with fail
    go_ret
    exact ⟨by simp, G7.out⟩
  · have t9 : decide (q < k) = false := by simpa using lt
    have mx : max q k = q := by omega
    have mx' : max k q = q := by omega
    have GA : Hid (∀ W, _) := fun W => GM.out k q k0 k1 q0 q1 W
    have GX : Aside (∀ y : Int, guessV (k + y) S I fr te (q + y) = guessV k S I fr te q) := fun y => guess_moved k S I fr te q y
    generalize guessV k S I fr te q = A at GA GX
    go_wp2_with fail
    refine (GA.out _).mono ?_
    rintro e w6 ⟨rfl, g6⟩
    have S6 : Aside (Sb w6 b k S I fr te) := S5.out.gw g6
    have G6 : Aside (Gw w w6) := G5.out.trans g6
    have b6 : w.heap.size ≤ b := BW.out
    clear g6 S5 G5 z0 z1 z2 z3 z4 zl
    obtain ⟨z0, z1, z2, z3, z4⟩ := S6.out.cells
    have zl := S6.out.lt
    have zf := S6.out.fz 0
    have wv : IntKind.u64.wrap (18446744073709551615 - q) = 18446744073709551615 - q := by rw [IntKind.wrap_u64]; omega
    by_cases z : 0 < q
    · have tz : decide (18446744073709551615 - q < 18446744073709551615) = true := by simp; omega
      have wr1 : IntKind.u64.wrap (18446744073709551615 - q + 1) = 18446744073709551616 - q := by rw [IntKind.wrap_u64]; omega
      have r0 : (18446744073709551616 - q == 0) = false := by simp; omega
      have r1 : ¬ 18446744073709551616 - q = 0 := by omega
      obtain ⟨B, hB⟩ : ∃ B, by_ % (18446744073709551616 - q) = B := ⟨_, rfl⟩
      have tB : by_.tmod (18446744073709551616 - q) = B := by rw [Int.tmod_eq_emod_of_nonneg b0]; exact hB
      have B0 : 0 ≤ B := by rw [← hB]; exact Int.emod_nonneg _ r1
      have B1 : B < 18446744073709551616 - q := by rw [← hB]; exact Int.emod_lt_of_pos _ (by omega)
      clear hB
      have wk : IntKind.u64.wrap (k + B) = k + B := by rw [IntKind.wrap_u64]; omega
      have wq : IntKind.u64.wrap (q + B) = q + B := by rw [IntKind.wrap_u64]; omega
      have GQ := GM.out (k + B) (q + B) (by omega) (by omega) (by omega) (by omega)
      rw [GX.out B] at GQ
      have GQ' : Hid (∀ W, Calls Try.prog 8 #[segV (k + B) S I fr te, .int .u64 (q + B)] W fun e w' => e = .returned (.int .i64 A) ∧ Gw W w') := GQ
      clear GQ GX GM
      go_wp2_with fail
      refine (GQ'.out _).mono ?_
      rintro e w7 ⟨rfl, g7⟩
      have G7 : Aside (Gw w w7) := Gw.trans (Gw.setCell G6.out b6 _) g7
      clear g7 S6 G6 z0 z1 z2 z3 z4 zl zf
      go_wp2_with fail
      go_ret
      exact ⟨by simp, G7.out⟩
    · have ev : q = 0 := by omega
      have ek : k = 0 := by omega
      have tz : decide (18446744073709551615 - q < 18446744073709551615) = false := by simp; omega
      obtain ⟨B, hB⟩ : ∃ B, by_ = B := ⟨_, rfl⟩
      rw [hB] at b0 b1 ⊢
      have B0 : 0 ≤ B := b0
      have B1 : B < 18446744073709551616 := b1
      clear hB
      have wk : IntKind.u64.wrap (k + B) = k + B := by rw [IntKind.wrap_u64]; omega
      have wq : IntKind.u64.wrap (q + B) = q + B := by rw [IntKind.wrap_u64]; omega
      have GQ := GM.out (k + B) (q + B) (by omega) (by omega) (by omega) (by omega)
      rw [GX.out B] at GQ
      have GQ' : Hid (∀ W, Calls Try.prog 8 #[segV (k + B) S I fr te, .int .u64 (q + B)] W fun e w' => e = .returned (.int .i64 A) ∧ Gw W w') := GQ
      clear GQ GX GM ev ek
      go_wp2_with fail
      refine (GQ'.out _).mono ?_
      rintro e w7 ⟨rfl, g7⟩
      have G7 : Aside (Gw w w7) := Gw.trans (Gw.setCell G6.out b6 _) g7
      clear g7 S6 G6 z0 z1 z2 z3 z4 zl zf
      go_wp2_with fail
      go_ret
      exact ⟨by simp, G7.out⟩

end Go.Proofs.Ytopjbhnbganlmab
