/- The document's examples come out as it has them. -/
import Derived.Test.YtfoliapennaneaaRCmpF
import Derived.Test.YtfoliapennaneaaRLow
import Derived.Test.YtfoliapennaneaaRClamp
namespace Go.Proofs.Ytfoliapennaneaa
open Go.RowKit Go.Shelf
set_option linter.unusedVariables false

theorem along_some (s y far base p r : Nat) (hf : far < 18446744073709551616) (ey : floatOfInt .f64 (far : Int) = y) (h1 : Ieee.double.mul s y = some p) (h2 : Ieee.double.add p base = some r) (w : World) :
    Calls Try.prog 21 #[.float .f64 s, .int .u64 far, .float .f64 base] w fun e w' => e = .returned (.float .f64 r) ∧ w' = w := by
  have k1 : ∀ w, (binOp .mul 24 (.float .f64 s) (.float .f64 y)).run Try.prog w = .ok (.float .f64 p) w := fun w => run_float_arith w .mul _ _ _ _ _ h1
  have k2 : ∀ w, (binOp .add 24 (.float .f64 p) (.float .f64 base)).run Try.prog w = .ok (.float .f64 r) w := fun w => run_float_arith w .add _ _ _ _ _ h2
  go_enter Try.func21, Try.ntmps21
  go_wp2
  go_ret
  exact ⟨rfl, rfl⟩

theorem near_third : Nr (1 * Un) 3 4599676419421066581 := by
  refine ⟨?_, ?_, ?_, ?_⟩
  · decide +kernel
  · decide +kernel
  · decide +kernel
  · decide +kernel

theorem shown_near (w : World) : Calls Try.prog 10 #[.int .u64 1, .int .u64 3] w fun e w' => e = .returned (.tuple #[.float .f64 4599676419421066581, .int .i64 0]) ∧ ∃ n, w' = w.drewN n := by
  obtain ⟨b, h1, -, -, h2⟩ := near_ex 1 3 (by decide) (by decide) (by decide) (by decide)
  obtain rfl := h1.uniq near_third (by decide)
  exact h2 w
theorem shown_low (w : World) : Calls Try.prog 15 #[.int .u64 12, .int .u64 18] w fun e w' => e = .returned (.tuple #[.agg #[.int .u64 2, .int .u64 3], .int .i64 0]) ∧ Gb w w' := by
  have := lowest_any 12 18 (by decide) (by decide) (by decide) w
  exact this
theorem shown_cmp (w : World) : Calls Try.prog 17 #[.float .f64 4591870180066957722, .int .u64 1, .int .u64 10] w fun e w' => e = .returned (.tuple #[.int .i64 1, .int .i64 0]) ∧ Gb w w' := by
  have := cmp_fin 4591870180066957722 1 10 (by decide) (by decide) (by decide) (by decide) (by decide) w
  rw [show cmpv 4591870180066957722 1 10 = 1 by decide +kernel] at this
  exact this
theorem shown_clamp (w : World) : Calls Try.prog 19 #[.float .f64 4613712638259704627, .int .i64 0, .int .i64 5] w fun e w' => e = .returned (.int .i64 2) ∧ w' = w := by
  have := clamp_any 4613712638259704627 0 5 (by decide) (by decide) (by decide) (by decide) w
  rw [show clampv 4613712638259704627 0 5 = 2 by decide +kernel] at this
  exact this
theorem shown_along (w : World) : Calls Try.prog 21 #[.float .f64 4602678819172646912, .int .u64 3, .float .f64 4611686018427387904] w fun e w' => e = .returned (.float .f64 4615063718147915776) ∧ w' = w :=
  along_some 4602678819172646912 4613937818241073152 3 4611686018427387904 4609434218613702656 4615063718147915776 (by decide) (by decide +kernel) (by decide +kernel) (by decide +kernel) w

theorem shown_eq : (FloatKind.f64.format.order 4615063718147915776 4615063718147915776 == some .eq) = true := by decide +kernel

theorem Gb.drewN {a w : World} (h : Gb a w) (n : Nat) : Gb a (w.drewN n) := by
  induction n with
  | zero => exact h
  | succ k ih => exact ih.drew

set_option maxRecDepth 10000 in
set_option maxHeartbeats 1000000 in
theorem shown_any (w : World) : Calls Try.prog 9 #[] w fun e w' => e = .returned (.bool true) ∧ Gb w w' := by
  have he := shown_eq
  go_enter Try.func9, Try.ntmps9
  go_wp2_with fail
  refine (shown_near _).mono ?_
  rintro e w1 ⟨rfl, n, rfl⟩
  go_wp2_with fail
  refine (shown_low _).mono ?_
  rintro e w2 ⟨rfl, g2⟩
  go_wp2_with fail
  refine (shown_cmp _).mono ?_
  rintro e w3 ⟨rfl, g3⟩
  have H := (H2.new w2 (.int .u64 2) (.int .u64 3) 36).gb g3
  obtain ⟨k0, k1, k2⟩ := H
  go_wp2_with (first | simp only [f64bits] | (go_at_call 19; refine (shown_clamp _).mono ?_; rintro e w' ⟨rfl, rfl⟩) | (go_at_call 21; refine (shown_along _).mono ?_; rintro e w' ⟨rfl, rfl⟩))
  go_ret
  refine ⟨rfl, ?_⟩
  exact (((Gb.refl w).drewN n).trans (g2.alloc _ _)).trans g3
end Go.Proofs.Ytfoliapennaneaa
