/- wide.Div gives the quotient rounded down and the rest, of every number of 128 bits and every divisor. -/
import Derived.Test.YtnnlffogfaiaeaaDiv64
import Derived.Deep.DrawnRows
import Derived.Deep.QuietTactic
import Derived.BigQuiet
namespace Go.Proofs.Ytnnlffogfaiaeaa
open Go.RowKit Go.Shelf
set_option linter.unusedVariables false

theorem Gb.drewN {a w : World} (h : Gb a w) (n : Nat) : Gb a (w.drewN n) := ⟨⟨h.below.os, h.below.tape, h.below.output, h.below.size, h.below.block⟩, h.frozen⟩

set_option maxHeartbeats 1000000 in
theorem divide_any (x d : Int) (hx : 0 ≤ hiv x) (d0 : 0 < d) (d1 : d < 18446744073709551616) (w : World) :
    Calls Try.prog 33 #[.agg #[.int .i64 (hiv (x)), .int .u64 (lov (x))], .int .u64 d] w fun e w' => e = .returned (.tuple #[.agg #[.int .i64 (hiv (sv x / d)), .int .u64 (lov (sv x / d))], .int .u64 (sv x % d)]) ∧ Gk 2 w w' := by
  obtain ⟨a1, a2⟩ := lov_bd x
  obtain ⟨b1, b2⟩ := hiv_bd x
  have hd : ¬ d = 0 := by omega
  have m0 := Int.emod_nonneg (hiv x) (b := d) (by omega)
  have m1 := Int.emod_lt_of_pos (hiv x) d0
  go_enter Try.func33, Try.ntmps33
  go_wp2
  go_quiet ((go_at_call 35; exact Calls.quiet_of (div64_any _ _ _ m0 m1 a1 a2 d1 _)))
  go_wp2
  obtain ⟨k1, k2, k3⟩ := div_words x d hx d0
  refine bodyPost_ret (v := .tuple #[.agg #[.int .i64 (hiv (sv x / d)), .int .u64 (lov (sv x / d))], .int .u64 (sv x % d)]) (by simp [results, Try.results33, go_sem, k1, k2, k3]) rfl ⟨rfl, ?_, by simp [World.setCell]⟩
  exact (((((Gb.refl _).alloc _ _).alloc _ _).drewN nq).setCell (by simp) _).setCell (by simp) _

theorem div_zero (x : Int) (w : World) :
    Calls Try.prog 22 #[.agg #[.int .i64 (hiv (x)), .int .u64 (lov (x))], .int .u64 0] w fun e w' => e = .returned (.tuple #[.agg #[.int .i64 0, .int .u64 0], .int .u64 0, .int .i64 10]) ∧ Gk 2 w w' := by
  go_enter Try.func22, Try.ntmps22
  go_wp2
  refine bodyPost_ret (v := .tuple #[.agg #[.int .i64 0, .int .u64 0], .int .u64 0, .int .i64 10]) (by simp [results, Try.results22, go_sem]) rfl ⟨rfl, ?_, by simp⟩
  exact (((Gb.refl _).alloc _ _).alloc _ _)

attribute [local go_sem] frozen?_alloc_cells frozen?_new

set_option maxHeartbeats 1000000 in
theorem div_pos (x d : Int) (hx : 0 ≤ hiv x) (d0 : 0 < d) (d1 : d < 18446744073709551616) (w : World) :
    Calls Try.prog 22 #[.agg #[.int .i64 (hiv (x)), .int .u64 (lov (x))], .int .u64 d] w fun e w' => e = .returned (.tuple #[.agg #[.int .i64 (hiv (sv x / d)), .int .u64 (lov (sv x / d))], .int .u64 (sv x % d), .int .i64 0]) ∧ Gk 5 w w' := by
  have hd : (d == 0) = false := by simp; omega
  go_enter Try.func22, Try.ntmps22
  go_wp2_with (go_at_call 33; refine (divide_any x d hx d0 d1 _).mono ?_; rintro e w' ⟨rfl, hg⟩; obtain ⟨hc, hf, hz⟩ := hg.facts)
  refine bodyPost_ret (v := .tuple #[.agg #[.int .i64 (hiv (sv x / d)), .int .u64 (lov (sv x / d))], .int .u64 (sv x % d), .int .i64 0]) (by simp [results, Try.results22, go_sem, hc, hz]) rfl ⟨rfl, ?_, by simp [World.setCell, hz]⟩
  exact ((((((Gb.refl _).alloc _ _).alloc _ _).trans hg.gb).setCell (by simp) _).setCell (by simp) _).alloc _ _

set_option maxHeartbeats 1000000 in
theorem div_neg (x d : Int) (hx : hiv x < 0) (d0 : 0 < d) (d1 : d < 18446744073709551616) (w : World) :
    Calls Try.prog 22 #[.agg #[.int .i64 (hiv (x)), .int .u64 (lov (x))], .int .u64 d] w fun e w' => e = .returned (.tuple #[.agg #[.int .i64 (hiv (sv x / d)), .int .u64 (lov (sv x / d))], .int .u64 (sv x % d), .int .i64 0]) ∧ Gk 9 w w' := by
  have hd : (d == 0) = false := by simp; omega
  have hx' : 0 ≤ hiv (-1 - x) := by rw [hiv_flip]; omega
  have m0 := Int.emod_nonneg (sv (-1 - x)) (b := d) (by omega)
  have m1 := Int.emod_lt_of_pos (sv (-1 - x)) d0
  obtain ⟨k1, k2⟩ := div_flip (sv x) d d0
  rw [← sv_flip] at k1 k2
  rw [← k1, ← k2]
  clear k1 k2
  go_enter Try.func22, Try.ntmps22
  go_wp2_with fail
  refine (flip_any _ _).mono ?_
  rintro e w1 ⟨rfl, g1⟩
  obtain ⟨c1, f1, z1⟩ := g1.facts
  go_wp2_with fail
  refine (divide_any (-1 - x) d hx' d0 d1 _).mono ?_
  rintro e w2 ⟨rfl, g2⟩
  obtain ⟨c2, f2, z2⟩ := g2.facts
  go_wp2_with fail
  refine (flip_any _ _).mono ?_
  rintro e w3 ⟨rfl, g3⟩
  obtain ⟨c3, f3, z3⟩ := g3.facts
  go_wp2
  refine bodyPost_ret (v := .tuple #[.agg #[.int .i64 (hiv (-1 - sv (-1 - x) / d)), .int .u64 (lov (-1 - sv (-1 - x) / d))], .int .u64 (d - 1 - sv (-1 - x) % d), .int .i64 0]) (by simp [results, Try.results22, go_sem, *]) rfl ⟨rfl, ?_, by simp [World.setCell, z3, z2, z1]⟩
  exact (((((((Gb.refl _).alloc _ _).alloc _ _).trans g1.gb).trans g2.gb).alloc _ _).trans g3.gb).setCell (by simp) _ |>.setCell (by simp) _

theorem div_any (x d : Int) (d0 : 0 < d) (d1 : d < 18446744073709551616) (w : World) :
    Calls Try.prog 22 #[.agg #[.int .i64 (hiv (x)), .int .u64 (lov (x))], .int .u64 d] w fun e w' => e = .returned (.tuple #[.agg #[.int .i64 (hiv (sv x / d)), .int .u64 (lov (sv x / d))], .int .u64 (sv x % d), .int .i64 0]) ∧ Gb w w' := by
  by_cases hx : 0 ≤ hiv x
  · exact (div_pos x d hx d0 d1 w).mono fun e w' h => ⟨h.1, h.2.gb⟩
  · exact (div_neg x d (by omega) d0 d1 w).mono fun e w' h => ⟨h.1, h.2.gb⟩

end Go.Proofs.Ytnnlffogfaiaeaa
