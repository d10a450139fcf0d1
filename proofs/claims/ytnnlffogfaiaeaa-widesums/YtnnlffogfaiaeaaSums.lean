/- WideSums returns true for every two numbers of 128 bits. -/
import Derived.Test.YtnnlffogfaiaeaaShown
import Derived.Test.YtnnlffogfaiaeaaRefCmp
namespace Go.Proofs.Ytnnlffogfaiaeaa
open Go.RowKit Go.Shelf
set_option linter.unusedVariables false

theorem rsub_z (x y : Int) (w : World) :
    Calls Try.prog 17 #[.agg #[.int .i64 (hiv (x)), .int .u64 (lov (x))], .agg #[.int .i64 (hiv (y)), .int .u64 (lov (y))]] w fun e w' => e = .returned (.agg #[.int .i64 (hiv (x - y)), .int .u64 (lov (x - y))]) ∧ Gb w w' := by
  have h := rsub_any x y w
  rw [← Int.sub_eq_add_neg] at h
  exact h

set_option maxRecDepth 10000 in
set_option maxHeartbeats 4000000 in
theorem sums_any (a b : Int) (w : World) :
    Calls Try.prog 4 #[.agg #[.int .i64 (hiv (a)), .int .u64 (lov (a))], .agg #[.int .i64 (hiv (b)), .int .u64 (lov (b))]] w fun e w' => e = .returned (.bool true) ∧ Gb w w' := by
  have hz : cmpi (sv a) (sv a) = 0 := by unfold cmpi; rw [if_neg (by omega), if_pos rfl]
  go_enter Try.func4, Try.ntmps4
  go_wp2_with fail
  have qa := (H2.new w (.int .i64 (hiv a)) (.int .u64 (lov a)) 25).alloc (.cells #[.int .i64 (hiv b), .int .u64 (lov b)] 25)
  have qb := H2.new (w.alloc (.cells #[.int .i64 (hiv a), .int .u64 (lov a)] 25)) (.int .i64 (hiv b)) (.int .u64 (lov b)) 25
  refine (shown_any _).mono ?_
  rintro e w1 ⟨rfl, g1⟩
  replace qa := qa.gb g1
  replace qb := (qb.gb g1).at (w.heap.size + 1) (by simp)
  have G : Gb w w1 := (((Gb.refl w).alloc _ _).alloc _ _).trans g1
  clear g1
  have e1 := GW.cell qa.c0 qa.lt
  have e2 := GW.cell qa.c1 qa.lt
  have e3 := GW.cell qb.c0 qb.lt
  have e4 := GW.cell qb.c1 qb.lt
  have ne := GW.some w1
  go_wp2_with fail
  refine wp_region_grow (by kernel_rfl) (by kernel_rfl) ?_
  repeat (go_big_quiet_step (fail))
  go_big_quiet_want
  go_big_quiet_op
  go_big_quiet_call (exact grow_ofk (add_any a b _))
  repeat (go_big_quiet_step (fail))
  go_big_quiet_want
  go_big_quiet_op
  go_big_quiet_call (exact grow_of (radd_any a b _))
  repeat (go_big_quiet_step (fail))
  go_big_quiet_want
  go_big_quiet_op
  go_big_quiet_call (exact grow_ofk (sub_any a b _))
  repeat (go_big_quiet_step (fail))
  go_big_quiet_want
  go_big_quiet_op
  go_big_quiet_call (exact grow_of (rsub_z a b _))
  repeat (go_big_quiet_step (fail))
  go_big_quiet_want
  go_big_quiet_op
  go_big_quiet_call (exact grow_ofk (neg_any a _))
  repeat (go_big_quiet_step (fail))
  go_big_quiet_want
  go_big_quiet_op
  go_big_quiet_call (exact grow_of (rneg_any a _))
  repeat (go_big_quiet_step (fail))
  go_big_quiet_want
  go_big_quiet_op
  go_big_quiet_call (exact grow_ofk (cmp_any a b _))
  repeat (go_big_quiet_step (fail))
  go_big_quiet_want
  go_big_quiet_op
  go_big_quiet_call (exact grow_of (rcmp_any a b _))
  repeat (go_big_quiet_step (fail))
  go_big_quiet_want
  go_big_quiet_op
  go_big_quiet_call (exact grow_ofk (cmp_z _ _ _ _ a a 0 rfl rfl rfl rfl hz _))
  repeat (go_big_quiet_step (fail))
  refine wpQuiet_nil ?_
  rintro _ ⟨g, rfl⟩
  go_wp2
  go_ret
  exact ⟨rfl, G.trans g.2⟩

end Go.Proofs.Ytnnlffogfaiaeaa
