/- The examples at the head of each statement: 'shown' returns true. -/
import Derived.Test.YtnnlffogfaiaeaaDiv
import Derived.Test.YtnnlffogfaiaeaaGrow
namespace Go.Proofs.Ytnnlffogfaiaeaa
open Go.RowKit Go.Shelf
set_option linter.unusedVariables false

theorem c1 (w : World) :
    Calls Try.prog 10 #[.int .i64 (-7)] w fun e w' => e = .returned (.agg #[.int .i64 (-1), .int .u64 18446744073709551609]) ∧ Gk 1 w w' := by
  have h := of_any (-7) (by decide) (by decide) w
  rw [show hiv (-7) = (-1) by decide +kernel, show lov (-7) = 18446744073709551609 by decide +kernel] at h
  exact h
theorem c6 (w : World) :
    Calls Try.prog 10 #[.int .i64 (-4)] w fun e w' => e = .returned (.agg #[.int .i64 (-1), .int .u64 18446744073709551612]) ∧ Gk 1 w w' := by
  have h := of_any (-4) (by decide) (by decide) w
  rw [show hiv (-4) = (-1) by decide +kernel, show lov (-4) = 18446744073709551612 by decide +kernel] at h
  exact h
theorem c10 (w : World) :
    Calls Try.prog 10 #[.int .i64 (-1)] w fun e w' => e = .returned (.agg #[.int .i64 (-1), .int .u64 18446744073709551615]) ∧ Gk 1 w w' := by
  have h := of_any (-1) (by decide) (by decide) w
  rw [show hiv (-1) = (-1) by decide +kernel, show lov (-1) = 18446744073709551615 by decide +kernel] at h
  exact h
theorem c2 (w : World) :
    Calls Try.prog 22 #[.agg #[.int .i64 (-1), .int .u64 18446744073709551609], .int .u64 2] w fun e w' => e = .returned (.tuple #[.agg #[.int .i64 (-1), .int .u64 18446744073709551612], .int .u64 1, .int .i64 0]) ∧ Gk 9 w w' := by
  have h := div_neg (-7) 2 (by decide +kernel) (by decide) (by decide) w
  rw [show hiv (-7) = (-1) by decide +kernel, show lov (-7) = 18446744073709551609 by decide +kernel, show hiv (sv (-7) / 2) = (-1) by decide +kernel, show lov (sv (-7) / 2) = 18446744073709551612 by decide +kernel, show sv (-7) % 2 = 1 by decide +kernel] at h
  exact h
theorem c4 (w : World) :
    Calls Try.prog 22 #[.agg #[.int .i64 (-9223372036854775808), .int .u64 0], .int .u64 18446744073709551615] w fun e w' => e = .returned (.tuple #[.agg #[.int .i64 (-1), .int .u64 9223372036854775807], .int .u64 9223372036854775807, .int .i64 0]) ∧ Gk 9 w w' := by
  have h := div_neg (-170141183460469231731687303715884105728) 18446744073709551615 (by decide +kernel) (by decide) (by decide) w
  rw [show hiv (-170141183460469231731687303715884105728) = (-9223372036854775808) by decide +kernel, show lov (-170141183460469231731687303715884105728) = 0 by decide +kernel, show hiv (sv (-170141183460469231731687303715884105728) / 18446744073709551615) = (-1) by decide +kernel, show lov (sv (-170141183460469231731687303715884105728) / 18446744073709551615) = 9223372036854775807 by decide +kernel, show sv (-170141183460469231731687303715884105728) % 18446744073709551615 = 9223372036854775807 by decide +kernel] at h
  exact h
theorem c3 (w : World) :
    Calls Try.prog 22 #[.agg #[.int .i64 0, .int .u64 7], .int .u64 0] w fun e w' => e = .returned (.tuple #[.agg #[.int .i64 0, .int .u64 0], .int .u64 0, .int .i64 10]) ∧ Gk 2 w w' := by
  have h := div_zero 7 w
  rw [show hiv (7) = 0 by decide +kernel, show lov (7) = 7 by decide +kernel] at h
  exact h
theorem c5 (w : World) :
    Calls Try.prog 14 #[.agg #[.int .i64 9223372036854775807, .int .u64 18446744073709551615], .agg #[.int .i64 0, .int .u64 1]] w fun e w' => e = .returned (.agg #[.int .i64 (-9223372036854775808), .int .u64 0]) ∧ Gk 3 w w' := by
  have h := add_any (170141183460469231731687303715884105727) (1) w
  rw [show hiv (170141183460469231731687303715884105727) = 9223372036854775807 by decide +kernel, show lov (170141183460469231731687303715884105727) = 18446744073709551615 by decide +kernel, show hiv (1) = 0 by decide +kernel, show lov (1) = 1 by decide +kernel, show hiv (170141183460469231731687303715884105727 + 1) = (-9223372036854775808) by decide +kernel, show lov (170141183460469231731687303715884105727 + 1) = 0 by decide +kernel] at h
  exact h
theorem c9 (w : World) :
    Calls Try.prog 16 #[.agg #[.int .i64 0, .int .u64 0], .agg #[.int .i64 0, .int .u64 1]] w fun e w' => e = .returned (.agg #[.int .i64 (-1), .int .u64 18446744073709551615]) ∧ Gk 3 w w' := by
  have h := sub_any (0) (1) w
  rw [show hiv (0) = 0 by decide +kernel, show lov (0) = 0 by decide +kernel, show hiv (1) = 0 by decide +kernel, show lov (1) = 1 by decide +kernel, show hiv (0 - 1) = (-1) by decide +kernel, show lov (0 - 1) = 18446744073709551615 by decide +kernel] at h
  exact h
theorem c7 (w : World) :
    Calls Try.prog 12 #[.int .i64 (-3), .int .u64 9223372036854775808] w fun e w' => e = .returned (.agg #[.int .i64 (-2), .int .u64 9223372036854775808]) ∧ Gk 1 w w' := by
  have h := times_any (-3) 9223372036854775808 (by decide) (by decide) (by decide) (by decide) w
  rw [show hiv (-3 * 9223372036854775808) = (-2) by decide +kernel, show lov (-3 * 9223372036854775808) = 9223372036854775808 by decide +kernel] at h
  exact h
theorem c8 (w : World) :
    Calls Try.prog 18 #[.agg #[.int .i64 (-9223372036854775808), .int .u64 0]] w fun e w' => e = .returned (.agg #[.int .i64 (-9223372036854775808), .int .u64 0]) ∧ Gk 5 w w' := by
  have h := neg_any (-170141183460469231731687303715884105728) w
  rw [show hiv (-170141183460469231731687303715884105728) = (-9223372036854775808) by decide +kernel, show lov (-170141183460469231731687303715884105728) = 0 by decide +kernel, show hiv (-(-170141183460469231731687303715884105728)) = (-9223372036854775808) by decide +kernel, show lov (-(-170141183460469231731687303715884105728)) = 0 by decide +kernel] at h
  exact h
theorem c11 (w : World) :
    Calls Try.prog 20 #[.agg #[.int .i64 0, .int .u64 9223372036854775808], .agg #[.int .i64 0, .int .u64 1]] w fun e w' => e = .returned (.int .i64 1) ∧ Gk 2 w w' := by
  have h := cmp_any (9223372036854775808) (1) w
  rw [show hiv (9223372036854775808) = 0 by decide +kernel, show lov (9223372036854775808) = 9223372036854775808 by decide +kernel, show hiv (1) = 0 by decide +kernel, show lov (1) = 1 by decide +kernel, show cmpi (sv (9223372036854775808)) (sv (1)) = 1 by decide +kernel] at h
  exact h
theorem c13 (w : World) :
    Calls Try.prog 20 #[.agg #[.int .i64 (-1), .int .u64 18446744073709551615], .agg #[.int .i64 0, .int .u64 0]] w fun e w' => e = .returned (.int .i64 (-1)) ∧ Gk 2 w w' := by
  have h := cmp_any (-1) (0) w
  rw [show hiv (-1) = (-1) by decide +kernel, show lov (-1) = 18446744073709551615 by decide +kernel, show hiv (0) = 0 by decide +kernel, show lov (0) = 0 by decide +kernel, show cmpi (sv (-1)) (sv (0)) = (-1) by decide +kernel] at h
  exact h

set_option maxRecDepth 10000 in
set_option maxHeartbeats 2000000 in
theorem shown_any (w : World) :
    Calls Try.prog 9 #[] w fun e w' => e = .returned (.bool true) ∧ Gb w w' := by
  go_enter Try.func9, Try.ntmps9
  go_wp2_with fail
  refine (c1 _).mono ?_
  rintro e w1 ⟨rfl, g1⟩
  go_wp2_with fail
  refine (c2 _).mono ?_
  rintro e w2 ⟨rfl, g2⟩
  go_wp2_with fail
  refine (c3 _).mono ?_
  rintro e w3 ⟨rfl, g3⟩
  have q := (H2.new w2 _ _ _).gb g3.gb
  go_wp2_with fail
  refine (c4 _).mono ?_
  rintro e w4 ⟨rfl, g4⟩
  replace q := (q.alloc _).gb g4.gb
  have z := (H2.new w3 _ _ _).gb g4.gb
  go_wp2_with fail
  refine (c5 _).mono ?_
  rintro e w5 ⟨rfl, g5⟩
  replace q := (q.alloc _).gb g5.gb
  replace z := (z.alloc _).gb g5.gb
  have p := (H2.new w4 _ _ _).gb g5.gb
  go_wp2_with fail
  replace q := q.alloc (.cells #[.int .i64 (-9223372036854775808), .int .u64 0] 25)
  replace z := z.alloc (.cells #[.int .i64 (-9223372036854775808), .int .u64 0] 25)
  replace p := p.alloc (.cells #[.int .i64 (-9223372036854775808), .int .u64 0] 25)
  have s := H2.new w5 (.int .i64 (-9223372036854775808)) (.int .u64 0) 25
  obtain ⟨q1, q2, q3⟩ := q
  obtain ⟨z1, z2, z3⟩ := z
  obtain ⟨p1, p2, p3⟩ := p
  obtain ⟨s1, s2, s3⟩ := s
  dsimp only [List.append]
  have e1 := GW.cell q2 q1
  have e2 := GW.cell q3 q1
  have e3 := GW.cell z2 z1
  have e4 := GW.cell z3 z1
  have e5 := GW.cell p2 p1
  have e6 := GW.cell p3 p1
  have e7 := GW.cell s2 s1
  have e8 := GW.cell s3 s1
  have ne := GW.some (w5.alloc (.cells #[.int .i64 (-9223372036854775808), .int .u64 0] 25))
  refine wp_region_grow (by kernel_rfl) (by kernel_rfl) ?_
  clear q1 q2 q3 z1 z2 z3 p1 p2 p3 s1 s2 s3
  repeat (go_big_quiet_step (fail))
  go_big_quiet_want
  go_big_quiet_op
  go_big_quiet_call (exact grow_ofk (c6 _))
  repeat (go_big_quiet_step (fail))
  go_big_quiet_want
  go_big_quiet_op
  go_big_quiet_call (exact grow_ofk (c7 _))
  repeat (go_big_quiet_step (fail))
  go_big_quiet_want
  go_big_quiet_op
  go_big_quiet_call (exact grow_ofk (c8 _))
  repeat (go_big_quiet_step (fail))
  go_big_quiet_want
  go_big_quiet_op
  go_big_quiet_call (exact grow_ofk (c9 _))
  repeat (go_big_quiet_step (fail))
  go_big_quiet_want
  go_big_quiet_op
  go_big_quiet_call (exact grow_ofk (c10 _))
  repeat (go_big_quiet_step (fail))
  go_big_quiet_want
  go_big_quiet_op
  go_big_quiet_call (exact grow_ofk (c11 _))
  repeat (go_big_quiet_step (fail))
  go_big_quiet_want
  go_big_quiet_op
  go_big_quiet_call (exact grow_ofk (c10 _))
  repeat (go_big_quiet_step (fail))
  go_big_quiet_want
  go_big_quiet_op
  go_big_quiet_call (exact grow_ofk (c13 _))
  repeat (go_big_quiet_step (fail))
  refine wpQuiet_nil ?_
  rintro _ ⟨g, rfl⟩
  go_wp2
  go_ret
  refine ⟨rfl, ?_⟩
  exact (((((((((g1.gb.trans g2.gb).alloc _ _).trans g3.gb).alloc _ _).trans g4.gb).alloc _ _).trans g5.gb).alloc _ _).trans g.2)

end Go.Proofs.Ytnnlffogfaiaeaa
