/- WideMore returns true for every number of 128 bits, every factor and every divisor. -/
import Derived.Test.YtnnlffogfaiaeabShown
import Derived.Deep.DeepCutAuto
namespace Go.Proofs.Ytnnlffogfaiaeab
open Go.RowKit Go.Shelf
set_option linter.unusedVariables false

theorem hiv_word (m : Int) (m0 : 0 ≤ m) (m1 : m < 18446744073709551616) : hiv m = 0 := by unfold hiv; omega
theorem lov_word (m : Int) (m0 : 0 ≤ m) (m1 : m < 18446744073709551616) : lov m = m := by unfold lov; omega
theorem hiv_one : hiv 1 = 0 := by decide +kernel
theorem lov_one : lov 1 = 1 := by decide +kernel
/-- What was multiplied is divided again. -/
theorem div_back (n d : Int) (h0 : -9223372036854775808 ≤ n) (h1 : n < 9223372036854775808) (d0 : 0 < d) (d1 : d < 18446744073709551616) : sv (n * d) / d = n ∧ sv (n * d) % d = 0 := by
  have e : sv (n * d) = n * d := by
    have a1 : -9223372036854775808 * d ≤ n * d := Int.mul_le_mul_of_nonneg_right h0 (by omega)
    have a2 : n * d ≤ 9223372036854775807 * d := Int.mul_le_mul_of_nonneg_right (by omega) (by omega)
    refine sv_of _ ?_ ?_ <;> omega
  rw [e]
  exact ⟨Int.mul_ediv_cancel _ (by omega), Int.mul_emod_left _ _⟩
/-- A divisor more. -/
theorem div_more (a d : Int) (d0 : 0 < d) (d1 : d < 18446744073709551616) (h : sv a < sv (a + d)) : sv (a + d) / d = sv a / d + 1 ∧ sv (a + d) % d = sv a % d := by
  have e : sv (a + d) = sv a + d := by
    have f1 := sv_eq a
    have f2 := sv_eq (a + d)
    omega
  rw [e]
  exact ⟨by rw [Int.add_ediv_of_dvd_right (Int.dvd_refl d), Int.ediv_self (by omega)], Int.add_emod_right _ _⟩

set_option maxHeartbeats 2000000 in
theorem more_zero (a n : Int) (h0 : -9223372036854775808 ≤ n) (h1 : n < 9223372036854775808) (w : World) :
    Calls Try.prog 3 #[.agg #[.int .i64 (hiv (a)), .int .u64 (lov (a))], .int .i64 n, .int .u64 0] w fun e w' => e = .returned (.bool true) ∧ Gb w w' := by
  go_enter Try.func3, Try.ntmps3
  go_wp2_with (go_at_call 4; refine (shown_any _).mono ?_; rintro e w1 ⟨rfl, g1⟩)
  go_ret
  exact ⟨rfl, ((Gb.refl w).alloc _ _).trans g1⟩

set_option maxRecDepth 10000 in
set_option maxHeartbeats 4000000 in
theorem more_not (a n d : Int) (h0 : -9223372036854775808 ≤ n) (h1 : n < 9223372036854775808) (d0 : 0 < d) (d1 : d < 18446744073709551616) (hle : ¬ sv a < sv (a + d)) (w : World) :
    Calls Try.prog 3 #[.agg #[.int .i64 (hiv (a)), .int .u64 (lov (a))], .int .i64 n, .int .u64 d] w fun e w' => e = .returned (.bool true) ∧ Gb w w' := by
  have hd : (d == 0) = false := by simp; omega
  have m0 := Int.emod_nonneg (sv a) (b := d) (by omega)
  have m1 := Int.emod_lt_of_pos (sv a) d0
  obtain ⟨nn1, nn2⟩ := div_back n d h0 h1 d0 d1
  have w0 := hiv_word d (by omega) d1
  have w1' := lov_word d (by omega) d1
  obtain ⟨k, hk⟩ : ∃ k, Hid (cmpi (sv (a + d)) (sv a) = k) := ⟨_, rfl⟩
  go_enter Try.func3, Try.ntmps3
  go_wp2_with fail
  have qa := H2.new w (.int .i64 (hiv a)) (.int .u64 (lov a)) 24
  refine (shown_any _).mono ?_
  rintro e w1 ⟨rfl, g1⟩
  have G : Gb w w1 := ((Gb.refl w).alloc _ _).trans g1
  replace qa := qa.gb g1
  clear g1
  obtain ⟨a1, a2, a3⟩ := qa
  go_wp2_with fail
  refine (div_any a d d0 d1 _).mono ?_
  rintro e w2 ⟨rfl, g2⟩
  replace G := (G.trans g2).alloc #[.int .i64 (hiv (sv a / d)), .int .u64 (lov (sv a / d))] 24
  have qa := ((H2.mk a1 a2 a3).gb g2).alloc (.cells #[.int .i64 (hiv (sv a / d)), .int .u64 (lov (sv a / d))] 24)
  have qq := H2.new w2 (.int .i64 (hiv (sv a / d))) (.int .u64 (lov (sv a / d))) 24
  clear g2
  obtain ⟨a1, a2, a3⟩ := qa
  go_wp2_with fail
  refine (add_z _ _ _ _ a d (a + d) rfl rfl (hiv_word d (by omega) d1).symm (lov_word d (by omega) d1).symm rfl _).mono ?_
  rintro e w3 ⟨rfl, g3⟩
  replace G := (G.trans g3.gb).alloc #[.int .i64 (hiv (a + d)), .int .u64 (lov (a + d))] 24
  have qa := ((H2.mk a1 a2 a3).gb g3.gb).alloc (.cells #[.int .i64 (hiv (a + d)), .int .u64 (lov (a + d))] 24)
  replace qq := (qq.gb g3.gb).alloc (.cells #[.int .i64 (hiv (a + d)), .int .u64 (lov (a + d))] 24)
  have qs := H2.new w3 (.int .i64 (hiv (a + d))) (.int .u64 (lov (a + d))) 24
  clear g3
  obtain ⟨a1, a2, a3⟩ := qa
  obtain ⟨s1, s2, s3⟩ := qs
  go_wp2_with fail
  refine (cmp_z _ _ _ _ (a + d) a k rfl rfl rfl rfl hk.out _).mono ?_
  rintro e w4 ⟨rfl, g4⟩
  replace G := G.trans g4.gb
  replace qq := qq.gb g4.gb
  have qs := (H2.mk s1 s2 s3).gb g4.gb
  clear g4
  obtain ⟨s1, s2, s3⟩ := qs
  have kb : decide (0 < k) = false := by (rw [← hk.out]; simp; unfold cmpi; (repeat' split) <;> omega)
  clear hle
  go_wp2_with fail
  refine (times_any n d h0 h1 (by omega) d1 _).mono ?_
  rintro e w6 ⟨rfl, g6⟩
  go_wp2_with fail
  refine (div_any (n * d) d d0 d1 _).mono ?_
  rintro e w7 ⟨rfl, g7⟩
  go_wp2_with fail
  have qp := H2.new w7 (.int .i64 (hiv n)) (.int .u64 (lov n)) 24
  have G9 := ((G.trans g6.gb).trans g7).alloc #[.int .i64 (hiv n), .int .u64 (lov n)] 24
  have e1 := GW.cell qp.c0 qp.lt
  have e2 := GW.cell qp.c1 qp.lt
  have ne := GW.some (w7.alloc (.cells #[.int .i64 (hiv n), .int .u64 (lov n)] 24))
  refine wp_region_grow (by kernel_rfl) (by kernel_rfl) ?_
  repeat (go_big_quiet_step (fail))
  go_big_quiet_want
  go_big_quiet_op
  go_big_quiet_call (exact grow_ofk (of_any n h0 h1 _))
  repeat (go_big_quiet_step (fail))
  refine wpQuiet_nil ?_
  rintro _ ⟨g, rfl⟩
  go_wp2
  go_ret
  exact ⟨rfl, G9.trans g.2⟩

set_option maxRecDepth 10000 in
set_option maxHeartbeats 4000000 in
theorem more_more (a n d : Int) (h0 : -9223372036854775808 ≤ n) (h1 : n < 9223372036854775808) (d0 : 0 < d) (d1 : d < 18446744073709551616) (hlt : sv a < sv (a + d)) (w : World) :
    Calls Try.prog 3 #[.agg #[.int .i64 (hiv (a)), .int .u64 (lov (a))], .int .i64 n, .int .u64 d] w fun e w' => e = .returned (.bool true) ∧ Gb w w' := by
  have hd : (d == 0) = false := by simp; omega
  have m0 := Int.emod_nonneg (sv a) (b := d) (by omega)
  have m1 := Int.emod_lt_of_pos (sv a) d0
  obtain ⟨nn1, nn2⟩ := div_back n d h0 h1 d0 d1
  have w0 := hiv_word d (by omega) d1
  have w1' := lov_word d (by omega) d1
  obtain ⟨k, hk⟩ : ∃ k, Hid (cmpi (sv (a + d)) (sv a) = k) := ⟨_, rfl⟩
  go_enter Try.func3, Try.ntmps3
  go_wp2_with fail
  have qa := H2.new w (.int .i64 (hiv a)) (.int .u64 (lov a)) 24
  refine (shown_any _).mono ?_
  rintro e w1 ⟨rfl, g1⟩
  have G : Gb w w1 := ((Gb.refl w).alloc _ _).trans g1
  replace qa := qa.gb g1
  clear g1
  obtain ⟨a1, a2, a3⟩ := qa
  go_wp2_with fail
  refine (div_any a d d0 d1 _).mono ?_
  rintro e w2 ⟨rfl, g2⟩
  replace G := (G.trans g2).alloc #[.int .i64 (hiv (sv a / d)), .int .u64 (lov (sv a / d))] 24
  have qa := ((H2.mk a1 a2 a3).gb g2).alloc (.cells #[.int .i64 (hiv (sv a / d)), .int .u64 (lov (sv a / d))] 24)
  have qq := H2.new w2 (.int .i64 (hiv (sv a / d))) (.int .u64 (lov (sv a / d))) 24
  clear g2
  obtain ⟨a1, a2, a3⟩ := qa
  go_wp2_with fail
  refine (add_z _ _ _ _ a d (a + d) rfl rfl (hiv_word d (by omega) d1).symm (lov_word d (by omega) d1).symm rfl _).mono ?_
  rintro e w3 ⟨rfl, g3⟩
  replace G := (G.trans g3.gb).alloc #[.int .i64 (hiv (a + d)), .int .u64 (lov (a + d))] 24
  have qa := ((H2.mk a1 a2 a3).gb g3.gb).alloc (.cells #[.int .i64 (hiv (a + d)), .int .u64 (lov (a + d))] 24)
  replace qq := (qq.gb g3.gb).alloc (.cells #[.int .i64 (hiv (a + d)), .int .u64 (lov (a + d))] 24)
  have qs := H2.new w3 (.int .i64 (hiv (a + d))) (.int .u64 (lov (a + d))) 24
  clear g3
  obtain ⟨a1, a2, a3⟩ := qa
  obtain ⟨s1, s2, s3⟩ := qs
  go_wp2_with fail
  refine (cmp_z _ _ _ _ (a + d) a k rfl rfl rfl rfl hk.out _).mono ?_
  rintro e w4 ⟨rfl, g4⟩
  replace G := G.trans g4.gb
  replace qq := qq.gb g4.gb
  have qs := (H2.mk s1 s2 s3).gb g4.gb
  clear g4
  obtain ⟨s1, s2, s3⟩ := qs
  have kb : decide (0 < k) = true := by (rw [← hk.out]; simp; unfold cmpi; (repeat' split) <;> omega)
  obtain ⟨mm1, mm2⟩ := div_more a d d0 d1 hlt
  clear hlt
  go_wp2_with fail
  refine (div_any (a + d) d d0 d1 _).mono ?_
  rintro e w5 ⟨rfl, g5⟩
  replace qq := (qq.gb g5).alloc (.cells #[.int .i64 (hiv (sv a / d + 1)), .int .u64 (lov (sv a / d + 1))] 24)
  replace G := (G.trans g5).alloc #[.int .i64 (hiv (sv a / d + 1)), .int .u64 (lov (sv a / d + 1))] 24
  clear g5
  have qp := H2.new w5 (.int .i64 (hiv (sv a / d + 1))) (.int .u64 (lov (sv a / d + 1))) 24
  go_wp2_with fail
  go_cut [66] (fun s w' => s = .bool false ∧ Gb (w5.alloc (.cells #[.int .i64 (hiv (sv a / d + 1)), .int .u64 (lov (sv a / d + 1))] 24)) w')
  case first =>
    have e1 := GW.cell qp.c0 qp.lt
    have e2 := GW.cell qp.c1 qp.lt
    have e3 := GW.cell qq.c0 qq.lt
    have e4 := GW.cell qq.c1 qq.lt
    have ne := GW.some (w5.alloc (.cells #[.int .i64 (hiv (sv a / d + 1)), .int .u64 (lov (sv a / d + 1))] 24))
    refine wp_region_grow (by kernel_rfl) (by kernel_rfl) ?_
    repeat (go_big_quiet_step (fail))
    go_big_quiet_want
    go_big_quiet_op
    go_big_quiet_call (exact grow_ofk (add_z _ _ 0 1 (sv a / d) 1 (sv a / d + 1) rfl rfl hiv_one.symm lov_one.symm rfl _))
    repeat (go_big_quiet_step (fail))
    refine wpQuiet_nil ?_
    rintro _ ⟨g, rfl⟩
    go_wp2_with fail
    go_meet
    case rel => exact ⟨rfl, g.2⟩
  case rest =>
    obtain ⟨rfl, g5⟩ := hcut
    replace G := G.trans g5
    clear qq qp g5
    go_wp2_with fail
    refine (times_any n d h0 h1 (by omega) d1 _).mono ?_
    rintro e w6 ⟨rfl, g6⟩
    go_wp2_with fail
    refine (div_any (n * d) d d0 d1 _).mono ?_
    rintro e w7 ⟨rfl, g7⟩
    go_wp2_with fail
    have qp := H2.new w7 (.int .i64 (hiv n)) (.int .u64 (lov n)) 24
    have G9 := ((G.trans g6.gb).trans g7).alloc #[.int .i64 (hiv n), .int .u64 (lov n)] 24
    have e1 := GW.cell qp.c0 qp.lt
    have e2 := GW.cell qp.c1 qp.lt
    have ne := GW.some (w7.alloc (.cells #[.int .i64 (hiv n), .int .u64 (lov n)] 24))
    refine wp_region_grow (by kernel_rfl) (by kernel_rfl) ?_
    repeat (go_big_quiet_step (fail))
    go_big_quiet_want
    go_big_quiet_op
    go_big_quiet_call (exact grow_ofk (of_any n h0 h1 _))
    repeat (go_big_quiet_step (fail))
    refine wpQuiet_nil ?_
    rintro _ ⟨g, rfl⟩
    go_wp2
    go_ret
    exact ⟨rfl, G9.trans g.2⟩

theorem more_any (a : Int) (n : Int) (h0 : -9223372036854775808 ≤ n) (h1 : n < 9223372036854775808) (d : Int) (d0 : 0 ≤ d) (d1 : d < 18446744073709551616) (w : World) :
    Calls Try.prog 3 #[.agg #[.int .i64 (hiv (a)), .int .u64 (lov (a))], .int .i64 n, .int .u64 d] w fun e w' => e = .returned (.bool true) ∧ Gb w w' := by
  by_cases hd : d = 0
  · subst hd; exact more_zero a n h0 h1 w
  · by_cases h : sv a < sv (a + d)
    · exact more_more a n d h0 h1 (by omega) d1 h w
    · exact more_not a n d h0 h1 (by omega) d1 h w

end Go.Proofs.Ytnnlffogfaiaeab
