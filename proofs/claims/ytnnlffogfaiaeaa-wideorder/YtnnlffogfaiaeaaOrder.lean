/- WideOrder returns true for every three numbers of 128 bits. -/
import Derived.Test.YtnnlffogfaiaeaaShown
import Derived.Deep.DeepCutAuto
namespace Go.Proofs.Ytnnlffogfaiaeaa
open Go.RowKit Go.Shelf
set_option linter.unusedVariables false

theorem sv_add_ge (a b : Int) (h : 0 ≤ hiv b) (k : hiv a < 0 ∨ 0 ≤ hiv (a + b)) : sv a ≤ sv (a + b) := by
  have e1 : hiv b < 0 ↔ sv b < 0 := by unfold sv; have := lov_bd b; omega
  have e2 : hiv a < 0 ↔ sv a < 0 := by unfold sv; have := lov_bd a; omega
  have e3 : hiv (a + b) < 0 ↔ sv (a + b) < 0 := by unfold sv; have := lov_bd (a + b); omega
  have f1 := sv_eq a
  have f2 := sv_eq b
  have f3 := sv_eq (a + b)
  omega

set_option maxRecDepth 10000 in
set_option maxHeartbeats 4000000 in
theorem order_any (a b c : Int) (w : World) :
    Calls Try.prog 8 #[.agg #[.int .i64 (hiv (a)), .int .u64 (lov (a))], .agg #[.int .i64 (hiv (b)), .int .u64 (lov (b))], .agg #[.int .i64 (hiv (c)), .int .u64 (lov (c))]] w fun e w' => e = .returned (.bool true) ∧ Gb w w' := by
  obtain ⟨x, hx⟩ : ∃ x, Hid (cmpi (sv a) (sv b) = x) := ⟨_, rfl⟩
  obtain ⟨y, hy⟩ : ∃ y, Hid (cmpi (sv b) (sv c) = y) := ⟨_, rfl⟩
  go_enter Try.func8, Try.ntmps8
  go_wp2_with fail
  have qa := ((H2.new w (.int .i64 (hiv a)) (.int .u64 (lov a)) 25).alloc (.cells #[.int .i64 (hiv b), .int .u64 (lov b)] 25)).alloc (.cells #[.int .i64 (hiv c), .int .u64 (lov c)] 25)
  have qb := (H2.new (w.alloc (.cells #[.int .i64 (hiv a), .int .u64 (lov a)] 25)) (.int .i64 (hiv b)) (.int .u64 (lov b)) 25).alloc (.cells #[.int .i64 (hiv c), .int .u64 (lov c)] 25)
  have qc := H2.new ((w.alloc (.cells #[.int .i64 (hiv a), .int .u64 (lov a)] 25)).alloc (.cells #[.int .i64 (hiv b), .int .u64 (lov b)] 25)) (.int .i64 (hiv c)) (.int .u64 (lov c)) 25
  refine (shown_any _).mono ?_
  rintro e w1 ⟨rfl, g1⟩
  replace qa := qa.gb g1
  replace qb := (qb.gb g1).at (w.heap.size + 1) (by simp)
  replace qc := (qc.gb g1).at (w.heap.size + 1 + 1) (by simp)
  have G : Gb w w1 := ((((Gb.refl w).alloc _ _).alloc _ _).alloc _ _).trans g1
  clear g1
  obtain ⟨a1, a2, a3⟩ := qa
  obtain ⟨b1, b2, b3⟩ := qb
  obtain ⟨c1, c2, c3⟩ := qc
  go_wp2_with fail
  refine (cmp_z _ _ _ _ a b x rfl rfl rfl rfl hx.out _).mono ?_
  rintro e w2 ⟨rfl, g2⟩
  replace G := G.trans g2.gb
  obtain ⟨a1, a2, a3⟩ := (H2.mk a1 a2 a3).gb g2.gb
  obtain ⟨b1, b2, b3⟩ := (H2.mk b1 b2 b3).gb g2.gb
  obtain ⟨c1, c2, c3⟩ := (H2.mk c1 c2 c3).gb g2.gb
  go_wp2_with fail
  refine (cmp_z _ _ _ _ b c y rfl rfl rfl rfl hy.out _).mono ?_
  rintro e w3 ⟨rfl, g3⟩
  replace G := G.trans g3.gb
  obtain ⟨a1, a2, a3⟩ := (H2.mk a1 a2 a3).gb g3.gb
  obtain ⟨b1, b2, b3⟩ := (H2.mk b1 b2 b3).gb g3.gb
  obtain ⟨c1, c2, c3⟩ := (H2.mk c1 c2 c3).gb g3.gb
  clear g2 g3
  go_upto_region 6 with fail
  have x0 : -1 ≤ x := by rw [← hx.out]; unfold cmpi; split <;> (try split) <;> omega
  have x1 : x ≤ 1 := by rw [← hx.out]; unfold cmpi; split <;> (try split) <;> omega
  have hx' : Hid (cmpi (sv b) (sv a) = -x) := by show _ = _; rw [← hx.out]; unfold cmpi; (repeat' split) <;> omega
  go_cut [41] (fun s w' => s = .bool false ∧ Gb w3 w')
  case first =>
    have i1 := sv_inj a b
    by_cases u1 : hiv a = hiv b
    · have v1 : (hiv a == hiv b) = true := by simpa using u1
      by_cases u2 : lov a = lov b
      · have v2 : (lov a == lov b) = true := by simpa using u2
        have v3 : (x == 0) = true := by rw [← hx.out]; unfold cmpi; rw [if_neg (by omega), if_pos (by omega)]; decide
        clear u1 u2 i1
        go_wp2_with (go_at_call 20; refine (cmp_z _ _ _ _ b a (-x) rfl rfl rfl rfl hx'.out _).mono ?_; rintro e w4 ⟨rfl, g4⟩; obtain ⟨a4, a5, a6⟩ := (H2.mk a1 a2 a3).gb g4.gb; obtain ⟨b4, b5, b6⟩ := (H2.mk b1 b2 b3).gb g4.gb)
        go_meet
        case rel => exact ⟨by simp; omega, g4.gb⟩
      · have v2 : (lov a == lov b) = false := by simpa using u2
        have v3 : (x == 0) = false := by rw [← hx.out]; unfold cmpi; (repeat' split) <;> first | decide | omega
        clear u1 u2 i1
        go_wp2_with (go_at_call 20; refine (cmp_z _ _ _ _ b a (-x) rfl rfl rfl rfl hx'.out _).mono ?_; rintro e w4 ⟨rfl, g4⟩; obtain ⟨a4, a5, a6⟩ := (H2.mk a1 a2 a3).gb g4.gb; obtain ⟨b4, b5, b6⟩ := (H2.mk b1 b2 b3).gb g4.gb)
        go_meet
        case rel => exact ⟨by simp; omega, g4.gb⟩
    · have v1 : (hiv a == hiv b) = false := by simpa using u1
      have v3 : (x == 0) = false := by rw [← hx.out]; unfold cmpi; (repeat' split) <;> first | decide | omega
      clear u1 i1
      go_wp2_with (go_at_call 20; refine (cmp_z _ _ _ _ b a (-x) rfl rfl rfl rfl hx'.out _).mono ?_; rintro e w4 ⟨rfl, g4⟩; obtain ⟨a4, a5, a6⟩ := (H2.mk a1 a2 a3).gb g4.gb; obtain ⟨b4, b5, b6⟩ := (H2.mk b1 b2 b3).gb g4.gb)
      go_meet
      case rel => exact ⟨by simp; omega, g4.gb⟩
  case rest =>
    obtain ⟨rfl, g4⟩ := hcut
    replace G := G.trans g4
    obtain ⟨a1, a2, a3⟩ := (H2.mk a1 a2 a3).gb g4
    obtain ⟨b1, b2, b3⟩ := (H2.mk b1 b2 b3).gb g4
    obtain ⟨c1, c2, c3⟩ := (H2.mk c1 c2 c3).gb g4
    clear g4 hx'
    go_upto_region 8 with fail
    obtain ⟨z, hz⟩ : ∃ z, Hid (cmpi (sv a) (sv c) = z) := ⟨_, rfl⟩
    have zz : (x ≤ 0 → y ≤ 0 → z ≤ 0) ∧ (0 ≤ x → 0 ≤ y → 0 ≤ z) := by
      rw [← hx.out, ← hy.out, ← hz.out]; unfold cmpi
      (repeat' split) <;> omega
    obtain ⟨zle, zge⟩ := zz
    go_cut [67] (fun s w' => s = .bool false ∧ Gb wc w')
    case first =>
      have alt : (x < 0 ∧ y ≤ 0) ∨ (x = 0 ∧ y < 0) ∨ (x = 0 ∧ y = 0) ∨ (x < 0 ∧ 0 < y) ∨ (x = 0 ∧ 0 < y) ∨ (0 < x ∧ y < 0) ∨ (0 < x ∧ 0 ≤ y) := by omega
      rcases alt with alt | alt | alt | alt | alt | alt | alt
      · have r0 : decide (x ≤ 0) = true := by simp; omega
        have r1 : decide (y ≤ 0) = true := by simp; omega
        have r2 : decide (0 < z) = false := by simp; omega
        have r3 : decide (0 ≤ x) = false := by simp; omega
        clear alt zle zge
        go_wp2_with (go_at_call 20; refine (cmp_z _ _ _ _ a c z rfl rfl rfl rfl hz.out _).mono ?_; rintro e w4 ⟨rfl, g4⟩; obtain ⟨a1, a2, a3⟩ := (H2.mk a1 a2 a3).gb g4.gb; obtain ⟨c1, c2, c3⟩ := (H2.mk c1 c2 c3).gb g4.gb)
        go_meet
        case rel => exact ⟨rfl, by repeat (first | exact Gb.refl _ | refine Gb.trans ?_ (Gk.gb (by assumption)))⟩
      · have r0 : decide (x ≤ 0) = true := by simp; omega
        have r1 : decide (y ≤ 0) = true := by simp; omega
        have r2 : decide (0 < z) = false := by simp; omega
        have r3 : decide (0 ≤ x) = true := by simp; omega
        have r4 : decide (0 ≤ y) = false := by simp; omega
        clear alt zle zge
        go_wp2_with (go_at_call 20; refine (cmp_z _ _ _ _ a c z rfl rfl rfl rfl hz.out _).mono ?_; rintro e w4 ⟨rfl, g4⟩; obtain ⟨a1, a2, a3⟩ := (H2.mk a1 a2 a3).gb g4.gb; obtain ⟨c1, c2, c3⟩ := (H2.mk c1 c2 c3).gb g4.gb)
        go_meet
        case rel => exact ⟨rfl, by repeat (first | exact Gb.refl _ | refine Gb.trans ?_ (Gk.gb (by assumption)))⟩
      · have r0 : decide (x ≤ 0) = true := by simp; omega
        have r1 : decide (y ≤ 0) = true := by simp; omega
        have r2 : decide (0 < z) = false := by simp; omega
        have r3 : decide (0 ≤ x) = true := by simp; omega
        have r4 : decide (0 ≤ y) = true := by simp; omega
        have r5 : decide (z < 0) = false := by simp; omega
        clear alt zle zge
        go_wp2_with (go_at_call 20; refine (cmp_z _ _ _ _ a c z rfl rfl rfl rfl hz.out _).mono ?_; rintro e w4 ⟨rfl, g4⟩; obtain ⟨a1, a2, a3⟩ := (H2.mk a1 a2 a3).gb g4.gb; obtain ⟨c1, c2, c3⟩ := (H2.mk c1 c2 c3).gb g4.gb)
        go_meet
        case rel => exact ⟨rfl, by repeat (first | exact Gb.refl _ | refine Gb.trans ?_ (Gk.gb (by assumption)))⟩
      · have r0 : decide (x ≤ 0) = true := by simp; omega
        have r1 : decide (y ≤ 0) = false := by simp; omega
        have r2 : decide (0 ≤ x) = false := by simp; omega
        clear alt zle zge
        go_wp2_with (go_at_call 20; refine (cmp_z _ _ _ _ a c z rfl rfl rfl rfl hz.out _).mono ?_; rintro e w4 ⟨rfl, g4⟩; obtain ⟨a1, a2, a3⟩ := (H2.mk a1 a2 a3).gb g4.gb; obtain ⟨c1, c2, c3⟩ := (H2.mk c1 c2 c3).gb g4.gb)
        go_meet
        case rel => exact ⟨rfl, by repeat (first | exact Gb.refl _ | refine Gb.trans ?_ (Gk.gb (by assumption)))⟩
      · have r0 : decide (x ≤ 0) = true := by simp; omega
        have r1 : decide (y ≤ 0) = false := by simp; omega
        have r2 : decide (0 ≤ x) = true := by simp; omega
        have r3 : decide (0 ≤ y) = true := by simp; omega
        have r4 : decide (z < 0) = false := by simp; omega
        clear alt zle zge
        go_wp2_with (go_at_call 20; refine (cmp_z _ _ _ _ a c z rfl rfl rfl rfl hz.out _).mono ?_; rintro e w4 ⟨rfl, g4⟩; obtain ⟨a1, a2, a3⟩ := (H2.mk a1 a2 a3).gb g4.gb; obtain ⟨c1, c2, c3⟩ := (H2.mk c1 c2 c3).gb g4.gb)
        go_meet
        case rel => exact ⟨rfl, by repeat (first | exact Gb.refl _ | refine Gb.trans ?_ (Gk.gb (by assumption)))⟩
      · have r0 : decide (x ≤ 0) = false := by simp; omega
        have r1 : decide (0 ≤ x) = true := by simp; omega
        have r2 : decide (0 ≤ y) = false := by simp; omega
        clear alt zle zge
        go_wp2_with (go_at_call 20; refine (cmp_z _ _ _ _ a c z rfl rfl rfl rfl hz.out _).mono ?_; rintro e w4 ⟨rfl, g4⟩; obtain ⟨a1, a2, a3⟩ := (H2.mk a1 a2 a3).gb g4.gb; obtain ⟨c1, c2, c3⟩ := (H2.mk c1 c2 c3).gb g4.gb)
        go_meet
        case rel => exact ⟨rfl, by repeat (first | exact Gb.refl _ | refine Gb.trans ?_ (Gk.gb (by assumption)))⟩
      · have r0 : decide (x ≤ 0) = false := by simp; omega
        have r1 : decide (0 ≤ x) = true := by simp; omega
        have r2 : decide (0 ≤ y) = true := by simp; omega
        have r3 : decide (z < 0) = false := by simp; omega
        clear alt zle zge
        go_wp2_with (go_at_call 20; refine (cmp_z _ _ _ _ a c z rfl rfl rfl rfl hz.out _).mono ?_; rintro e w4 ⟨rfl, g4⟩; obtain ⟨a1, a2, a3⟩ := (H2.mk a1 a2 a3).gb g4.gb; obtain ⟨c1, c2, c3⟩ := (H2.mk c1 c2 c3).gb g4.gb)
        go_meet
        case rel => exact ⟨rfl, by repeat (first | exact Gb.refl _ | refine Gb.trans ?_ (Gk.gb (by assumption)))⟩
    case rest =>
      obtain ⟨rfl, g4⟩ := hcut
      replace G := G.trans g4
      obtain ⟨a1, a2, a3⟩ := (H2.mk a1 a2 a3).gb g4
      obtain ⟨b1, b2, b3⟩ := (H2.mk b1 b2 b3).gb g4
      clear g4 zle zge hz hy c1 c2 c3
      go_upto_region 10 with fail
      obtain ⟨A1, A2⟩ := hiv_bd a
      obtain ⟨B1, B2⟩ := hiv_bd b
      go_cut [92] (fun s w' => s = .bool false ∧ Gb wc w')
      case first =>
        have e1 := GW.cell a2 a1
        have e2 := GW.cell b2 b1
        have ne := GW.some wc
        have i2 := sv_lt a b
        rcases Int.lt_trichotomy (hiv a) (hiv b) with u1 | u1 | u1
        · have v1 : Hid (cmpi (sv (hiv a)) (sv (hiv b)) = -1) := by show _ = _; rw [sv_of _ (by omega) (by omega), sv_of _ (by omega) (by omega)]; unfold cmpi; (repeat' split) <;> omega
          have v2 : decide (hiv a < hiv b) = true := by simpa using u1
          have v3 : (x != -1) = false := by rw [← hx.out]; unfold cmpi; rw [if_pos (by omega)]; decide
          clear i2
          clear hx u1
          refine wp_region_grow (by kernel_rfl) (by kernel_rfl) ?_
          repeat (go_big_quiet_step (fail))
          go_big_quiet_want
          go_big_quiet_op
          go_big_quiet_call (exact grow_ofk (of_any _ A1 A2 _))
          repeat (go_big_quiet_step (fail))
          go_big_quiet_want
          go_big_quiet_op
          go_big_quiet_call (exact grow_ofk (of_any _ B1 B2 _))
          repeat (go_big_quiet_step (fail))
          go_big_quiet_want
          go_big_quiet_op
          go_big_quiet_call (exact grow_ofk (cmp_z _ _ _ _ (hiv a) (hiv b) (-1) rfl rfl rfl rfl v1.out _))
          repeat (go_big_quiet_step (fail))
          refine wpQuiet_nil ?_
          rintro _ ⟨g, rfl⟩
          go_wp2_with fail
          go_meet
          case rel => exact ⟨rfl, g.2⟩
        · have v1 : Hid (cmpi (sv (hiv a)) (sv (hiv b)) = 0) := by show _ = _; rw [sv_of _ (by omega) (by omega), sv_of _ (by omega) (by omega)]; unfold cmpi; (repeat' split) <;> omega
          have v2 : decide (hiv a < hiv b) = false := by simp; omega
          clear i2
          clear hx u1
          refine wp_region_grow (by kernel_rfl) (by kernel_rfl) ?_
          repeat (go_big_quiet_step (fail))
          go_big_quiet_want
          go_big_quiet_op
          go_big_quiet_call (exact grow_ofk (of_any _ A1 A2 _))
          repeat (go_big_quiet_step (fail))
          go_big_quiet_want
          go_big_quiet_op
          go_big_quiet_call (exact grow_ofk (of_any _ B1 B2 _))
          repeat (go_big_quiet_step (fail))
          go_big_quiet_want
          go_big_quiet_op
          go_big_quiet_call (exact grow_ofk (cmp_z _ _ _ _ (hiv a) (hiv b) (0) rfl rfl rfl rfl v1.out _))
          repeat (go_big_quiet_step (fail))
          refine wpQuiet_nil ?_
          rintro _ ⟨g, rfl⟩
          go_wp2_with fail
          go_meet
          case rel => exact ⟨rfl, g.2⟩
        · have v1 : Hid (cmpi (sv (hiv a)) (sv (hiv b)) = 1) := by show _ = _; rw [sv_of _ (by omega) (by omega), sv_of _ (by omega) (by omega)]; unfold cmpi; (repeat' split) <;> omega
          have v2 : decide (hiv a < hiv b) = false := by simp; omega
          clear i2
          clear hx u1
          refine wp_region_grow (by kernel_rfl) (by kernel_rfl) ?_
          repeat (go_big_quiet_step (fail))
          go_big_quiet_want
          go_big_quiet_op
          go_big_quiet_call (exact grow_ofk (of_any _ A1 A2 _))
          repeat (go_big_quiet_step (fail))
          go_big_quiet_want
          go_big_quiet_op
          go_big_quiet_call (exact grow_ofk (of_any _ B1 B2 _))
          repeat (go_big_quiet_step (fail))
          go_big_quiet_want
          go_big_quiet_op
          go_big_quiet_call (exact grow_ofk (cmp_z _ _ _ _ (hiv a) (hiv b) (1) rfl rfl rfl rfl v1.out _))
          repeat (go_big_quiet_step (fail))
          refine wpQuiet_nil ?_
          rintro _ ⟨g, rfl⟩
          go_wp2_with fail
          go_meet
          case rel => exact ⟨rfl, g.2⟩
      case rest =>
        obtain ⟨rfl, g4⟩ := hcut
        replace G := G.trans g4
        have qa := (H2.mk a1 a2 a3).gb g4
        obtain ⟨a1, a2, a3⟩ := qa
        obtain ⟨b1, b2, b3⟩ := (H2.mk b1 b2 b3).gb g4
        clear g4 hx
        go_wp2_with fail
        refine (add_z _ _ _ _ a b (a + b) rfl rfl rfl rfl rfl _).mono ?_
        rintro e w5 ⟨rfl, g5⟩
        have qa := ((H2.mk a1 a2 a3).gb g5.gb).alloc (.cells #[.int .i64 (hiv (a + b)), .int .u64 (lov (a + b))] 25)
        have qb := ((H2.mk b1 b2 b3).gb g5.gb).alloc (.cells #[.int .i64 (hiv (a + b)), .int .u64 (lov (a + b))] 25)
        have qs := H2.new w5 (.int .i64 (hiv (a + b))) (.int .u64 (lov (a + b))) 25
        obtain ⟨a4, a5, a6⟩ := qa
        obtain ⟨b4, b5, b6⟩ := qb
        obtain ⟨s1, s2, s3⟩ := qs
        go_upto_region 13 with fail
        obtain ⟨k, hk⟩ : ∃ k, Hid (cmpi (sv (a + b)) (sv a) = k) := ⟨_, rfl⟩
        have kge : 0 ≤ hiv b → (hiv a < 0 ∨ 0 ≤ hiv (a + b)) → 0 ≤ k := by
          intro u v
          have := sv_add_ge a b u v
          rw [← hk.out]; unfold cmpi; (repeat' split) <;> omega
        have u1 : hiv b < 0 ∨ (0 ≤ hiv b ∧ hiv a < 0) ∨ (0 ≤ hiv b ∧ 0 ≤ hiv a ∧ 0 ≤ hiv (a + b)) ∨ (0 ≤ hiv b ∧ 0 ≤ hiv a ∧ hiv (a + b) < 0) := by omega
        rcases u1 with u1 | u1 | u1 | u1
        · have v1 : decide (0 ≤ hiv b) = false := by simp; omega
          clear kge
          clear u1
          go_wp2_with (go_at_call 20; refine (cmp_z _ _ _ _ (a + b) a k rfl rfl rfl rfl hk.out _).mono ?_; rintro e w6 ⟨rfl, g6⟩)
          go_ret
          exact ⟨rfl, by repeat (first | exact G | refine Gb.alloc ?_ _ _ | refine Gb.trans ?_ (Gk.gb (by assumption)))⟩
        · have v1 : decide (0 ≤ hiv b) = true := by simp; omega
          have v2 : decide (hiv a < 0) = true := by simp; omega
          have v3 : decide (k < 0) = false := by simp; exact kge u1.1 (Or.inl u1.2)
          clear kge
          clear u1
          go_wp2_with (go_at_call 20; refine (cmp_z _ _ _ _ (a + b) a k rfl rfl rfl rfl hk.out _).mono ?_; rintro e w6 ⟨rfl, g6⟩)
          go_ret
          exact ⟨rfl, by repeat (first | exact G | refine Gb.alloc ?_ _ _ | refine Gb.trans ?_ (Gk.gb (by assumption)))⟩
        · have v1 : decide (0 ≤ hiv b) = true := by simp; omega
          have v2 : decide (hiv a < 0) = false := by simp; omega
          have v4 : decide (0 ≤ hiv (a + b)) = true := by simp; omega
          have v3 : decide (k < 0) = false := by simp; exact kge u1.1 (Or.inr u1.2.2)
          clear kge
          clear u1
          go_wp2_with (go_at_call 20; refine (cmp_z _ _ _ _ (a + b) a k rfl rfl rfl rfl hk.out _).mono ?_; rintro e w6 ⟨rfl, g6⟩)
          go_ret
          exact ⟨rfl, by repeat (first | exact G | refine Gb.alloc ?_ _ _ | refine Gb.trans ?_ (Gk.gb (by assumption)))⟩
        · have v1 : decide (0 ≤ hiv b) = true := by simp; omega
          have v2 : decide (hiv a < 0) = false := by simp; omega
          have v4 : decide (0 ≤ hiv (a + b)) = false := by simp; omega
          clear kge
          clear u1
          go_wp2_with (go_at_call 20; refine (cmp_z _ _ _ _ (a + b) a k rfl rfl rfl rfl hk.out _).mono ?_; rintro e w6 ⟨rfl, g6⟩)
          go_ret
          exact ⟨rfl, by repeat (first | exact G | refine Gb.alloc ?_ _ _ | refine Gb.trans ?_ (Gk.gb (by assumption)))⟩

end Go.Proofs.Ytnnlffogfaiaeaa
