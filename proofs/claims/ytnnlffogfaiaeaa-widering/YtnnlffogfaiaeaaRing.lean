/- WideRing returns true for every three numbers of 128 bits. -/
import Derived.Test.YtnnlffogfaiaeaaShown
import Derived.Deep.DeepCutAuto
namespace Go.Proofs.Ytnnlffogfaiaeaa
open Go.RowKit Go.Shelf
set_option linter.unusedVariables false

set_option maxRecDepth 10000 in
set_option maxHeartbeats 4000000 in
theorem ring_any (a b c : Int) (w : World) :
    Calls Try.prog 6 #[.agg #[.int .i64 (hiv (a)), .int .u64 (lov (a))], .agg #[.int .i64 (hiv (b)), .int .u64 (lov (b))], .agg #[.int .i64 (hiv (c)), .int .u64 (lov (c))]] w fun e w' => e = .returned (.bool true) ∧ Gb w w' := by
  have z0 := hiv_zero
  have z1 := lov_zero
  go_enter Try.func6, Try.ntmps6
  go_wp2_with fail
  have qa := ((H2.new w (.int .i64 (hiv a)) (.int .u64 (lov a)) 25).alloc (.cells #[.int .i64 (hiv b), .int .u64 (lov b)] 25)).alloc (.cells #[.int .i64 (hiv c), .int .u64 (lov c)] 25)
  have qb := (H2.new (w.alloc (.cells #[.int .i64 (hiv a), .int .u64 (lov a)] 25)) (.int .i64 (hiv b)) (.int .u64 (lov b)) 25).alloc (.cells #[.int .i64 (hiv c), .int .u64 (lov c)] 25)
  have qc := H2.new ((w.alloc (.cells #[.int .i64 (hiv a), .int .u64 (lov a)] 25)).alloc (.cells #[.int .i64 (hiv b), .int .u64 (lov b)] 25)) (.int .i64 (hiv c)) (.int .u64 (lov c)) 25
  refine (shown_any _).mono ?_
  rintro e w1 ⟨rfl, g1⟩
  replace qa := qa.gb g1
  replace qb := (qb.gb g1).at (w.heap.size + 1) (by simp)
  replace qc := (qc.gb g1).at (w.heap.size + 1 + 1) (by simp)
  have ha := qa
  have hb := qb
  have hc := qc
  obtain ⟨a1, a2, a3⟩ := ha
  obtain ⟨b1, b2, b3⟩ := hb
  obtain ⟨c1, c2, c3⟩ := hc
  go_wp2_with fail
  refine (add_z _ _ _ _ a b (a + b) rfl rfl rfl rfl rfl _).mono ?_
  rintro e w2 ⟨rfl, g2⟩
  clear a1 a2 a3 b1 b2 b3 c1 c2 c3
  have ha := (qa.gb g2.gb).alloc (.cells #[.int .i64 (hiv (a + b)), .int .u64 (lov (a + b))] 25)
  have hb := (qb.gb g2.gb).alloc (.cells #[.int .i64 (hiv (a + b)), .int .u64 (lov (a + b))] 25)
  have hc := (qc.gb g2.gb).alloc (.cells #[.int .i64 (hiv (a + b)), .int .u64 (lov (a + b))] 25)
  have hs := H2.new w2 (.int .i64 (hiv (a + b))) (.int .u64 (lov (a + b))) 25
  clear qa qb qc
  obtain ⟨c1, c2, c3⟩ := hc
  go_wp2_with fail
  refine (add_z _ _ _ _ (a + b) c (a + b + c) rfl rfl rfl rfl rfl _).mono ?_
  rintro e w3 ⟨rfl, g3⟩
  have qc := H2.mk c1 c2 c3
  clear c1 c2 c3
  have qa := (ha.gb g3.gb).alloc (.cells #[.int .i64 (hiv (a + b + c)), .int .u64 (lov (a + b + c))] 25)
  have qb := (hb.gb g3.gb).alloc (.cells #[.int .i64 (hiv (a + b + c)), .int .u64 (lov (a + b + c))] 25)
  have qc := (qc.gb g3.gb).alloc (.cells #[.int .i64 (hiv (a + b + c)), .int .u64 (lov (a + b + c))] 25)
  have qs := (hs.gb g3.gb).alloc (.cells #[.int .i64 (hiv (a + b + c)), .int .u64 (lov (a + b + c))] 25)
  have ql := H2.new w3 (.int .i64 (hiv (a + b + c))) (.int .u64 (lov (a + b + c))) 25
  clear ha hb hs
  go_wp2_with fail
  have G : Gb w (w3.alloc (.cells #[.int .i64 (hiv (a + b + c)), .int .u64 (lov (a + b + c))] 25)) :=
    (((((((((Gb.refl w).alloc _ _).alloc _ _).alloc _ _).trans g1).trans g2.gb).alloc _ _).trans g3.gb).alloc _ _)
  generalize w3.alloc (.cells #[.int .i64 (hiv (a + b + c)), .int .u64 (lov (a + b + c))] 25) = W at *
  have hK : ∀ w', Gb W w' → Gb W w' ∧ w'.cell? ⟨w.heap.size, 0, none⟩ = some (.int .i64 (hiv a)) ∧ w'.cell? ⟨w.heap.size, 1, none⟩ = some (.int .u64 (lov a)) ∧ w'.cell? ⟨w.heap.size + 1, 0, none⟩ = some (.int .i64 (hiv b)) ∧ w'.cell? ⟨w.heap.size + 1, 1, none⟩ = some (.int .u64 (lov b)) ∧ w'.cell? ⟨w.heap.size + 1 + 1, 0, none⟩ = some (.int .i64 (hiv c)) ∧ w'.cell? ⟨w.heap.size + 1 + 1, 1, none⟩ = some (.int .u64 (lov c)) :=
    fun w' g => ⟨g, (qa.gb g).c0, (qa.gb g).c1, (qb.gb g).c0, (qb.gb g).c1, (qc.gb g).c0, (qc.gb g).c1⟩
  have HK : Hid _ := hK
  clear hK g1 g2 g3
  go_cut [10] (fun s w' => ∃ r : Nat, s = .pointer (some ⟨r, 0, none⟩) ∧ H2 w' r (.int .i64 (hiv (a + b + c))) (.int .u64 (lov (a + b + c))) ∧ Gb W w')
  case first =>
    go_region_held3 (fun w' => Gb W w' ∧ w'.cell? ⟨w.heap.size, 0, none⟩ = some (.int .i64 (hiv a)) ∧ w'.cell? ⟨w.heap.size, 1, none⟩ = some (.int .u64 (lov a)) ∧ w'.cell? ⟨w.heap.size + 1, 0, none⟩ = some (.int .i64 (hiv b)) ∧ w'.cell? ⟨w.heap.size + 1, 1, none⟩ = some (.int .u64 (lov b)) ∧ w'.cell? ⟨w.heap.size + 1 + 1, 0, none⟩ = some (.int .i64 (hiv c)) ∧ w'.cell? ⟨w.heap.size + 1 + 1, 1, none⟩ = some (.int .u64 (lov c)))
      ((refine HK.out _ ?_; (repeat (first | exact Gb.refl _ | exact And.left (by assumption) | refine Gb.drew ?_ | refine Gb.alloc ?_ _ _ | refine Gb.setCell ?_ (by first | (simp; done) | omega) _ | refine Gb.trans ?_ (Gk.gb (by assumption)))); done))
      (first
        | (go_at_call_of 14 (Value.int IntKind.i64 (hiv b)); refine (add_z _ _ _ _ b c (b + c) rfl rfl rfl rfl rfl _).mono ?_; rintro e w4 ⟨rfl, g4⟩; obtain ⟨k4, f4, _⟩ := g4.facts; have s4 := g4.gb.size; try simp at s4)
        | (go_at_call_of 14 (Value.int IntKind.i64 (hiv a)); refine (add_z _ _ _ _ a (b + c) (a + b + c) rfl rfl rfl rfl (by omega) _).mono ?_; rintro e w4 ⟨rfl, g4⟩; obtain ⟨k4, f4, _⟩ := g4.facts; have s4 := g4.gb.size; try simp at s4))
    all_goals go_wp2_with fail
    all_goals go_meet
    all_goals
      case rel =>
        refine ⟨_, rfl, ?_, And.left (by assumption)⟩
        first
          | exact (H2.new _ _ _ _).at _ (by simp [*])
          | exact H2.set (u := .int .i64 0) (v := .int .u64 0) (((H2.new _ _ _ _).gb (Gk.gb g4)).at _ (by simp [*]))
          | exact H2.set (u := .int .i64 0) (v := .int .u64 0) ((((H2.new W (.int .i64 0) (.int .u64 0) 25).drew.gb (Gk.gb (k := 3) (by assumption))).gb (Gk.gb g4)).at _ (by simp [*]))
  case rest =>
    obtain ⟨r, rfl, qr, g4⟩ := hcut
    replace qa := qa.gb g4
    replace qb := qb.gb g4
    replace qs := qs.gb g4
    replace ql := ql.gb g4
    have G' := G.trans g4
    have e1 := GW.cell qa.c0 qa.lt
    have e2 := GW.cell qa.c1 qa.lt
    have e3 := GW.cell qb.c0 qb.lt
    have e4 := GW.cell qb.c1 qb.lt
    have e5 := GW.cell qs.c0 qs.lt
    have e6 := GW.cell qs.c1 qs.lt
    have e7 := GW.cell ql.c0 ql.lt
    have e8 := GW.cell ql.c1 ql.lt
    have e9 := GW.cell qr.c0 qr.lt
    have e10 := GW.cell qr.c1 qr.lt
    clear qa qb qc qs ql qr HK
    go_wp2_with fail
    have ne := GW.some wc
    refine wp_region_grow (by kernel_rfl) (by kernel_rfl) ?_
    repeat (go_big_quiet_step (fail))
    go_big_quiet_want
    go_big_quiet_op
    go_big_quiet_call (exact grow_ofk (add_z _ _ _ _ b a (a + b) rfl rfl rfl rfl (by omega) _))
    repeat (go_big_quiet_step (fail))
    go_big_quiet_want
    go_big_quiet_op
    go_big_quiet_call (exact grow_ofk (sub_z _ _ _ _ (a + b) b a rfl rfl rfl rfl (by omega) _))
    repeat (go_big_quiet_step (fail))
    go_big_quiet_want
    go_big_quiet_op
    go_big_quiet_call (exact grow_ofk (neg_z _ _ b (-b) rfl rfl rfl _))
    repeat (go_big_quiet_step (fail))
    go_big_quiet_want
    go_big_quiet_op
    go_big_quiet_call (exact grow_ofk (add_z _ _ _ _ (a + b) (-b) a rfl rfl rfl rfl (by omega) _))
    repeat (go_big_quiet_step (fail))
    go_big_quiet_want
    go_big_quiet_op
    go_big_quiet_call (exact grow_ofk (add_z _ _ 0 0 a 0 a rfl rfl hiv_zero.symm lov_zero.symm (by omega) _))
    repeat (go_big_quiet_step (fail))
    go_big_quiet_want
    go_big_quiet_op
    go_big_quiet_call (exact grow_ofk (sub_z _ _ _ _ a a 0 rfl rfl rfl rfl (by omega) _))
    repeat (go_big_quiet_step (fail))
    go_big_quiet_want
    go_big_quiet_op
    go_big_quiet_call (exact grow_ofk (neg_z _ _ a (-a) rfl rfl rfl _))
    repeat (go_big_quiet_step (fail))
    go_big_quiet_want
    go_big_quiet_op
    go_big_quiet_call (exact grow_ofk (neg_z _ _ (-a) a rfl rfl (by omega) _))
    repeat (go_big_quiet_step (fail))
    go_big_quiet_want
    go_big_quiet_op
    go_big_quiet_call (exact grow_ofk (sub_z _ _ _ _ a b (a - b) rfl rfl rfl rfl rfl _))
    repeat (go_big_quiet_step (fail))
    go_big_quiet_want
    go_big_quiet_op
    go_big_quiet_call (exact grow_ofk (sub_z _ _ _ _ b a (b - a) rfl rfl rfl rfl rfl _))
    repeat (go_big_quiet_step (fail))
    go_big_quiet_want
    go_big_quiet_op
    go_big_quiet_call (exact grow_ofk (neg_z _ _ (b - a) (a - b) rfl rfl (by omega) _))
    repeat (go_big_quiet_step (fail))
    refine wpQuiet_nil ?_
    rintro _ ⟨g, rfl⟩
    go_wp2
    go_ret
    exact ⟨rfl, G'.trans g.2⟩

end Go.Proofs.Ytnnlffogfaiaeaa
