/- WideParts returns true for every number of 128 bits and every divisor. -/
import Derived.Test.YtnnlffogfaiaeaaShown
import Derived.Test.YtnnlffogfaiaeaaRefQuo
namespace Go.Proofs.Ytnnlffogfaiaeaa
open Go.RowKit Go.Shelf
set_option linter.unusedVariables false

theorem rdiv_zero (x : Int) (w : World) :
    Calls Try.prog 23 #[.agg #[.int .i64 (hiv (x)), .int .u64 (lov (x))], .int .u64 0] w fun e w' => e = .returned (.tuple #[.agg #[.int .i64 0, .int .u64 0], .int .u64 0, .int .i64 10]) ∧ Gb w w' := by
  go_enter Try.func23, Try.ntmps23
  go_wp2
  refine bodyPost_ret (v := .tuple #[.agg #[.int .i64 0, .int .u64 0], .int .u64 0, .int .i64 10]) (by simp [results, Try.results23, go_sem]) rfl ⟨rfl, ?_⟩
  exact ((Gb.refl _).alloc _ _).alloc _ _
theorem rdiv_any (x d : Int) (d0 : 0 < d) (d1 : d < 18446744073709551616) (w : World) :
    Calls Try.prog 23 #[.agg #[.int .i64 (hiv (x)), .int .u64 (lov (x))], .int .u64 d] w fun e w' => e = .returned (.tuple #[.agg #[.int .i64 (hiv (sv x / d)), .int .u64 (lov (sv x / d))], .int .u64 (sv x % d), .int .i64 0]) ∧ Gb w w' := by
  by_cases hx : 0 ≤ sv x
  · exact rdiv_pos x d hx d0 d1 w
  · exact rdiv_neg x d (by omega) d0 d1 w

set_option maxHeartbeats 2000000 in
theorem parts_core (a d H L r c : Int) (w : World)
    (hd : Hid (∀ w : World, Calls Try.prog 22 #[.agg #[.int .i64 (hiv (a)), .int .u64 (lov (a))], .int .u64 d] w fun e w' => e = .returned (.tuple #[.agg #[.int .i64 H, .int .u64 L], .int .u64 r, .int .i64 c]) ∧ Gb w w'))
    (hr : Hid (∀ w : World, Calls Try.prog 23 #[.agg #[.int .i64 (hiv (a)), .int .u64 (lov (a))], .int .u64 d] w fun e w' => e = .returned (.tuple #[.agg #[.int .i64 H, .int .u64 L], .int .u64 r, .int .i64 c]) ∧ Gb w w')) :
    Calls Try.prog 5 #[.agg #[.int .i64 (hiv (a)), .int .u64 (lov (a))], .int .u64 d] w fun e w' => e = .returned (.bool true) ∧ Gb w w' := by
  go_enter Try.func5, Try.ntmps5
  go_wp2_with fail
  have qa := H2.new w (.int .i64 (hiv a)) (.int .u64 (lov a)) 25
  refine (shown_any _).mono ?_
  rintro e w1 ⟨rfl, g1⟩
  have G : Gb w w1 := ((Gb.refl w).alloc _ _).trans g1
  replace qa := qa.gb g1
  clear g1
  obtain ⟨a1, a2, a3⟩ := qa
  go_wp2_with fail
  refine (hd.out _).mono ?_
  rintro e w2 ⟨rfl, g2⟩
  replace G := (G.trans g2).alloc #[.int .i64 H, .int .u64 L] 25
  have qa := ((H2.mk a1 a2 a3).gb g2).alloc (.cells #[.int .i64 H, .int .u64 L] 25)
  have qq := H2.new w2 (.int .i64 H) (.int .u64 L) 25
  clear g2
  obtain ⟨a1, a2, a3⟩ := qa
  go_wp2_with fail
  refine (hr.out _).mono ?_
  rintro e w3 ⟨rfl, g3⟩
  replace G := (G.trans g3).alloc #[.int .i64 H, .int .u64 L] 25
  obtain ⟨q1, q2, q3⟩ := (qq.gb g3).alloc (.cells #[.int .i64 H, .int .u64 L] 25)
  go_wp2
  go_ret
  exact ⟨rfl, G⟩

theorem parts_any (a : Int) (d : Int) (d0 : 0 ≤ d) (d1 : d < 18446744073709551616) (w : World) :
    Calls Try.prog 5 #[.agg #[.int .i64 (hiv (a)), .int .u64 (lov (a))], .int .u64 d] w fun e w' => e = .returned (.bool true) ∧ Gb w w' := by
  by_cases h : d = 0
  · subst h
    exact parts_core a 0 0 0 0 10 w (fun w => (div_zero a w).mono fun e w' h => ⟨h.1, h.2.gb⟩) (fun w => rdiv_zero a w)
  · exact parts_core a d _ _ _ _ w (fun w => div_any a d (by omega) d1 w) (fun w => rdiv_any a d (by omega) d1 w)

end Go.Proofs.Ytnnlffogfaiaeaa
