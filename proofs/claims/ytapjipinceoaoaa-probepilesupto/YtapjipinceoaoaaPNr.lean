import Derived.Test.YtapjipinceoaoaaPBs
import Derived.Deep.DrawnRows
import Derived.Deep.QuietTactic
import Derived.BigQuiet
import Derived.Test.YtapjipinceoaoaaPDg
import Derived.Handy
import Derived.LoopN
/- The walks of the document's own answer for layer 1: digits of 16 bits. -/
namespace Go.Proofs.Ytapjipinceoaoaa
open Go.RowKit
set_option linter.unusedVariables false

theorem setCell_drewN (w : World) (n : Nat) (a : Addr) (v : Value) : (w.drewN n).setCell a v = (w.setCell a v).drewN n := rfl
theorem alloc_drewN (w : World) (n : Nat) (o : Obj) : (w.drewN n).alloc o = (w.alloc o).drewN n := rfl
attribute [local go_sem] frozen?_alloc_cells frozen?_new setCell_drewN alloc_drewN World.drewN_drewN

set_option maxRecDepth 10000 in
set_option maxHeartbeats 2000000 in
theorem rof_core (H h l : Int) (e : IntKind.u64.wrap H = h) (b1 : 0 ≤ h) (b2 : h < 18446744073709551616) (a1 : 0 ≤ l) (a2 : l < 18446744073709551616) (w : World) :
    Calls Try.prog 83 #[.agg #[.int .i64 H, .int .u64 l]] w fun e w' => e = .returned (.agg #[.int .i64 (l % 65536), .int .i64 (l / 65536 % 65536), .int .i64 (l / 65536 / 65536 % 65536), .int .i64 (l / 65536 / 65536 / 65536 % 65536), .int .i64 (h % 65536), .int .i64 (h / 65536 % 65536), .int .i64 (h / 65536 / 65536 % 65536), .int .i64 (h / 65536 / 65536 / 65536 % 65536)]) ∧ Gk 3 w w' := by
  go_enter Try.func83, Try.ntmps83
  go_wp2
  refine wp_loop_rounds 5 ?_
  repeat (rw [rounds_succ]; go_wp2)
  refine bodyPost_ret (v := .agg #[.int .i64 (l % 65536), .int .i64 (l / 65536 % 65536), .int .i64 (l / 65536 / 65536 % 65536), .int .i64 (l / 65536 / 65536 / 65536 % 65536), .int .i64 (h % 65536), .int .i64 (h / 65536 % 65536), .int .i64 (h / 65536 / 65536 % 65536), .int .i64 (h / 65536 / 65536 / 65536 % 65536)]) (by simp [results, Try.results83, go_sem]) rfl ⟨rfl, (((Gb.refl _).alloc _ _).alloc _ _).alloc _ _, by simp⟩

theorem rof_any (x : Int) (w : World) :
    Calls Try.prog 83 #[.agg #[.int .i64 (hiv (x)), .int .u64 (lov (x))]] w fun e w' => e = .returned (.agg #[.int .i64 (dg (x) 0), .int .i64 (dg (x) 1), .int .i64 (dg (x) 2), .int .i64 (dg (x) 3), .int .i64 (dg (x) 4), .int .i64 (dg (x) 5), .int .i64 (dg (x) 6), .int .i64 (dg (x) 7)]) ∧ Gk 3 w w' := by
  obtain ⟨a1, a2⟩ := lov_bd x
  obtain ⟨b1, b2⟩ := u64w_bd (hiv x)
  obtain ⟨d0, d1, d2, d3⟩ := dg_lo x
  obtain ⟨d4, d5, d6, d7⟩ := dg_hi x
  rw [← d0, ← d1, ← d2, ← d3, ← d4, ← d5, ← d6, ← d7]
  exact rof_core (hiv x) _ (lov x) rfl b1 b2 a1 a2 w

set_option maxRecDepth 10000 in
set_option maxHeartbeats 2000000 in
theorem told_any (x : Int) (w : World) :
    Calls Try.prog 86 #[.agg #[.int .i64 (dg (x) 0), .int .i64 (dg (x) 1), .int .i64 (dg (x) 2), .int .i64 (dg (x) 3), .int .i64 (dg (x) 4), .int .i64 (dg (x) 5), .int .i64 (dg (x) 6), .int .i64 (dg (x) 7)]] w fun e w' => e = .returned (.agg #[.int .i64 (hiv (x)), .int .u64 (lov (x))]) ∧ Gk 2 w w' := by
  obtain ⟨p0, q0⟩ := dg_bd x 0
  obtain ⟨p1, q1⟩ := dg_bd x 1
  obtain ⟨p2, q2⟩ := dg_bd x 2
  obtain ⟨p3, q3⟩ := dg_bd x 3
  obtain ⟨p4, q4⟩ := dg_bd x 4
  obtain ⟨p5, q5⟩ := dg_bd x 5
  obtain ⟨p6, q6⟩ := dg_bd x 6
  obtain ⟨p7, q7⟩ := dg_bd x 7
  have el := told_lo x
  have eh := told_hi x
  go_enter Try.func86, Try.ntmps86
  go_wp2
  refine wp_loop_rounds 5 ?_
  repeat (rw [rounds_succ]; go_wp2)
  refine bodyPost_ret (v := .agg #[.int .i64 (hiv (x)), .int .u64 (lov (x))]) (by simp [results, Try.results86, go_sem, eh]) rfl ⟨rfl, ((Gb.refl _).alloc _ _).alloc _ _, by simp⟩

set_option maxRecDepth 10000 in
set_option maxHeartbeats 4000000 in
theorem plus_any (x y : Int) (w : World) :
    Calls Try.prog 87 #[.agg #[.int .i64 (dg (x) 0), .int .i64 (dg (x) 1), .int .i64 (dg (x) 2), .int .i64 (dg (x) 3), .int .i64 (dg (x) 4), .int .i64 (dg (x) 5), .int .i64 (dg (x) 6), .int .i64 (dg (x) 7)], .agg #[.int .i64 (dg (y) 0), .int .i64 (dg (y) 1), .int .i64 (dg (y) 2), .int .i64 (dg (y) 3), .int .i64 (dg (y) 4), .int .i64 (dg (y) 5), .int .i64 (dg (y) 6), .int .i64 (dg (y) 7)]] w fun e w' => e = .returned (.agg #[.int .i64 (dg (x + y) 0), .int .i64 (dg (x + y) 1), .int .i64 (dg (x + y) 2), .int .i64 (dg (x + y) 3), .int .i64 (dg (x + y) 4), .int .i64 (dg (x + y) 5), .int .i64 (dg (x + y) 6), .int .i64 (dg (x + y) 7)]) ∧ Gk 3 w w' := by
  obtain ⟨p0, q0⟩ := dg_bd x 0
  obtain ⟨r0, s0⟩ := dg_bd y 0
  obtain ⟨p1, q1⟩ := dg_bd x 1
  obtain ⟨r1, s1⟩ := dg_bd y 1
  obtain ⟨p2, q2⟩ := dg_bd x 2
  obtain ⟨r2, s2⟩ := dg_bd y 2
  obtain ⟨p3, q3⟩ := dg_bd x 3
  obtain ⟨r3, s3⟩ := dg_bd y 3
  obtain ⟨p4, q4⟩ := dg_bd x 4
  obtain ⟨r4, s4⟩ := dg_bd y 4
  obtain ⟨p5, q5⟩ := dg_bd x 5
  obtain ⟨r5, s5⟩ := dg_bd y 5
  obtain ⟨p6, q6⟩ := dg_bd x 6
  obtain ⟨r6, s6⟩ := dg_bd y 6
  obtain ⟨p7, q7⟩ := dg_bd x 7
  obtain ⟨r7, s7⟩ := dg_bd y 7
  obtain ⟨c1, d1⟩ := cr_bd x y 1
  obtain ⟨c2, d2⟩ := cr_bd x y 2
  obtain ⟨c3, d3⟩ := cr_bd x y 3
  obtain ⟨c4, d4⟩ := cr_bd x y 4
  obtain ⟨c5, d5⟩ := cr_bd x y 5
  obtain ⟨c6, d6⟩ := cr_bd x y 6
  obtain ⟨c7, d7⟩ := cr_bd x y 7
  obtain ⟨c8, d8⟩ := cr_bd x y 8
  have e0 := dg_add x y 0
  have f0 := cr_next x y 0
  rw [cr_zero, Int.add_zero] at e0 f0
  have e1 := dg_add x y 1
  have f1 := cr_next x y 1
  have e2 := dg_add x y 2
  have f2 := cr_next x y 2
  have e3 := dg_add x y 3
  have f3 := cr_next x y 3
  have e4 := dg_add x y 4
  have f4 := cr_next x y 4
  have e5 := dg_add x y 5
  have f5 := cr_next x y 5
  have e6 := dg_add x y 6
  have f6 := cr_next x y 6
  have e7 := dg_add x y 7
  have f7 := cr_next x y 7
  simp only [Nat.zero_add, Nat.reduceAdd] at f0 f1 f2 f3 f4 f5 f6 f7
  go_enter Try.func87, Try.ntmps87
  go_wp2
  refine wp_loop_rounds 9 ?_
  rw [rounds_succ]
  go_wp2
  go_quiet (fail)
  go_wp2
  rw [rounds_succ]
  go_wp2
  go_quiet (fail)
  go_wp2
  rw [rounds_succ]
  go_wp2
  go_quiet (fail)
  go_wp2
  rw [rounds_succ]
  go_wp2
  go_quiet (fail)
  go_wp2
  rw [rounds_succ]
  go_wp2
  go_quiet (fail)
  go_wp2
  rw [rounds_succ]
  go_wp2
  go_quiet (fail)
  go_wp2
  rw [rounds_succ]
  go_wp2
  go_quiet (fail)
  go_wp2
  rw [rounds_succ]
  go_wp2
  go_quiet (fail)
  go_wp2
  rw [rounds_succ]
  go_wp2
  refine bodyPost_ret (v := .agg #[.int .i64 (dg (x + y) 0), .int .i64 (dg (x + y) 1), .int .i64 (dg (x + y) 2), .int .i64 (dg (x + y) 3), .int .i64 (dg (x + y) 4), .int .i64 (dg (x + y) 5), .int .i64 (dg (x + y) 6), .int .i64 (dg (x + y) 7)]) (by simp [results, Try.results87, go_sem]) rfl ⟨rfl, ?_, by simp⟩
  exact ((((Gb.refl w).alloc _ _).alloc _ _).alloc _ _).drewN _

theorem plus_one (x z : Int) (hz : x + 1 = z) (w : World) :
    Calls Try.prog 87 #[.agg #[.int .i64 (dg (x) 0), .int .i64 (dg (x) 1), .int .i64 (dg (x) 2), .int .i64 (dg (x) 3), .int .i64 (dg (x) 4), .int .i64 (dg (x) 5), .int .i64 (dg (x) 6), .int .i64 (dg (x) 7)], .agg #[.int .i64 1, .int .i64 0, .int .i64 0, .int .i64 0, .int .i64 0, .int .i64 0, .int .i64 0, .int .i64 0]] w fun e w' => e = .returned (.agg #[.int .i64 (dg (z) 0), .int .i64 (dg (z) 1), .int .i64 (dg (z) 2), .int .i64 (dg (z) 3), .int .i64 (dg (z) 4), .int .i64 (dg (z) 5), .int .i64 (dg (z) 6), .int .i64 (dg (z) 7)]) ∧ Gk 3 w w' := by
  have h := plus_any x 1 w
  rw [show dg 1 0 = 1 by decide +kernel, show dg 1 1 = 0 by decide +kernel, show dg 1 2 = 0 by decide +kernel, show dg 1 3 = 0 by decide +kernel, show dg 1 4 = 0 by decide +kernel, show dg 1 5 = 0 by decide +kernel, show dg 1 6 = 0 by decide +kernel, show dg 1 7 = 0 by decide +kernel, hz] at h
  exact h

set_option maxRecDepth 10000 in
set_option maxHeartbeats 4000000 in
theorem less_any (x : Int) (w : World) :
    Calls Try.prog 85 #[.agg #[.int .i64 (dg (x) 0), .int .i64 (dg (x) 1), .int .i64 (dg (x) 2), .int .i64 (dg (x) 3), .int .i64 (dg (x) 4), .int .i64 (dg (x) 5), .int .i64 (dg (x) 6), .int .i64 (dg (x) 7)]] w fun e w' => e = .returned (.agg #[.int .i64 (dg (-x) 0), .int .i64 (dg (-x) 1), .int .i64 (dg (-x) 2), .int .i64 (dg (-x) 3), .int .i64 (dg (-x) 4), .int .i64 (dg (-x) 5), .int .i64 (dg (-x) 6), .int .i64 (dg (-x) 7)]) ∧ Gk 6 w w' := by
  obtain ⟨p0, q0⟩ := dg_bd x 0
  have e0 := dg_turn x 0
  obtain ⟨p1, q1⟩ := dg_bd x 1
  have e1 := dg_turn x 1
  obtain ⟨p2, q2⟩ := dg_bd x 2
  have e2 := dg_turn x 2
  obtain ⟨p3, q3⟩ := dg_bd x 3
  have e3 := dg_turn x 3
  obtain ⟨p4, q4⟩ := dg_bd x 4
  have e4 := dg_turn x 4
  obtain ⟨p5, q5⟩ := dg_bd x 5
  have e5 := dg_turn x 5
  obtain ⟨p6, q6⟩ := dg_bd x 6
  have e6 := dg_turn x 6
  obtain ⟨p7, q7⟩ := dg_bd x 7
  have e7 := dg_turn x 7
  go_enter Try.func85, Try.ntmps85
  go_wp2
  refine wp_loop_rounds 9 ?_
  repeat (rw [rounds_succ]; go_wp2_with fail)
  refine (plus_one (-1 - x) (-x) (by omega) _).mono ?_
  rintro e w1 ⟨rfl, g1⟩
  obtain ⟨k1, f1, z1⟩ := g1.facts
  go_wp2
  refine bodyPost_ret (v := .agg #[.int .i64 (dg (-x) 0), .int .i64 (dg (-x) 1), .int .i64 (dg (-x) 2), .int .i64 (dg (-x) 3), .int .i64 (dg (-x) 4), .int .i64 (dg (-x) 5), .int .i64 (dg (-x) 6), .int .i64 (dg (-x) 7)]) (by simp [results, Try.results85, go_sem, *]) rfl ⟨rfl, ?_, by simp [World.setCell, z1]⟩
  exact ((((((((((((Gb.refl w).alloc _ _).alloc _ _).alloc _ _).trans g1.gb).setCell (by simp) _).setCell (by simp) _).setCell (by simp) _).setCell (by simp) _).setCell (by simp) _).setCell (by simp) _).setCell (by simp) _).setCell (by simp) _

end Go.Proofs.Ytapjipinceoaoaa

/- The document's own sums, differences and comparisons. -/
namespace Go.Proofs.Ytapjipinceoaoaa
open Go.RowKit
set_option linter.unusedVariables false

attribute [local go_sem] frozen?_alloc_cells frozen?_new

theorem below_dg (x : Int) : 32768 ≤ dg x 7 ↔ sv x < 0 := by rw [sv_eq]; unfold dg; omega

set_option maxRecDepth 10000 in
theorem below_any (x : Int) (w : World) :
    Calls Try.prog 84 #[.agg #[.int .i64 (dg (x) 0), .int .i64 (dg (x) 1), .int .i64 (dg (x) 2), .int .i64 (dg (x) 3), .int .i64 (dg (x) 4), .int .i64 (dg (x) 5), .int .i64 (dg (x) 6), .int .i64 (dg (x) 7)]] w fun e w' => e = .returned (.bool (decide (32768 ≤ dg x 7))) ∧ Gk 1 w w' := by
  go_enter Try.func84, Try.ntmps84
  go_wp2
  go_ret
  exact ⟨rfl, (Gb.refl _).alloc _ _, by simp⟩

/-- A variable of eight digits. -/
structure H8 (w : World) (b : Nat) (x : Int) : Prop where
  lt : b < w.heap.size
  c : ∀ k, k < 8 → w.cell? ⟨b, k, none⟩ = some (.int .i64 (dg x k))
theorem H8.gb {w w' : World} {b : Nat} {x : Int} (h : H8 w b x) (g : Gb w w') : H8 w' b x :=
  ⟨Nat.lt_of_lt_of_le h.lt g.size, fun k hk => (g.cell b k h.lt).trans (h.c k hk)⟩
theorem H8.alloc {w : World} {b : Nat} {x : Int} (h : H8 w b x) (c : Array Value) (t : TypeId) : H8 (w.alloc (.cells c t)) b x :=
  h.gb ((Gb.refl w).alloc c t)
theorem lt8 (k : Nat) (h : k < 8) : k = 0 ∨ k = 1 ∨ k = 2 ∨ k = 3 ∨ k = 4 ∨ k = 5 ∨ k = 6 ∨ k = 7 := by omega
theorem H8.new (w : World) (x : Int) (t : TypeId) : H8 (w.alloc (.cells #[.int .i64 (dg x 0), .int .i64 (dg x 1), .int .i64 (dg x 2), .int .i64 (dg x 3), .int .i64 (dg x 4), .int .i64 (dg x 5), .int .i64 (dg x 6), .int .i64 (dg x 7)] t)) w.heap.size x :=
  ⟨by simp, fun k hk => by rcases lt8 k hk with rfl | rfl | rfl | rfl | rfl | rfl | rfl | rfl <;> simp [go_sem]⟩

/-- The digits from k on are the same: so is what they make. -/
def same (x y : Int) (k : Nat) : Prop := ∀ j, k ≤ j → j < 8 → dg x j = dg y j
theorem cmp_lt (x y : Int) (k : Nat) (hk : k < 8) (h : same x y (k + 1)) (hb : (sv x < 0 ↔ sv y < 0)) (hl : dg x k < dg y k) : sv x < sv y := by
  have s7 := h 7; have s6 := h 6; have s5 := h 5; have s4 := h 4; have s3 := h 3; have s2 := h 2; have s1 := h 1
  rw [sv_eq, sv_eq] at *
  rcases lt8 k hk with rfl | rfl | rfl | rfl | rfl | rfl | rfl | rfl <;> simp at * <;> unfold dg at * <;> omega
theorem cmp_eq (x y : Int) (h : same x y 0) : sv x = sv y := by
  have s7 := h 7; have s6 := h 6; have s5 := h 5; have s4 := h 4; have s3 := h 3; have s2 := h 2; have s1 := h 1; have s0 := h 0
  rw [sv_eq, sv_eq]
  simp at *
  unfold dg at *; omega

end Go.Proofs.Ytapjipinceoaoaa

/- The document's own sum. -/
namespace Go.Proofs.Ytapjipinceoaoaa
open Go.RowKit
set_option linter.unusedVariables false

attribute [local go_sem] frozen?_alloc_cells frozen?_new

set_option maxRecDepth 10000 in
set_option maxHeartbeats 4000000 in
theorem radd_any (x y : Int) (w : World) :
    Calls Try.prog 77 #[.agg #[.int .i64 (hiv (x)), .int .u64 (lov (x))], .agg #[.int .i64 (hiv (y)), .int .u64 (lov (y))]] w fun e w' => e = .returned (.agg #[.int .i64 (hiv (x + y)), .int .u64 (lov (x + y))]) ∧ Gb w w' := by
  have HK : Hid (∀ w', Gb ((w.alloc (.cells #[.int .i64 (hiv x), .int .u64 (lov x)] 124)).alloc (.cells #[.int .i64 (hiv y), .int .u64 (lov y)] 124)) w' → Gb ((w.alloc (.cells #[.int .i64 (hiv x), .int .u64 (lov x)] 124)).alloc (.cells #[.int .i64 (hiv y), .int .u64 (lov y)] 124)) w' ∧ w'.cell? ⟨w.heap.size, 0, none⟩ = some (.int .i64 (hiv x)) ∧ w'.cell? ⟨w.heap.size, 1, none⟩ = some (.int .u64 (lov x)) ∧ w'.cell? ⟨w.heap.size + 1, 0, none⟩ = some (.int .i64 (hiv y)) ∧ w'.cell? ⟨w.heap.size + 1, 1, none⟩ = some (.int .u64 (lov y))) := by
    intro w' g
    refine ⟨g, ?_, ?_, ?_, ?_⟩
    all_goals (rw [g.cell _ _ (by first | (simp; done) | (simp; omega))]; simp [go_sem])
  have hR : ((w.alloc (.cells #[.int .i64 (hiv x), .int .u64 (lov x)] 124)).alloc (.cells #[.int .i64 (hiv y), .int .u64 (lov y)] 124)).heap.size ≤ w.heap.size + 1 + 1 := by simp
  go_enter Try.func77, Try.ntmps77
  go_wp2_with fail
  go_region_held3 (fun w' => Gb ((w.alloc (.cells #[.int .i64 (hiv x), .int .u64 (lov x)] 124)).alloc (.cells #[.int .i64 (hiv y), .int .u64 (lov y)] 124)) w' ∧ w'.cell? ⟨w.heap.size, 0, none⟩ = some (.int .i64 (hiv x)) ∧ w'.cell? ⟨w.heap.size, 1, none⟩ = some (.int .u64 (lov x)) ∧ w'.cell? ⟨w.heap.size + 1, 0, none⟩ = some (.int .i64 (hiv y)) ∧ w'.cell? ⟨w.heap.size + 1, 1, none⟩ = some (.int .u64 (lov y))) ((refine HK.out _ ?_; (repeat (first | exact Gb.refl _ | exact And.left (by assumption) | refine Gb.drew ?_ | refine Gb.setCell ?_ hR _ | refine Gb.trans ?_ (Gk.gb (by assumption)) | refine Gb.alloc ?_ _ _)); done))
    (first
      | (go_at_call 83; refine (rof_any _ _).mono ?_; rintro e w4 ⟨rfl, g4⟩; obtain ⟨k4, f4, _⟩ := g4.facts; have h4 : w.heap.size + 1 + 1 < w4.heap.size := (by have h9 := g4.gb.size; first | omega | (simp at h9; omega)))
      | (go_at_call 87; refine (plus_any _ _ _).mono ?_; rintro e w4 ⟨rfl, g4⟩; obtain ⟨k4, f4, _⟩ := g4.facts; have h4 : w.heap.size + 1 + 1 < w4.heap.size := (by have h9 := g4.gb.size; first | omega | (simp at h9; omega)))
      | (go_at_call 85; refine (less_any _ _).mono ?_; rintro e w4 ⟨rfl, g4⟩; obtain ⟨k4, f4, _⟩ := g4.facts; have h4 : w.heap.size + 1 + 1 < w4.heap.size := (by have h9 := g4.gb.size; first | omega | (simp at h9; omega)))
      | (go_at_call 86; refine (told_any _ _).mono ?_; rintro e w4 ⟨rfl, g4⟩; obtain ⟨k4, f4, _⟩ := g4.facts; have h4 : w.heap.size + 1 + 1 < w4.heap.size := (by have h9 := g4.gb.size; first | omega | (simp at h9; omega))))
  go_wp2
  have G : Gb w _ := Gb.trans (b := ((w.alloc (.cells #[.int .i64 (hiv x), .int .u64 (lov x)] 124)).alloc (.cells #[.int .i64 (hiv y), .int .u64 (lov y)] 124))) (by repeat (first | exact Gb.refl _ | refine Gb.alloc ?_ _ _)) (And.left (by assumption))
  refine bodyPost_ret (v := .agg #[.int .i64 (hiv (x + y)), .int .u64 (lov (x + y))]) (by simp [results, Try.results77, go_sem, *]) rfl ⟨rfl, G⟩


end Go.Proofs.Ytapjipinceoaoaa
