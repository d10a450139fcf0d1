/- Package merge: the first of three heads. -/
import Derived.Test.YtnkcnfpbbdlifabPHai
namespace Go.Proofs.Ytnkcnfpbbdlifab
open Go.RowKit
set_option linter.unusedVariables false

set_option maxRecDepth 20000 in
set_option maxHeartbeats 4000000 in
theorem below_i {α : Type} (hb a n g cap base : Nat) (kf pv : Value) (H : List (Hd α)) (hn : H.length = n) (hn2 : n ≤ 4000000) (ha : a ≤ 4000000) (w : World) (hh : w.heap[hb]? = some (.cells #[kf, .slice (some ⟨g, 0, none⟩) n cap, pv] 73 (0, 0))) (hr : HR 76 w base (.slice (some ⟨g, 0, none⟩) n cap) H) :
    Calls Try.prog 45 #[.pointer (some ⟨hb, 0, none⟩), .int .i64 (a : Int)] w fun e w' => (∃ d : Nat, e = .returned (.int .i64 (d : Int)) ∧ BelowR H a d) ∧ Gw w w' := by
  obtain ⟨a2, ha2⟩ : ∃ a2 : Nat, a2 = 2 * a := ⟨_, rfl⟩
  obtain ⟨c1, hc1⟩ : ∃ c : Nat, c = 2 * a + 1 := ⟨_, rfl⟩
  obtain ⟨c2, hc2⟩ : ∃ c : Nat, c = 2 * a + 2 := ⟨_, rfl⟩
  have w1 : IntKind.i64.wrap (2 * (a : Int)) = (a2 : Int) := by rw [IntKind.wrap_i64]; omega
  have w2 : IntKind.i64.wrap ((a2 : Int) + 1) = (c1 : Int) := by rw [IntKind.wrap_i64]; omega
  have w3 : IntKind.i64.wrap ((a2 : Int) + 2) = (c2 : Int) := by rw [IntKind.wrap_i64]; omega
  have C1 : Aside (c1 = 2 * a + 1 + 0) := hc1
  have C2 : Aside (c2 = 2 * a + 1 + 1) := hc2
  have HB : Aside (w.heap[hb]? = some (.cells #[kf, .slice (some ⟨g, 0, none⟩) n cap, pv] 73 (0, 0))) := hh
  have HRw : Aside (HR 76 w base (.slice (some ⟨g, 0, none⟩) n cap) H) := hr
  have LN : Aside (H.length = n) := hn
  have AH : Hid (∀ (x y : Hd α) (W : World), Calls Try.prog 44 #[x.v, y.v] W fun e w' => e = .returned (.bool (aheadB x y)) ∧ Gw W w') := fun x y W => ahead_i x y W
  have ncap := (hr_cells hr hn).2.1
  have hi0 : ∀ W : World, (Instr.index 82 (.agg #[.int .i64 (c1 : Int), .int .i64 (c2 : Int)]) (.int .i64 0)).run Try.prog W = .ok (.int .i64 (c1 : Int)) W := fun _ => by kernel_rfl
  have hi1 : ∀ W : World, (Instr.index 82 (.agg #[.int .i64 (c1 : Int), .int .i64 (c2 : Int)]) (.int .i64 1)).run Try.prog W = .ok (.int .i64 (c2 : Int)) W := fun _ => by kernel_rfl
  clear hh hr hn ha2 hc1 hc2
  go_enter Try.func45, Try.ntmps45
  go_wp2_with fail
  go_loopg [5, 16] 2 (fun gg s5 s16 wr => ∃ (f j : Nat), s5 = .int .i64 (f : Int) ∧ s16 = .int .i64 (j : Int) ∧ j ≤ 2 ∧ 2 - j ≤ gg ∧ Aside (BelowI H a j f) ∧ Aside (Gw w wr))
  case atStart => exact ⟨a, 0, rfl, rfl, Nat.zero_le _, by omega, BelowI.start H a, Gw.refl w⟩
  case round =>
    obtain ⟨f, j, rfl, rfl, j2, jg, BI, GG⟩ := hrel
    have hbl : hb < w.heap.size := blkl HB.out
    have gl : g < w.heap.size := (hr_cells HRw.out LN.out).2.2.1
    have hcell : wr.cell? ⟨hb, 1, none⟩ = some (.slice (some ⟨g, 0, none⟩) n cap) := (GG.out.cell _ _ hbl).trans (blkc HB.out rfl)
    by_cases jl : j < 2
    · rcases (show j = 0 ∨ j = 1 by omega) with rfl | rfl
      · by_cases cl : c1 < n
        · have cl' : decide ((c1 : Int) < (n : Int)) = true := by simpa using cl
          have fl : f < n := by have := BI.out.lt C1.out (by rw [LN.out]; exact cl); rw [LN.out] at this; exact this
          have hcs := (hr_cells HRw.out LN.out).2.2.2
          obtain ⟨e0, e1, e2⟩ := hcs c1 cl
          obtain ⟨f0, f1, f2⟩ := hcs f fl
          clear hcs
          obtain ⟨x, hx⟩ : ∃ x, gt H c1 = x := ⟨_, rfl⟩
          obtain ⟨y, hy⟩ : ∃ y, gt H f = y := ⟨_, rfl⟩
          have STAY : Aside (aheadB x y = false → BelowI H a (0 + 1) f) := fun q => BI.out.stay C1.out (by rw [hx, hy]; exact aheadB_not.1 q)
          have TURN : Aside (aheadB x y = true → BelowI H a (0 + 1) c1) := fun q => BI.out.turn (by omega) C1.out (by rw [LN.out]; exact cl) (by rw [hx, hy]; exact aheadB_iff.1 q)
          rw [hx] at e0 e1 e2
          rw [hy] at f0 f1 f2
          have AX := AH.out x y
          obtain ⟨ab, hab⟩ : ∃ ab, aheadB x y = ab := ⟨_, rfl⟩
          rw [hab] at AX STAY TURN
          obtain ⟨xk, xi, ⟨xb, xo, xc, xl⟩⟩ := x
          obtain ⟨yk, yi, ⟨yb, yo, yc, yl⟩⟩ := y
          simp only [Hd.v, Lst.v] at AX e2 f2
          obtain ⟨xn, hxn⟩ : ∃ m, xl.length = m := ⟨_, rfl⟩
          obtain ⟨yn, hyn⟩ : ∃ m, yl.length = m := ⟨_, rfl⟩
          rw [hxn] at AX e2
          rw [hyn] at AX f2
          have AX' : Hid (∀ W : World, Calls Try.prog 44 #[.agg #[.int .u64 xk, .int .i64 (xi : Int), .slice (some ⟨xb, xo, none⟩) xn xc], .agg #[.int .u64 yk, .int .i64 (yi : Int), .slice (some ⟨yb, yo, none⟩) yn yc]] W fun e w' => e = .returned (.bool ab) ∧ Gw W w') := AX
          have HW : Hid (∀ w', Gw wr w' → Gw wr w' ∧ w'.cell? ⟨hb, 1, none⟩ = some (.slice (some ⟨g, 0, none⟩) n cap) ∧ w'.cell? ⟨g, c1 * 3, none⟩ = some (.int .u64 xk) ∧ w'.cell? ⟨g, c1 * 3 + 1, none⟩ = some (.int .i64 (xi : Int)) ∧ w'.cell? ⟨g, c1 * 3 + 2, none⟩ = some (.slice (some ⟨xb, xo, none⟩) xn xc) ∧ w'.cell? ⟨g, f * 3, none⟩ = some (.int .u64 yk) ∧ w'.cell? ⟨g, f * 3 + 1, none⟩ = some (.int .i64 (yi : Int)) ∧ w'.cell? ⟨g, f * 3 + 2, none⟩ = some (.slice (some ⟨yb, yo, none⟩) yn yc)) := fun w' gg => by
            have G' := GG.out.trans gg
            have k := fun o => G'.cell g o gl
            exact ⟨gg, (gg.cell _ _ (Nat.lt_of_lt_of_le hbl GG.out.size)).trans hcell, (k _).trans e0, (k _).trans e1, (k _).trans e2, (k _).trans f0, (k _).trans f1, (k _).trans f2⟩
          clear hx hy hab hxn hyn AX e0 e1 e2 f0 f1 f2 hcell BI
          obtain ⟨wS, hwS⟩ : ∃ wx, wx = wr := ⟨_, rfl⟩
          subst hwS
          go_wp2_with fail
          go_region_held3 (fun w' => Gw wS w' ∧ w'.cell? ⟨hb, 1, none⟩ = some (.slice (some ⟨g, 0, none⟩) n cap) ∧ w'.cell? ⟨g, c1 * 3, none⟩ = some (.int .u64 xk) ∧ w'.cell? ⟨g, c1 * 3 + 1, none⟩ = some (.int .i64 (xi : Int)) ∧ w'.cell? ⟨g, c1 * 3 + 2, none⟩ = some (.slice (some ⟨xb, xo, none⟩) xn xc) ∧ w'.cell? ⟨g, f * 3, none⟩ = some (.int .u64 yk) ∧ w'.cell? ⟨g, f * 3 + 1, none⟩ = some (.int .i64 (yi : Int)) ∧ w'.cell? ⟨g, f * 3 + 2, none⟩ = some (.slice (some ⟨yb, yo, none⟩) yn yc))
            ((refine HW.out _ ?_; (repeat (first | exact Gw.refl _ | exact And.left (by assumption) | exact Hid.out (by assumption) | refine Gw.drew ?_ | refine Gw.drewN ?_ _)); done))
            ((go_at_call 44; refine (AX'.out _).mono ?_; rintro ex u5 ⟨rfl, g5⟩; have G5 : Hid (Gw wS u5) := Gw.trans (by repeat (first | exact Gw.refl _ | exact And.left (by assumption) | exact Hid.out (by assumption) | refine Gw.drew ?_ | refine Gw.drewN ?_ _)) g5; clear g5))
          have GX : Aside (Gw w u5) := GG.out.trans G5.out
          cases ab with
          | true =>
            have D := TURN.out rfl
            have DD : Aside (BelowI H a (0 + 1) c1) := D
            clear D STAY TURN HW
            go_wp2_with fail
            go_roundg (2 - (0 + 1))
            case measure => omega
            case rel => exact ⟨c1, 0 + 1, rfl, by go_num, by omega, Nat.le_refl _, DD, GX⟩
          | false =>
            have D := STAY.out rfl
            have DD : Aside (BelowI H a (0 + 1) f) := D
            clear D STAY TURN HW
            go_wp2_with fail
            go_roundg (2 - (0 + 1))
            case measure => omega
            case rel => exact ⟨f, 0 + 1, rfl, by go_num, by omega, Nat.le_refl _, DD, GX⟩
        · have cl' : decide ((c1 : Int) < (n : Int)) = false := by simp; omega
          have D := BI.out.out C1.out (by rw [LN.out]; exact cl)
          have DD : Aside (BelowI H a (0 + 1) f) := D
          clear D BI
          go_wp2_with fail
          go_quiet (fail)
          go_wp2_with fail
          go_roundg (2 - (0 + 1))
          case measure => omega
          case rel => exact ⟨f, 0 + 1, rfl, by go_num, by omega, Nat.le_refl _, DD, (show Aside _ from by repeat (first | exact GG.out | refine Gw.drew ?_ | refine Gw.drewN ?_ _))⟩
      · by_cases cl : c2 < n
        · have cl' : decide ((c2 : Int) < (n : Int)) = true := by simpa using cl
          have fl : f < n := by have := BI.out.lt C2.out (by rw [LN.out]; exact cl); rw [LN.out] at this; exact this
          have hcs := (hr_cells HRw.out LN.out).2.2.2
          obtain ⟨e0, e1, e2⟩ := hcs c2 cl
          obtain ⟨f0, f1, f2⟩ := hcs f fl
          clear hcs
          obtain ⟨x, hx⟩ : ∃ x, gt H c2 = x := ⟨_, rfl⟩
          obtain ⟨y, hy⟩ : ∃ y, gt H f = y := ⟨_, rfl⟩
          have STAY : Aside (aheadB x y = false → BelowI H a (1 + 1) f) := fun q => BI.out.stay C2.out (by rw [hx, hy]; exact aheadB_not.1 q)
          have TURN : Aside (aheadB x y = true → BelowI H a (1 + 1) c2) := fun q => BI.out.turn (by omega) C2.out (by rw [LN.out]; exact cl) (by rw [hx, hy]; exact aheadB_iff.1 q)
          rw [hx] at e0 e1 e2
          rw [hy] at f0 f1 f2
          have AX := AH.out x y
          obtain ⟨ab, hab⟩ : ∃ ab, aheadB x y = ab := ⟨_, rfl⟩
          rw [hab] at AX STAY TURN
          obtain ⟨xk, xi, ⟨xb, xo, xc, xl⟩⟩ := x
          obtain ⟨yk, yi, ⟨yb, yo, yc, yl⟩⟩ := y
          simp only [Hd.v, Lst.v] at AX e2 f2
          obtain ⟨xn, hxn⟩ : ∃ m, xl.length = m := ⟨_, rfl⟩
          obtain ⟨yn, hyn⟩ : ∃ m, yl.length = m := ⟨_, rfl⟩
          rw [hxn] at AX e2
          rw [hyn] at AX f2
          have AX' : Hid (∀ W : World, Calls Try.prog 44 #[.agg #[.int .u64 xk, .int .i64 (xi : Int), .slice (some ⟨xb, xo, none⟩) xn xc], .agg #[.int .u64 yk, .int .i64 (yi : Int), .slice (some ⟨yb, yo, none⟩) yn yc]] W fun e w' => e = .returned (.bool ab) ∧ Gw W w') := AX
          have HW : Hid (∀ w', Gw wr w' → Gw wr w' ∧ w'.cell? ⟨hb, 1, none⟩ = some (.slice (some ⟨g, 0, none⟩) n cap) ∧ w'.cell? ⟨g, c2 * 3, none⟩ = some (.int .u64 xk) ∧ w'.cell? ⟨g, c2 * 3 + 1, none⟩ = some (.int .i64 (xi : Int)) ∧ w'.cell? ⟨g, c2 * 3 + 2, none⟩ = some (.slice (some ⟨xb, xo, none⟩) xn xc) ∧ w'.cell? ⟨g, f * 3, none⟩ = some (.int .u64 yk) ∧ w'.cell? ⟨g, f * 3 + 1, none⟩ = some (.int .i64 (yi : Int)) ∧ w'.cell? ⟨g, f * 3 + 2, none⟩ = some (.slice (some ⟨yb, yo, none⟩) yn yc)) := fun w' gg => by
            have G' := GG.out.trans gg
            have k := fun o => G'.cell g o gl
            exact ⟨gg, (gg.cell _ _ (Nat.lt_of_lt_of_le hbl GG.out.size)).trans hcell, (k _).trans e0, (k _).trans e1, (k _).trans e2, (k _).trans f0, (k _).trans f1, (k _).trans f2⟩
          clear hx hy hab hxn hyn AX e0 e1 e2 f0 f1 f2 hcell BI
          obtain ⟨wS, hwS⟩ : ∃ wx, wx = wr := ⟨_, rfl⟩
          subst hwS
          go_wp2_with fail
          go_region_held3 (fun w' => Gw wS w' ∧ w'.cell? ⟨hb, 1, none⟩ = some (.slice (some ⟨g, 0, none⟩) n cap) ∧ w'.cell? ⟨g, c2 * 3, none⟩ = some (.int .u64 xk) ∧ w'.cell? ⟨g, c2 * 3 + 1, none⟩ = some (.int .i64 (xi : Int)) ∧ w'.cell? ⟨g, c2 * 3 + 2, none⟩ = some (.slice (some ⟨xb, xo, none⟩) xn xc) ∧ w'.cell? ⟨g, f * 3, none⟩ = some (.int .u64 yk) ∧ w'.cell? ⟨g, f * 3 + 1, none⟩ = some (.int .i64 (yi : Int)) ∧ w'.cell? ⟨g, f * 3 + 2, none⟩ = some (.slice (some ⟨yb, yo, none⟩) yn yc))
            ((refine HW.out _ ?_; (repeat (first | exact Gw.refl _ | exact And.left (by assumption) | exact Hid.out (by assumption) | refine Gw.drew ?_ | refine Gw.drewN ?_ _)); done))
            ((go_at_call 44; refine (AX'.out _).mono ?_; rintro ex u5 ⟨rfl, g5⟩; have G5 : Hid (Gw wS u5) := Gw.trans (by repeat (first | exact Gw.refl _ | exact And.left (by assumption) | exact Hid.out (by assumption) | refine Gw.drew ?_ | refine Gw.drewN ?_ _)) g5; clear g5))
          have GX : Aside (Gw w u5) := GG.out.trans G5.out
          cases ab with
          | true =>
            have D := TURN.out rfl
            have DD : Aside (BelowI H a (1 + 1) c2) := D
            clear D STAY TURN HW
            go_wp2_with fail
            go_roundg (2 - (1 + 1))
            case measure => omega
            case rel => exact ⟨c2, 1 + 1, rfl, by go_num, by omega, Nat.le_refl _, DD, GX⟩
          | false =>
            have D := STAY.out rfl
            have DD : Aside (BelowI H a (1 + 1) f) := D
            clear D STAY TURN HW
            go_wp2_with fail
            go_roundg (2 - (1 + 1))
            case measure => omega
            case rel => exact ⟨f, 1 + 1, rfl, by go_num, by omega, Nat.le_refl _, DD, GX⟩
        · have cl' : decide ((c2 : Int) < (n : Int)) = false := by simp; omega
          have D := BI.out.out C2.out (by rw [LN.out]; exact cl)
          have DD : Aside (BelowI H a (1 + 1) f) := D
          clear D BI
          go_wp2_with fail
          go_quiet (fail)
          go_wp2_with fail
          go_roundg (2 - (1 + 1))
          case measure => omega
          case rel => exact ⟨f, 1 + 1, rfl, by go_num, by omega, Nat.le_refl _, DD, (show Aside _ from by repeat (first | exact GG.out | refine Gw.drew ?_ | refine Gw.drewN ?_ _))⟩
    · have ej : j = 2 := by omega
      subst ej
      have DN : Aside (BelowR H a f) := BI.out.done
      clear BI
      go_wp2_with fail
      go_ret
      exact ⟨⟨f, rfl, DN.out⟩, GG.out⟩
end Go.Proofs.Ytnkcnfpbbdlifab
