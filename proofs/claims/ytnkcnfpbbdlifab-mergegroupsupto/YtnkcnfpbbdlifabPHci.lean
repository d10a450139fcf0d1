/- Package merge: a head rises, a head sinks. -/
import Derived.Test.YtnkcnfpbbdlifabPHbi
namespace Go.Proofs.Ytnkcnfpbbdlifab
open Go.RowKit
set_option linter.unusedVariables false

set_option maxRecDepth 20000 in
set_option maxHeartbeats 4000000 in
theorem rise_i {α : Type} (hb a n g cap base : Nat) (kf pv : Value) (H : List (Hd α)) (hn : H.length = n) (hn2 : n ≤ 4000000) (ha : a < n) (w : World) (hp : Hpm 73 76 w hb base kf (.slice (some ⟨g, 0, none⟩) n cap) pv H) (hR : RiseOn H a) :
    Calls Try.prog 40 #[.pointer (some ⟨hb, 0, none⟩), .int .i64 (a : Int)] w fun e w' => e = .returned (.tuple #[]) ∧ (∃ H', H'.Perm H ∧ HeapOn H' ∧ HR 76 w' base (.slice (some ⟨g, 0, none⟩) n cap) H') ∧ Gx (fun q => q = g) w w' := by
  obtain ⟨hh, hr, ne⟩ := hp
  have gne : g ≠ hb := ne g rfl
  have HB : Aside (w.heap[hb]? = some (.cells #[kf, .slice (some ⟨g, 0, none⟩) n cap, pv] 73 (0, 0))) := hh
  have AH : Hid (∀ (x y : Hd α) (W : World), Calls Try.prog 44 #[x.v, y.v] W fun e w' => e = .returned (.bool (aheadB x y)) ∧ Gw W w') := fun x y W => ahead_i x y W
  have hbl : hb < w.heap.size := blkl hh
  have gl : g < w.heap.size := (hr_cells hr hn).2.2.1
  have ncap := (hr_cells hr hn).2.1
  have R0 : Aside (HR 76 w base (.slice (some ⟨g, 0, none⟩) n cap) H) := hr
  have RI0 : Aside (RiseOn H a) := hR
  have LN : Aside (H.length = n) := hn
  clear hh hr ne hR hn
  go_enter Try.func40, Try.ntmps40
  go_wp2_with fail
  go_loopg [1] a (fun gg s1 wr => ∃ (b : Nat) (H' : List (Hd α)), s1 = .int .i64 (b : Int) ∧ b < n ∧ b ≤ gg ∧ Aside (RiseOn H' b ∧ H'.Perm H ∧ H'.length = n ∧ HR 76 wr base (.slice (some ⟨g, 0, none⟩) n cap) H') ∧ Aside (Gx (fun q => q = g) w wr))
  case atStart => exact ⟨a, H, rfl, ha, Nat.le_refl _, ⟨RI0.out, List.Perm.refl _, LN.out, R0.out⟩, Gx.refl _ _⟩
  case round =>
    obtain ⟨b, H', rfl, bn, bg, HH, GG⟩ := hrel
    have hcell : wr.heap[hb]? = some (.cells #[kf, .slice (some ⟨g, 0, none⟩) n cap, pv] 73 (0, 0)) := (GG.out.block _ hbl (fun e => gne e.symm)).trans HB.out
    have HBr : Aside (wr.heap[hb]? = some (.cells #[kf, .slice (some ⟨g, 0, none⟩) n cap, pv] 73 (0, 0))) := hcell
    by_cases b0 : 0 < b
    · have b0' : decide ((0 : Int) < (b : Int)) = true := by simpa using b0
      obtain ⟨p, hp⟩ : ∃ p : Nat, p = b - 1 := ⟨_, rfl⟩
      obtain ⟨u, hu⟩ : ∃ u : Nat, u = (b - 1) / 2 := ⟨_, rfl⟩
      have w1 : IntKind.i64.wrap ((b : Int) - 1) = (p : Int) := by rw [IntKind.wrap_i64]; omega
      have w2 : Hid (wrap64 ((p : Int) / 2) = (u : Int)) := by
        show _ = _
        have e : (p : Int) / 2 = (u : Int) := by omega
        rw [e]; unfold wrap64; omega
      have un : u < n := by omega
      have ub : u < b := by omega
      have UE : Aside (u = (b - 1) / 2) := hu
      obtain ⟨x, hx⟩ : ∃ x, gt H' b = x := ⟨_, rfl⟩
      obtain ⟨y, hy⟩ : ∃ y, gt H' u = y := ⟨_, rfl⟩
      have hcs := (hr_cells HH.out.2.2.2 HH.out.2.2.1).2.2.2
      obtain ⟨e0, e1, e2⟩ := hcs b bn
      obtain ⟨f0, f1, f2⟩ := hcs u un
      have fz := (hr_cells HH.out.2.2.2 HH.out.2.2.1).1
      clear hcs hp
      rw [hx] at e0 e1 e2
      rw [hy] at f0 f1 f2
      have DONE : Aside (aheadB x y = false → HeapOn H') := fun q => HH.out.1.done (.inr (by rw [← UE.out, hx, hy]; exact aheadB_not.1 q))
      have STEP : Aside (aheadB x y = true → RiseOn (swp H' b u) u) := fun q => by
        have := HH.out.1.step (by rw [HH.out.2.2.1]; exact bn) b0 (by rw [← UE.out, hx, hy]; exact aheadB_iff.1 q)
        rw [← UE.out] at this
        exact this
      have PRM : Aside ((swp H' b u).Perm H ∧ (swp H' b u).length = n) := ⟨(swp_perm H' (by rw [HH.out.2.2.1]; exact bn) (by rw [HH.out.2.2.1]; exact un)).trans HH.out.2.1, by rw [swp_len]; exact HH.out.2.2.1⟩
      have SWP : Aside (∀ W', HR 76 W' base (.slice (some ⟨g, 0, none⟩) n cap) H' → _) := fun W' h => swp_facts h HH.out.2.2.1 bn un (by omega) hx hy
      have AX := AH.out x y
      obtain ⟨ab, hab⟩ : ∃ ab, aheadB x y = ab := ⟨_, rfl⟩
      rw [hab] at AX DONE STEP
      obtain ⟨xk, xi, ⟨xb, xo, xc, xl⟩⟩ := x
      obtain ⟨yk, yi, ⟨yb, yo, yc, yl⟩⟩ := y
      simp only [Hd.v, Lst.v] at AX e2 f2
      obtain ⟨xn, hxn⟩ : ∃ m, xl.length = m := ⟨_, rfl⟩
      obtain ⟨yn, hyn⟩ : ∃ m, yl.length = m := ⟨_, rfl⟩
      rw [hxn] at AX e2
      rw [hyn] at AX f2
      simp only [puth, Lst.v, hxn, hyn] at SWP
      have AX' : Hid (∀ W : World, Calls Try.prog 44 #[.agg #[.int .u64 xk, .int .i64 (xi : Int), .slice (some ⟨xb, xo, none⟩) xn xc], .agg #[.int .u64 yk, .int .i64 (yi : Int), .slice (some ⟨yb, yo, none⟩) yn yc]] W fun e w' => e = .returned (.bool ab) ∧ Gw W w') := AX
      have hbr : hb < wr.heap.size := blkl hcell
      have gr : g < wr.heap.size := (hr_cells HH.out.2.2.2 HH.out.2.2.1).2.2.1
      have HW : Hid (∀ w', Gw wr w' → Gw wr w' ∧ w'.cell? ⟨hb, 1, none⟩ = some (.slice (some ⟨g, 0, none⟩) n cap) ∧ w'.cell? ⟨g, b * 3, none⟩ = some (.int .u64 xk) ∧ w'.cell? ⟨g, b * 3 + 1, none⟩ = some (.int .i64 (xi : Int)) ∧ w'.cell? ⟨g, b * 3 + 2, none⟩ = some (.slice (some ⟨xb, xo, none⟩) xn xc) ∧ w'.cell? ⟨g, u * 3, none⟩ = some (.int .u64 yk) ∧ w'.cell? ⟨g, u * 3 + 1, none⟩ = some (.int .i64 (yi : Int)) ∧ w'.cell? ⟨g, u * 3 + 2, none⟩ = some (.slice (some ⟨yb, yo, none⟩) yn yc)) := fun w' gg => by
        have k := fun o => gg.cell g o gr
        exact ⟨gg, (gg.cell _ _ hbr).trans (blkc hcell rfl), (k _).trans e0, (k _).trans e1, (k _).trans e2, (k _).trans f0, (k _).trans f1, (k _).trans f2⟩
      clear hx hy hab hxn hyn AX e0 e1 e2 f0 f1 f2 hcell fz hu
      obtain ⟨wS, hwS⟩ : ∃ wx, wx = wr := ⟨_, rfl⟩
      subst hwS
      go_wp2_with fail
      rw [w2.out]
      go_region_held3 (fun w' => Gw wS w' ∧ w'.cell? ⟨hb, 1, none⟩ = some (.slice (some ⟨g, 0, none⟩) n cap) ∧ w'.cell? ⟨g, b * 3, none⟩ = some (.int .u64 xk) ∧ w'.cell? ⟨g, b * 3 + 1, none⟩ = some (.int .i64 (xi : Int)) ∧ w'.cell? ⟨g, b * 3 + 2, none⟩ = some (.slice (some ⟨xb, xo, none⟩) xn xc) ∧ w'.cell? ⟨g, u * 3, none⟩ = some (.int .u64 yk) ∧ w'.cell? ⟨g, u * 3 + 1, none⟩ = some (.int .i64 (yi : Int)) ∧ w'.cell? ⟨g, u * 3 + 2, none⟩ = some (.slice (some ⟨yb, yo, none⟩) yn yc))
        ((refine HW.out _ ?_; (repeat (first | exact Gw.refl _ | exact And.left (by assumption) | exact Hid.out (by assumption) | refine Gw.drew ?_ | refine Gw.drewN ?_ _)); done))
        ((go_at_call 44; refine (AX'.out _).mono ?_; rintro ex u5 ⟨rfl, g5⟩; have G5 : Hid (Gw wS u5) := Gw.trans (by repeat (first | exact Gw.refl _ | exact And.left (by assumption) | exact Hid.out (by assumption) | refine Gw.drew ?_ | refine Gw.drewN ?_ _)) g5; clear g5))
      obtain ⟨_, t0, t1, t2, t3, t4, t5, t6⟩ := HW.out u5 G5.out
      have RX : Aside (HR 76 u5 base (.slice (some ⟨g, 0, none⟩) n cap) H') := hr_gw HH.out.2.2.2 G5.out
      have GX : Aside (Gx (fun q => q = g) w u5) := GG.out.tw G5.out
      have fz := (hr_cells RX.out HH.out.2.2.1).1
      cases ab with
      | false =>
        have D := DONE.out rfl
        have DD : Aside (HeapOn H') := D
        clear D DONE STEP HW SWP
        go_wp2_with fail
        refine bodyPost_ret (results_none rfl _ _ _) rfl ?_
        exact ⟨rfl, ⟨H', HH.out.2.1, DD.out, RX.out⟩, GX.out⟩
      | true =>
        have D := STEP.out rfl
        have DD : Aside (RiseOn (swp H' b u) u) := D
        obtain ⟨W1, W2, E1, E2, RY, kp, fz', ⟨r0, r1, r2⟩, g2⟩ := SWP.out u5 RX.out
        have RYY : Aside (HR 76 W2 base (.slice (some ⟨g, 0, none⟩) n cap) (swp H' b u)) := RY
        have G2 : Aside (Gx (fun q => q = g) w W2) := GX.out.trans g2 (fun q hq => .inl hq)
        have t0' : W1.cell? ⟨hb, 1, none⟩ = some (.slice (some ⟨g, 0, none⟩) n cap) := by
          have e : W1.heap[hb]? = u5.heap[hb]? := kp hb (fun e => gne e.symm)
          rw [World.cell?_of_block e]; exact t0
        have fz0 := fz (b * 3)
        have fz1 := fz (b * 3 + 1)
        have fz2 := fz (b * 3 + 2)
        have fz3 := fz' (u * 3)
        have fz4 := fz' (u * 3 + 1)
        have fz5 := fz' (u * 3 + 2)
        clear fz fz' D DONE STEP HW SWP AX' kp RY g2
        have gne' : hb ≠ g := fun e => gne e.symm
        go_wp2_with fail
        go_big_region
        go_wp2_with fail
        go_roundg u
        case measure => omega
        case rel => exact ⟨u, swp H' b u, rfl, un, Nat.le_refl _, ⟨DD.out, PRM.out.1, PRM.out.2, RYY.out⟩, (show Aside _ from G2.out.drew)⟩
    · have b0' : decide ((0 : Int) < (b : Int)) = false := by simp; omega
      have DD : Aside (HeapOn H') := HH.out.1.done (.inl (by omega))
      go_wp2_with fail
      go_end0
      exact ⟨rfl, ⟨H', HH.out.2.1, DD.out, HH.out.2.2.2⟩, GG.out⟩
end Go.Proofs.Ytnkcnfpbbdlifab
