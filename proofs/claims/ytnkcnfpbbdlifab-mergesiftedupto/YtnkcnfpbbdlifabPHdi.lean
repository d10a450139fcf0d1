/- Package merge: a head sinks. -/
import Derived.Test.YtnkcnfpbbdlifabPHci
namespace Go.Proofs.Ytnkcnfpbbdlifab
open Go.RowKit
set_option linter.unusedVariables false

set_option maxRecDepth 20000 in
set_option maxHeartbeats 4000000 in
theorem sink_i {α : Type} (hb a n g cap base : Nat) (kf pv : Value) (H : List (Hd α)) (hn : H.length = n) (hn2 : n ≤ 4000000) (ha : a ≤ n) (w : World) (hp : Hpm 73 76 w hb base kf (.slice (some ⟨g, 0, none⟩) n cap) pv H) (hR : SinkOn H a) :
    Calls Try.prog 41 #[.pointer (some ⟨hb, 0, none⟩), .int .i64 (a : Int)] w fun e w' => e = .returned (.tuple #[]) ∧ (∃ H', H'.Perm H ∧ HeapOn H' ∧ HR 76 w' base (.slice (some ⟨g, 0, none⟩) n cap) H') ∧ Gx (fun q => q = g) w w' := by
  obtain ⟨hh, hr, ne⟩ := hp
  have gne : g ≠ hb := ne g rfl
  have HB : Aside (w.heap[hb]? = some (.cells #[kf, .slice (some ⟨g, 0, none⟩) n cap, pv] 73 (0, 0))) := hh
  have BL : Hid (∀ (a : Nat) (H : List (Hd α)) (W : World), H.length = n → a ≤ 4000000 → W.heap[hb]? = some (.cells #[kf, .slice (some ⟨g, 0, none⟩) n cap, pv] 73 (0, 0)) → HR 76 W base (.slice (some ⟨g, 0, none⟩) n cap) H → Calls Try.prog 45 #[.pointer (some ⟨hb, 0, none⟩), .int .i64 (a : Int)] W fun e w' => (∃ d : Nat, e = .returned (.int .i64 (d : Int)) ∧ BelowR H a d) ∧ Gw W w') := fun a H W h1 h2 h3 h4 => below_i hb a n g cap base kf pv H h1 hn2 h2 W h3 h4
  have hbl : hb < w.heap.size := blkl hh
  have ncap := (hr_cells hr hn).2.1
  have R0 : Aside (HR 76 w base (.slice (some ⟨g, 0, none⟩) n cap) H) := hr
  have RI0 : Aside (SinkOn H a) := hR
  have LN : Aside (H.length = n) := hn
  clear hh hr ne hR hn
  go_enter Try.func41, Try.ntmps41
  go_wp2_with fail
  go_loopg [1] (n - a) (fun gg s1 wr => ∃ (b : Nat) (H' : List (Hd α)), s1 = .int .i64 (b : Int) ∧ b ≤ n ∧ n - b ≤ gg ∧ Aside (SinkOn H' b ∧ H'.Perm H ∧ H'.length = n ∧ HR 76 wr base (.slice (some ⟨g, 0, none⟩) n cap) H') ∧ Aside (Gx (fun q => q = g) w wr))
  case atStart => exact ⟨a, H, rfl, ha, Nat.le_refl _, ⟨RI0.out, List.Perm.refl _, LN.out, R0.out⟩, Gx.refl _ _⟩
  case round =>
    obtain ⟨b, H', rfl, bn, bg, HH, GG⟩ := hrel
    have hcell : wr.heap[hb]? = some (.cells #[kf, .slice (some ⟨g, 0, none⟩) n cap, pv] 73 (0, 0)) := (GG.out.block _ hbl (fun e => gne e.symm)).trans HB.out
    have HBr : Aside (wr.heap[hb]? = some (.cells #[kf, .slice (some ⟨g, 0, none⟩) n cap, pv] 73 (0, 0))) := hcell
    clear hcell
    go_wp2_with fail
    refine (BL.out b H' _ HH.out.2.2.1 (by omega) HBr.out HH.out.2.2.2).mono ?_
    rintro ex u5 ⟨⟨d, rfl, hd⟩, g5⟩
    have HD : Aside (BelowR H' b d) := hd
    have RX : Aside (HR 76 u5 base (.slice (some ⟨g, 0, none⟩) n cap) H') := hr_gw HH.out.2.2.2 g5
    have GX : Aside (Gx (fun q => q = g) w u5) := GG.out.tw g5
    have HB5 : Aside (u5.heap[hb]? = some (.cells #[kf, .slice (some ⟨g, 0, none⟩) n cap, pv] 73 (0, 0))) := (g5.below.block _ (blkl HBr.out)).trans HBr.out
    clear hd g5
    by_cases db : d = b
    · subst db
      have db' : ((d : Int) == (d : Int)) = true := by simp
      have DD : Aside (HeapOn H') := HH.out.1.done (by
        rcases HD.out with q | q
        · exact q.2
        · exact absurd q.1 (Nat.lt_irrefl _))
      go_wp2_with fail
      refine bodyPost_ret (results_none rfl _ _ _) rfl ?_
      exact ⟨rfl, ⟨H', HH.out.2.1, DD.out, RX.out⟩, GX.out⟩
    · have db' : ((d : Int) == (b : Int)) = false := by simp; omega
      have HD2 : Aside (b < d ∧ d < H'.length ∧ (d - 1) / 2 = b ∧ (gt H' d).lt (gt H' b) ∧ ∀ c, 0 < c → c < H'.length → (c - 1) / 2 = b → ¬ (gt H' c).lt (gt H' d)) := by
        rcases HD.out with q | q
        · exact absurd q.1 db
        · exact q
      have dn : d < n := by have := HD2.out.2.1; rw [HH.out.2.2.1] at this; exact this
      have bd : b < d := HD2.out.1
      have bn' : b < n := by omega
      have DD : Aside (SinkOn (swp H' b d) d) := HH.out.1.step bd HD2.out.2.1 HD2.out.2.2.1 HD2.out.2.2.2.1 HD2.out.2.2.2.2
      have PRM : Aside ((swp H' b d).Perm H ∧ (swp H' b d).length = n) := ⟨(swp_perm H' (by rw [HH.out.2.2.1]; exact bn') HD2.out.2.1).trans HH.out.2.1, by rw [swp_len]; exact HH.out.2.2.1⟩
      obtain ⟨x, hx⟩ : ∃ x, gt H' b = x := ⟨_, rfl⟩
      obtain ⟨y, hy⟩ : ∃ y, gt H' d = y := ⟨_, rfl⟩
      have hcs := (hr_cells RX.out HH.out.2.2.1).2.2.2
      have fz := (hr_cells RX.out HH.out.2.2.1).1
      obtain ⟨e0, e1, e2⟩ := hcs b bn'
      obtain ⟨f0, f1, f2⟩ := hcs d dn
      obtain ⟨W1, W2, E1, E2, RY, kp, fz', ⟨r0, r1, r2⟩, g2⟩ := swp_facts RX.out HH.out.2.2.1 bn' dn (by omega) hx hy
      rw [hx] at e0 e1 e2
      rw [hy] at f0 f1 f2
      have RYY : Aside (HR 76 W2 base (.slice (some ⟨g, 0, none⟩) n cap) (swp H' b d)) := RY
      have G2 : Aside (Gx (fun q => q = g) w W2) := GX.out.trans g2 (fun q hq => .inl hq)
      have t0 : u5.cell? ⟨hb, 1, none⟩ = some (.slice (some ⟨g, 0, none⟩) n cap) := blkc HB5.out rfl
      have t0' : W1.cell? ⟨hb, 1, none⟩ = some (.slice (some ⟨g, 0, none⟩) n cap) := by
        have e : W1.heap[hb]? = u5.heap[hb]? := kp hb (fun e => gne e.symm)
        rw [World.cell?_of_block e]; exact t0
      have fz0 := fz (b * 3)
      have fz1 := fz (b * 3 + 1)
      have fz2 := fz (b * 3 + 2)
      have fz3 := fz' (d * 3)
      have fz4 := fz' (d * 3 + 1)
      have fz5 := fz' (d * 3 + 2)
      obtain ⟨xk, xi, ⟨xb, xo, xc, xl⟩⟩ := x
      obtain ⟨yk, yi, ⟨yb, yo, yc, yl⟩⟩ := y
      simp only [puth, Lst.v] at e2 f2 E1 E2 r2
      obtain ⟨xn, hxn⟩ : ∃ m, xl.length = m := ⟨_, rfl⟩
      obtain ⟨yn, hyn⟩ : ∃ m, yl.length = m := ⟨_, rfl⟩
      rw [hxn] at e2 E2
      rw [hyn] at f2 E1 r2
      clear fz fz' kp RY g2 hx hy hcs hxn hyn BL
      have gne' : hb ≠ g := fun e => gne e.symm
      go_wp2_with fail
      go_big_region
      go_wp2_with fail
      go_roundg (n - d)
      case measure => omega
      case rel => exact ⟨d, swp H' b d, rfl, by omega, Nat.le_refl _, ⟨DD.out, PRM.out.1, PRM.out.2, RYY.out⟩, (show Aside _ from G2.out.drew)⟩
end Go.Proofs.Ytnkcnfpbbdlifab
