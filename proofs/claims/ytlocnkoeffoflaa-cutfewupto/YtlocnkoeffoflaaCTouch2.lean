/- touch and touched, over a chain in memory. -/
import Derived.Test.YtlocnkoeffoflaaCTouch
namespace Go.Proofs.Ytlocnkoeffoflaa
open Go.RowKit
set_option linter.unusedVariables false

/-- A chain in memory, at the place o of block p: it bends by s; its points have the places c, their heights are h above these. -/
structure CH (w : World) (p o g m cap : Nat) (s h : Int) (f : Nat → Int) (n : Nat) (c : Nat → Nat) : Prop where
  lp : p < w.heap.size
  c0 : w.cell? ⟨p, o, none⟩ = some (.int .i64 s)
  c1 : w.cell? ⟨p, o + 1, none⟩ = some (.slice (some ⟨g, 0, none⟩) m cap)
  ps : PS w g m (fun i => f (c i)) (fun i => (c i : Int) + h)
  ch : Chn f (fun j => s * (j : Int)) n m c
theorem CH.gw {w w' : World} {p o g m cap : Nat} {s h : Int} {f : Nat → Int} {n : Nat} {c : Nat → Nat} (k : CH w p o g m cap s h f n c) (G : Gw w w') : CH w' p o g m cap s h f n c :=
  ⟨Nat.lt_of_lt_of_le k.lp G.size, (G.cell _ _ k.lp).trans k.c0, (G.cell _ _ k.lp).trans k.c1, k.ps.gw G, k.ch⟩

/-- What is known of the keys. -/
structure KB (f : Nat → Int) (n : Nat) : Prop where
  up : Up f n
  bd : ∀ i, i < n → 0 ≤ f i ∧ f i < 18446744073709551616
  len : n ≤ 3000001

set_option maxHeartbeats 4000000 in
theorem touch_any {p o g m cap : Nat} {s h : Int} {f : Nat → Int} {n : Nat} {c : Nat → Nat} (kb : KB f n) (hs : s = 1 ∨ s = -1) (h0 : -63 ≤ h) (h1 : h ≤ 63) (x y : Int) (hx : f (n - 1) < x) (x1 : x < 18446744073709551616) (y0 : -10000000 ≤ y) (y1 : y ≤ 10000000) (w : World) (k : CH w p o g m cap s h f n c) :
    Calls Try.prog 32 #[.pointer (some ⟨p, o, none⟩), .agg #[.int .u64 x, .int .i64 y]] w fun e w' => (∃ t : Nat, e = .returned (.int .i64 t) ∧ Tch f (fun j => s * (j : Int)) m c x (s * (y - h)) t) ∧ Gw w w' := by
  have mp := k.ch.pos
  have ml := k.ch.len
  have nl := kb.len
  obtain ⟨q, hq⟩ : ∃ q : Nat, m = q + 1 := ⟨m - 1, by omega⟩
  subst hq
  have W0 : Gw w ((w.alloc (.cells #[.pointer (some ⟨p, o, none⟩)] 68)).alloc (.cells #[.int .u64 x, .int .i64 y] 64)) := ((Gw.refl w).alloc _ _).alloc _ _
  have SE : Hid (Calls Try.prog 35 #[.int .i64 q, .func (.func 36) #[] #[.pointer (some ⟨w.heap.size, 0, none⟩), .pointer (some ⟨w.heap.size + 1, 0, none⟩)]] ((w.alloc (.cells #[.pointer (some ⟨p, o, none⟩)] 68)).alloc (.cells #[.int .u64 x, .int .i64 y] 64)) fun e w' => (∃ t : Nat, e = .returned (.int .i64 t) ∧ Tch f (fun j => s * (j : Int)) (q + 1) c x (s * (y - h)) t) ∧ Gw w w') := by
    have blo : ∀ i, i < q → (decide (s * ((y - ((c i : Int) + h)) * (f (c (i + 1)) - f (c i))) ≤ s * ((((c (i + 1) : Nat) : Int) + h - ((c i : Int) + h)) * (x - f (c i)))) = true ↔ Blo f (fun j => s * (j : Int)) c x (s * (y - h)) i) := by
      intro i hi
      unfold Blo
      have e1 : s * (y - h) - s * (c i : Int) = s * (y - ((c i : Int) + h)) := by rw [← Int.mul_sub]; congr 1; omega
      have e2 : s * ((c (i + 1) : Nat) : Int) - s * (c i : Int) = s * (((c (i + 1) : Nat) : Int) + h - ((c i : Int) + h)) := by rw [← Int.mul_sub]; congr 1; omega
      rw [decide_eq_true_iff]
      show _ ↔ (s * (y - h) - s * (c i : Int)) * _ ≤ (s * ((c (i + 1) : Nat) : Int) - s * (c i : Int)) * _
      rw [e1, e2, Int.mul_assoc, Int.mul_assoc]
    refine (search_any _ q (fun i => decide (s * ((y - ((c i : Int) + h)) * (f (c (i + 1)) - f (c i))) ≤ s * ((((c (i + 1) : Nat) : Int) + h - ((c i : Int) + h)) * (x - f (c i))))) _ (by omega) (fun W GW i hi => ?_) (fun a b hab hb ha => ?_)).mono ?_
    · have b1 := k.ch.bd (show i < q + 1 by omega)
      have b2 := k.ch.bd (show i + 1 < q + 1 by omega)
      have b3 := kb.bd _ b1
      have b4 := kb.bd _ b2
      have b5 := kb.up.lt (k.ch.up i (by omega)) b2
      have b6 := kb.up.le (show c i ≤ n - 1 by omega) (by omega)
      have GG := W0.trans GW
      have kk := k.gw GG
      have sz := GW.size
      simp at sz
      exact touch1_any p o g (q + 1) cap w.heap.size (w.heap.size + 1) s (f (c i)) ((c i : Int) + h) (f (c (i + 1))) (((c (i + 1) : Nat) : Int) + h) x y i (by omega) (by omega) b3.1 b5 (by omega) b4.2 x1 (by omega) (by omega) (by omega) (by omega) y0 y1 hs W (by omega) (by omega) kk.lp kk.ps.lt
        ((GW.cell _ _ (by simp; omega)).trans (by simp [go_sem])) ((GW.cell _ _ (by simp)).trans (by simp [go_sem])) ((GW.cell _ _ (by simp)).trans (by simp [go_sem])) kk.c0 kk.c1 (kk.ps.x i (by omega)) (kk.ps.y i (by omega)) (kk.ps.x (i + 1) (by omega)) (kk.ps.y (i + 1) (by omega))
    · exact (blo b hb).2 (k.ch.mono kb.up hx hab (by omega) ((blo a (by omega)).1 ha))
    · rintro e w' ⟨⟨t, rfl, tq, lo, hi⟩, G⟩
      refine ⟨⟨t, rfl, by omega, fun i hi => ?_, fun i h1 h2 => (blo i (by omega)).1 (hi i h1 (by omega))⟩, W0.trans G⟩
      intro hb
      have := (blo i (by omega)).2 hb
      rw [lo i hi] at this
      cases this
  have cc := k.c1
  have lp := k.lp
  have QQ : IntKind.i64.wrap (((q + 1 : Nat) : Int) - 1) = q := by rw [IntKind.wrap_i64]; omega
  have QQ2 : ((q + 1 : Nat) : Int) - 1 = q := by omega
  clear k W0 kb
  go_enter Try.func32, Try.ntmps32
  go_wp2_with fail
  refine SE.out.mono ?_
  rintro e w1 ⟨⟨t, rfl, ht⟩, g1⟩
  have HT : Hid (Tch f (fun j => s * (j : Int)) (q + 1) c x (s * (y - h)) t) := ht
  have G1 : Hid (Gw w w1) := g1
  clear ht g1
  go_wp2
  go_ret
  exact ⟨⟨t, rfl, HT.out⟩, G1.out⟩

set_option maxHeartbeats 4000000 in
theorem touched_any {p o g m cap : Nat} {s h : Int} {f : Nat → Int} {n : Nat} {c : Nat → Nat} (kb : KB f n) (hs : s = 1 ∨ s = -1) (h0 : -63 ≤ h) (h1 : h ≤ 63) (x y : Int) (hx : f (n - 1) < x) (x1 : x < 18446744073709551616) (y0 : -10000000 ≤ y) (y1 : y ≤ 10000000) (w : World) (k : CH w p o g m cap s h f n c) :
    Calls Try.prog 30 #[.pointer (some ⟨p, o, none⟩), .agg #[.int .u64 x, .int .i64 y]] w fun e w' => (∃ t : Nat, e = .returned (.agg #[.int .u64 (f (c t)), .int .i64 ((c t : Int) + h)]) ∧ Tch f (fun j => s * (j : Int)) m c x (s * (y - h)) t) ∧ Gw w w' := by
  have G0 : Gw w ((w.alloc (.cells #[.int .u64 x, .int .i64 y] 64)).alloc (.cells #[.int .u64 0, .int .i64 0] 64)) := ((Gw.refl w).alloc _ _).alloc _ _
  have TA : Hid (∀ W, Gw w W → Calls Try.prog 32 #[.pointer (some ⟨p, o, none⟩), .agg #[.int .u64 x, .int .i64 y]] W fun e w' => (∃ t : Nat, e = .returned (.int .i64 t) ∧ Tch f (fun j => s * (j : Int)) m c x (s * (y - h)) t) ∧ Gw W w') := fun W G => touch_any kb hs h0 h1 x y hx x1 y0 y1 W (k.gw G)
  have FX : Hid (∀ W, Gw ((w.alloc (.cells #[.int .u64 x, .int .i64 y] 64)).alloc (.cells #[.int .u64 0, .int .i64 0] 64)) W → CH W p o g m cap s h f n c ∧ Bx W (w.heap.size + 1) 64 (.int .u64 0) (.int .i64 0) ∧ Gw w W) := fun W G => ⟨k.gw (G0.trans G), ((Bx.new _ _ _ _).at (by simp)).gw G, G0.trans G⟩
  have KM : m < 100000000 := by have := k.ch.len; have := kb.len; omega
  have cc := k.c1
  have lp := k.lp
  clear k G0 kb
  go_enter Try.func30, Try.ntmps30
  go_wp2_with fail
  go_region_with (go_at_call 32; refine (TA.out _ (((Gw.refl w).alloc _ _).alloc _ _).drew).mono ?_; rintro e w4 ⟨⟨t, rfl, ht⟩, g4⟩; obtain ⟨F1, F2, F3⟩ := FX.out w4 ((Gw.drew (Gw.refl _)).trans g4); have j1 := F1.c1; have j2 := F1.ps.x t ht.lt; have j3 := F1.ps.y t ht.lt; have j4 := F2.c0; have j5 := F2.c1; have j6 := F2.fz 0; have j7 := F2.fz 1; have j8 : (t : Int) < m := (by have := ht.lt; omega); have F1' : Hid (CH w4 p o g m cap s h f n c) := F1; have F2' : Hid (Bx w4 (w.heap.size + 1) 64 (.int .u64 0) (.int .i64 0)) := F2; have F3' : Hid (Gw w w4) := F3; have ht' : Hid (Tch f (fun j => s * (j : Int)) m c x (s * (y - h)) t) := ht; clear F1 F2 F3 ht g4)
  all_goals
    clear j1 j2 j3 j4 j5 j6 j7 j8 cc
    have Y := F2'.out.set (.int .u64 (f (c t))) (.int .i64 ((c t : Int) + h))
    have y0' := Y.c0
    have y1' := Y.c1
    have FG : Hid (Gw w ((w4.setCell ⟨w.heap.size + 1, 0, none⟩ (.int .u64 (f (c t)))).setCell ⟨w.heap.size + 1, 1, none⟩ (.int .i64 ((c t : Int) + h)))) := (F3'.out.setCell (by simp) _).setCell (by simp) _
    clear Y
    go_wp2
    refine bodyPost_ret (v := .agg #[.int .u64 (f (c t)), .int .i64 ((c t : Int) + h)]) (by simp [results, Try.results30, go_sem, y0', y1']) rfl ⟨⟨t, rfl, ht'.out⟩, FG.out⟩

set_option maxHeartbeats 4000000 in
theorem last_any {p o g m cap : Nat} {s h : Int} {f : Nat → Int} {n : Nat} {c : Nat → Nat} (kb : KB f n) (w : World) (k : CH w p o g m cap s h f n c) :
    Calls Try.prog 26 #[.pointer (some ⟨p, o, none⟩)] w fun e w' => e = .returned (.agg #[.int .u64 (f (n - 1)), .int .i64 (((n - 1 : Nat) : Int) + h)]) ∧ Gw w w' := by
  have KM : m < 100000000 := by have := k.ch.len; have := kb.len; omega
  obtain ⟨q, hq⟩ : ∃ q : Nat, m = q + 1 := ⟨m - 1, by have := k.ch.pos; omega⟩
  subst hq
  have cl : c q = n - 1 := by have := k.ch.last; rw [show q + 1 - 1 = q by omega] at this; omega
  have cc := k.c1
  have lp := k.lp
  have lg := k.ps.lt
  have k2 := k.ps.x q (by omega)
  have k3 := k.ps.y q (by omega)
  rw [cl] at k2 k3
  generalize f (n - 1) = fx at k2 ⊢
  generalize ((n - 1 : Nat) : Int) + h = fy at k3 ⊢
  have QQ : IntKind.i64.wrap (((q + 1 : Nat) : Int) - 1) = q := by rw [IntKind.wrap_i64]; omega
  have Q1 : (q : Int) < q + 1 := by omega
  clear k kb cl
  go_enter Try.func26, Try.ntmps26
  go_wp2_with fail
  go_region
  all_goals
    go_wp2
    refine bodyPost_ret (v := .agg #[.int .u64 fx, .int .i64 fy]) (by simp [results, Try.results26, go_sem]) rfl ⟨rfl, ?_⟩
    first
      | exact ((Gw.refl w).alloc _ _).drew
      | exact ((((Gw.refl w).alloc _ _).drew).setCell (by simp) _).setCell (by simp) _

end Go.Proofs.Ytlocnkoeffoflaa
