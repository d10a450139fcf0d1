/- The point of a chain that a new one touches. -/
import Derived.Test.YtlocnkoeffoflaaCSearch
namespace Go.Proofs.Ytlocnkoeffoflaa
open Go.RowKit
set_option linter.unusedVariables false

/-- m points in memory, two cells each. -/
structure PS (w : World) (g m : Nat) (X Y : Nat → Int) : Prop where
  lt : g < w.heap.size
  x : ∀ i, i < m → w.cell? ⟨g, i * 2, none⟩ = some (.int .u64 (X i))
  y : ∀ i, i < m → w.cell? ⟨g, i * 2 + 1, none⟩ = some (.int .i64 (Y i))
theorem PS.gw {w w' : World} {g m : Nat} {X Y : Nat → Int} (h : PS w g m X Y) (k : Gw w w') : PS w' g m X Y :=
  ⟨Nat.lt_of_lt_of_le h.lt k.size, fun i hi => (k.cell _ _ h.lt).trans (h.x i hi), fun i hi => (k.cell _ _ h.lt).trans (h.y i hi)⟩

/-- Two new variables of two cells each. -/
structure Two (w W : World) (a0 a1 b0 b1 : Value) : Prop where
  gw : Gw w W
  a0 : W.cell? ⟨w.heap.size, 0, none⟩ = some a0
  a1 : W.cell? ⟨w.heap.size, 1, none⟩ = some a1
  b0 : W.cell? ⟨w.heap.size + 1, 0, none⟩ = some b0
  b1 : W.cell? ⟨w.heap.size + 1, 1, none⟩ = some b1
  size : W.heap.size = w.heap.size + 2
theorem two_new (w : World) (t t' : TypeId) (a0 a1 b0 b1 : Value) : Two w ((w.alloc (.cells #[a0, a1] t)).alloc (.cells #[b0, b1] t')).drew a0 a1 b0 b1 :=
  ⟨(((Gw.refl w).alloc _ _).alloc _ _).drew, by simp [go_sem], by simp [go_sem], by simp [go_sem], by simp [go_sem], by simp [go_sem]⟩

theorem cmpi_bd (u v : Int) : -1 ≤ cmpi u v ∧ cmpi u v ≤ 1 := by
  unfold cmpi
  split
  · omega
  · split <;> omega

set_option maxHeartbeats 4000000 in
theorem touch1_any (p o g m cap bc bp : Nat) (s xa ya xb yb x y : Int) (i : Nat) (hi : i + 1 < m) (hm : m < 100000000) (xa0 : 0 ≤ xa) (hab : xa < xb) (hbx : xa < x) (xb1 : xb < 18446744073709551616) (x1 : x < 18446744073709551616)
    (ya0 : -10000000 ≤ ya) (ya1 : ya ≤ 10000000) (yb0 : -10000000 ≤ yb) (yb1 : yb ≤ 10000000) (y0 : -10000000 ≤ y) (y1 : y ≤ 10000000) (hs : s = 1 ∨ s = -1) (w : World)
    (l1 : bc < w.heap.size) (l2 : bp < w.heap.size) (l3 : p < w.heap.size) (l4 : g < w.heap.size)
    (h1 : w.cell? ⟨bc, 0, none⟩ = some (.pointer (some ⟨p, o, none⟩))) (h2 : w.cell? ⟨bp, 0, none⟩ = some (.int .u64 x)) (h3 : w.cell? ⟨bp, 1, none⟩ = some (.int .i64 y))
    (h4 : w.cell? ⟨p, o, none⟩ = some (.int .i64 s)) (h5 : w.cell? ⟨p, o + 1, none⟩ = some (.slice (some ⟨g, 0, none⟩) m cap))
    (k1 : w.cell? ⟨g, i * 2, none⟩ = some (.int .u64 xa)) (k2 : w.cell? ⟨g, i * 2 + 1, none⟩ = some (.int .i64 ya))
    (k3 : w.cell? ⟨g, (i + 1) * 2, none⟩ = some (.int .u64 xb)) (k4 : w.cell? ⟨g, (i + 1) * 2 + 1, none⟩ = some (.int .i64 yb)) :
    Calls Try.prog 36 (#[.int .i64 i] ++ #[.pointer (some ⟨bc, 0, none⟩), .pointer (some ⟨bp, 0, none⟩)]) w fun e w' => e = .returned (.bool (decide (s * ((y - ya) * (xb - xa)) ≤ s * ((yb - ya) * (x - xa))))) ∧ Gw w w' := by
  have B1 : Hid (∀ W, Calls Try.prog 29 #[.agg #[.int .u64 xa, .int .i64 ya], .agg #[.int .u64 x, .int .i64 y]] W fun e w' => e = .returned (.agg #[.int .i64 (y - ya), .int .u64 (x - xa)]) ∧ Gw W w') := fun W => between_any xa ya x y xa0 hbx x1 (by omega) (by omega) (by omega) (by omega) W
  have B2 : Hid (∀ W, Calls Try.prog 29 #[.agg #[.int .u64 xa, .int .i64 ya], .agg #[.int .u64 xb, .int .i64 yb]] W fun e w' => e = .returned (.agg #[.int .i64 (yb - ya), .int .u64 (xb - xa)]) ∧ Gw W w') := fun W => between_any xa ya xb yb xa0 hab xb1 (by omega) (by omega) (by omega) (by omega) W
  have B3 : Hid (∀ W, Calls Try.prog 31 #[.agg #[.int .i64 (y - ya), .int .u64 (x - xa)], .agg #[.int .i64 (yb - ya), .int .u64 (xb - xa)]] W fun e w' => e = .returned (.int .i64 (cmpi ((y - ya) * (xb - xa)) ((yb - ya) * (x - xa)))) ∧ Gw W w') := fun W => compare_any _ _ _ _ (by omega) (by omega) (by omega) (by omega) (by omega) (by omega) (by omega) (by omega) W
  have R : Hid (decide (cmpi ((y - ya) * (xb - xa)) ((yb - ya) * (x - xa)) * s ≤ 0) = decide (s * ((y - ya) * (xb - xa)) ≤ s * ((yb - ya) * (x - xa)))) := by
    show decide (cmpi ((y - ya) * (xb - xa)) ((yb - ya) * (x - xa)) * s ≤ 0) = decide (s * ((y - ya) * (xb - xa)) ≤ s * ((yb - ya) * (x - xa)))
    generalize (y - ya) * (xb - xa) = u
    generalize (yb - ya) * (x - xa) = v
    unfold cmpi
    rcases hs with rfl | rfl
    · split
      · simp; omega
      · split
        · simp; omega
        · simp; omega
    · split
      · simp; omega
      · split
        · simp; omega
        · simp; omega
  have CB : -1 ≤ cmpi ((y - ya) * (xb - xa)) ((yb - ya) * (x - xa)) ∧ cmpi ((y - ya) * (xb - xa)) ((yb - ya) * (x - xa)) ≤ 1 := cmpi_bd _ _
  generalize cmpi ((y - ya) * (xb - xa)) ((yb - ya) * (x - xa)) = r at B3 R CB
  have WR : IntKind.i64.wrap (r * s) = r * s := by
    rw [IntKind.wrap_i64]
    rcases hs with rfl | rfl <;> omega
  rw [← R.out]
  clear R
  generalize y - ya = e1 at B1 B3
  generalize x - xa = e2 at B1 B3
  generalize yb - ya = e3 at B2 B3
  generalize xb - xa = e4 at B2 B3
  have hin : (i : Int) < m := by omega
  have hin1 : (i : Int) + 1 < m := by omega
  have hz : 0 ≤ (i : Int) + 1 := by omega
  have hw1 : IntKind.i64.wrap ((i : Int) + 1) = (i : Int) + 1 := by rw [IntKind.wrap_i64]; omega
  go_enter Try.func36, Try.ntmps36
  go_wp2_with fail
  go_region
  · have T := two_new w 64 64 (.int .u64 xa) (.int .i64 ya) (.int .u64 xb) (.int .i64 yb)
    have T' : Hid (Two w ((w.alloc (.cells #[.int .u64 xa, .int .i64 ya] 64)).alloc (.cells #[.int .u64 xb, .int .i64 yb] 64)).drew (.int .u64 xa) (.int .i64 ya) (.int .u64 xb) (.int .i64 yb)) := T
    clear T
    generalize ((w.alloc (.cells #[.int .u64 xa, .int .i64 ya] 64)).alloc (.cells #[.int .u64 xb, .int .i64 yb] 64)).drew = W at T' ⊢
    have q0 := GX.cell T'.out.a0 (by rw [T'.out.size]; omega)
    have q1 := GX.cell T'.out.a1 (by rw [T'.out.size]; omega)
    have q2 := GX.cell T'.out.b0 (by rw [T'.out.size]; omega)
    have q3 := GX.cell T'.out.b1 (by rw [T'.out.size]; omega)
    have q4 := GX.cell ((T'.out.gw.cell bc 0 l1).trans h1) (by rw [T'.out.size]; omega)
    have q5 := GX.cell ((T'.out.gw.cell bp 0 l2).trans h2) (by rw [T'.out.size]; omega)
    have q6 := GX.cell ((T'.out.gw.cell bp 1 l2).trans h3) (by rw [T'.out.size]; omega)
    have q7 := GX.cell ((T'.out.gw.cell p o l3).trans h4) (by rw [T'.out.size]; omega)
    have N := GX.some W
    clear h1 h2 h3 h4 h5 k1 k2 k3 k4 hin hin1 hw1 hz
    go_wp2_with fail
    refine wp_region_growx (by kernel_rfl) (by kernel_rfl) ?_
    repeat (go_big_quiet_step (fail))
    go_big_quiet_want
    go_big_quiet_op
    go_big_quiet_call (exact growx_of (B1.out _))
    repeat (go_big_quiet_step (fail))
    go_big_quiet_want
    go_big_quiet_op
    go_big_quiet_call (exact growx_of (B2.out _))
    repeat (go_big_quiet_step (fail))
    go_big_quiet_want
    go_big_quiet_op
    go_big_quiet_call (exact growx_of (B3.out _))
    repeat (go_big_quiet_step (fail))
    refine wpQuiet_nil ?_
    rintro _ ⟨g, rfl⟩
    go_wp2
    go_ret
    exact ⟨rfl, T'.out.gw.trans g.2⟩
  · have T := two_new w 64 64 (.int .u64 xb) (.int .i64 yb) (.int .u64 xa) (.int .i64 ya)
    have T' : Hid (Two w ((w.alloc (.cells #[.int .u64 xb, .int .i64 yb] 64)).alloc (.cells #[.int .u64 xa, .int .i64 ya] 64)).drew (.int .u64 xb) (.int .i64 yb) (.int .u64 xa) (.int .i64 ya)) := T
    clear T
    generalize ((w.alloc (.cells #[.int .u64 xb, .int .i64 yb] 64)).alloc (.cells #[.int .u64 xa, .int .i64 ya] 64)).drew = W at T' ⊢
    have q0 := GX.cell T'.out.a0 (by rw [T'.out.size]; omega)
    have q1 := GX.cell T'.out.a1 (by rw [T'.out.size]; omega)
    have q2 := GX.cell T'.out.b0 (by rw [T'.out.size]; omega)
    have q3 := GX.cell T'.out.b1 (by rw [T'.out.size]; omega)
    have q4 := GX.cell ((T'.out.gw.cell bc 0 l1).trans h1) (by rw [T'.out.size]; omega)
    have q5 := GX.cell ((T'.out.gw.cell bp 0 l2).trans h2) (by rw [T'.out.size]; omega)
    have q6 := GX.cell ((T'.out.gw.cell bp 1 l2).trans h3) (by rw [T'.out.size]; omega)
    have q7 := GX.cell ((T'.out.gw.cell p o l3).trans h4) (by rw [T'.out.size]; omega)
    have N := GX.some W
    clear h1 h2 h3 h4 h5 k1 k2 k3 k4 hin hin1 hw1 hz
    go_wp2_with fail
    refine wp_region_growx (by kernel_rfl) (by kernel_rfl) ?_
    repeat (go_big_quiet_step (fail))
    go_big_quiet_want
    go_big_quiet_op
    go_big_quiet_call (exact growx_of (B1.out _))
    repeat (go_big_quiet_step (fail))
    go_big_quiet_want
    go_big_quiet_op
    go_big_quiet_call (exact growx_of (B2.out _))
    repeat (go_big_quiet_step (fail))
    go_big_quiet_want
    go_big_quiet_op
    go_big_quiet_call (exact growx_of (B3.out _))
    repeat (go_big_quiet_step (fail))
    refine wpQuiet_nil ?_
    rintro _ ⟨g, rfl⟩
    go_wp2
    go_ret
    exact ⟨rfl, T'.out.gw.trans g.2⟩

end Go.Proofs.Ytlocnkoeffoflaa
