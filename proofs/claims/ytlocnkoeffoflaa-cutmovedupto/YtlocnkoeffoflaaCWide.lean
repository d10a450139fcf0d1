/- What package hull calls: products and comparisons of package wide, lowest terms of package ratio. -/
import Derived.Test.YtlocnkoeffoflaaR4Fit
import Derived.Test.YtlocnkoeffoflaaHGrow
import Derived.Test.YtlocnkoeffoflaaNGrow
import Derived.Test.YtlocnkoeffoflaaMath
import Derived.Test.YtlocnkoeffoflaaShelf
import Derived.Test.YtlocnkoeffoflaaCPlain
namespace Go.Proofs.Ytlocnkoeffoflaa
open Go.RowKit Go.Shelf
set_option linter.unusedVariables false

theorem mul64 (x y : Int) (hx : 0 ≤ x) (hx' : x < 18446744073709551616) (hy : 0 ≤ y) (hy' : y < 18446744073709551616) (w : World) :
    Calls Try.prog 37 #[.int .u64 x, .int .u64 y] w fun e w' => e = .returned (.tuple #[.int .u64 (x * y / 18446744073709551616), .int .u64 (x * y % 18446744073709551616)]) ∧ w' = w := by
  obtain ⟨x, rfl⟩ := Int.eq_ofNat_of_zero_le hx
  obtain ⟨y, rfl⟩ := Int.eq_ofNat_of_zero_le hy
  have := Try.bits_Mul64 x y (by omega) (by omega) w
  simpa using this

set_option maxHeartbeats 400000 in
theorem times_any (a b : Int) (h0 : -9223372036854775808 ≤ a) (h1 : a < 9223372036854775808) (b0 : 0 ≤ b) (b1 : b < 18446744073709551616) (w : World) :
    Calls Try.prog 34 #[.int .i64 a, .int .u64 b] w fun e w' => e = .returned (.agg #[.int .i64 (hiv (a * b)), .int .u64 (lov (a * b))]) ∧ Gk 1 w w' := by
  obtain ⟨c1, c2⟩ := u64w_bd a
  by_cases hn : a < 0
  · go_enter Try.func34, Try.ntmps34
    go_wp2_with (go_at_call 37; refine (mul64 _ _ c1 c2 b0 b1 _).mono ?_; rintro e w' ⟨rfl, rfl⟩)
    simp [bodyPost, results, Try.results34, go_sem]
    refine ⟨⟨times_hi a b h0 h1 hn, times_lo a b⟩, (Gb.refl _).alloc _ _, by simp⟩
  · go_enter Try.func34, Try.ntmps34
    go_wp2_with (go_at_call 37; refine (mul64 a b (by omega) (by omega) b0 b1 _).mono ?_; rintro e w' ⟨rfl, rfl⟩)
    simp [bodyPost, results, Try.results34, go_sem]
    refine ⟨⟨times_hi' a b, rfl⟩, (Gb.refl _).alloc _ _, by simp⟩

set_option maxHeartbeats 1000000 in
theorem cmp_any (x y : Int) (w : World) :
    Calls Try.prog 33 #[.agg #[.int .i64 (hiv (x)), .int .u64 (lov (x))], .agg #[.int .i64 (hiv (y)), .int .u64 (lov (y))]] w fun e w' => e = .returned (.int .i64 (cmpi (sv x) (sv y))) ∧ Gk 2 w w' := by
  have i1 := sv_inj x y
  have i2 := sv_lt x y
  by_cases g1 : hiv x = hiv y
  · by_cases g2 : lov x = lov y
    · have e : cmpi (sv x) (sv y) = 0 := by unfold cmpi; rw [if_neg (by omega), if_pos (by omega)]
      rw [e, g1, g2]; clear i1 i2 e
      go_enter Try.func33, Try.ntmps33
      go_wp2
      go_ret
      exact ⟨rfl, ((Gb.refl _).alloc _ _).alloc _ _, by simp⟩
    · have f1 : (lov x == lov y) = false := by simpa using g2
      by_cases g3 : lov x < lov y
      · have e : cmpi (sv x) (sv y) = -1 := by unfold cmpi; rw [if_pos (by omega)]
        rw [e, g1]; clear i1 i2 e
        go_enter Try.func33, Try.ntmps33
        go_wp2
        go_ret
        exact ⟨rfl, ((Gb.refl _).alloc _ _).alloc _ _, by simp⟩
      · have e : cmpi (sv x) (sv y) = 1 := by unfold cmpi; rw [if_neg (by omega), if_neg (by omega)]
        rw [e, g1]; clear i1 i2 e
        go_enter Try.func33, Try.ntmps33
        go_wp2
        go_ret
        exact ⟨rfl, ((Gb.refl _).alloc _ _).alloc _ _, by simp⟩
  · have f1 : (hiv x == hiv y) = false := by simpa using g1
    by_cases g3 : hiv x < hiv y
    · have e : cmpi (sv x) (sv y) = -1 := by unfold cmpi; rw [if_pos (by omega)]
      rw [e]; clear i1 i2 e
      go_enter Try.func33, Try.ntmps33
      go_wp2
      go_ret
      exact ⟨rfl, ((Gb.refl _).alloc _ _).alloc _ _, by simp⟩
    · have e : cmpi (sv x) (sv y) = 1 := by unfold cmpi; rw [if_neg (by omega), if_neg (by omega)]
      rw [e]; clear i1 i2 e
      go_enter Try.func33, Try.ntmps33
      go_wp2
      go_ret
      exact ⟨rfl, ((Gb.refl _).alloc _ _).alloc _ _, by simp⟩


def lowv (num den : Nat) : Value := .tuple #[.agg #[.int .u64 ((num / num.gcd den : Nat) : Int), .int .u64 ((den / num.gcd den : Nat) : Int)], .int .i64 0]



theorem mulbd {a b : Int} (a0 : -100000000 ≤ a) (a1 : a ≤ 100000000) (b0 : 0 ≤ b) (b1 : b < 18446744073709551616) : -170141183460469231731687303715884105728 ≤ a * b ∧ a * b < 170141183460469231731687303715884105728 := by
  have h1 : a * b ≤ 100000000 * b := Int.mul_le_mul_of_nonneg_right a1 b0
  have h2 : -100000000 * b ≤ a * b := Int.mul_le_mul_of_nonneg_right a0 b0
  omega

set_option maxHeartbeats 1000000 in
/-- Which of two slopes is the steeper. -/
theorem compare_any (a b c d : Int) (a0 : -100000000 ≤ a) (a1 : a ≤ 100000000) (b0 : 0 ≤ b) (b1 : b < 18446744073709551616) (c0 : -100000000 ≤ c) (c1 : c ≤ 100000000) (d0 : 0 ≤ d) (d1 : d < 18446744073709551616) (w : World) :
    Calls Try.prog 31 #[.agg #[.int .i64 a, .int .u64 b], .agg #[.int .i64 c, .int .u64 d]] w fun e w' => e = .returned (.int .i64 (cmpi (a * d) (c * b))) ∧ Gw w w' := by
  obtain ⟨p1, p2⟩ := mulbd a0 a1 d0 d1
  obtain ⟨q1, q2⟩ := mulbd c0 c1 b0 b1
  have T1 : Hid (∀ w, Calls Try.prog 34 #[.int .i64 a, .int .u64 d] w fun e w' => e = .returned (.agg #[.int .i64 (hiv (a * d)), .int .u64 (lov (a * d))]) ∧ Gk 1 w w') := fun w => times_any a d (by omega) (by omega) d0 d1 w
  have T2 : Hid (∀ w, Calls Try.prog 34 #[.int .i64 c, .int .u64 b] w fun e w' => e = .returned (.agg #[.int .i64 (hiv (c * b)), .int .u64 (lov (c * b))]) ∧ Gk 1 w w') := fun w => times_any c b (by omega) (by omega) b0 b1 w
  have T3 : Hid (∀ w, Calls Try.prog 33 #[.agg #[.int .i64 (hiv (a * d)), .int .u64 (lov (a * d))], .agg #[.int .i64 (hiv (c * b)), .int .u64 (lov (c * b))]] w fun e w' => e = .returned (.int .i64 (cmpi (a * d) (c * b))) ∧ Gk 2 w w') := by
    show ∀ w, Calls Try.prog 33 #[.agg #[.int .i64 (hiv (a * d)), .int .u64 (lov (a * d))], .agg #[.int .i64 (hiv (c * b)), .int .u64 (lov (c * b))]] w fun e w' => e = .returned (.int .i64 (cmpi (a * d) (c * b))) ∧ Gk 2 w w'
    intro w
    have := cmp_any (a * d) (c * b) w
    rw [sv_of _ p1 p2, sv_of _ q1 q2] at this
    exact this
  clear p1 p2 q1 q2
  generalize a * d = ad at T1 T3 ⊢
  generalize c * b = cb at T2 T3 ⊢
  generalize cmpi ad cb = r at T3 ⊢
  have GG : Hid (Gw w ((w.alloc (.cells #[.int .i64 a, .int .u64 b] 52)).alloc (.cells #[.int .i64 c, .int .u64 d] 52))) := ((Gw.refl w).alloc _ _).alloc _ _
  have N : ∀ W : World, Nonempty (GW W) := GW.some
  go_enter Try.func31, Try.ntmps31
  go_wp2_with fail
  have k0 := GW.cell (W := (w.alloc (.cells #[.int .i64 a, .int .u64 b] 52)).alloc (.cells #[.int .i64 c, .int .u64 d] 52)) (b := w.heap.size) (o := 0) (v := .int .i64 a) (by simp [go_sem]) (by simp; omega)
  have k1 := GW.cell (W := (w.alloc (.cells #[.int .i64 a, .int .u64 b] 52)).alloc (.cells #[.int .i64 c, .int .u64 d] 52)) (b := w.heap.size) (o := 1) (v := .int .u64 b) (by simp [go_sem]) (by simp; omega)
  have k2 := GW.cell (W := (w.alloc (.cells #[.int .i64 a, .int .u64 b] 52)).alloc (.cells #[.int .i64 c, .int .u64 d] 52)) (b := w.heap.size + 1) (o := 0) (v := .int .i64 c) (by simp [go_sem]) (by simp)
  have k3 := GW.cell (W := (w.alloc (.cells #[.int .i64 a, .int .u64 b] 52)).alloc (.cells #[.int .i64 c, .int .u64 d] 52)) (b := w.heap.size + 1) (o := 1) (v := .int .u64 d) (by simp [go_sem]) (by simp)
  have NN := N ((w.alloc (.cells #[.int .i64 a, .int .u64 b] 52)).alloc (.cells #[.int .i64 c, .int .u64 d] 52))
  refine wp_region_grow (by kernel_rfl) (by kernel_rfl) ?_
  repeat (go_big_quiet_step (fail))
  go_big_quiet_want
  go_big_quiet_op
  go_big_quiet_call (exact grow_ofk (T1.out _))
  repeat (go_big_quiet_step (fail))
  go_big_quiet_want
  go_big_quiet_op
  go_big_quiet_call (exact grow_ofk (T2.out _))
  repeat (go_big_quiet_step (fail))
  go_big_quiet_want
  go_big_quiet_op
  go_big_quiet_call (exact grow_ofk (T3.out _))
  repeat (go_big_quiet_step (fail))
  refine wpQuiet_nil ?_
  rintro _ ⟨g, rfl⟩
  go_wp2
  go_ret
  exact ⟨rfl, GG.out.trans g.2.gw⟩

set_option maxHeartbeats 1000000 in
/-- The slope from one point to another. -/
theorem between_any (xa ya xb yb : Int) (xa0 : 0 ≤ xa) (hx : xa < xb) (xb1 : xb < 18446744073709551616) (ya0 : -100000000 ≤ ya) (ya1 : ya ≤ 100000000) (yb0 : -100000000 ≤ yb) (yb1 : yb ≤ 100000000) (w : World) :
    Calls Try.prog 29 #[.agg #[.int .u64 xa, .int .i64 ya], .agg #[.int .u64 xb, .int .i64 yb]] w fun e w' => e = .returned (.agg #[.int .i64 (yb - ya), .int .u64 (xb - xa)]) ∧ Gw w w' := by
  have e1 : IntKind.u64.wrap (xb - xa) = xb - xa := by rw [IntKind.wrap_u64]; omega
  have e2 : IntKind.i64.wrap (yb - ya) = yb - ya := by rw [IntKind.wrap_i64]; omega
  go_enter Try.func29, Try.ntmps29
  go_wp2
  refine bodyPost_ret (v := .agg #[.int .i64 (yb - ya), .int .u64 (xb - xa)]) (by simp [results, Try.results29, go_sem]) rfl ⟨rfl, ?_⟩
  first
    | exact ((((Gw.refl w).alloc _ _).alloc _ _).alloc _ _)
    | exact (((((Gw.refl w).alloc _ _).alloc _ _).alloc _ _).setCell (by simp) _).setCell (by simp) _


end Go.Proofs.Ytlocnkoeffoflaa
