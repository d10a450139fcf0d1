/- What package hull calls: products and comparisons of package wide, lowest terms of package ratio. -/
import Derived.Test.YtncnoaofdflbmabR4Fit
import Derived.Test.YtncnoaofdflbmabHGrow
import Derived.Test.YtncnoaofdflbmabNGrow
import Derived.Test.YtncnoaofdflbmabMath
import Derived.Test.YtncnoaofdflbmabShelf
import Derived.Test.YtncnoaofdflbmabCPlain
namespace Go.Proofs.Ytncnoaofdflbmab
open Go.RowKit Go.Shelf
set_option linter.unusedVariables false

theorem mul64 (x y : Int) (hx : 0 ≤ x) (hx' : x < 18446744073709551616) (hy : 0 ≤ y) (hy' : y < 18446744073709551616) (w : World) :
    Calls Try.prog 52 #[.int .u64 x, .int .u64 y] w fun e w' => e = .returned (.tuple #[.int .u64 (x * y / 18446744073709551616), .int .u64 (x * y % 18446744073709551616)]) ∧ w' = w := by
  obtain ⟨x, rfl⟩ := Int.eq_ofNat_of_zero_le hx
  obtain ⟨y, rfl⟩ := Int.eq_ofNat_of_zero_le hy
  have := Try.bits_Mul64 x y (by omega) (by omega) w
  simpa using this

set_option maxHeartbeats 400000 in
theorem times_any (a b : Int) (h0 : -9223372036854775808 ≤ a) (h1 : a < 9223372036854775808) (b0 : 0 ≤ b) (b1 : b < 18446744073709551616) (w : World) :
    Calls Try.prog 33 #[.int .i64 a, .int .u64 b] w fun e w' => e = .returned (.agg #[.int .i64 (hiv (a * b)), .int .u64 (lov (a * b))]) ∧ Gk 1 w w' := by
  obtain ⟨c1, c2⟩ := u64w_bd a
  by_cases hn : a < 0
  · go_enter Try.func33, Try.ntmps33
    go_wp2_with (go_at_call 52; refine (mul64 _ _ c1 c2 b0 b1 _).mono ?_; rintro e w' ⟨rfl, rfl⟩)
    simp [bodyPost, results, Try.results33, go_sem]
    refine ⟨⟨times_hi a b h0 h1 hn, times_lo a b⟩, (Gb.refl _).alloc _ _, by simp⟩
  · go_enter Try.func33, Try.ntmps33
    go_wp2_with (go_at_call 52; refine (mul64 a b (by omega) (by omega) b0 b1 _).mono ?_; rintro e w' ⟨rfl, rfl⟩)
    simp [bodyPost, results, Try.results33, go_sem]
    refine ⟨⟨times_hi' a b, rfl⟩, (Gb.refl _).alloc _ _, by simp⟩

set_option maxHeartbeats 1000000 in
theorem cmp_any (x y : Int) (w : World) :
    Calls Try.prog 34 #[.agg #[.int .i64 (hiv (x)), .int .u64 (lov (x))], .agg #[.int .i64 (hiv (y)), .int .u64 (lov (y))]] w fun e w' => e = .returned (.int .i64 (cmpi (sv x) (sv y))) ∧ Gk 2 w w' := by
  have i1 := sv_inj x y
  have i2 := sv_lt x y
  by_cases g1 : hiv x = hiv y
  · by_cases g2 : lov x = lov y
    · have e : cmpi (sv x) (sv y) = 0 := by unfold cmpi; rw [if_neg (by omega), if_pos (by omega)]
      rw [e, g1, g2]; clear i1 i2 e
      go_enter Try.func34, Try.ntmps34
      go_wp2
      go_ret
      exact ⟨rfl, ((Gb.refl _).alloc _ _).alloc _ _, by simp⟩
    · have f1 : (lov x == lov y) = false := by simpa using g2
      by_cases g3 : lov x < lov y
      · have e : cmpi (sv x) (sv y) = -1 := by unfold cmpi; rw [if_pos (by omega)]
        rw [e, g1]; clear i1 i2 e
        go_enter Try.func34, Try.ntmps34
        go_wp2
        go_ret
        exact ⟨rfl, ((Gb.refl _).alloc _ _).alloc _ _, by simp⟩
      · have e : cmpi (sv x) (sv y) = 1 := by unfold cmpi; rw [if_neg (by omega), if_neg (by omega)]
        rw [e, g1]; clear i1 i2 e
        go_enter Try.func34, Try.ntmps34
        go_wp2
        go_ret
        exact ⟨rfl, ((Gb.refl _).alloc _ _).alloc _ _, by simp⟩
  · have f1 : (hiv x == hiv y) = false := by simpa using g1
    by_cases g3 : hiv x < hiv y
    · have e : cmpi (sv x) (sv y) = -1 := by unfold cmpi; rw [if_pos (by omega)]
      rw [e]; clear i1 i2 e
      go_enter Try.func34, Try.ntmps34
      go_wp2
      go_ret
      exact ⟨rfl, ((Gb.refl _).alloc _ _).alloc _ _, by simp⟩
    · have e : cmpi (sv x) (sv y) = 1 := by unfold cmpi; rw [if_neg (by omega), if_neg (by omega)]
      rw [e]; clear i1 i2 e
      go_enter Try.func34, Try.ntmps34
      go_wp2
      go_ret
      exact ⟨rfl, ((Gb.refl _).alloc _ _).alloc _ _, by simp⟩

theorem divisor_any (a b : Nat) (ha : a < 18446744073709551616) (hb : b < 18446744073709551616) (w : World) :
    Calls Try.prog 57 #[.int .u64 a, .int .u64 b] w fun e w' => e = .returned (.int .u64 (Nat.gcd a b : Nat)) ∧ w' = w := by
  go_enter Try.func57, Try.ntmps57
  go_wp2
  go_loop [0, 1] (fun p q => ∃ c d : Nat, p = .int .u64 c ∧ q = .int .u64 d ∧ c < 18446744073709551616 ∧ d < 18446744073709551616 ∧ Hid (Nat.gcd c d = Nat.gcd a b)) (fun p _ => (intOf p).toNat)
  case atStart => exact ⟨a, b, rfl, rfl, ha, hb, rfl⟩
  case round =>
    obtain ⟨c, d, rfl, rfl, hc, hd, hg⟩ := hrel
    by_cases h : c = 0
    · have h1 : ((c : Int) == 0) = true := by simp; omega
      have e : Hid (a.gcd b = d) := by
        have := hg.out
        rw [h, Nat.gcd_zero_left] at this
        exact this.symm
      clear hg h
      go_wp2
      go_ret
      exact ⟨by rw [e.out]; rfl, rfl⟩
    · have h1 : ((c : Int) == 0) = false := by simp; omega
      have h2 : (d : Int) % c = ((d % c : Nat) : Int) := (Int.natCast_emod d c).symm
      have h3 : d % c < c := Nat.mod_lt _ (by omega)
      go_wp2
      exact ⟨⟨d % c, c, by first | rfl | rw [h2], rfl, by omega, hc, show _ = _ by rw [← hg.out]; exact (Nat.gcd_rec c d).symm⟩, by simp [intOf]; omega⟩

def lowv (num den : Nat) : Value := .tuple #[.agg #[.int .u64 ((num / num.gcd den : Nat) : Int), .int .u64 ((den / num.gcd den : Nat) : Int)], .int .i64 0]

set_option maxHeartbeats 400000 in
theorem lowest_any (num den : Nat) (hn : num < 18446744073709551616) (hd : den < 18446744073709551616) (h0 : 0 < den) (w : World) :
    Calls Try.prog 41 #[.int .u64 num, .int .u64 den] w fun e w' => e = .returned (lowv num den) ∧ Gb w w' := by
  have hg : 0 < num.gcd den := Nat.gcd_pos_of_pos_right _ h0
  have h1 : ((den : Int) == 0) = false := by simp; omega
  have h2 : ((num.gcd den : Int) == 0) = false := by simp; omega
  have e1 : (num : Int) / (num.gcd den : Nat) = ((num / num.gcd den : Nat) : Int) := (Int.natCast_ediv _ _).symm
  have e2 : (den : Int) / (num.gcd den : Nat) = ((den / num.gcd den : Nat) : Int) := (Int.natCast_ediv _ _).symm
  have b1 : num / num.gcd den < 18446744073709551616 := Nat.lt_of_le_of_lt (Nat.div_le_self _ _) hn
  have b2 : den / num.gcd den < 18446744073709551616 := Nat.lt_of_le_of_lt (Nat.div_le_self _ _) hd
  unfold lowv
  generalize num / num.gcd den = a at *
  generalize den / num.gcd den = b at *
  generalize hG : num.gcd den = G at *
  go_enter Try.func41, Try.ntmps41
  go_wp2_with (go_at_call 57; refine (divisor_any num den hn hd _).mono ?_; rw [hG]; rintro e w' ⟨rfl, rfl⟩)
  go_region
  all_goals
    go_wp2
    refine bodyPost_ret (v := .tuple #[.agg #[.int .u64 a, .int .u64 b], .int .i64 0]) (by simp [results, Try.results41, go_sem]) rfl ⟨rfl, ((Gb.refl w).alloc _ _).drew⟩


theorem mulbd {a b : Int} (a0 : -100000000 ≤ a) (a1 : a ≤ 100000000) (b0 : 0 ≤ b) (b1 : b < 18446744073709551616) : -170141183460469231731687303715884105728 ≤ a * b ∧ a * b < 170141183460469231731687303715884105728 := by
  have h1 : a * b ≤ 100000000 * b := Int.mul_le_mul_of_nonneg_right a1 b0
  have h2 : -100000000 * b ≤ a * b := Int.mul_le_mul_of_nonneg_right a0 b0
  omega

set_option maxHeartbeats 1000000 in
/-- Which of two slopes is the steeper. -/
theorem compare_any (a b c d : Int) (a0 : -100000000 ≤ a) (a1 : a ≤ 100000000) (b0 : 0 ≤ b) (b1 : b < 18446744073709551616) (c0 : -100000000 ≤ c) (c1 : c ≤ 100000000) (d0 : 0 ≤ d) (d1 : d < 18446744073709551616) (w : World) :
    Calls Try.prog 55 #[.agg #[.int .i64 a, .int .u64 b], .agg #[.int .i64 c, .int .u64 d]] w fun e w' => e = .returned (.int .i64 (cmpi (a * d) (c * b))) ∧ Gw w w' := by
  obtain ⟨p1, p2⟩ := mulbd a0 a1 d0 d1
  obtain ⟨q1, q2⟩ := mulbd c0 c1 b0 b1
  have T1 : Hid (∀ w, Calls Try.prog 33 #[.int .i64 a, .int .u64 d] w fun e w' => e = .returned (.agg #[.int .i64 (hiv (a * d)), .int .u64 (lov (a * d))]) ∧ Gk 1 w w') := fun w => times_any a d (by omega) (by omega) d0 d1 w
  have T2 : Hid (∀ w, Calls Try.prog 33 #[.int .i64 c, .int .u64 b] w fun e w' => e = .returned (.agg #[.int .i64 (hiv (c * b)), .int .u64 (lov (c * b))]) ∧ Gk 1 w w') := fun w => times_any c b (by omega) (by omega) b0 b1 w
  have T3 : Hid (∀ w, Calls Try.prog 34 #[.agg #[.int .i64 (hiv (a * d)), .int .u64 (lov (a * d))], .agg #[.int .i64 (hiv (c * b)), .int .u64 (lov (c * b))]] w fun e w' => e = .returned (.int .i64 (cmpi (a * d) (c * b))) ∧ Gk 2 w w') := by
    show ∀ w, Calls Try.prog 34 #[.agg #[.int .i64 (hiv (a * d)), .int .u64 (lov (a * d))], .agg #[.int .i64 (hiv (c * b)), .int .u64 (lov (c * b))]] w fun e w' => e = .returned (.int .i64 (cmpi (a * d) (c * b))) ∧ Gk 2 w w'
    intro w
    have := cmp_any (a * d) (c * b) w
    rw [sv_of _ p1 p2, sv_of _ q1 q2] at this
    exact this
  clear p1 p2 q1 q2
  generalize a * d = ad at T1 T3 ⊢
  generalize c * b = cb at T2 T3 ⊢
  generalize cmpi ad cb = r at T3 ⊢
  have GG : Hid (Gw w ((w.alloc (.cells #[.int .i64 a, .int .u64 b] 57)).alloc (.cells #[.int .i64 c, .int .u64 d] 57))) := ((Gw.refl w).alloc _ _).alloc _ _
  have N : ∀ W : World, Nonempty (GW W) := GW.some
  go_enter Try.func55, Try.ntmps55
  go_wp2_with fail
  have k0 := GW.cell (W := (w.alloc (.cells #[.int .i64 a, .int .u64 b] 57)).alloc (.cells #[.int .i64 c, .int .u64 d] 57)) (b := w.heap.size) (o := 0) (v := .int .i64 a) (by simp [go_sem]) (by simp; omega)
  have k1 := GW.cell (W := (w.alloc (.cells #[.int .i64 a, .int .u64 b] 57)).alloc (.cells #[.int .i64 c, .int .u64 d] 57)) (b := w.heap.size) (o := 1) (v := .int .u64 b) (by simp [go_sem]) (by simp; omega)
  have k2 := GW.cell (W := (w.alloc (.cells #[.int .i64 a, .int .u64 b] 57)).alloc (.cells #[.int .i64 c, .int .u64 d] 57)) (b := w.heap.size + 1) (o := 0) (v := .int .i64 c) (by simp [go_sem]) (by simp)
  have k3 := GW.cell (W := (w.alloc (.cells #[.int .i64 a, .int .u64 b] 57)).alloc (.cells #[.int .i64 c, .int .u64 d] 57)) (b := w.heap.size + 1) (o := 1) (v := .int .u64 d) (by simp [go_sem]) (by simp)
  have NN := N ((w.alloc (.cells #[.int .i64 a, .int .u64 b] 57)).alloc (.cells #[.int .i64 c, .int .u64 d] 57))
  refine wp_region_grow (by kernel_rfl) (by kernel_rfl) ?_
  repeat (go_big_quiet_step (fail))
  go_big_quiet_want
  go_big_quiet_op
  go_big_quiet_call (exact grow_ofk (T1.out _))
  repeat (go_big_quiet_step (fail))
  go_big_quiet_want
  go_big_quiet_op
  go_big_quiet_call (exact grow_ofk (T2.out _))
  repeat (go_big_quiet_step (fail))
  go_big_quiet_want
  go_big_quiet_op
  go_big_quiet_call (exact grow_ofk (T3.out _))
  repeat (go_big_quiet_step (fail))
  refine wpQuiet_nil ?_
  rintro _ ⟨g, rfl⟩
  go_wp2
  go_ret
  exact ⟨rfl, GG.out.trans g.2.gw⟩

set_option maxHeartbeats 1000000 in
/-- The slope from one point to another. -/
theorem between_any (xa ya xb yb : Int) (xa0 : 0 ≤ xa) (hx : xa < xb) (xb1 : xb < 18446744073709551616) (ya0 : -100000000 ≤ ya) (ya1 : ya ≤ 100000000) (yb0 : -100000000 ≤ yb) (yb1 : yb ≤ 100000000) (w : World) :
    Calls Try.prog 53 #[.agg #[.int .u64 xa, .int .i64 ya], .agg #[.int .u64 xb, .int .i64 yb]] w fun e w' => e = .returned (.agg #[.int .i64 (yb - ya), .int .u64 (xb - xa)]) ∧ Gw w w' := by
  have e1 : IntKind.u64.wrap (xb - xa) = xb - xa := by rw [IntKind.wrap_u64]; omega
  have e2 : IntKind.i64.wrap (yb - ya) = yb - ya := by rw [IntKind.wrap_i64]; omega
  go_enter Try.func53, Try.ntmps53
  go_wp2
  refine bodyPost_ret (v := .agg #[.int .i64 (yb - ya), .int .u64 (xb - xa)]) (by simp [results, Try.results53, go_sem]) rfl ⟨rfl, ?_⟩
  first
    | exact ((((Gw.refl w).alloc _ _).alloc _ _).alloc _ _)
    | exact (((((Gw.refl w).alloc _ _).alloc _ _).alloc _ _).setCell (by simp) _).setCell (by simp) _

set_option maxHeartbeats 1000000 in
/-- A slope in lowest terms. -/
theorem slow_any (a b : Int) (a0 : 0 ≤ a) (a1 : a ≤ 100000000) (b0 : 0 < b) (b1 : b < 18446744073709551616) (w : World) :
    Calls Try.prog 25 #[.agg #[.int .i64 a, .int .u64 b]] w fun e w' => (∃ c d g : Int, e = .returned (.agg #[.int .u64 c, .int .u64 d]) ∧ 0 < g ∧ c * g = a ∧ d * g = b ∧ Int.gcd c d = 1) ∧ Gw w w' := by
  obtain ⟨a, rfl⟩ := Int.eq_ofNat_of_zero_le a0
  obtain ⟨b, rfl⟩ := Int.eq_ofNat_of_zero_le (show 0 ≤ b by omega)
  have hg : 0 < a.gcd b := Nat.gcd_pos_of_pos_right _ (by omega)
  have FIN : Hid (∃ g : Int, 0 < g ∧ ((a / a.gcd b : Nat) : Int) * g = a ∧ ((b / a.gcd b : Nat) : Int) * g = b ∧ Int.gcd ((a / a.gcd b : Nat) : Int) ((b / a.gcd b : Nat) : Int) = 1) := by
    refine ⟨(a.gcd b : Nat), by omega, ?_, ?_, ?_⟩
    · rw [← Int.natCast_mul, Nat.div_mul_cancel (Nat.gcd_dvd_left a b)]
    · rw [← Int.natCast_mul, Nat.div_mul_cancel (Nat.gcd_dvd_right a b)]
    · have := Int.gcd_ediv_gcd_ediv_gcd (i := (a : Int)) (j := (b : Int)) (by simpa using hg)
      simpa using this
  have wx : IntKind.u64.wrap (a : Int) = a := by rw [IntKind.wrap_u64]; omega
  have L := lowest_any a b (by omega) (by omega) (by omega)
  have LL : Hid (∀ w, Calls Try.prog 41 #[.int .u64 a, .int .u64 b] w fun e w' => e = .returned (lowv a b) ∧ Gb w w') := L
  clear L hg
  unfold lowv at LL
  generalize ((a / a.gcd b : Nat) : Int) = c at LL FIN
  generalize ((b / a.gcd b : Nat) : Int) = d at LL FIN
  go_enter Try.func25, Try.ntmps25
  go_wp2_with fail
  refine (LL.out _).mono ?_
  rintro e w1 ⟨rfl, g1⟩
  have X := (Bx.new (w.alloc (.cells #[.int .i64 a, .int .u64 b] 57)) 41 (.int .u64 0) (.int .u64 0)).gw g1.gw
  have X' : Hid (Bx w1 (w.heap.size + 1) 41 (.int .u64 0) (.int .u64 0)) := X.at (by simp)
  have x0 := X'.out.c0
  have x1 := X'.out.c1
  have x2 := X'.out.fz 0
  have x3 := X'.out.fz 1
  have G1 : Hid (Gw w w1) := (((Gw.refl w).alloc _ _).alloc _ _).trans g1.gw
  have hl := X'.out.lt
  clear X g1
  go_wp2_with fail
  have Y := ((X'.out.set (.int .u64 c) (.int .u64 d)).alloc (.cells #[.int .u64 c, .int .u64 d] 41))
  have y0 := Y.c0
  have y1 := Y.c1
  clear x0 x1 x2 x3
  obtain ⟨g, f1, f2, f3, f4⟩ := FIN.out
  refine bodyPost_ret (v := .agg #[.int .u64 c, .int .u64 d]) (by simp [results, Try.results25, go_sem, y0, y1]) rfl ⟨⟨c, d, g, rfl, f1, f2, f3, f4⟩, ?_⟩
  exact ((G1.out.setCell (by simp) _).setCell (by simp) _).alloc _ _

end Go.Proofs.Ytncnoaofdflbmab
