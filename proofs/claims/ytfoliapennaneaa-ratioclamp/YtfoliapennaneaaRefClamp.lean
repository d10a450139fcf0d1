/- The document's Clamp: the same answer. -/
import Derived.Test.YtfoliapennaneaaRClamp
namespace Go.Proofs.Ytfoliapennaneaa
open Go.RowKit Go.Shelf
set_option linter.unusedVariables false

theorem rclamp_last {x : Nat} (lo hi : Int) (h0 : -9223372036854775808 ≤ lo) (h1 : lo < 9223372036854775808) (h2 : -9223372036854775808 ≤ hi) (h3 : hi < 9223372036854775808)
    (hl : ¬ hi < lo) (hn : (FloatKind.f64.format.order x x != some .eq) = false) (c1 : (FloatKind.f64.format.order x 14114281232179134464 == some .lt) = false) (c2 : (FloatKind.f64.format.order x 4890909195324358656 == some .gt || FloatKind.f64.format.order x 4890909195324358656 == some .eq) = false)
    (n m : Int) (n0 : -9223372036854775808 ≤ n) (n1 : n < 9223372036854775808) (m0 : -9223372036854775808 ≤ m) (hc : ∀ w, (convert 24 3 (.float .f64 x)).run Try.prog w = .ok (.int .i64 n) w)
    (hm : (FloatKind.f64.format.order (floatOfInt .f64 n) x == some .gt) = true ∧ m = n - 1 ∨ (FloatKind.f64.format.order (floatOfInt .f64 n) x == some .gt) = false ∧ m = n) (w : World) :
    Calls Try.prog 20 #[.float .f64 x, .int .i64 lo, .int .i64 hi] w fun e w' => e = .returned (.int .i64 (max lo (min hi m))) ∧ w' = w := by
  rcases hm with ⟨hm, rfl⟩ | ⟨hm, rfl⟩
  · go_enter Try.func20, Try.ntmps20
    go_wp2
    go_ret
    exact ⟨rfl, rfl⟩
  · go_enter Try.func20, Try.ntmps20
    go_wp2
    go_ret
    exact ⟨rfl, rfl⟩

theorem rclamp_any (x : Nat) (lo hi : Int) (h0 : -9223372036854775808 ≤ lo) (h1 : lo < 9223372036854775808) (h2 : -9223372036854775808 ≤ hi) (h3 : hi < 9223372036854775808) (w : World) :
    Calls Try.prog 20 #[.float .f64 x, .int .i64 lo, .int .i64 hi] w fun e w' => e = .returned (.int .i64 (clampv x lo hi)) ∧ w' = w := by
  have sn := self_ne x
  unfold clampv
  by_cases hl : hi < lo
  · rw [if_pos (.inl hl)]
    go_enter Try.func20, Try.ntmps20
    go_wp2
    go_ret
    exact ⟨rfl, rfl⟩
  · by_cases hn : 9218868437227405312 < rg x
    · rw [if_pos (.inr hn)]
      rw [decide_eq_true hn] at sn
      go_enter Try.func20, Try.ntmps20
      go_wp2
      go_ret
      exact ⟨rfl, rfl⟩
    · rw [if_neg (by omega)]
      rw [decide_eq_false hn] at sn
      cases c1 : cMin x
      · cases c2 : cMax x
        · obtain ⟨hx, f0, f1, t0, t1⟩ := clamp_in hn c1 c2
          obtain ⟨b, hb, e1, e2, -⟩ := back_tru hx
          have hr : rg (floatOfInt .f64 (tru x)) < 9218868437227405312 := by rw [e1, word_rg _ _ (by omega)]; exact hb
          obtain ⟨u1, u2⟩ := tru_flo x
          have hm : (FloatKind.f64.format.order (floatOfInt .f64 (tru x)) x == some .gt) = decide (SV x < tru x * Un) := by rw [fmt, f_gt hr hx, e2]
          have fin := rclamp_last (x := x) lo hi h0 h1 h2 h3 hl sn c1 c2 (tru x) (flo x) t0 t1 f0 (fun w => run_convert_float_int w _ _ _ _ _ _ (by kernel_rfl) (by kernel_rfl) (toVal_fin hx t0 t1)) (by
            by_cases c : SV x < tru x * Un
            · exact .inl ⟨by rw [hm]; exact decide_eq_true c, u1 c⟩
            · exact .inr ⟨by rw [hm]; exact decide_eq_false c, u2 c⟩) w
          rw [if_neg (by decide), if_neg (by decide)]
          have e : min (max (flo x) lo) hi = max lo (min hi (flo x)) := by omega
          rw [e]; exact fin
        · have c1' : (FloatKind.f64.format.order x 14114281232179134464 == some .lt) = false := c1
          have c2' : (FloatKind.f64.format.order x 4890909195324358656 == some .gt || FloatKind.f64.format.order x 4890909195324358656 == some .eq) = true := c2
          clear c1 c2
          rw [if_neg (by decide), if_pos rfl]
          go_enter Try.func20, Try.ntmps20
          go_wp2
          go_ret
          exact ⟨rfl, rfl⟩
      · have c1' : (FloatKind.f64.format.order x 14114281232179134464 == some .lt) = true := c1
        have c2' : (FloatKind.f64.format.order x 4890909195324358656 == some .gt || FloatKind.f64.format.order x 4890909195324358656 == some .eq) = false := clamp_not hn c1
        clear c1
        rw [if_pos rfl]
        go_enter Try.func20, Try.ntmps20
        go_wp2
        go_ret
        exact ⟨rfl, rfl⟩
end Go.Proofs.Ytfoliapennaneaa
