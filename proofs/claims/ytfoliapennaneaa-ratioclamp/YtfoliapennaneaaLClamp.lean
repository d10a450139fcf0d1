/- RatioClamp's walk: both answers are the same, and a greater float comes to no less. -/
import Derived.Test.YtfoliapennaneaaRShown
import Derived.Test.YtfoliapennaneaaRefClamp
namespace Go.Proofs.Ytfoliapennaneaa
open Go.RowKit Go.Shelf
set_option linter.unusedVariables false

theorem flo_mono {x y : Nat} (h : SV x ≤ SV y) : flo x ≤ flo y := Int.ediv_le_ediv (by have := Un_pos; omega) h

/-- Clamp does not fall. -/
theorem clampv_mono {x y : Nat} (lo hi : Int) (h : (Ieee.double.order x y == some .lt) = true) : clampv x lo hi ≤ clampv y lo hi := by
  have nx : ¬ 9218868437227405312 < rg x := by
    intro c
    unfold Ieee.Format.order at h; rw [read_nan c] at h; simp [Ieee.Datum.order] at h
  have ny : ¬ 9218868437227405312 < rg y := by
    intro c
    unfold Ieee.Format.order at h; rw [read_nan c] at h
    generalize Ieee.double.read x = d at h
    cases d <;> simp [Ieee.Datum.order] at h
  unfold clampv
  by_cases hl : hi < lo
  · rw [if_pos (.inl hl), if_pos (.inl hl)]; exact Int.le_refl _
  · have e1 : ¬ (hi < lo ∨ 9218868437227405312 < rg x) := by omega
    have e2 : ¬ (hi < lo ∨ 9218868437227405312 < rg y) := by omega
    rw [if_neg e1, if_neg e2]
    cases c1 : cMin x
    · rw [if_neg (show ¬ (false = true) by decide)]
      -- x is not below all ints, so y is not either
      have c2 : cMin y = false := by
        cases c2 : cMin y
        · rfl
        · exfalso
          unfold cMin at c1 c2
          rcases Nat.lt_or_ge (rg y) 9218868437227405312 with ky | ky
          · rcases Nat.lt_or_ge (rg x) 9218868437227405312 with kx | kx
            · rw [f_lt kx ky, decide_eq_true_eq] at h
              rw [f_lt kx (by decide), decide_eq_false_iff_not] at c1
              rw [f_lt ky (by decide), decide_eq_true_eq] at c2
              omega
            · have ex : rg x = 9218868437227405312 := by omega
              unfold Ieee.Format.order at h c1
              rw [read_inf ex, read_fin ky] at h
              rw [read_inf ex, read_fin (show rg 14114281232179134464 < 9218868437227405312 by decide)] at c1
              cases hs : sg x <;> rw [hs] at h c1 <;> simp [Ieee.Datum.order] at h c1
          · have ey : rg y = 9218868437227405312 := by omega
            unfold Ieee.Format.order at h c2
            rw [read_inf ey, read_fin (show rg 14114281232179134464 < 9218868437227405312 by decide)] at c2
            rw [read_inf ey] at h
            cases hs : sg y
            · rw [hs] at c2; simp [Ieee.Datum.order] at c2
            · rw [hs] at h
              rcases Nat.lt_or_ge (rg x) 9218868437227405312 with kx | kx
              · rw [read_fin kx] at h; simp [Ieee.Datum.order] at h
              · have ex : rg x = 9218868437227405312 := by omega
                rw [read_inf ex] at h
                cases hs' : sg x <;> rw [hs'] at h <;> simp [Ieee.Datum.order, compare, compareOfLessAndEq] at h
      rw [c2, if_neg (show ¬ (false = true) by decide)]
      cases c3 : cMax y
      · rw [if_neg (show ¬ (false = true) by decide)]
        obtain ⟨ky, -⟩ := clamp_in ny c2 c3
        cases c4 : cMax x
        · rw [if_neg (show ¬ (false = true) by decide)]
          obtain ⟨kx, -⟩ := clamp_in nx c1 c4
          rw [f_lt kx ky, decide_eq_true_eq] at h
          have := flo_mono (Int.le_of_lt h)
          omega
        · exfalso
          unfold cMax at c3 c4
          rw [f_ge ky (by decide), decide_eq_false_iff_not] at c3
          rcases Nat.lt_or_ge (rg x) 9218868437227405312 with kx | kx
          · rw [f_lt kx ky, decide_eq_true_eq] at h
            rw [f_ge kx (by decide), decide_eq_true_eq] at c4
            omega
          · have ex : rg x = 9218868437227405312 := by omega
            unfold Ieee.Format.order at h c4
            rw [read_inf ex, read_fin ky] at h
            rw [read_inf ex, read_fin (show rg 4890909195324358656 < 9218868437227405312 by decide)] at c4
            cases hs : sg x <;> rw [hs] at h c4 <;> simp [Ieee.Datum.order] at h c4
      · rw [if_pos (show true = true from rfl)]
        split <;> omega
    · rw [if_pos (show true = true from rfl)]
      split
      · exact Int.le_refl _
      · split <;> omega

set_option maxRecDepth 10000 in
set_option maxHeartbeats 2000000 in
theorem lclamp_core (x y : Nat) (lo hi : Int) (l0 : -9223372036854775808 ≤ lo) (l1 : lo < 9223372036854775808) (h0 : -9223372036854775808 ≤ hi) (h1 : hi < 9223372036854775808) (a b : Int)
    (ha : Hid (∀ w, Calls Try.prog 19 #[.float .f64 x, .int .i64 lo, .int .i64 hi] w fun e w' => e = .returned (.int .i64 a) ∧ w' = w))
    (hb : Hid (∀ w, Calls Try.prog 19 #[.float .f64 y, .int .i64 lo, .int .i64 hi] w fun e w' => e = .returned (.int .i64 b) ∧ w' = w))
    (ra : Hid (∀ w, Calls Try.prog 20 #[.float .f64 x, .int .i64 lo, .int .i64 hi] w fun e w' => e = .returned (.int .i64 a) ∧ w' = w))
    (rb : Hid (∀ w, Calls Try.prog 20 #[.float .f64 y, .int .i64 lo, .int .i64 hi] w fun e w' => e = .returned (.int .i64 b) ∧ w' = w))
    (hm : (FloatKind.f64.format.order x y == some .lt) = false ∨ (FloatKind.f64.format.order x y == some .lt) = true ∧ a ≤ b) (w : World) :
    Calls Try.prog 8 #[.agg #[.int .u64 x, .int .u64 y], .int .i64 lo, .int .i64 hi] w fun e w' => e = .returned (.bool true) ∧ Gb w w' := by
  have t1 : (x : Int).toNat = x := Int.toNat_natCast x
  have t2 : (y : Int).toNat = y := Int.toNat_natCast y
  rcases hm with hm | ⟨hm, hab⟩
  all_goals
    go_enter Try.func8, Try.ntmps8
    go_wp2_with fail
    refine (shown_any _).mono ?_
    rintro e w1 ⟨rfl, g1⟩
    obtain ⟨k0, k1, k2⟩ := (H2.new w (.int .u64 x) (.int .u64 y) 41).gb g1
    go_wp2_with (simp only [f64from])
    refine (ha.out _).mono ?_
    rintro e w2 ⟨rfl, rfl⟩
    go_wp2_with fail
    refine (ra.out _).mono ?_
    rintro e w2 ⟨rfl, rfl⟩
    go_wp2_with fail
    refine (hb.out _).mono ?_
    rintro e w2 ⟨rfl, rfl⟩
    go_wp2_with fail
    refine (rb.out _).mono ?_
    rintro e w2 ⟨rfl, rfl⟩
    go_wp2
    go_ret
    exact ⟨rfl, ((Gb.refl w).alloc _ _).trans g1⟩

theorem clamp_law (x : Int) (x0 : 0 ≤ x) (x1 : x < 18446744073709551616) (y : Int) (y0 : 0 ≤ y) (y1 : y < 18446744073709551616) (lo : Int) (l0 : -9223372036854775808 ≤ lo) (l1 : lo < 9223372036854775808) (hi : Int) (h0 : -9223372036854775808 ≤ hi) (h1 : hi < 9223372036854775808) (w : World) :
    Calls Try.prog 8 #[.agg #[.int .u64 x, .int .u64 y], .int .i64 lo, .int .i64 hi] w fun e w' => e = .returned (.bool true) ∧ Gb w w' := by
  obtain ⟨x, rfl⟩ := Int.eq_ofNat_of_zero_le x0
  obtain ⟨y, rfl⟩ := Int.eq_ofNat_of_zero_le y0
  refine lclamp_core x y lo hi l0 l1 h0 h1 (clampv x lo hi) (clampv y lo hi) (fun w => clamp_any x lo hi l0 l1 h0 h1 w) (fun w => clamp_any y lo hi l0 l1 h0 h1 w) (fun w => rclamp_any x lo hi l0 l1 h0 h1 w) (fun w => rclamp_any y lo hi l0 l1 h0 h1 w) ?_ w
  cases c : (FloatKind.f64.format.order x y == some .lt)
  · exact .inl rfl
  · exact .inr ⟨rfl, clampv_mono lo hi c⟩
end Go.Proofs.Ytfoliapennaneaa
