/- math/bits.Div64 gives the quotient and the rest of a number of two words by one word, where the quotient is one word. -/
import Derived.Test.YtfoliapennaneaaGBase
import Derived.Test.YtfoliapennaneaaMathDiv
namespace Go.Proofs.Ytfoliapennaneaa
open Go.RowKit Go.Shelf
set_option linter.unusedVariables false

set_option maxHeartbeats 400000 in
theorem div64_small (lo y : Int) (l0 : 0 ≤ lo) (l1 : lo < 18446744073709551616) (y0 : 0 < y) (y1 : y < 18446744073709551616) (w : World) :
    Calls Try.prog 37 #[.int .u64 0, .int .u64 lo, .int .u64 y] w fun e w' => e = .returned (.tuple #[.int .u64 (lo / y), .int .u64 (lo % y)]) ∧ ∃ n, w' = w.drewN n := by
  have hy : (y == 0) = false := by simp; omega
  go_enter Try.func37, Try.ntmps37
  go_wp2
  go_region
  all_goals
    go_wp2
    go_ret2
    exact ⟨rfl, 1, rfl⟩

set_option maxHeartbeats 2000000 in
theorem div64_core (hi lo y Y U L Y1 Y0 L1 L0 Q1 R1 Q0 R0 : Int) (h0 : 0 < hi) (h1 : hi < y) (s : Nat) (hs : s ≤ 63)
    (eY : IntKind.u64.wrap (y * 2 ^ s) = Y) (eU : bits .or .u64 (IntKind.u64.wrap (hi * 2 ^ s)) (lo / 2 ^ (64 - s)) = U) (eL : IntKind.u64.wrap (lo * 2 ^ s) = L)
    (eY1 : Y / 4294967296 = Y1) (eY0 : bits .and .u64 Y 4294967295 = Y0) (eL1 : L / 4294967296 = L1) (eL0 : bits .and .u64 L 4294967295 = L0)
    (hU0 : 0 ≤ U) (hU1 : U < Y) (hY1 : 2147483648 ≤ Y1) (hY1' : Y1 < 4294967296) (hY0 : 0 ≤ Y0) (hY0' : Y0 < 4294967296)
    (hL1 : 0 ≤ L1) (hL1' : L1 < 4294967296) (hL0 : 0 ≤ L0) (hL0' : L0 < 4294967296)
    (HY : Hid (Y = Y1 * 4294967296 + Y0)) (HQ1 : Hid (Q1 = (U * 4294967296 + L1) / Y)) (HR1 : Hid (R1 = (U * 4294967296 + L1) % Y)) (HQ0 : Hid (Q0 = (R1 * 4294967296 + L0) / Y)) (HR0 : Hid (R0 = (R1 * 4294967296 + L0) % Y))
    (lz : Hid (∀ w : World, Calls Try.prog 22 #[.int .u64 y] w fun e w' => e = .returned (.int .i64 (s : Int)) ∧ w' = w)) (w : World) :
    Calls Try.prog 37 #[.int .u64 hi, .int .u64 lo, .int .u64 y] w fun e w' => e = .returned (.tuple #[.int .u64 (Q1 * 4294967296 + Q0), .int .u64 (R0 / 2 ^ s)]) ∧ w' = w := by
  have hy : (y == 0) = false := by simp; omega
  have hh : (hi == 0) = false := by simp; omega
  have hz : ¬ Y1 = 0 := by omega
  have hYp : 0 < Y := by have := HY.out; omega
  have hYm : Y < 18446744073709551616 := by have := HY.out; omega
  have hUm : U < 18446744073709551616 := by omega
  have r0 : 0 ≤ R1 := by rw [HR1.out]; exact Int.emod_nonneg _ (by omega)
  have r1 : R1 < Y := by rw [HR1.out]; exact Int.emod_lt_of_pos _ hYp
  have r0' : 0 ≤ R0 := by rw [HR0.out]; exact Int.emod_nonneg _ (by omega)
  have r1' : R0 < Y := by rw [HR0.out]; exact Int.emod_lt_of_pos _ hYp
  have hRm : R1 < 18446744073709551616 := by omega
  have d1 : Hid (Q1 * Y + R1 = U * 4294967296 + L1) := by show _ = _; rw [HQ1.out, HR1.out, Int.mul_comm]; exact Int.mul_ediv_add_emod _ Y
  have d0 : Hid (Q0 * Y + R0 = R1 * 4294967296 + L0) := by show _ = _; rw [HQ0.out, HR0.out, Int.mul_comm]; exact Int.mul_ediv_add_emod _ Y
  have q1n : 0 ≤ Q1 := by rw [HQ1.out]; exact Int.ediv_nonneg (by omega) (by omega)
  have q0n : 0 ≤ Q0 := by rw [HQ0.out]; exact Int.ediv_nonneg (by omega) (by omega)
  have q1t : Q1 < 4294967296 := k_top U L1 Y Q1 hYp hU1 hL1' (by have := d1.out; omega)
  have q0t : Q0 < 4294967296 := k_top R1 L0 Y Q0 hYp r1 hL0' (by have := d0.out; omega)
  have st1 := k_start U L1 Y Y1 Y0 Q1 HY.out hY1 hY0 hY0' hL1' hU0 hU1 q1n (by have := d1.out; omega)
  have st0 := k_start R1 L0 Y Y1 Y0 Q0 HY.out hY1 hY0 hY0' hL0' r0 r1 q0n (by have := d0.out; omega)
  have eb1 : IntKind.u64.wrap (U - IntKind.u64.wrap (U / Y1 * Y1)) = U % Y1 := k_rem U Y1 hU0 hUm (by omega) (by omega)
  have eb0 : IntKind.u64.wrap (R1 - IntKind.u64.wrap (R1 / Y1 * Y1)) = R1 % Y1 := k_rem R1 Y1 r0 hRm (by omega) (by omega)
  have eR1 : IntKind.u64.wrap (IntKind.u64.wrap (IntKind.u64.wrap (U * 4294967296) + L1) - IntKind.u64.wrap (Q1 * Y)) = R1 := by rw [HR1.out]; exact k_rest U L1 Y Q1 hU0 hL1 hYp hYm HQ1.out
  have eR0 : IntKind.u64.wrap (IntKind.u64.wrap (IntKind.u64.wrap (R1 * 4294967296) + L0) - IntKind.u64.wrap (Q0 * Y)) = R0 := by rw [HR0.out]; exact k_rest R1 L0 Y Q0 r0 hL0 hYp hYm HQ0.out
  have S1 : Hid _ := st1; clear st1
  have S0 : Hid _ := st0; clear st0
  go_enter Try.func37, Try.ntmps37
  go_wp2_with (go_at_call 22; refine (lz.out _).mono ?_; rintro e w' ⟨rfl, rfl⟩)
  go_loop [15, 16] (fun q r => ∃ a b : Int, q = .int .u64 a ∧ r = .int .u64 b ∧ Q1 ≤ a ∧ a ≤ 4294967297 ∧ 0 ≤ b ∧ b < 4294967296 ∧ Hid (a * Y1 + b = U)) (fun q _ => (intOf q).toNat)
  case atStart => exact ⟨U / Y1, U % Y1, rfl, rfl, S1.out.1, S1.out.2.1, S1.out.2.2.2.2.1, by have := S1.out.2.2.2.2.2; omega, S1.out.2.2.2.1⟩
  case round =>
    obtain ⟨a, b, rfl, rfl, ha, ha', hb, hb', HA⟩ := hrel
    by_cases g1 : 4294967296 ≤ a ∨ 4294967296 * b + L1 < a * Y0
    · have g2 : Q1 ≤ a - 1 := k_more U L1 Y Y1 Y0 a b Q1 HY.out hYp HA.out hU1 hL1' (by have := d1.out; omega) g1
      have g3 : Hid ((a - 1) * Y1 + (b + Y1) = U) := by show _ = _; have := HA.out; rw [Int.sub_mul]; omega
      have g4 : 1 ≤ a := by omega
      by_cases g5 : b + Y1 < 4294967296
      · have fin : ∀ x y : Int, x = a - 1 → y = b + Y1 → (∃ a_1 b_1 : Int, Value.int IntKind.u64 x = .int .u64 a_1 ∧ Value.int IntKind.u64 y = .int .u64 b_1 ∧ Q1 ≤ a_1 ∧ a_1 ≤ 4294967297 ∧ 0 ≤ b_1 ∧ b_1 < 4294967296 ∧ Hid (a_1 * Y1 + b_1 = U)) := by
          rintro x y rfl rfl
          exact ⟨a - 1, b + Y1, rfl, rfl, g2, by omega, by omega, g5, g3⟩
        by_cases g6 : 4294967296 ≤ a
        · go_wp2
          exact ⟨fin _ _ rfl rfl, by simp [intOf]; omega⟩
        · have e1 := k_mul a Y0 (by omega) (by omega) hY0 hY0'
          have g7 : 4294967296 * b + L1 < a * Y0 := by omega
          go_wp2
          exact ⟨fin _ _ rfl rfl, by simp [intOf]; omega⟩
      · have e2 : a - 1 = Q1 := k_break U L1 Y Y1 Y0 (a - 1) (b + Y1) Q1 HY.out hYp hY0 hY0' hL1 g3.out (by have := d1.out; omega) g2 (by omega) (by omega) (by omega)
        by_cases g6 : 4294967296 ≤ a
        · go_wp2
          clear e2 g1 g2 g3 g4 g5 g6 ha ha' hb hb' HA
          go_loop [18, 16] (fun q r => ∃ aa bb : Int, q = .int .u64 aa ∧ r = .int .u64 bb ∧ Q0 ≤ aa ∧ aa ≤ 4294967297 ∧ 0 ≤ bb ∧ bb < 4294967296 ∧ Hid (aa * Y1 + bb = R1)) (fun q _ => (intOf q).toNat)
          case atStart => exact ⟨R1 / Y1, R1 % Y1, rfl, rfl, S0.out.1, S0.out.2.1, S0.out.2.2.2.2.1, by have := S0.out.2.2.2.2.2; omega, S0.out.2.2.2.1⟩
          case round =>
            obtain ⟨aa, bb, rfl, rfl, iha, iha', ihb, ihb', iHA⟩ := hrel
            by_cases ig1 : 4294967296 ≤ aa ∨ 4294967296 * bb + L0 < aa * Y0
            · have ig2 : Q0 ≤ aa - 1 := k_more R1 L0 Y Y1 Y0 aa bb Q0 HY.out hYp iHA.out r1 hL0' (by have := d0.out; omega) ig1
              have ig3 : Hid ((aa - 1) * Y1 + (bb + Y1) = R1) := by show _ = _; have := iHA.out; rw [Int.sub_mul]; omega
              have ig4 : 1 ≤ aa := by omega
              by_cases ig5 : bb + Y1 < 4294967296
              · have ifin : ∀ x z : Int, x = aa - 1 → z = bb + Y1 → (∃ a_1 b_1 : Int, Value.int IntKind.u64 x = .int .u64 a_1 ∧ Value.int IntKind.u64 z = .int .u64 b_1 ∧ Q0 ≤ a_1 ∧ a_1 ≤ 4294967297 ∧ 0 ≤ b_1 ∧ b_1 < 4294967296 ∧ Hid (a_1 * Y1 + b_1 = R1)) := by
                  rintro x z rfl rfl
                  exact ⟨aa - 1, bb + Y1, rfl, rfl, ig2, by omega, by omega, ig5, ig3⟩
                by_cases ig6 : 4294967296 ≤ aa
                · go_wp2
                  exact ⟨ifin _ _ rfl rfl, by simp [intOf]; omega⟩
                · have ie1 := k_mul aa Y0 (by omega) (by omega) hY0 hY0'
                  have ig7 : 4294967296 * bb + L0 < aa * Y0 := by omega
                  go_wp2
                  exact ⟨ifin _ _ rfl rfl, by simp [intOf]; omega⟩
              · have ie2 : aa - 1 = Q0 := k_break R1 L0 Y Y1 Y0 (aa - 1) (bb + Y1) Q0 HY.out hYp hY0 hY0' hL0 ig3.out (by have := d0.out; omega) ig2 (by omega) (by omega) (by omega)
                by_cases ig6 : 4294967296 ≤ aa
                · go_wp2
                  go_ret2
                  exact ⟨rfl, rfl⟩
                · have ie1 := k_mul aa Y0 (by omega) (by omega) hY0 hY0'
                  have ig7 : 4294967296 * bb + L0 < aa * Y0 := by omega
                  go_wp2
                  go_ret2
                  exact ⟨rfl, rfl⟩
            · have ig6 : ¬ 4294967296 ≤ aa := by omega
              have ig7 : aa * Y0 ≤ 4294967296 * bb + L0 := by omega
              have ie1 := k_mul aa Y0 (by omega) (by omega) hY0 hY0'
              obtain rfl : aa = Q0 := k_done R1 L0 Y Y1 Y0 aa bb Q0 HY.out hYp iHA.out (by have := d0.out; omega) iha ig7
              go_wp2
              go_ret2
              exact ⟨rfl, rfl⟩
        · have e1 := k_mul a Y0 (by omega) (by omega) hY0 hY0'
          have g7 : 4294967296 * b + L1 < a * Y0 := by omega
          go_wp2
          clear e2 g1 g2 g3 g4 g5 g6 ha ha' hb hb' HA
          go_loop [18, 16] (fun q r => ∃ aa bb : Int, q = .int .u64 aa ∧ r = .int .u64 bb ∧ Q0 ≤ aa ∧ aa ≤ 4294967297 ∧ 0 ≤ bb ∧ bb < 4294967296 ∧ Hid (aa * Y1 + bb = R1)) (fun q _ => (intOf q).toNat)
          case atStart => exact ⟨R1 / Y1, R1 % Y1, rfl, rfl, S0.out.1, S0.out.2.1, S0.out.2.2.2.2.1, by have := S0.out.2.2.2.2.2; omega, S0.out.2.2.2.1⟩
          case round =>
            obtain ⟨aa, bb, rfl, rfl, iha, iha', ihb, ihb', iHA⟩ := hrel
            by_cases ig1 : 4294967296 ≤ aa ∨ 4294967296 * bb + L0 < aa * Y0
            · have ig2 : Q0 ≤ aa - 1 := k_more R1 L0 Y Y1 Y0 aa bb Q0 HY.out hYp iHA.out r1 hL0' (by have := d0.out; omega) ig1
              have ig3 : Hid ((aa - 1) * Y1 + (bb + Y1) = R1) := by show _ = _; have := iHA.out; rw [Int.sub_mul]; omega
              have ig4 : 1 ≤ aa := by omega
              by_cases ig5 : bb + Y1 < 4294967296
              · have ifin : ∀ x z : Int, x = aa - 1 → z = bb + Y1 → (∃ a_1 b_1 : Int, Value.int IntKind.u64 x = .int .u64 a_1 ∧ Value.int IntKind.u64 z = .int .u64 b_1 ∧ Q0 ≤ a_1 ∧ a_1 ≤ 4294967297 ∧ 0 ≤ b_1 ∧ b_1 < 4294967296 ∧ Hid (a_1 * Y1 + b_1 = R1)) := by
                  rintro x z rfl rfl
                  exact ⟨aa - 1, bb + Y1, rfl, rfl, ig2, by omega, by omega, ig5, ig3⟩
                by_cases ig6 : 4294967296 ≤ aa
                · go_wp2
                  exact ⟨ifin _ _ rfl rfl, by simp [intOf]; omega⟩
                · have ie1 := k_mul aa Y0 (by omega) (by omega) hY0 hY0'
                  have ig7 : 4294967296 * bb + L0 < aa * Y0 := by omega
                  go_wp2
                  exact ⟨ifin _ _ rfl rfl, by simp [intOf]; omega⟩
              · have ie2 : aa - 1 = Q0 := k_break R1 L0 Y Y1 Y0 (aa - 1) (bb + Y1) Q0 HY.out hYp hY0 hY0' hL0 ig3.out (by have := d0.out; omega) ig2 (by omega) (by omega) (by omega)
                by_cases ig6 : 4294967296 ≤ aa
                · go_wp2
                  go_ret2
                  exact ⟨rfl, rfl⟩
                · have ie1 := k_mul aa Y0 (by omega) (by omega) hY0 hY0'
                  have ig7 : 4294967296 * bb + L0 < aa * Y0 := by omega
                  go_wp2
                  go_ret2
                  exact ⟨rfl, rfl⟩
            · have ig6 : ¬ 4294967296 ≤ aa := by omega
              have ig7 : aa * Y0 ≤ 4294967296 * bb + L0 := by omega
              have ie1 := k_mul aa Y0 (by omega) (by omega) hY0 hY0'
              obtain rfl : aa = Q0 := k_done R1 L0 Y Y1 Y0 aa bb Q0 HY.out hYp iHA.out (by have := d0.out; omega) iha ig7
              go_wp2
              go_ret2
              exact ⟨rfl, rfl⟩
    · have g6 : ¬ 4294967296 ≤ a := by omega
      have g7 : a * Y0 ≤ 4294967296 * b + L1 := by omega
      have e1 := k_mul a Y0 (by omega) (by omega) hY0 hY0'
      obtain rfl : a = Q1 := k_done U L1 Y Y1 Y0 a b Q1 HY.out hYp HA.out (by have := d1.out; omega) ha g7
      go_wp2
      clear g1 g6 g7 e1 ha ha' hb hb' HA
      go_loop [18, 16] (fun q r => ∃ aa bb : Int, q = .int .u64 aa ∧ r = .int .u64 bb ∧ Q0 ≤ aa ∧ aa ≤ 4294967297 ∧ 0 ≤ bb ∧ bb < 4294967296 ∧ Hid (aa * Y1 + bb = R1)) (fun q _ => (intOf q).toNat)
      case atStart => exact ⟨R1 / Y1, R1 % Y1, rfl, rfl, S0.out.1, S0.out.2.1, S0.out.2.2.2.2.1, by have := S0.out.2.2.2.2.2; omega, S0.out.2.2.2.1⟩
      case round =>
        obtain ⟨aa, bb, rfl, rfl, iha, iha', ihb, ihb', iHA⟩ := hrel
        by_cases ig1 : 4294967296 ≤ aa ∨ 4294967296 * bb + L0 < aa * Y0
        · have ig2 : Q0 ≤ aa - 1 := k_more R1 L0 Y Y1 Y0 aa bb Q0 HY.out hYp iHA.out r1 hL0' (by have := d0.out; omega) ig1
          have ig3 : Hid ((aa - 1) * Y1 + (bb + Y1) = R1) := by show _ = _; have := iHA.out; rw [Int.sub_mul]; omega
          have ig4 : 1 ≤ aa := by omega
          by_cases ig5 : bb + Y1 < 4294967296
          · have ifin : ∀ x z : Int, x = aa - 1 → z = bb + Y1 → (∃ a_1 b_1 : Int, Value.int IntKind.u64 x = .int .u64 a_1 ∧ Value.int IntKind.u64 z = .int .u64 b_1 ∧ Q0 ≤ a_1 ∧ a_1 ≤ 4294967297 ∧ 0 ≤ b_1 ∧ b_1 < 4294967296 ∧ Hid (a_1 * Y1 + b_1 = R1)) := by
              rintro x z rfl rfl
              exact ⟨aa - 1, bb + Y1, rfl, rfl, ig2, by omega, by omega, ig5, ig3⟩
            by_cases ig6 : 4294967296 ≤ aa
            · go_wp2
              exact ⟨ifin _ _ rfl rfl, by simp [intOf]; omega⟩
            · have ie1 := k_mul aa Y0 (by omega) (by omega) hY0 hY0'
              have ig7 : 4294967296 * bb + L0 < aa * Y0 := by omega
              go_wp2
              exact ⟨ifin _ _ rfl rfl, by simp [intOf]; omega⟩
          · have ie2 : aa - 1 = Q0 := k_break R1 L0 Y Y1 Y0 (aa - 1) (bb + Y1) Q0 HY.out hYp hY0 hY0' hL0 ig3.out (by have := d0.out; omega) ig2 (by omega) (by omega) (by omega)
            by_cases ig6 : 4294967296 ≤ aa
            · go_wp2
              go_ret2
              exact ⟨rfl, rfl⟩
            · have ie1 := k_mul aa Y0 (by omega) (by omega) hY0 hY0'
              have ig7 : 4294967296 * bb + L0 < aa * Y0 := by omega
              go_wp2
              go_ret2
              exact ⟨rfl, rfl⟩
        · have ig6 : ¬ 4294967296 ≤ aa := by omega
          have ig7 : aa * Y0 ≤ 4294967296 * bb + L0 := by omega
          have ie1 := k_mul aa Y0 (by omega) (by omega) hY0 hY0'
          obtain rfl : aa = Q0 := k_done R1 L0 Y Y1 Y0 aa bb Q0 HY.out hYp iHA.out (by have := d0.out; omega) iha ig7
          go_wp2
          go_ret2
          exact ⟨rfl, rfl⟩

theorem div64_any (hi lo y : Int) (h0 : 0 ≤ hi) (h1 : hi < y) (l0 : 0 ≤ lo) (l1 : lo < 18446744073709551616) (y1 : y < 18446744073709551616) (w : World) :
    Calls Try.prog 37 #[.int .u64 hi, .int .u64 lo, .int .u64 y] w fun e w' => e = .returned (.tuple #[.int .u64 ((hi * 18446744073709551616 + lo) / y), .int .u64 ((hi * 18446744073709551616 + lo) % y)]) ∧ ∃ n, w' = w.drewN n := by
  by_cases hz : hi = 0
  · subst hz
    simpa using div64_small lo y l0 l1 (by omega) y1 w
  · obtain ⟨s, hs, es, s1, s2⟩ := lead y (by omega) y1
    obtain ⟨m1, m2, m3⟩ := moved hi lo y s hs h0 h1 l0 l1 s2
    have hP : (0 : Int) < 2 ^ s := Int.pow_pos (by decide)
    have eY : IntKind.u64.wrap (y * 2 ^ s) = y * 2 ^ s := by rw [IntKind.wrap_u64]; omega
    have hh0 : 0 ≤ hi * 2 ^ s := Int.mul_nonneg h0 (by omega)
    obtain ⟨w0, w1⟩ := u64w_bd (lo * 2 ^ s)
    have lz : Hid (∀ w : World, Calls Try.prog 22 #[.int .u64 y] w fun e w' => e = .returned (.int .i64 (s : Int)) ∧ w' = w) := fun w => by
      have := Try.bits_LeadingZeros64 y w (by omega) (by omega)
      rw [es] at this; exact this
    have hN : (hi * 18446744073709551616 + lo) * 2 ^ s < y * 2 ^ s * 18446744073709551616 := by
      have a1 : (hi * 18446744073709551616 + lo) * 2 ^ s < (y * 18446744073709551616) * 2 ^ s := Int.mul_lt_mul_of_pos_right (by omega) hP
      rw [Int.mul_assoc, Int.mul_comm 18446744073709551616 (2 ^ s), ← Int.mul_assoc] at a1
      exact a1
    generalize hY : y * 2 ^ s = Y at *
    generalize hL : IntKind.u64.wrap (lo * 2 ^ s) = L at *
    generalize hU : hi * 2 ^ s + lo / 2 ^ (64 - s) = U at *
    have hUY : U < Y := by omega
    have core := div64_core hi lo y Y U L (Y / 4294967296) (Y % 4294967296) (L / 4294967296) (L % 4294967296)
      ((U * 4294967296 + L / 4294967296) / Y) ((U * 4294967296 + L / 4294967296) % Y)
      (((U * 4294967296 + L / 4294967296) % Y * 4294967296 + L % 4294967296) / Y) (((U * 4294967296 + L / 4294967296) % Y * 4294967296 + L % 4294967296) % Y)
      (by omega) h1 s hs (by rw [hY]; exact eY) m1 hL rfl (and_low32 Y (by omega) (by omega)) rfl (and_low32 L (by omega) (by omega))
      (by omega) hUY (by omega) (by omega) (by omega) (by omega) (by omega) (by omega) (by omega) (by omega) (show _ = _ by omega) rfl rfl rfl rfl lz w
    have fin := k_all Y ((hi * 18446744073709551616 + lo) * 2 ^ s) U (L / 4294967296) (L % 4294967296) _ _ _ _ (by omega) (by omega) rfl rfl rfl rfl
    rw [fin.1, fin.2, ← hY, Int.mul_ediv_mul_of_pos_left _ _ hP, Int.mul_comm _ (2 ^ s), Int.mul_comm y, Int.mul_emod_mul_of_pos _ _ hP, Int.mul_ediv_cancel_left _ (by omega)] at core
    exact core.mono fun e w' h => ⟨h.1, 0, h.2⟩

end Go.Proofs.Ytfoliapennaneaa
