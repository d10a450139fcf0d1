/- RatioNearBy's walk: the nearest float's neighbours lie on both sides of the fraction. -/
import Derived.Test.YtfoliapennaneaaRShown
namespace Go.Proofs.Ytfoliapennaneaa
open Go.RowKit Go.Shelf
set_option linter.unusedVariables false

/-- What lies beside the nearest float lies on its side. -/
theorem beside {num den b : Nat} (h : Nr (num * Un) den b) (h0 : 0 < b) (d0 : 0 < den) (hb : b < 9223372036854775807) : cmpv (b + 1) num den = 1 ∧ cmpv (b - 1) num den = -1 := by
  have v1 := V_succ b
  have v2 : V (b - 1) < V b := V_lt (by omega)
  have a1 : (V b + V (b + 1)) * den < (V (b + 1) + V (b + 1)) * den := Nat.mul_lt_mul_of_pos_right (by omega) d0
  have a2 : (V (b - 1) + V (b - 1)) * den < (V (b - 1) + V b) * den := Nat.mul_lt_mul_of_pos_right (by omega) d0
  have h1 := h.hi
  have h2 := h.lo
  rw [Nat.add_mul (V (b + 1))] at a1
  rw [Nat.add_mul (V (b - 1)) (V (b - 1))] at a2
  unfold cmpv
  rw [SV_pos_word _ (show b + 1 < 9223372036854775808 by omega), SV_pos_word _ (show b - 1 < 9223372036854775808 by omega), ← Int.natCast_mul, ← Int.natCast_mul]
  generalize num * Un = X at *
  exact ⟨cmpi_gt (by omega), cmpi_lt (by omega)⟩

set_option maxRecDepth 10000 in
set_option maxHeartbeats 2000000 in
theorem lby_zero (num : Nat) (hn : num < 18446744073709551616) (w : World) :
    Calls Try.prog 7 #[.int .u64 num, .int .u64 0] w fun e w' => e = .returned (.bool true) ∧ Gb w w' := by
  have hz : (FloatKind.f64.format.order 0 0 == some .eq) = true := by decide +kernel
  go_enter Try.func7, Try.ntmps7
  go_wp2_with fail
  refine (shown_any _).mono ?_
  rintro e w1 ⟨rfl, g1⟩
  go_wp2_with fail
  refine (near_zero_den num _).mono ?_
  rintro e w2 ⟨rfl, rfl⟩
  go_wp2
  go_ret
  exact ⟨rfl, g1⟩

set_option maxRecDepth 10000 in
set_option maxHeartbeats 2000000 in
theorem lby_num (den : Nat) (d0 : 0 < den) (w : World) :
    Calls Try.prog 7 #[.int .u64 0, .int .u64 den] w fun e w' => e = .returned (.bool true) ∧ Gb w w' := by
  have hz : (FloatKind.f64.format.order 0 0 == some .eq) = true := by decide +kernel
  have h1 : ((den : Int) == 0) = false := by simp; omega
  go_enter Try.func7, Try.ntmps7
  go_wp2_with fail
  refine (shown_any _).mono ?_
  rintro e w1 ⟨rfl, g1⟩
  go_wp2_with fail
  refine (near_zero_num den d0 _).mono ?_
  rintro e w2 ⟨rfl, rfl⟩
  go_wp2
  go_ret
  exact ⟨rfl, g1⟩

set_option maxRecDepth 10000 in
set_option maxHeartbeats 2000000 in
theorem lby_core (num den b : Nat) (n0 : 0 < num) (d0 : 0 < den) (b0 : 0 < b) (b1 : b < 9000000000000000000)
    (h1 : Hid (∀ w, Calls Try.prog 10 #[.int .u64 num, .int .u64 den] w fun e w' => e = .returned (.tuple #[.float .f64 b, .int .i64 0]) ∧ ∃ n, w' = w.drewN n))
    (h2 : Hid (∀ w, Calls Try.prog 17 #[.float .f64 (b + 1), .int .u64 num, .int .u64 den] w fun e w' => e = .returned (.tuple #[.int .i64 1, .int .i64 0]) ∧ Gb w w'))
    (h3 : Hid (∀ w, Calls Try.prog 17 #[.float .f64 (b - 1), .int .u64 num, .int .u64 den] w fun e w' => e = .returned (.tuple #[.int .i64 (-1), .int .i64 0]) ∧ Gb w w')) (w : World) :
    Calls Try.prog 7 #[.int .u64 num, .int .u64 den] w fun e w' => e = .returned (.bool true) ∧ Gb w w' := by
  have hd1 : ((den : Int) == 0) = false := by simp; omega
  have hn1 : ((num : Int) == 0) = false := by simp; omega
  have hb1 : ((b : Int) == 0) = false := by simp; omega
  have e1 : ((b : Int) + 1).toNat = b + 1 := by omega
  have e2 : ((b : Int) - 1).toNat = b - 1 := by omega
  go_enter Try.func7, Try.ntmps7
  go_wp2_with fail
  refine (shown_any _).mono ?_
  rintro e w1 ⟨rfl, g1⟩
  go_wp2_with fail
  refine (h1.out _).mono ?_
  rintro e w2 ⟨rfl, n, rfl⟩
  go_wp2_with (first | simp only [f64bits] | simp only [f64from])
  refine (h2.out _).mono ?_
  rintro e w3 ⟨rfl, g3⟩
  go_wp2_with (simp only [f64from])
  refine (h3.out _).mono ?_
  rintro e w4 ⟨rfl, g4⟩
  go_wp2
  go_ret
  exact ⟨rfl, ((g1.drewN n).trans g3).trans g4⟩

theorem nearby_law (num : Int) (h0 : 0 ≤ num) (h1 : num < 18446744073709551616) (den : Int) (h2 : 0 ≤ den) (h3 : den < 18446744073709551616) (w : World) :
    Calls Try.prog 7 #[.int .u64 num, .int .u64 den] w fun e w' => e = .returned (.bool true) ∧ Gb w w' := by
  obtain ⟨num, rfl⟩ := Int.eq_ofNat_of_zero_le h0
  obtain ⟨den, rfl⟩ := Int.eq_ofNat_of_zero_le h2
  have hn : num < 18446744073709551616 := by omega
  have hd : den < 18446744073709551616 := by omega
  rcases Nat.eq_zero_or_pos den with z | z
  · subst z
    exact lby_zero num hn w
  · rcases Nat.eq_zero_or_pos num with y | y
    · subst y
      exact lby_num den z w
    · obtain ⟨b, n1, b0, b1, c1⟩ := near_ex num den hn hd y z
      obtain ⟨e1, e2⟩ := beside n1 (by omega) z (by omega)
      refine lby_core num den b y z (by omega) (by omega) c1 (fun w => ?_) (fun w => ?_) w
      · rw [← e1]
        exact cmp_fin (b + 1) num den (by omega) (by unfold rg; omega) hn hd z w
      · rw [← e2]
        exact cmp_fin (b - 1) num den (by omega) (by unfold rg; omega) hn hd z w
end Go.Proofs.Ytfoliapennaneaa
