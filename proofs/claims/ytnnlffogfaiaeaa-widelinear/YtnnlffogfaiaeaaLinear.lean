/- WideLinear returns true for every two numbers and every two factors. -/
import Derived.Test.YtnnlffogfaiaeaaShown
namespace Go.Proofs.Ytnnlffogfaiaeaa
open Go.RowKit Go.Shelf
set_option linter.unusedVariables false

theorem hiv_word (m : Int) (m0 : 0 ≤ m) (m1 : m < 18446744073709551616) : hiv m = 0 := by unfold hiv; omega
theorem lov_word (m : Int) (m0 : 0 ≤ m) (m1 : m < 18446744073709551616) : lov m = m := by unfold lov; omega

set_option maxHeartbeats 2000000 in
theorem l_least (b m n : Int) (b0 : -9223372036854775808 ≤ b) (b1 : b < 9223372036854775808) (m0 : 0 ≤ m) (m1 : m < 18446744073709551616) (n0 : 0 ≤ n) (n1 : n < 18446744073709551616) (w : World) :
    Calls Try.prog 7 #[.int .i64 (-9223372036854775808), .int .i64 b, .int .u64 m, .int .u64 n] w fun e w' => e = .returned (.bool true) ∧ Gb w w' := by
  have z0 := hiv_zero
  have z1 := lov_zero
  go_enter Try.func7, Try.ntmps7
  go_wp2_with (first
        | (go_at_call 9; refine (shown_any _).mono ?_; rintro e w' ⟨rfl, g0⟩)
        | (go_at_call 12; refine (times_any _ _ (by omega) (by omega) (by omega) (by omega) _).mono ?_; rintro e w' ⟨rfl, g⟩)
        | (go_at_call 18; refine (neg_any _ _).mono ?_; rintro e w' ⟨rfl, g⟩)
        | (go_at_call 14; refine (add_any _ _ _).mono ?_; rintro e w' ⟨rfl, g⟩)
        | (go_at_call 10; refine (of_any _ (by omega) (by omega) _).mono ?_; rintro e w' ⟨rfl, g⟩))
  go_ret
  exact ⟨rfl, by (repeat (first | exact Gb.refl _ | assumption | refine Gb.trans ?_ (Gk.gb (by assumption))))⟩

set_option maxHeartbeats 2000000 in
theorem l_posm (a b m n : Int) (a0 : -9223372036854775808 < a) (a1 : a < 9223372036854775808) (b0 : -9223372036854775808 ≤ b) (b1 : b < 9223372036854775808) (m0 : 0 ≤ m) (m1 : m < 18446744073709551616) (n0 : 0 ≤ n) (n1 : n < 18446744073709551616) (hb : 0 ≤ b) (hs : a + b < 9223372036854775808) (hn : m + n < 18446744073709551616) (w : World) :
    Calls Try.prog 7 #[.int .i64 a, .int .i64 b, .int .u64 m, .int .u64 n] w fun e w' => e = .returned (.bool true) ∧ Gb w w' := by
  have z0 := hiv_zero
  have z1 := lov_zero
  have z2 := hiv_word m m0 m1
  have z3 := lov_word m m0 m1
  have p0 : -a * m = -(a * m) := Int.neg_mul a m
  have p1 : (a + b) * m = a * m + b * m := Int.add_mul a b m
  have p2 : a * (m + n) = a * m + a * n := Int.mul_add a m n
  have a2 : (a == -9223372036854775808) = false := by simp; omega
  have t1 : decide (a ≤ a + b) = true := by simp; omega
  have t2 : decide (0 ≤ b) = true := by simp; omega
  have t3 : decide (m ≤ m + n) = true := by simp; omega
  go_enter Try.func7, Try.ntmps7
  go_wp2_with (first
        | (go_at_call 9; refine (shown_any _).mono ?_; rintro e w' ⟨rfl, g0⟩)
        | (go_at_call 12; refine (times_any _ _ (by omega) (by omega) (by omega) (by omega) _).mono ?_; rintro e w' ⟨rfl, g⟩)
        | (go_at_call 18; refine (neg_any _ _).mono ?_; rintro e w' ⟨rfl, g⟩)
        | (go_at_call 14; refine (add_any _ _ _).mono ?_; rintro e w' ⟨rfl, g⟩)
        | (go_at_call 10; refine (of_any _ (by omega) (by omega) _).mono ?_; rintro e w' ⟨rfl, g⟩))
  go_ret
  exact ⟨rfl, by (repeat (first | exact Gb.refl _ | assumption | refine Gb.trans ?_ (Gk.gb (by assumption))))⟩

set_option maxHeartbeats 2000000 in
theorem l_posn (a b m n : Int) (a0 : -9223372036854775808 < a) (a1 : a < 9223372036854775808) (b0 : -9223372036854775808 ≤ b) (b1 : b < 9223372036854775808) (m0 : 0 ≤ m) (m1 : m < 18446744073709551616) (n0 : 0 ≤ n) (n1 : n < 18446744073709551616) (hb : 0 ≤ b) (hs : a + b < 9223372036854775808) (hn : 18446744073709551616 ≤ m + n) (w : World) :
    Calls Try.prog 7 #[.int .i64 a, .int .i64 b, .int .u64 m, .int .u64 n] w fun e w' => e = .returned (.bool true) ∧ Gb w w' := by
  have z0 := hiv_zero
  have z1 := lov_zero
  have z2 := hiv_word m m0 m1
  have z3 := lov_word m m0 m1
  have p0 : -a * m = -(a * m) := Int.neg_mul a m
  have p1 : (a + b) * m = a * m + b * m := Int.add_mul a b m
  have p2 : a * (m + n) = a * m + a * n := Int.mul_add a m n
  have a2 : (a == -9223372036854775808) = false := by simp; omega
  have t1 : decide (a ≤ a + b) = true := by simp; omega
  have t2 : decide (0 ≤ b) = true := by simp; omega
  have t4 : IntKind.u64.wrap (m + n) = m + n - 18446744073709551616 := by rw [IntKind.wrap_u64]; omega
  have t3 : decide (m ≤ m + n - 18446744073709551616) = false := by simp; omega
  go_enter Try.func7, Try.ntmps7
  go_wp2_with (first
        | (go_at_call 9; refine (shown_any _).mono ?_; rintro e w' ⟨rfl, g0⟩)
        | (go_at_call 12; refine (times_any _ _ (by omega) (by omega) (by omega) (by omega) _).mono ?_; rintro e w' ⟨rfl, g⟩)
        | (go_at_call 18; refine (neg_any _ _).mono ?_; rintro e w' ⟨rfl, g⟩)
        | (go_at_call 14; refine (add_any _ _ _).mono ?_; rintro e w' ⟨rfl, g⟩)
        | (go_at_call 10; refine (of_any _ (by omega) (by omega) _).mono ?_; rintro e w' ⟨rfl, g⟩))
  go_ret
  exact ⟨rfl, by (repeat (first | exact Gb.refl _ | assumption | refine Gb.trans ?_ (Gk.gb (by assumption))))⟩

set_option maxHeartbeats 2000000 in
theorem l_negm (a b m n : Int) (a0 : -9223372036854775808 < a) (a1 : a < 9223372036854775808) (b0 : -9223372036854775808 ≤ b) (b1 : b < 9223372036854775808) (m0 : 0 ≤ m) (m1 : m < 18446744073709551616) (n0 : 0 ≤ n) (n1 : n < 18446744073709551616) (hb : b < 0) (hs : -9223372036854775808 ≤ a + b) (hn : m + n < 18446744073709551616) (w : World) :
    Calls Try.prog 7 #[.int .i64 a, .int .i64 b, .int .u64 m, .int .u64 n] w fun e w' => e = .returned (.bool true) ∧ Gb w w' := by
  have z0 := hiv_zero
  have z1 := lov_zero
  have z2 := hiv_word m m0 m1
  have z3 := lov_word m m0 m1
  have p0 : -a * m = -(a * m) := Int.neg_mul a m
  have p1 : (a + b) * m = a * m + b * m := Int.add_mul a b m
  have p2 : a * (m + n) = a * m + a * n := Int.mul_add a m n
  have a2 : (a == -9223372036854775808) = false := by simp; omega
  have t1 : decide (a ≤ a + b) = false := by simp; omega
  have t2 : decide (0 ≤ b) = false := by simp; omega
  have t3 : decide (m ≤ m + n) = true := by simp; omega
  go_enter Try.func7, Try.ntmps7
  go_wp2_with (first
        | (go_at_call 9; refine (shown_any _).mono ?_; rintro e w' ⟨rfl, g0⟩)
        | (go_at_call 12; refine (times_any _ _ (by omega) (by omega) (by omega) (by omega) _).mono ?_; rintro e w' ⟨rfl, g⟩)
        | (go_at_call 18; refine (neg_any _ _).mono ?_; rintro e w' ⟨rfl, g⟩)
        | (go_at_call 14; refine (add_any _ _ _).mono ?_; rintro e w' ⟨rfl, g⟩)
        | (go_at_call 10; refine (of_any _ (by omega) (by omega) _).mono ?_; rintro e w' ⟨rfl, g⟩))
  go_ret
  exact ⟨rfl, by (repeat (first | exact Gb.refl _ | assumption | refine Gb.trans ?_ (Gk.gb (by assumption))))⟩

set_option maxHeartbeats 2000000 in
theorem l_negn (a b m n : Int) (a0 : -9223372036854775808 < a) (a1 : a < 9223372036854775808) (b0 : -9223372036854775808 ≤ b) (b1 : b < 9223372036854775808) (m0 : 0 ≤ m) (m1 : m < 18446744073709551616) (n0 : 0 ≤ n) (n1 : n < 18446744073709551616) (hb : b < 0) (hs : -9223372036854775808 ≤ a + b) (hn : 18446744073709551616 ≤ m + n) (w : World) :
    Calls Try.prog 7 #[.int .i64 a, .int .i64 b, .int .u64 m, .int .u64 n] w fun e w' => e = .returned (.bool true) ∧ Gb w w' := by
  have z0 := hiv_zero
  have z1 := lov_zero
  have z2 := hiv_word m m0 m1
  have z3 := lov_word m m0 m1
  have p0 : -a * m = -(a * m) := Int.neg_mul a m
  have p1 : (a + b) * m = a * m + b * m := Int.add_mul a b m
  have p2 : a * (m + n) = a * m + a * n := Int.mul_add a m n
  have a2 : (a == -9223372036854775808) = false := by simp; omega
  have t1 : decide (a ≤ a + b) = false := by simp; omega
  have t2 : decide (0 ≤ b) = false := by simp; omega
  have t4 : IntKind.u64.wrap (m + n) = m + n - 18446744073709551616 := by rw [IntKind.wrap_u64]; omega
  have t3 : decide (m ≤ m + n - 18446744073709551616) = false := by simp; omega
  go_enter Try.func7, Try.ntmps7
  go_wp2_with (first
        | (go_at_call 9; refine (shown_any _).mono ?_; rintro e w' ⟨rfl, g0⟩)
        | (go_at_call 12; refine (times_any _ _ (by omega) (by omega) (by omega) (by omega) _).mono ?_; rintro e w' ⟨rfl, g⟩)
        | (go_at_call 18; refine (neg_any _ _).mono ?_; rintro e w' ⟨rfl, g⟩)
        | (go_at_call 14; refine (add_any _ _ _).mono ?_; rintro e w' ⟨rfl, g⟩)
        | (go_at_call 10; refine (of_any _ (by omega) (by omega) _).mono ?_; rintro e w' ⟨rfl, g⟩))
  go_ret
  exact ⟨rfl, by (repeat (first | exact Gb.refl _ | assumption | refine Gb.trans ?_ (Gk.gb (by assumption))))⟩

set_option maxHeartbeats 2000000 in
theorem l_posxm (a b m n : Int) (a0 : -9223372036854775808 < a) (a1 : a < 9223372036854775808) (b0 : -9223372036854775808 ≤ b) (b1 : b < 9223372036854775808) (m0 : 0 ≤ m) (m1 : m < 18446744073709551616) (n0 : 0 ≤ n) (n1 : n < 18446744073709551616) (hb : 0 ≤ b) (hs : 9223372036854775808 ≤ a + b) (hn : m + n < 18446744073709551616) (w : World) :
    Calls Try.prog 7 #[.int .i64 a, .int .i64 b, .int .u64 m, .int .u64 n] w fun e w' => e = .returned (.bool true) ∧ Gb w w' := by
  have z0 := hiv_zero
  have z1 := lov_zero
  have z2 := hiv_word m m0 m1
  have z3 := lov_word m m0 m1
  have p0 : -a * m = -(a * m) := Int.neg_mul a m
  have p1 : (a + b) * m = a * m + b * m := Int.add_mul a b m
  have p2 : a * (m + n) = a * m + a * n := Int.mul_add a m n
  have a2 : (a == -9223372036854775808) = false := by simp; omega
  have t0 : wrap64 (a + b) = a + b - 18446744073709551616 := by unfold wrap64; omega
  have t1 : decide (a ≤ a + b - 18446744073709551616) = false := by simp; omega
  have t2 : decide (0 ≤ b) = true := by simp; omega
  have t3 : decide (m ≤ m + n) = true := by simp; omega
  go_enter Try.func7, Try.ntmps7
  go_wp2_with (first
        | (go_at_call 9; refine (shown_any _).mono ?_; rintro e w' ⟨rfl, g0⟩)
        | (go_at_call 12; refine (times_any _ _ (by omega) (by omega) (by omega) (by omega) _).mono ?_; rintro e w' ⟨rfl, g⟩)
        | (go_at_call 18; refine (neg_any _ _).mono ?_; rintro e w' ⟨rfl, g⟩)
        | (go_at_call 14; refine (add_any _ _ _).mono ?_; rintro e w' ⟨rfl, g⟩)
        | (go_at_call 10; refine (of_any _ (by omega) (by omega) _).mono ?_; rintro e w' ⟨rfl, g⟩))
  go_ret
  exact ⟨rfl, by (repeat (first | exact Gb.refl _ | assumption | refine Gb.trans ?_ (Gk.gb (by assumption))))⟩

set_option maxHeartbeats 2000000 in
theorem l_posxn (a b m n : Int) (a0 : -9223372036854775808 < a) (a1 : a < 9223372036854775808) (b0 : -9223372036854775808 ≤ b) (b1 : b < 9223372036854775808) (m0 : 0 ≤ m) (m1 : m < 18446744073709551616) (n0 : 0 ≤ n) (n1 : n < 18446744073709551616) (hb : 0 ≤ b) (hs : 9223372036854775808 ≤ a + b) (hn : 18446744073709551616 ≤ m + n) (w : World) :
    Calls Try.prog 7 #[.int .i64 a, .int .i64 b, .int .u64 m, .int .u64 n] w fun e w' => e = .returned (.bool true) ∧ Gb w w' := by
  have z0 := hiv_zero
  have z1 := lov_zero
  have z2 := hiv_word m m0 m1
  have z3 := lov_word m m0 m1
  have p0 : -a * m = -(a * m) := Int.neg_mul a m
  have p1 : (a + b) * m = a * m + b * m := Int.add_mul a b m
  have p2 : a * (m + n) = a * m + a * n := Int.mul_add a m n
  have a2 : (a == -9223372036854775808) = false := by simp; omega
  have t0 : wrap64 (a + b) = a + b - 18446744073709551616 := by unfold wrap64; omega
  have t1 : decide (a ≤ a + b - 18446744073709551616) = false := by simp; omega
  have t2 : decide (0 ≤ b) = true := by simp; omega
  have t4 : IntKind.u64.wrap (m + n) = m + n - 18446744073709551616 := by rw [IntKind.wrap_u64]; omega
  have t3 : decide (m ≤ m + n - 18446744073709551616) = false := by simp; omega
  go_enter Try.func7, Try.ntmps7
  go_wp2_with (first
        | (go_at_call 9; refine (shown_any _).mono ?_; rintro e w' ⟨rfl, g0⟩)
        | (go_at_call 12; refine (times_any _ _ (by omega) (by omega) (by omega) (by omega) _).mono ?_; rintro e w' ⟨rfl, g⟩)
        | (go_at_call 18; refine (neg_any _ _).mono ?_; rintro e w' ⟨rfl, g⟩)
        | (go_at_call 14; refine (add_any _ _ _).mono ?_; rintro e w' ⟨rfl, g⟩)
        | (go_at_call 10; refine (of_any _ (by omega) (by omega) _).mono ?_; rintro e w' ⟨rfl, g⟩))
  go_ret
  exact ⟨rfl, by (repeat (first | exact Gb.refl _ | assumption | refine Gb.trans ?_ (Gk.gb (by assumption))))⟩

set_option maxHeartbeats 2000000 in
theorem l_negxm (a b m n : Int) (a0 : -9223372036854775808 < a) (a1 : a < 9223372036854775808) (b0 : -9223372036854775808 ≤ b) (b1 : b < 9223372036854775808) (m0 : 0 ≤ m) (m1 : m < 18446744073709551616) (n0 : 0 ≤ n) (n1 : n < 18446744073709551616) (hb : b < 0) (hs : a + b < -9223372036854775808) (hn : m + n < 18446744073709551616) (w : World) :
    Calls Try.prog 7 #[.int .i64 a, .int .i64 b, .int .u64 m, .int .u64 n] w fun e w' => e = .returned (.bool true) ∧ Gb w w' := by
  have z0 := hiv_zero
  have z1 := lov_zero
  have z2 := hiv_word m m0 m1
  have z3 := lov_word m m0 m1
  have p0 : -a * m = -(a * m) := Int.neg_mul a m
  have p1 : (a + b) * m = a * m + b * m := Int.add_mul a b m
  have p2 : a * (m + n) = a * m + a * n := Int.mul_add a m n
  have a2 : (a == -9223372036854775808) = false := by simp; omega
  have t0 : wrap64 (a + b) = a + b + 18446744073709551616 := by unfold wrap64; omega
  have t1 : decide (a ≤ a + b + 18446744073709551616) = true := by simp; omega
  have t2 : decide (0 ≤ b) = false := by simp; omega
  have t3 : decide (m ≤ m + n) = true := by simp; omega
  go_enter Try.func7, Try.ntmps7
  go_wp2_with (first
        | (go_at_call 9; refine (shown_any _).mono ?_; rintro e w' ⟨rfl, g0⟩)
        | (go_at_call 12; refine (times_any _ _ (by omega) (by omega) (by omega) (by omega) _).mono ?_; rintro e w' ⟨rfl, g⟩)
        | (go_at_call 18; refine (neg_any _ _).mono ?_; rintro e w' ⟨rfl, g⟩)
        | (go_at_call 14; refine (add_any _ _ _).mono ?_; rintro e w' ⟨rfl, g⟩)
        | (go_at_call 10; refine (of_any _ (by omega) (by omega) _).mono ?_; rintro e w' ⟨rfl, g⟩))
  go_ret
  exact ⟨rfl, by (repeat (first | exact Gb.refl _ | assumption | refine Gb.trans ?_ (Gk.gb (by assumption))))⟩

set_option maxHeartbeats 2000000 in
theorem l_negxn (a b m n : Int) (a0 : -9223372036854775808 < a) (a1 : a < 9223372036854775808) (b0 : -9223372036854775808 ≤ b) (b1 : b < 9223372036854775808) (m0 : 0 ≤ m) (m1 : m < 18446744073709551616) (n0 : 0 ≤ n) (n1 : n < 18446744073709551616) (hb : b < 0) (hs : a + b < -9223372036854775808) (hn : 18446744073709551616 ≤ m + n) (w : World) :
    Calls Try.prog 7 #[.int .i64 a, .int .i64 b, .int .u64 m, .int .u64 n] w fun e w' => e = .returned (.bool true) ∧ Gb w w' := by
  have z0 := hiv_zero
  have z1 := lov_zero
  have z2 := hiv_word m m0 m1
  have z3 := lov_word m m0 m1
  have p0 : -a * m = -(a * m) := Int.neg_mul a m
  have p1 : (a + b) * m = a * m + b * m := Int.add_mul a b m
  have p2 : a * (m + n) = a * m + a * n := Int.mul_add a m n
  have a2 : (a == -9223372036854775808) = false := by simp; omega
  have t0 : wrap64 (a + b) = a + b + 18446744073709551616 := by unfold wrap64; omega
  have t1 : decide (a ≤ a + b + 18446744073709551616) = true := by simp; omega
  have t2 : decide (0 ≤ b) = false := by simp; omega
  have t4 : IntKind.u64.wrap (m + n) = m + n - 18446744073709551616 := by rw [IntKind.wrap_u64]; omega
  have t3 : decide (m ≤ m + n - 18446744073709551616) = false := by simp; omega
  go_enter Try.func7, Try.ntmps7
  go_wp2_with (first
        | (go_at_call 9; refine (shown_any _).mono ?_; rintro e w' ⟨rfl, g0⟩)
        | (go_at_call 12; refine (times_any _ _ (by omega) (by omega) (by omega) (by omega) _).mono ?_; rintro e w' ⟨rfl, g⟩)
        | (go_at_call 18; refine (neg_any _ _).mono ?_; rintro e w' ⟨rfl, g⟩)
        | (go_at_call 14; refine (add_any _ _ _).mono ?_; rintro e w' ⟨rfl, g⟩)
        | (go_at_call 10; refine (of_any _ (by omega) (by omega) _).mono ?_; rintro e w' ⟨rfl, g⟩))
  go_ret
  exact ⟨rfl, by (repeat (first | exact Gb.refl _ | assumption | refine Gb.trans ?_ (Gk.gb (by assumption))))⟩

theorem linear_any (a : Int) (a0 : -9223372036854775808 ≤ a) (a1 : a < 9223372036854775808) (b : Int) (b0 : -9223372036854775808 ≤ b) (b1 : b < 9223372036854775808) (m : Int) (m0 : 0 ≤ m) (m1 : m < 18446744073709551616) (n : Int) (n0 : 0 ≤ n) (n1 : n < 18446744073709551616) (w : World) :
    Calls Try.prog 7 #[.int .i64 a, .int .i64 b, .int .u64 m, .int .u64 n] w fun e w' => e = .returned (.bool true) ∧ Gb w w' := by
  by_cases h : a = -9223372036854775808
  · subst h; exact l_least b m n b0 b1 m0 m1 n0 n1 w
  · have a2 : -9223372036854775808 < a := by omega
    by_cases hb : 0 ≤ b <;> by_cases hn : m + n < 18446744073709551616
    · by_cases hs : a + b < 9223372036854775808
      · exact l_posm a b m n a2 a1 b0 b1 m0 m1 n0 n1 hb hs hn w
      · exact l_posxm a b m n a2 a1 b0 b1 m0 m1 n0 n1 hb (by omega) hn w
    · by_cases hs : a + b < 9223372036854775808
      · exact l_posn a b m n a2 a1 b0 b1 m0 m1 n0 n1 hb hs (by omega) w
      · exact l_posxn a b m n a2 a1 b0 b1 m0 m1 n0 n1 hb (by omega) (by omega) w
    · by_cases hs : -9223372036854775808 ≤ a + b
      · exact l_negm a b m n a2 a1 b0 b1 m0 m1 n0 n1 (by omega) hs hn w
      · exact l_negxm a b m n a2 a1 b0 b1 m0 m1 n0 n1 (by omega) (by omega) hn w
    · by_cases hs : -9223372036854775808 ≤ a + b
      · exact l_negn a b m n a2 a1 b0 b1 m0 m1 n0 n1 (by omega) hs (by omega) w
      · exact l_negxn a b m n a2 a1 b0 b1 m0 m1 n0 n1 (by omega) (by omega) (by omega) w

end Go.Proofs.Ytnnlffogfaiaeaa
