/- A number of two words with its highest bit first, times a power of two; how two such are told apart. -/
import Derived.Test.YtfoliapennaneaaRCmp
namespace Go.Proofs.Ytfoliapennaneaa
open Go.RowKit Go.Shelf
set_option linter.unusedVariables false

theorem moved2 (hi lo : Int) (s : Nat) (hs : s ≤ 63) (h0 : 0 ≤ hi) (l0 : 0 ≤ lo) (l1 : lo < 18446744073709551616) (hY : hi * 2 ^ s < 18446744073709551616) :
    bits .or .u64 (IntKind.u64.wrap (hi * 2 ^ s)) (lo / 2 ^ (64 - s)) = hi * 2 ^ s + lo / 2 ^ (64 - s) ∧
    (hi * 2 ^ s + lo / 2 ^ (64 - s)) * 18446744073709551616 + IntKind.u64.wrap (lo * 2 ^ s) = (hi * 18446744073709551616 + lo) * 2 ^ s ∧
    0 ≤ lo / 2 ^ (64 - s) ∧ hi * 2 ^ s + lo / 2 ^ (64 - s) < 18446744073709551616 := by
  have hP : (0 : Int) < 2 ^ s := Int.pow_pos (by decide)
  have hP' : (0 : Int) < 2 ^ (64 - s) := Int.pow_pos (by decide)
  have hPP : (2 : Int) ^ (64 - s) * 2 ^ s = 18446744073709551616 := by
    rw [← Int.pow_add, show 64 - s + s = 64 by omega]; decide
  have hPle : (2 : Int) ^ s ≤ 18446744073709551616 := by
    have h1' : (1 : Int) * 2 ^ s ≤ 2 ^ (64 - s) * 2 ^ s := Int.mul_le_mul_of_nonneg_right (by omega) (by omega)
    omega
  have hh0 : 0 ≤ hi * 2 ^ s := Int.mul_nonneg h0 (by omega)
  have hmod : hi * 2 ^ s % 2 ^ s = 0 := Int.mul_emod_left _ _
  have d0 : 0 ≤ lo / 2 ^ (64 - s) := Int.ediv_nonneg l0 (by omega)
  have d1 : lo / 2 ^ (64 - s) < 2 ^ s := Int.ediv_lt_of_lt_mul hP' (by rw [Int.mul_comm, hPP]; exact l1)
  have e := Int.mul_ediv_add_emod lo (2 ^ (64 - s))
  have m0 := Int.emod_nonneg lo (b := 2 ^ (64 - s)) (by omega)
  have m1 := Int.emod_lt_of_pos lo hP'
  have ew : IntKind.u64.wrap (hi * 2 ^ s) = hi * 2 ^ s := by rw [IntKind.wrap_u64]; omega
  -- the upper word's last place is 2^s below 2^64
  have top : hi * 2 ^ s + 2 ^ s ≤ 18446744073709551616 := by
    have a1 : hi < 2 ^ (64 - s) := by
      refine Int.lt_of_mul_lt_mul_right (a := 2 ^ s) ?_ (by omega)
      rw [hPP]; exact hY
    have a2 : (hi + 1) * 2 ^ s ≤ 2 ^ (64 - s) * 2 ^ s := Int.mul_le_mul_of_nonneg_right (by omega) (by omega)
    rw [hPP, Int.add_mul, Int.one_mul] at a2
    exact a2
  refine ⟨?_, ?_, d0, by omega⟩
  · rw [ew]
    exact bits_join .u64 64 (by decide) (fun n a b => by rw [IntKind.wrap_u64]; omega) s _ _ hh0 hmod (by omega) d0 d1 (by omega)
  · have e2 : lo * 2 ^ s = lo / 2 ^ (64 - s) * 18446744073709551616 + lo % 2 ^ (64 - s) * 2 ^ s := by
      have : lo * 2 ^ s = (2 ^ (64 - s) * (lo / 2 ^ (64 - s)) + lo % 2 ^ (64 - s)) * 2 ^ s := by rw [e]
      rw [this, Int.add_mul, Int.mul_comm (2 ^ (64 - s)) (lo / 2 ^ (64 - s)), Int.mul_assoc, hPP]
    have r1 : lo % 2 ^ (64 - s) * 2 ^ s < 18446744073709551616 := by rw [← hPP]; exact Int.mul_lt_mul_of_pos_right m1 hP
    have r0 : 0 ≤ lo % 2 ^ (64 - s) * 2 ^ s := Int.mul_nonneg m0 (by omega)
    rw [IntKind.wrap_u64, e2, Int.add_mul, Int.add_mul, e2, Int.mul_assoc hi, Int.mul_comm (2 ^ s) 18446744073709551616, ← Int.mul_assoc]
    generalize lo % 2 ^ (64 - s) * 2 ^ s = r at *
    omega

set_option maxHeartbeats 1000000 in
theorem scale_core (hi lo h' l' : Int) (e : Int) (s : Nat) (e0 : -5000 ≤ e) (e1 : e ≤ 5000) (hs : s ≤ 63) (h0 : (hi == 0) = false)
    (lz : Hid (∀ w : World, Calls Try.prog 22 #[.int .u64 hi] w fun e w' => e = .returned (.int .i64 (s : Int)) ∧ w' = w))
    (eh : bits .or .u64 (IntKind.u64.wrap (hi * 2 ^ s)) (lo / 2 ^ (64 - s)) = h') (el : IntKind.u64.wrap (lo * 2 ^ s) = l') (w : World) :
    Calls Try.prog 32 #[.int .u64 hi, .int .u64 lo, .int .i64 e] w fun r w' => r = .returned (.agg #[.int .i64 (e - s), .int .u64 h', .int .u64 l']) ∧ Gb w w' := by
  go_enter Try.func32, Try.ntmps32
  go_wp2_with (go_at_call 22; refine (lz.out _).mono ?_; rintro e w' ⟨rfl, rfl⟩)
  go_region
  all_goals
    go_wp2
    refine bodyPost_ret (v := .agg #[.int .i64 (e - s), .int .u64 h', .int .u64 l']) (by simp [results, Try.results32, go_sem]) rfl ⟨rfl, ((Gb.refl w).alloc _ _).drew⟩

set_option maxHeartbeats 1000000 in
theorem scale_zero (lo h' : Int) (e : Int) (s : Nat) (e0 : -5000 ≤ e) (e1 : e ≤ 5000) (hs : s ≤ 63)
    (lz : Hid (∀ w : World, Calls Try.prog 22 #[.int .u64 lo] w fun e w' => e = .returned (.int .i64 (s : Int)) ∧ w' = w))
    (eh : bits .or .u64 (IntKind.u64.wrap (lo * 2 ^ s)) (0 / 2 ^ (64 - s)) = h') (el : IntKind.u64.wrap (0 * 2 ^ s) = 0) (w : World) :
    Calls Try.prog 32 #[.int .u64 0, .int .u64 lo, .int .i64 e] w fun r w' => r = .returned (.agg #[.int .i64 (e - 64 - s), .int .u64 h', .int .u64 0]) ∧ Gb w w' := by
  simp only [Int.zero_ediv] at eh
  go_enter Try.func32, Try.ntmps32
  go_wp2_with (go_at_call 22; refine (lz.out _).mono ?_; rintro e w' ⟨rfl, rfl⟩)
  go_region
  all_goals
    go_wp2
    refine bodyPost_ret (v := .agg #[.int .i64 (e - 64 - s), .int .u64 h', .int .u64 0]) (by simp [results, Try.results32, go_sem]) rfl ⟨rfl, ((Gb.refl w).alloc _ _).drew⟩

theorem scale_ex (hi lo : Nat) (e : Int) (e0 : -5000 ≤ e) (e1 : e ≤ 5000) (h1 : hi < 18446744073709551616) (l1 : lo < 18446744073709551616) (h0 : 0 < hi ∨ 0 < lo) :
    ∃ n h l : Nat, n ≤ 127 ∧ 9223372036854775808 ≤ h ∧ h < 18446744073709551616 ∧ l < 18446744073709551616 ∧ h * 18446744073709551616 + l = (hi * 18446744073709551616 + lo) * 2 ^ n ∧
      ∀ w, Calls Try.prog 32 #[.int .u64 hi, .int .u64 lo, .int .i64 e] w fun r w' => r = .returned (.agg #[.int .i64 (e - n), .int .u64 h, .int .u64 l]) ∧ Gb w w' := by
  by_cases hz : hi = 0
  · subst hz
    obtain ⟨s, s1, es, s2, s3⟩ := leadn lo (by omega) l1
    refine ⟨64 + s, lo * 2 ^ s, 0, by omega, s2, s3, by decide, ?_, fun w => ?_⟩
    · rw [Nat.pow_add, Nat.zero_mul, Nat.zero_add, Nat.add_zero, Nat.mul_comm (2 ^ 64), ← Nat.mul_assoc]
    · have ew := wrap_nat lo s s3
      have := scale_zero lo ((lo * 2 ^ s : Nat) : Int) e s e0 e1 s1 (fun w => lz_any lo s l1 es w) (by
        rw [ew, Int.zero_ediv]
        have := u64_or_nat (lo * 2 ^ s) 0 s3 (by decide)
        rw [Nat.or_zero] at this
        exact this) (by rw [Int.zero_mul, IntKind.wrap_u64]; rfl) w
      rw [show e - ((64 + s : Nat) : Int) = e - 64 - s by omega]
      exact this
  · obtain ⟨s, s1, es, s2, s3⟩ := leadn hi (by omega) h1
    have e3 : ((hi * 2 ^ s : Nat) : Int) = (hi : Int) * 2 ^ s := by rw [Int.natCast_mul, Int.natCast_pow]; rfl
    obtain ⟨m1, m2, m3, m4⟩ := moved2 hi lo s s1 (by omega) (by omega) (by omega) (by omega)
    obtain ⟨w0, w1⟩ := u64w_bd ((lo : Int) * 2 ^ s)
    obtain ⟨h, hh⟩ : ∃ h : Nat, (h : Int) = (hi : Int) * 2 ^ s + lo / 2 ^ (64 - s) := ⟨((hi : Int) * 2 ^ s + lo / 2 ^ (64 - s)).toNat, by omega⟩
    obtain ⟨l, hl⟩ : ∃ l : Nat, (l : Int) = IntKind.u64.wrap ((lo : Int) * 2 ^ s) := ⟨(IntKind.u64.wrap ((lo : Int) * 2 ^ s)).toNat, by omega⟩
    rw [← hh] at m1 m2 m4
    rw [← hl] at m2
    refine ⟨s, h, l, by omega, by omega, by omega, by omega, ?_, fun w => ?_⟩
    · have e4 : (((hi * 18446744073709551616 + lo) * 2 ^ s : Nat) : Int) = ((hi : Int) * 18446744073709551616 + lo) * 2 ^ s := by rw [Int.natCast_mul, Int.natCast_pow]; rfl
      rw [← e4] at m2
      omega
    · exact scale_core hi lo h l e s e0 e1 s1 (by simp; omega) (fun w => lz_any hi s h1 es w) m1 hl.symm w

theorem cmpi_scale (a b k : Int) (h : 0 < k) : cmpi (a * k) (b * k) = cmpi a b := by
  unfold cmpi
  have e1 : (a * k < b * k) ↔ a < b := Int.mul_lt_mul_right h
  have e2 : (a * k = b * k) ↔ a = b := Int.mul_eq_mul_right_iff (by omega)
  simp only [e1, e2]

theorem cmpi_nat (a b : Nat) : cmpi (a : Int) b = if a < b then -1 else if a = b then 0 else 1 := by
  unfold cmpi; simp only [Int.ofNat_lt, Int.natCast_inj]

/-- Numbers with their highest bit first are told apart word by word. -/
theorem lex_cmp (h1 l1 h2 l2 p q : Nat) (E1 E2 : Int) (hE : E1 - E2 = (p : Int) - q) (a0 : 9223372036854775808 ≤ h1) (a1 : h1 < 18446744073709551616) (a2 : l1 < 18446744073709551616)
    (b0 : 9223372036854775808 ≤ h2) (b1 : h2 < 18446744073709551616) (b2 : l2 < 18446744073709551616) :
    or3 (cmpi E1 E2) (cmpi h1 h2) (cmpi l1 l2) = cmpi (((h1 * 18446744073709551616 + l1) * 2 ^ p : Nat) : Int) (((h2 * 18446744073709551616 + l2) * 2 ^ q : Nat) : Int) := by
  have two : ∀ a b : Nat, a < b → ∀ M N : Nat, M < 2 * N → M * 2 ^ a < N * 2 ^ b := by
    intro a b h M N hM
    have c1 : M * 2 ^ a < 2 * N * 2 ^ a := Nat.mul_lt_mul_of_pos_right hM (Nat.two_pow_pos a)
    have c2 : 2 * N * 2 ^ a = N * 2 ^ (a + 1) := by rw [Nat.pow_succ, Nat.mul_comm 2 N, Nat.mul_assoc, Nat.mul_comm 2]
    have c3 : N * 2 ^ (a + 1) ≤ N * 2 ^ b := Nat.mul_le_mul_left _ (Nat.pow_le_pow_right (by decide) h)
    omega
  unfold or3
  rcases Int.lt_trichotomy E1 E2 with h | h | h
  · have := two p q (by omega) (h1 * 18446744073709551616 + l1) (h2 * 18446744073709551616 + l2) (by omega)
    rw [cmpi_lt h, cmpi_lt (Int.ofNat_lt.2 this)]; rfl
  · obtain rfl : p = q := by omega
    rw [cmpi_eq h, if_pos rfl, Int.natCast_mul, Int.natCast_mul, cmpi_scale _ _ _ (by have := Nat.two_pow_pos p; omega)]
    rcases Nat.lt_trichotomy h1 h2 with k | k | k
    · rw [cmpi_lt (Int.ofNat_lt.2 k), cmpi_lt (a := ((h1 * 18446744073709551616 + l1 : Nat) : Int)) (b := ((h2 * 18446744073709551616 + l2 : Nat) : Int)) (by omega)]; rfl
    · rw [cmpi_eq (by omega), if_pos rfl, k]
      rcases Nat.lt_trichotomy l1 l2 with j | j | j
      · rw [cmpi_lt (Int.ofNat_lt.2 j), cmpi_lt (by omega)]
      · rw [cmpi_eq (by omega), cmpi_eq (by omega)]
      · rw [cmpi_gt (Int.ofNat_lt.2 j), cmpi_gt (by omega)]
    · rw [cmpi_gt (Int.ofNat_lt.2 k), cmpi_gt (a := ((h1 * 18446744073709551616 + l1 : Nat) : Int)) (b := ((h2 * 18446744073709551616 + l2 : Nat) : Int)) (by omega)]; rfl
  · have := two q p (by omega) (h2 * 18446744073709551616 + l2) (h1 * 18446744073709551616 + l1) (by omega)
    rw [cmpi_gt h, cmpi_gt (Int.ofNat_lt.2 this)]; rfl

theorem or_frac (a : Nat) (h : a < 4503599627370496) : bits .or .u64 (a : Int) 4503599627370496 = ((4503599627370496 + a : Nat) : Int) := by
  have := u64_or_nat a 4503599627370496 (by omega) (by decide)
  rw [Nat.or_comm, nat_join 52 4503599627370496 a (by decide) h] at this
  exact this

theorem apart_any (x : Nat) (hx : x < 9218868437227405312) (w : World) :
    Calls Try.prog 30 #[.float .f64 x] w fun e w' => e = .returned (.tuple #[.int .u64 (mg x), .int .i64 ((xp x : Int) - 1074)]) ∧ w' = w := by
  have o := or_frac (x % 4503599627370496) (Nat.mod_lt _ (by decide))
  have e1 : (x : Int) % 4503599627370496 = ((x % 4503599627370496 : Nat) : Int) := rfl
  have e2 : (x : Int) / 4503599627370496 = ((x / 4503599627370496 : Nat) : Int) := rfl
  unfold mg xp
  by_cases h : x < 4503599627370496
  · rw [if_pos h]
    have q : x / 4503599627370496 = 0 := by omega
    have r : x % 4503599627370496 = x := by omega
    rw [q] at e2 ⊢
    rw [r] at e1
    clear o
    go_enter Try.func30, Try.ntmps30
    go_wp2_with (simp only [f64bits])
    go_ret2
    refine ⟨?_, rfl⟩
    show Ending.returned (.tuple #[.int .u64 ((x : Int) % 4503599627370496), .int .i64 (-1074)]) = _
    rw [e1]; rfl
  · rw [if_neg h]
    have q : 0 < x / 4503599627370496 := by omega
    have q2 : x / 4503599627370496 < 2047 := by omega
    have q3 : ((x / 4503599627370496 - 1 : Nat) : Int) - 1074 = ((x / 4503599627370496 : Nat) : Int) - 1075 := by omega
    rw [q3]
    clear q3
    generalize x / 4503599627370496 = f at *
    have hf : ((f : Int) == 0) = false := by simp; omega
    have hr : x % 4503599627370496 < 4503599627370496 := Nat.mod_lt _ (by decide)
    generalize x % 4503599627370496 = r at *
    go_enter Try.func30, Try.ntmps30
    go_wp2_with (simp only [f64bits])
    go_ret2
    exact ⟨rfl, rfl⟩
end Go.Proofs.Ytfoliapennaneaa
