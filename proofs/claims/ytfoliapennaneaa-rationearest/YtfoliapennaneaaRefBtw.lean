/- The document's Between, at two floats that lie side by side: on which side of their middle the fraction lies. -/
import Derived.Test.YtfoliapennaneaaLCmp
namespace Go.Proofs.Ytfoliapennaneaa
open Go.RowKit Go.Shelf
set_option linter.unusedVariables false

set_option maxRecDepth 20000 in
set_option maxHeartbeats 8000000 in
theorem btw_low (r num den : Nat) (R c d : Int) (hR : R = -1) (hc : 0 ≤ c)
    (ha : Hid (∀ w, Calls Try.prog 18 #[.float .f64 r, .int .u64 num, .int .u64 den] w fun e w' => e = .returned (.tuple #[.int .i64 c, .int .i64 0]) ∧ w' = w))
    (hb : Hid (∀ w, Calls Try.prog 18 #[.float .f64 (r + 1), .int .u64 num, .int .u64 den] w fun e w' => e = .returned (.tuple #[.int .i64 d, .int .i64 0]) ∧ w' = w)) (w : World) :
    Calls Try.prog 14 #[.float .f64 r, .float .f64 (r + 1), .int .u64 num, .int .u64 den] w fun e w' => e = .returned (.tuple #[.int .i64 R, .int .i64 0]) ∧ w' = w := by
  subst hR
  go_enter Try.func14, Try.ntmps14
  go_wp2_with fail
  refine (ha.out _).mono ?_
  rintro e w' ⟨rfl, hw⟩
  have hw' : w = w' := hw.symm
  clear hw
  subst hw'
  go_wp2_with fail
  refine (hb.out _).mono ?_
  rintro e w' ⟨rfl, hw⟩
  have hw' : w = w' := hw.symm
  clear hw
  subst hw'
  go_wp2
  go_ret2
  exact ⟨rfl, rfl⟩

set_option maxRecDepth 20000 in
set_option maxHeartbeats 8000000 in
theorem btw_high (r num den : Nat) (R d : Int) (hR : R = 1) (hd : d ≤ 0)
    (ha : Hid (∀ w, Calls Try.prog 18 #[.float .f64 r, .int .u64 num, .int .u64 den] w fun e w' => e = .returned (.tuple #[.int .i64 (-1), .int .i64 0]) ∧ w' = w))
    (hb : Hid (∀ w, Calls Try.prog 18 #[.float .f64 (r + 1), .int .u64 num, .int .u64 den] w fun e w' => e = .returned (.tuple #[.int .i64 d, .int .i64 0]) ∧ w' = w)) (w : World) :
    Calls Try.prog 14 #[.float .f64 r, .float .f64 (r + 1), .int .u64 num, .int .u64 den] w fun e w' => e = .returned (.tuple #[.int .i64 R, .int .i64 0]) ∧ w' = w := by
  subst hR
  go_enter Try.func14, Try.ntmps14
  go_wp2_with fail
  refine (ha.out _).mono ?_
  rintro e w' ⟨rfl, hw⟩
  have hw' : w = w' := hw.symm
  clear hw
  subst hw'
  go_wp2_with fail
  refine (hb.out _).mono ?_
  rintro e w' ⟨rfl, hw⟩
  have hw' : w = w' := hw.symm
  clear hw
  subst hw'
  go_wp2
  go_ret2
  exact ⟨rfl, rfl⟩

theorem dbl_pow {k j : Nat} (h0 : 1 ≤ k + j) (h : k + j < 2000) : Ieee.double.mul ((k + j) * 4503599627370496) 4611686018427387904 = some ((k + (j + 1)) * 4503599627370496) := by
  rw [mul_two_f (by omega)]; unfold dbl; rw [if_neg (by omega)]
  refine congrArg some ?_
  omega
theorem lt_one {k : Nat} (h : k < 1023) : (FloatKind.f64.format.order (k * 4503599627370496) 4607182418800017408 == some .lt) = true := by
  rw [fmt, f_lt (by rw [rg_small (by omega)]; omega) (by decide), SV_small (by omega), SV_small (by decide)]
  exact decide_eq_true (Int.ofNat_lt.2 (V_lt (by omega)))
theorem not_lt_one {k : Nat} (h : 1023 ≤ k) (h2 : k < 2000) : (FloatKind.f64.format.order (k * 4503599627370496) 4607182418800017408 == some .lt) = false := by
  rw [fmt, f_lt (by rw [rg_small (by omega)]; omega) (by decide), SV_small (by omega), SV_small (by decide)]
  have := V_le (show 4607182418800017408 ≤ k * 4503599627370496 by omega)
  exact decide_eq_false (by omega)

set_option maxRecDepth 20000 in
set_option maxHeartbeats 8000000 in
theorem btw_one (r num den st low q rs two : Nat) (one : Bool) (R : Int) (d0 : 0 < den)
    (ha : Hid (∀ w, Calls Try.prog 18 #[.float .f64 r, .int .u64 num, .int .u64 den] w fun e w' => e = .returned (.tuple #[.int .i64 (-1), .int .i64 0]) ∧ w' = w))
    (hb : Hid (∀ w, Calls Try.prog 18 #[.float .f64 (r + 1), .int .u64 num, .int .u64 den] w fun e w' => e = .returned (.tuple #[.int .i64 1, .int .i64 0]) ∧ w' = w))
    (hsub : ∀ w, (binOp .sub 24 (.float .f64 (r + 1)) (.float .f64 r)).run Try.prog w = .ok (.float .f64 st) w)
    (hlt : (FloatKind.f64.format.order st 4607182418800017408 == some .lt) = false)
    (hca : ∀ w, (convert 24 22 (.float .f64 r)).run Try.prog w = .ok (.int .u64 (low : Int)) w)
    (hcs : ∀ w, (convert 24 22 (.float .f64 st)).run Try.prog w = .ok (.int .u64 1) w)
    (eq : (num : Int) / den = (q : Int)) (bq : q < 18446744073709551616) (er : (num : Int) % den = (rs : Int))
    (hdb : Hid (∀ w, Calls Try.prog 25 #[.int .u64 rs, .int .u64 den] w fun e w' => e = .returned (.tuple #[.int .u64 two, .bool one]) ∧ w' = w))
    (hR : one = false ∧ R = -1 ∨ one = true ∧ two = 0 ∧ R = 0 ∨ one = true ∧ 0 < two ∧ R = 1) (w : World) :
    Calls Try.prog 14 #[.float .f64 r, .float .f64 (r + 1), .int .u64 num, .int .u64 den] w fun e w' => e = .returned (.tuple #[.int .i64 R, .int .i64 0]) ∧ w' = w := by
  have hd0 : ((den : Int) == 0) = false := by simp; omega
  rcases hR with ⟨rfl, rfl⟩ | ⟨rfl, h2, rfl⟩ | ⟨rfl, h2, rfl⟩
  · go_enter Try.func14, Try.ntmps14
    go_wp2_with fail
    refine (ha.out _).mono ?_
    rintro e w' ⟨rfl, hw⟩
    have hw' : w = w' := hw.symm
    clear hw
    subst hw'
    go_wp2_with fail
    refine (hb.out _).mono ?_
    rintro e w' ⟨rfl, hw⟩
    have hw' : w = w' := hw.symm
    clear hw
    subst hw'
    go_wp2
    refine wp_loop_rounds 1 ?_
    rw [rounds_succ]
    go_wp2_with fail
    refine (hdb.out _).mono ?_
    rintro e w' ⟨rfl, hw⟩
    have hw' : w = w' := hw.symm
    clear hw
    subst hw'
    go_wp2
    go_ret2
    exact ⟨rfl, rfl⟩
  · have h2' : ((two : Int) == 0) = true := by simp; omega
    go_enter Try.func14, Try.ntmps14
    go_wp2_with fail
    refine (ha.out _).mono ?_
    rintro e w' ⟨rfl, hw⟩
    have hw' : w = w' := hw.symm
    clear hw
    subst hw'
    go_wp2_with fail
    refine (hb.out _).mono ?_
    rintro e w' ⟨rfl, hw⟩
    have hw' : w = w' := hw.symm
    clear hw
    subst hw'
    go_wp2
    refine wp_loop_rounds 1 ?_
    rw [rounds_succ]
    go_wp2_with fail
    refine (hdb.out _).mono ?_
    rintro e w' ⟨rfl, hw⟩
    have hw' : w = w' := hw.symm
    clear hw
    subst hw'
    go_wp2
    go_ret2
    exact ⟨rfl, rfl⟩
  · have h2' : ((two : Int) == 0) = false := by simp; omega
    go_enter Try.func14, Try.ntmps14
    go_wp2_with fail
    refine (ha.out _).mono ?_
    rintro e w' ⟨rfl, hw⟩
    have hw' : w = w' := hw.symm
    clear hw
    subst hw'
    go_wp2_with fail
    refine (hb.out _).mono ?_
    rintro e w' ⟨rfl, hw⟩
    have hw' : w = w' := hw.symm
    clear hw
    subst hw'
    go_wp2
    refine wp_loop_rounds 1 ?_
    rw [rounds_succ]
    go_wp2_with fail
    refine (hdb.out _).mono ?_
    rintro e w' ⟨rfl, hw⟩
    have hw' : w = w' := hw.symm
    clear hw
    subst hw'
    go_wp2
    go_ret2
    exact ⟨rfl, rfl⟩

set_option maxRecDepth 20000 in
set_option maxHeartbeats 8000000 in
theorem btw_many (r num den st low q rs S half : Nat) (R : Int) (d0 : 0 < den)
    (ha : Hid (∀ w, Calls Try.prog 18 #[.float .f64 r, .int .u64 num, .int .u64 den] w fun e w' => e = .returned (.tuple #[.int .i64 (-1), .int .i64 0]) ∧ w' = w))
    (hb : Hid (∀ w, Calls Try.prog 18 #[.float .f64 (r + 1), .int .u64 num, .int .u64 den] w fun e w' => e = .returned (.tuple #[.int .i64 1, .int .i64 0]) ∧ w' = w))
    (hsub : ∀ w, (binOp .sub 24 (.float .f64 (r + 1)) (.float .f64 r)).run Try.prog w = .ok (.float .f64 st) w)
    (hlt : (FloatKind.f64.format.order st 4607182418800017408 == some .lt) = false)
    (hca : ∀ w, (convert 24 22 (.float .f64 r)).run Try.prog w = .ok (.int .u64 (low : Int)) w)
    (hcs : ∀ w, (convert 24 22 (.float .f64 st)).run Try.prog w = .ok (.int .u64 (S : Int)) w)
    (eh : (S : Int) / 2 = (half : Int)) (bh : half < 18446744073709551616) (hS : ((S : Int) == 1) = false)
    (eq : (num : Int) / den = (q : Int)) (bq : q < 18446744073709551616) (er : (num : Int) % den = (rs : Int)) (hlq : low ≤ q)
    (hR : q - low < half ∧ R = -1 ∨ half < q - low ∧ R = 1 ∨ q - low = half ∧ 0 < rs ∧ R = 1 ∨ q - low = half ∧ rs = 0 ∧ R = 0) (w : World) :
    Calls Try.prog 14 #[.float .f64 r, .float .f64 (r + 1), .int .u64 num, .int .u64 den] w fun e w' => e = .returned (.tuple #[.int .i64 R, .int .i64 0]) ∧ w' = w := by
  have hd0 : ((den : Int) == 0) = false := by simp; omega
  obtain ⟨g, hg⟩ : ∃ g : Nat, (q : Int) - low = (g : Int) := ⟨q - low, by omega⟩
  have bg : g < 18446744073709551616 := by omega
  have hg2 : q - low = g := by omega
  rw [hg2] at hR
  clear hg2 hlq
  rcases hR with ⟨h2, rfl⟩ | ⟨h2, rfl⟩ | ⟨h2, h3, rfl⟩ | ⟨h2, h3, rfl⟩
  · have h4 : ((g : Int) == half) = false := by simp; omega
    go_enter Try.func14, Try.ntmps14
    go_wp2_with fail
    refine (ha.out _).mono ?_
    rintro e w' ⟨rfl, hw⟩
    have hw' : w = w' := hw.symm
    clear hw
    subst hw'
    go_wp2_with fail
    refine (hb.out _).mono ?_
    rintro e w' ⟨rfl, hw⟩
    have hw' : w = w' := hw.symm
    clear hw
    subst hw'
    go_wp2
    refine wp_loop_rounds 1 ?_
    rw [rounds_succ]
    go_wp2
    go_ret2
    exact ⟨rfl, rfl⟩
  · have h4 : ((g : Int) == half) = false := by simp; omega
    have h5 : ¬ g < half := by omega
    go_enter Try.func14, Try.ntmps14
    go_wp2_with fail
    refine (ha.out _).mono ?_
    rintro e w' ⟨rfl, hw⟩
    have hw' : w = w' := hw.symm
    clear hw
    subst hw'
    go_wp2_with fail
    refine (hb.out _).mono ?_
    rintro e w' ⟨rfl, hw⟩
    have hw' : w = w' := hw.symm
    clear hw
    subst hw'
    go_wp2
    refine wp_loop_rounds 1 ?_
    rw [rounds_succ]
    go_wp2
    go_ret2
    exact ⟨rfl, rfl⟩
  · have h4 : ((g : Int) == half) = true := by simp; omega
    go_enter Try.func14, Try.ntmps14
    go_wp2_with fail
    refine (ha.out _).mono ?_
    rintro e w' ⟨rfl, hw⟩
    have hw' : w = w' := hw.symm
    clear hw
    subst hw'
    go_wp2_with fail
    refine (hb.out _).mono ?_
    rintro e w' ⟨rfl, hw⟩
    have hw' : w = w' := hw.symm
    clear hw
    subst hw'
    go_wp2
    refine wp_loop_rounds 1 ?_
    rw [rounds_succ]
    go_wp2
    go_ret2
    exact ⟨rfl, rfl⟩
  · have h4 : ((g : Int) == half) = true := by simp; omega
    have h5 : ¬ 0 < rs := by omega
    go_enter Try.func14, Try.ntmps14
    go_wp2_with fail
    refine (ha.out _).mono ?_
    rintro e w' ⟨rfl, hw⟩
    have hw' : w = w' := hw.symm
    clear hw
    subst hw'
    go_wp2_with fail
    refine (hb.out _).mono ?_
    rintro e w' ⟨rfl, hw⟩
    have hw' : w = w' := hw.symm
    clear hw
    subst hw'
    go_wp2
    refine wp_loop_rounds 1 ?_
    rw [rounds_succ]
    go_wp2
    go_ret2
    exact ⟨rfl, rfl⟩

set_option maxRecDepth 20000 in
set_option maxHeartbeats 8000000 in
theorem btw_frac (r num den sb X rs two : Nat) (one : Bool) (R : Int) (d0 : 0 < den) (hd : den < 18446744073709551616) (hX0 : 0 < X) (hX : X < 1000) (hsb : sb + X = 1023)
    (ha : Hid (∀ w, Calls Try.prog 18 #[.float .f64 r, .int .u64 num, .int .u64 den] w fun e w' => e = .returned (.tuple #[.int .i64 (-1), .int .i64 0]) ∧ w' = w))
    (hb : Hid (∀ w, Calls Try.prog 18 #[.float .f64 (r + 1), .int .u64 num, .int .u64 den] w fun e w' => e = .returned (.tuple #[.int .i64 1, .int .i64 0]) ∧ w' = w))
    (hsub : ∀ w, (binOp .sub 24 (.float .f64 (r + 1)) (.float .f64 r)).run Try.prog w = .ok (.float .f64 (sb * 4503599627370496)) w)
    (er : (num : Int) % den = ((num * 2 ^ 0 % den : Nat) : Int))
    (hdb : Hid (∀ w, Calls Try.prog 25 #[.int .u64 ((num * 2 ^ X % den : Nat) : Int), .int .u64 den] w fun e w' => e = .returned (.tuple #[.int .u64 two, .bool one]) ∧ w' = w))
    (hR : one = false ∧ R = -1 ∨ one = true ∧ two = 0 ∧ R = 0 ∨ one = true ∧ 0 < two ∧ R = 1) (w : World) :
    Calls Try.prog 14 #[.float .f64 r, .float .f64 (r + 1), .int .u64 num, .int .u64 den] w fun e w' => e = .returned (.tuple #[.int .i64 R, .int .i64 0]) ∧ w' = w := by
  have hd0 : ((den : Int) == 0) = false := by simp; omega
  have E0 : Hid ((num : Int) % den = ((num * 2 ^ 0 % den : Nat) : Int)) := er
  clear er
  go_enter Try.func14, Try.ntmps14
  go_wp2_with fail
  refine (ha.out _).mono ?_
  rintro e w' ⟨rfl, hw⟩
  have hw' : w = w' := hw.symm
  clear hw
  subst hw'
  go_wp2_with fail
  refine (hb.out _).mono ?_
  rintro e w' ⟨rfl, hw⟩
  have hw' : w = w' := hw.symm
  clear hw
  subst hw'
  go_wp2
  go_loop [14, 15] (fun p q => ∃ k : Nat, p = .int .i64 (k : Int) ∧ q = .float .f64 ((sb + k) * 4503599627370496) ∧ k ≤ X) (fun p _ => ((X : Int) - intOf p).toNat)
  case atStart => exact ⟨0, rfl, rfl, by omega⟩
  case round =>
    obtain ⟨k, rfl, rfl, hk⟩ := hrel
    by_cases hkx : k < X
    · have k1 : ∀ w, (binOp .mul 24 (.float .f64 ((sb + k) * 4503599627370496)) (.float .f64 4611686018427387904)).run Try.prog w = .ok (.float .f64 ((sb + (k + 1)) * 4503599627370496)) w := fun w => run_float_arith w .mul _ _ _ _ _ (dbl_pow (by omega) (by omega))
      have k2 : (FloatKind.f64.format.order ((sb + k) * 4503599627370496) 4607182418800017408 == some .lt) = true := lt_one (by omega)
      go_wp2
      exact ⟨⟨k + 1, by congr 1, rfl, by omega⟩, by simp [intOf]; omega⟩
    · have k2 : (FloatKind.f64.format.order ((sb + k) * 4503599627370496) 4607182418800017408 == some .lt) = false := not_lt_one (by omega) (by omega)
      obtain rfl : k = X := by omega
      have kx : ((k : Int) == 0) = false := by simp; omega
      go_wp2
      go_loop [21, 22] (fun p q => ∃ i s : Nat, p = .int .u64 (s : Int) ∧ q = .int .i64 (i : Int) ∧ i ≤ k ∧ s < den ∧ Hid (s = num * 2 ^ i % den)) (fun _ q => ((k : Int) - intOf q).toNat)
      case atStart => exact ⟨0, num * 2 ^ 0 % den, by rw [E0.out], rfl, by omega, Nat.mod_lt _ d0, rfl⟩
      case round =>
        clear E0
        obtain ⟨i, s, rfl, rfl, hi, hs, HS⟩ := hrel
        by_cases hik : i < k
        · have H' : Hid (2 * s % den = num * 2 ^ (i + 1) % den) := by
            show _ = _
            have pk : 2 * (num * 2 ^ i) = num * 2 ^ (i + 1) := by rw [Nat.pow_succ]; ac_rfl
            rw [← pk, (div_step (num * 2 ^ i) den d0).2, HS.out]
          clear HS
          have sm : 2 * s % den < den := Nat.mod_lt _ d0
          generalize hs2 : 2 * s % den = s2 at *
          go_wp2_with (go_at_call 25; refine (double_any s den hs hd _).mono ?_; rw [hs2]; rintro e w' ⟨rfl, hw⟩; have hw' : w = w' := hw.symm; clear hw; subst hw')
          exact ⟨⟨i + 1, s2, rfl, by congr 1, by omega, sm, H'⟩, by simp [intOf]; omega⟩
        · obtain rfl : i = k := by omega
          have hdb' : Hid (∀ w, Calls Try.prog 25 #[.int .u64 s, .int .u64 den] w fun e w' => e = .returned (.tuple #[.int .u64 two, .bool one]) ∧ w' = w) := fun w => by
            have := hdb.out w
            rw [← HS.out] at this; exact this
          clear hdb HS
          rcases hR with ⟨rfl, rfl⟩ | ⟨rfl, h2, rfl⟩ | ⟨rfl, h2, rfl⟩
          · go_wp2_with (go_at_call 25; refine (hdb'.out _).mono ?_; rintro e w' ⟨rfl, hw⟩; have hw' : w = w' := hw.symm; clear hw; subst hw')
            go_ret2
            exact ⟨rfl, rfl⟩
          · have h2' : ((two : Int) == 0) = true := by simp; omega
            go_wp2_with (go_at_call 25; refine (hdb'.out _).mono ?_; rintro e w' ⟨rfl, hw⟩; have hw' : w = w' := hw.symm; clear hw; subst hw')
            go_ret2
            exact ⟨rfl, rfl⟩
          · have h2' : ((two : Int) == 0) = false := by simp; omega
            go_wp2_with (go_at_call 25; refine (hdb'.out _).mono ?_; rintro e w' ⟨rfl, hw⟩; have hw' : w = w' := hw.symm; clear hw; subst hw')
            go_ret2
            exact ⟨rfl, rfl⟩
end Go.Proofs.Ytfoliapennaneaa
