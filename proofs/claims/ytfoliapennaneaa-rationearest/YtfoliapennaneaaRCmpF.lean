/- Cmp: the program holds a float against a fraction as real numbers. -/
import Derived.Test.YtfoliapennaneaaRScale
import Derived.Test.YtfoliapennaneaaFMath3
namespace Go.Proofs.Ytfoliapennaneaa
open Go.RowKit Go.Shelf
set_option linter.unusedVariables false

theorem compare_f64 (x y : Nat) (hx : rg x < 9218868437227405312) (hy : rg y < 9218868437227405312) (w : World) :
    Calls Try.prog 29 #[.float .f64 x, .float .f64 y] w fun e w' => e = .returned (.int .i64 (cmpi (SV x) (SV y))) ∧ w' = w := by
  have n1 : ¬ 9218868437227405312 < rg x := by omega
  have n2 : ¬ 9218868437227405312 < rg y := by omega
  rcases Int.lt_trichotomy (SV x) (SV y) with h | h | h
  · have c1 : (FloatKind.f64.format.order x y == some .lt) = true := by rw [fmt, f_lt hx hy]; exact decide_eq_true h
    rw [cmpi_lt h]
    clear h
    go_enter Try.func29, Try.ntmps29
    go_wp2_with (go_at_call 39; refine (cisnan _ _).mono ?_; rintro e w' ⟨rfl, rfl⟩)
    go_ret
    exact ⟨rfl, rfl⟩
  · have c1 : (FloatKind.f64.format.order x y == some .lt) = false := by rw [fmt, f_lt hx hy]; exact decide_eq_false (by omega)
    have c2 : (FloatKind.f64.format.order x y == some .gt) = false := by rw [fmt, f_gt hx hy]; exact decide_eq_false (by omega)
    rw [cmpi_eq h]
    clear h
    go_enter Try.func29, Try.ntmps29
    go_wp2_with (go_at_call 39; refine (cisnan _ _).mono ?_; rintro e w' ⟨rfl, rfl⟩)
    go_ret
    exact ⟨rfl, rfl⟩
  · have c1 : (FloatKind.f64.format.order x y == some .lt) = false := by rw [fmt, f_lt hx hy]; exact decide_eq_false (by omega)
    have c2 : (FloatKind.f64.format.order x y == some .gt) = true := by rw [fmt, f_gt hx hy]; exact decide_eq_true h
    rw [cmpi_gt h]
    clear h
    go_enter Try.func29, Try.ntmps29
    go_wp2_with (go_at_call 39; refine (cisnan _ _).mono ?_; rintro e w' ⟨rfl, rfl⟩)
    go_ret
    exact ⟨rfl, rfl⟩

theorem cmp_zero_den (x num : Nat) (w : World) :
    Calls Try.prog 17 #[.float .f64 x, .int .u64 num, .int .u64 0] w fun e w' => e = .returned (.tuple #[.int .i64 0, .int .i64 20]) ∧ w' = w := by
  go_enter Try.func17, Try.ntmps17
  go_wp2
  go_ret2
  exact ⟨rfl, rfl⟩

theorem cmp_nofin (x num den : Nat) (hx0 : x < 18446744073709551616) (hx : 9218868437227405312 ≤ rg x) (hd : 0 < den) (w : World) :
    Calls Try.prog 17 #[.float .f64 x, .int .u64 num, .int .u64 den] w fun e w' => e = .returned (.tuple #[.int .i64 0, .int .i64 21]) ∧ w' = w := by
  have h1 : ((den : Int) == 0) = false := by simp; omega
  by_cases h : 9218868437227405312 < rg x
  · go_enter Try.func17, Try.ntmps17
    go_wp2_with (go_at_call 27; refine (isnan _ _).mono ?_; rintro e w' ⟨rfl, rfl⟩)
    go_ret2
    exact ⟨rfl, rfl⟩
  · have h2 : rg x = 9218868437227405312 := by omega
    have is : ∀ w, Calls Try.prog 28 #[.float .f64 x, .int .i64 0] w fun e w' => e = .returned (.bool true) ∧ w' = w := fun w => by
      have := isinf x hx0 w
      rw [decide_eq_true h2] at this; exact this
    have is' : Hid _ := is
    clear is h2 hx
    go_enter Try.func17, Try.ntmps17
    go_wp2_with (first | (go_at_call 27; refine (isnan _ _).mono ?_; rintro e w' ⟨rfl, rfl⟩) | (go_at_call 28; refine (is'.out _).mono ?_; rintro e w' ⟨rfl, rfl⟩))
    go_ret2
    exact ⟨rfl, rfl⟩

theorem isinf_no (x : Nat) (hx0 : x < 18446744073709551616) (hx : rg x < 9218868437227405312) (w : World) :
    Calls Try.prog 28 #[.float .f64 x, .int .i64 0] w fun e w' => e = .returned (.bool false) ∧ w' = w := by
  have := isinf x hx0 w
  rw [decide_eq_false (by omega)] at this; exact this

/-- Where only signs count. -/
theorem cmp_signs (x num den y : Nat) (hx0 : x < 18446744073709551616) (hx : rg x < 9218868437227405312) (hd : 0 < den) (ey : floatOfInt .f64 num = y) (hy : rg y < 9218868437227405312) (r : Int) (hr : cmpi (SV x) (SV y) = r)
    (hs : (FloatKind.f64.format.order x 0 == some .lt || FloatKind.f64.format.order x 0 == some .eq) = true ∨ (FloatKind.f64.format.order x 0 == some .lt || FloatKind.f64.format.order x 0 == some .eq) = false ∧ ((num : Int) == 0) = true) (w : World) :
    Calls Try.prog 17 #[.float .f64 x, .int .u64 num, .int .u64 den] w fun e w' => e = .returned (.tuple #[.int .i64 r, .int .i64 0]) ∧ w' = w := by
  have h1 : ((den : Int) == 0) = false := by simp; omega
  have n1 : ¬ 9218868437227405312 < rg x := by omega
  have cf : Hid (∀ w : World, Calls Try.prog 29 #[.float .f64 x, .float .f64 y] w fun e w' => e = .returned (.int .i64 r) ∧ w' = w) := fun w => by rw [← hr]; exact compare_f64 x y hx hy w
  clear hr
  rcases hs with hs | ⟨hs, hn⟩
  · go_enter Try.func17, Try.ntmps17
    go_wp2_with (first | (go_at_call 27; refine (isnan _ _).mono ?_; rintro e w' ⟨rfl, rfl⟩) | (go_at_call 28; refine (isinf_no x hx0 hx _).mono ?_; rintro e w' ⟨rfl, rfl⟩) | (go_at_call 29; refine (cf.out _).mono ?_; rintro e w' ⟨rfl, rfl⟩))
    go_ret2
    exact ⟨rfl, rfl⟩
  · go_enter Try.func17, Try.ntmps17
    go_wp2_with (first | (go_at_call 27; refine (isnan _ _).mono ?_; rintro e w' ⟨rfl, rfl⟩) | (go_at_call 28; refine (isinf_no x hx0 hx _).mono ?_; rintro e w' ⟨rfl, rfl⟩) | (go_at_call 29; refine (cf.out _).mono ?_; rintro e w' ⟨rfl, rfl⟩))
    go_ret2
    exact ⟨rfl, rfl⟩

set_option maxHeartbeats 1000000 in
theorem cmp_words (x num den m hi lo : Nat) (ex e1 : Int) (e2 : Int) (h1 l1 h2 l2 : Nat) (r : Int) (hx0 : x < 18446744073709551616) (hx : rg x < 9218868437227405312) (hd : 0 < den) (hn : 0 < num)
    (hs : (FloatKind.f64.format.order x 0 == some .lt || FloatKind.f64.format.order x 0 == some .eq) = false)
    (ha : Hid (∀ w : World, Calls Try.prog 30 #[.float .f64 x] w fun e w' => e = .returned (.tuple #[.int .u64 m, .int .i64 ex]) ∧ w' = w))
    (hm : Hid (∀ w : World, Calls Try.prog 31 #[.int .u64 m, .int .u64 den] w fun e w' => e = .returned (.tuple #[.int .u64 hi, .int .u64 lo]) ∧ w' = w))
    (s1 : Hid (∀ w : World, Calls Try.prog 32 #[.int .u64 hi, .int .u64 lo, .int .i64 ex] w fun e w' => e = .returned (.agg #[.int .i64 e1, .int .u64 h1, .int .u64 l1]) ∧ Gb w w'))
    (s2 : Hid (∀ w : World, Calls Try.prog 32 #[.int .u64 0, .int .u64 num, .int .i64 0] w fun e w' => e = .returned (.agg #[.int .i64 e2, .int .u64 h2, .int .u64 l2]) ∧ Gb w w'))
    (hc : Hid (∀ w : World, Calls Try.prog 33 #[.agg #[.int .i64 e1, .int .u64 h1, .int .u64 l1], .agg #[.int .i64 e2, .int .u64 h2, .int .u64 l2]] w fun e w' => e = .returned (.int .i64 r) ∧ Gb w w')) (w : World) :
    Calls Try.prog 17 #[.float .f64 x, .int .u64 num, .int .u64 den] w fun e w' => e = .returned (.tuple #[.int .i64 r, .int .i64 0]) ∧ Gb w w' := by
  have hd1 : ((den : Int) == 0) = false := by simp; omega
  have hn1 : ((num : Int) == 0) = false := by simp; omega
  have n1 : ¬ 9218868437227405312 < rg x := by omega
  go_enter Try.func17, Try.ntmps17
  go_wp2_with (first | (go_at_call 27; refine (isnan _ _).mono ?_; rintro e w' ⟨rfl, rfl⟩) | (go_at_call 28; refine (isinf_no x hx0 hx _).mono ?_; rintro e w' ⟨rfl, rfl⟩) | (go_at_call 30; refine (ha.out _).mono ?_; rintro e w' ⟨rfl, rfl⟩) | (go_at_call 31; refine (hm.out _).mono ?_; rintro e w' ⟨rfl, rfl⟩))
  refine (s1.out _).mono ?_
  rintro e w1 ⟨rfl, g1⟩
  go_wp2_with fail
  refine (s2.out _).mono ?_
  rintro e w2 ⟨rfl, g2⟩
  go_wp2_with fail
  refine (hc.out _).mono ?_
  rintro e w3 ⟨rfl, g3⟩
  go_wp2
  go_ret2
  exact ⟨rfl, (g1.trans g2).trans g3⟩

theorem Nr.pos {x y b : Nat} (h : Nr x y b) (hy : 0 < y) (hx : y ≤ x) : 0 < b := by
  rcases Nat.eq_zero_or_pos b with k | k
  · exfalso
    subst k
    have := h.hi
    rw [show V (0 + 1) = 1 from rfl, V_zero, Nat.zero_add, Nat.one_mul] at this
    omega
  · exact k

/-- A finite float, held against a fraction. -/
def cmpv (x num den : Nat) : Int := cmpi (SV x * den) ((num * Un : Nat) : Int)

theorem V64 : V 4895412794951729152 = 18446744073709551616 * Un := by
  obtain ⟨k, hk⟩ : ∃ k : Nat, k = 64 := ⟨_, rfl⟩
  have := V_form (k + 1022) 4503599627370496 (by decide) (.inl (by decide))
  rw [show (k + 1022) * 4503599627370496 + 4503599627370496 = 4895412794951729152 by omega] at this
  rw [this, show (4503599627370496 : Nat) = 2 ^ 52 from rfl, ← Nat.pow_add, show (18446744073709551616 : Nat) = 2 ^ 64 from rfl, Un_pow, show 52 + (k + 1022) = 64 + 1074 by omega]

/-- A word as a float. -/
theorem ofU64 (num : Nat) (h : num < 18446744073709551616) : ∃ b, Nr (num * Un) 1 b ∧ b ≤ 4895412794951729152 ∧ floatOfInt .f64 (num : Int) = b := by
  obtain ⟨b, h1, h2⟩ := ofInt_any (num : Int)
  rw [Int.natAbs_natCast] at h1
  have hb : b ≤ 4895412794951729152 := by
    refine h1.mono (Nr.exact 4895412794951729152 1 (by decide)) (by decide) (by decide) ?_
    rw [V64]; simp only [Nat.mul_one]
    exact Nat.mul_le_mul_right _ (by omega)
  refine ⟨b, h1, hb, ?_⟩
  rw [h2, Nat.min_eq_left (by omega), show decide ((num : Int) < 0) = false from decide_eq_false (by omega), word_false]

theorem SV_pos_word (x : Nat) (h : x < 9223372036854775808) : SV x = V x := by
  have e : rg x = x := Nat.mod_eq_of_lt h
  have := SV_rg x
  rw [e] at this; exact this
theorem pos_of_SV {x : Nat} (hx0 : x < 18446744073709551616) (h : 0 < SV x) : x < 9223372036854775808 ∧ 0 < x := by
  rcases Nat.lt_or_ge x 9223372036854775808 with k | k
  · refine ⟨k, ?_⟩
    rcases Nat.eq_zero_or_pos x with z | z
    · rw [z, show SV 0 = 0 from rfl] at h; omega
    · exact z
  · exfalso
    have : sg x = true := by unfold sg; simp; omega
    unfold SV at h; rw [this] at h; simp at h; omega

theorem cmp_fin (x num den : Nat) (hx0 : x < 18446744073709551616) (hx : rg x < 9218868437227405312) (hn : num < 18446744073709551616) (hd : den < 18446744073709551616) (d0 : 0 < den) (w : World) :
    Calls Try.prog 17 #[.float .f64 x, .int .u64 num, .int .u64 den] w fun e w' => e = .returned (.tuple #[.int .i64 (cmpv x num den), .int .i64 0]) ∧ Gb w w' := by
  have z0 : SV 0 = 0 := rfl
  have hle : (FloatKind.f64.format.order x 0 == some .lt || FloatKind.f64.format.order x 0 == some .eq) = decide (SV x ≤ 0) := by rw [fmt, f_le hx (by decide), z0]
  have hU := Un_pos
  by_cases c : SV x ≤ 0 ∨ num = 0
  · obtain ⟨b, hb, hb1, eb⟩ := ofU64 num hn
    have hrb : rg b = b := Nat.mod_eq_of_lt (by omega)
    have eS : SV b = V b := SV_pos_word b (by omega)
    have main := cmp_signs x num den b hx0 hx d0 eb (by omega) (cmpv x num den) (by
      unfold cmpv
      rw [eS]
      rcases Nat.eq_zero_or_pos num with z | z
      · have : b = 0 := hb.uniq (by rw [z, Nat.zero_mul]; exact Nr.zero 1 (by decide)) (by decide)
        rw [this, V_zero, z, Nat.zero_mul]
        have := cmpi_scale (SV x) 0 den (by omega)
        rw [Int.zero_mul] at this
        exact this.symm
      · have hp : 0 < b := hb.pos (by decide) (by have := Nat.mul_le_mul_right Un z; omega)
        have hV := V_pos hp
        have hx1 : SV x ≤ 0 := by omega
        have h2 : SV x * den ≤ 0 := Int.mul_nonpos_of_nonpos_of_nonneg hx1 (by omega)
        have h3 : 0 < num * Un := Nat.mul_pos z hU
        rw [cmpi_lt (by omega), cmpi_lt (by omega)]) (by
      rcases Int.lt_or_le 0 (SV x) with k | k
      · exact .inr ⟨by rw [hle]; exact decide_eq_false (by omega), by simp; omega⟩
      · exact .inl (by rw [hle]; exact decide_eq_true k)) w
    exact main.mono fun e w' h => ⟨h.1, by rw [h.2]; exact Gb.refl _⟩
  · have x1 : 0 < SV x := by omega
    have n1 : 0 < num := by omega
    obtain ⟨p1, p2⟩ := pos_of_SV hx0 x1
    have hr : rg x = x := Nat.mod_eq_of_lt p1
    rw [hr] at hx
    have hs : (FloatKind.f64.format.order x 0 == some .lt || FloatKind.f64.format.order x 0 == some .eq) = false := by rw [hle]; exact decide_eq_false (by omega)
    have m0 := mg_pos p2
    have m1 := mg_lt x
    have mm : 0 < mg x * den := Nat.mul_pos m0 d0
    have xb : xp x < 2047 := by unfold xp; omega
    have hb : mg x * den < 18446744073709551616 * 18446744073709551616 := by
      have := Nat.mul_lt_mul'' (show mg x < 18446744073709551616 by omega) hd
      exact this
    obtain ⟨n, h, l, q1, q2, q3, q4, q5, q6⟩ := scale_ex (mg x * den / 18446744073709551616) (mg x * den % 18446744073709551616) ((xp x : Int) - 1074) (by omega) (by omega) (Nat.div_lt_of_lt_mul hb) (Nat.mod_lt _ (by decide)) (by omega)
    obtain ⟨n', h', l', r1, r2, r3, r4, r5, r6⟩ := scale_ex 0 num 0 (by omega) (by omega) (by decide) hn (.inr n1)
    have main := cmp_words x num den (mg x) (mg x * den / 18446744073709551616) (mg x * den % 18446744073709551616) ((xp x : Int) - 1074) ((xp x : Int) - 1074 - n) (0 - n') h l h' l' _ hx0 (by rw [hr]; exact hx) d0 n1 hs
      (fun w => apart_any x hx w) (fun w => Try.bits_Mul64 (mg x) den (by omega) hd w) q6 r6 (fun w => scompare _ _ h l h' l' w) w
    have e5 : mg x * den / 18446744073709551616 * 18446744073709551616 + mg x * den % 18446744073709551616 = mg x * den := Nat.div_add_mod' _ _
    obtain ⟨j, hj, eU⟩ := Un_ex
    have lex := lex_cmp h l h' l' (xp x + n') (j + n) ((xp x : Int) - 1074 - n) (0 - n') (by clear eU; omega) q2 q3 q4 r2 r3 r4
    rw [q5, r5, e5, Nat.zero_mul, Nat.zero_add] at lex
    have f1 : mg x * den * 2 ^ n * 2 ^ (xp x + n') = (V x * den) * 2 ^ (n + n') := by
      rw [V_mg, Nat.pow_add, Nat.pow_add]; ac_rfl
    have f2 : num * 2 ^ n' * 2 ^ (j + n) = (num * Un) * 2 ^ (n + n') := by
      rw [eU, Nat.pow_add, Nat.pow_add]; ac_rfl
    have f3 : cmpi ((mg x * den * 2 ^ n * 2 ^ (xp x + n') : Nat) : Int) ((num * 2 ^ n' * 2 ^ (j + n) : Nat) : Int) = cmpv x num den := by
      have hp := Nat.two_pow_pos (n + n')
      rw [f1, f2, Int.natCast_mul, Int.natCast_mul (num * Un), cmpi_scale _ _ _ (by omega)]
      unfold cmpv
      rw [SV_pos_word x p1, Int.natCast_mul]
    rw [f3] at lex
    rw [lex] at main
    exact main
end Go.Proofs.Ytfoliapennaneaa
