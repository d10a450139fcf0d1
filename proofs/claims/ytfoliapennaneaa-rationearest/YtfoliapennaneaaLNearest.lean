/- RatioNearest's walk: no float is nearer; a greater numerator, or a lesser denominator, has no lesser one. -/
import Derived.Test.YtfoliapennaneaaMid
import Derived.Deep.QuietTactic
namespace Go.Proofs.Ytfoliapennaneaa
open Go.RowKit Go.Shelf
set_option linter.unusedVariables false

set_option maxRecDepth 10000 in
set_option maxHeartbeats 4000000 in
theorem lnst_den (num more less : Nat) (w : World) :
    Calls Try.prog 4 #[.agg #[.int .u64 num, .int .u64 0, .int .u64 more, .int .u64 less]] w fun e w' => e = .returned (.bool true) ∧ Gb w w' := by
  have hz : (FloatKind.f64.format.order 0 0 == some .eq) = true := by decide +kernel
  go_enter Try.func4, Try.ntmps4
  go_wp2_with fail
  go_quiet (fail)
  go_wp2_with fail
  refine (shown_any _).mono ?_
  rintro e w1 ⟨rfl, g1⟩
  go_wp2_with fail
  refine (near_zero_den num _).mono ?_
  rintro e w2 ⟨rfl, rfl⟩
  go_wp2
  go_ret
  exact ⟨rfl, (((Gb.refl w).alloc _ _).drewN _).trans g1⟩

set_option maxRecDepth 10000 in
set_option maxHeartbeats 4000000 in
theorem lnst_num (den more less : Nat) (d0 : 0 < den) (w : World) :
    Calls Try.prog 4 #[.agg #[.int .u64 0, .int .u64 den, .int .u64 more, .int .u64 less]] w fun e w' => e = .returned (.bool true) ∧ Gb w w' := by
  have h1 : ((den : Int) == 0) = false := by simp; omega
  go_enter Try.func4, Try.ntmps4
  go_wp2_with fail
  go_quiet (fail)
  go_wp2_with fail
  refine (shown_any _).mono ?_
  rintro e w1 ⟨rfl, g1⟩
  go_wp2_with fail
  refine (near_zero_num den d0 _).mono ?_
  rintro e w2 ⟨rfl, rfl⟩
  go_wp2_with (simp only [f64bits])
  go_ret
  exact ⟨rfl, (((Gb.refl w).alloc _ _).drewN _).trans g1⟩

set_option maxRecDepth 20000 in
set_option maxHeartbeats 16000000 in
theorem lnst_core (num den more less b g1 g2 : Nat) (hv lv : Int) (n0 : 0 < num) (d0 : 0 < den) (b0 : 0 < b) (b1 : b < 9000000000000000000)
    (sn : (FloatKind.f64.format.order b b != some .eq) = false) (sp : (FloatKind.f64.format.order b 0 == some .lt || FloatKind.f64.format.order b 0 == some .eq) = false) (sg : (FloatKind.f64.format.order b 4895412794951729152 == some .gt) = false)
    (hN : Hid (∀ w, Calls Try.prog 10 #[.int .u64 num, .int .u64 den] w fun e w' => e = .returned (.tuple #[.float .f64 b, .int .i64 0]) ∧ ∃ n, w' = w.drewN n))
    (hH : Hid (∀ w, Calls Try.prog 14 #[.float .f64 b, .float .f64 (b + 1), .int .u64 num, .int .u64 den] w fun e w' => e = .returned (.tuple #[.int .i64 hv, .int .i64 0]) ∧ w' = w))
    (hL : Hid (∀ w, Calls Try.prog 14 #[.float .f64 (b - 1), .float .f64 b, .int .u64 num, .int .u64 den] w fun e w' => e = .returned (.tuple #[.int .i64 lv, .int .i64 0]) ∧ w' = w))
    (ev : hv = -1 ∧ lv = 1 ∨ b % 2 = 0 ∧ (hv = -1 ∨ hv = 0) ∧ (lv = 1 ∨ lv = 0))
    (hm : ¬ num < more ∨ num < more ∧ (FloatKind.f64.format.order g1 b == some .lt) = false)
    (hN1 : Hid (num < more → ∀ w, Calls Try.prog 10 #[.int .u64 more, .int .u64 den] w fun e w' => e = .returned (.tuple #[.float .f64 g1, .int .i64 0]) ∧ ∃ n, w' = w.drewN n))
    (hl : ¬ 0 < less ∨ 0 < less ∧ ¬ less < den ∨ 0 < less ∧ less < den ∧ (FloatKind.f64.format.order g2 b == some .lt) = false)
    (hN2 : Hid (0 < less ∧ less < den → ∀ w, Calls Try.prog 10 #[.int .u64 num, .int .u64 less] w fun e w' => e = .returned (.tuple #[.float .f64 g2, .int .i64 0]) ∧ ∃ n, w' = w.drewN n)) (w : World) :
    Calls Try.prog 4 #[.agg #[.int .u64 num, .int .u64 den, .int .u64 more, .int .u64 less]] w fun e w' => e = .returned (.bool true) ∧ Gb w w' := by
  have hd1 : ((den : Int) == 0) = false := by simp; omega
  have hn1 : ((num : Int) == 0) = false := by simp; omega
  have hb1 : ((b : Int) == 0) = false := by simp; omega
  have e1 : ((b : Int) + 1).toNat = b + 1 := by omega
  have e2 : ((b : Int) - 1).toNat = b - 1 := by omega
  have EV : Hid _ := ev
  have HM : Hid _ := hm
  have HL : Hid _ := hl
  clear ev hm hl
  go_enter Try.func4, Try.ntmps4
  go_wp2_with fail
  go_quiet (fail)
  go_wp2_with fail
  refine (shown_any _).mono ?_
  rintro e w1 ⟨rfl, g1'⟩
  go_wp2_with fail
  refine (hN.out _).mono ?_
  rintro e w2 ⟨rfl, n, rfl⟩
  go_wp2_with (first | simp only [f64bits] | simp only [f64from])
  refine (hH.out _).mono ?_
  rintro e w2 ⟨rfl, rfl⟩
  go_wp2_with fail
  refine (hL.out _).mono ?_
  rintro e w2 ⟨rfl, rfl⟩
  have G : Hid (Gb w w1) := (((Gb.refl w).alloc _ _).drewN _).trans g1'
  clear g1' hN hH hL e1 e2 sn sp sg hb1 hn1 hd1
  rcases EV.out with ⟨rfl, rfl⟩ | ⟨ev, rfl | rfl, rfl | rfl⟩
  · clear EV
    rcases HM.out with m0 | ⟨m0, m1⟩
    · rcases HL.out with l0 | ⟨l0, l1⟩ | ⟨l0, l1, l2⟩
      · go_wp2
        go_ret
        refine ⟨rfl, ?_⟩
        first | exact G.out.drewN _ | exact (G.out.drewN _).drewN _ | exact ((G.out.drewN _).drewN _).drewN _
      · go_wp2
        go_ret
        refine ⟨rfl, ?_⟩
        first | exact G.out.drewN _ | exact (G.out.drewN _).drewN _ | exact ((G.out.drewN _).drewN _).drewN _
      · go_wp2_with fail
        refine (hN2.out ⟨l0, l1⟩ _).mono ?_
        rintro e w2 ⟨rfl, n2, rfl⟩
        go_wp2
        go_ret
        refine ⟨rfl, ?_⟩
        first | exact G.out.drewN _ | exact (G.out.drewN _).drewN _ | exact ((G.out.drewN _).drewN _).drewN _
    · go_wp2_with fail
      refine (hN1.out m0 _).mono ?_
      rintro e w2 ⟨rfl, n1, rfl⟩
      rcases HL.out with l0 | ⟨l0, l1⟩ | ⟨l0, l1, l2⟩
      · go_wp2
        go_ret
        refine ⟨rfl, ?_⟩
        first | exact G.out.drewN _ | exact (G.out.drewN _).drewN _ | exact ((G.out.drewN _).drewN _).drewN _
      · go_wp2
        go_ret
        refine ⟨rfl, ?_⟩
        first | exact G.out.drewN _ | exact (G.out.drewN _).drewN _ | exact ((G.out.drewN _).drewN _).drewN _
      · go_wp2_with fail
        refine (hN2.out ⟨l0, l1⟩ _).mono ?_
        rintro e w2 ⟨rfl, n2, rfl⟩
        go_wp2
        go_ret
        refine ⟨rfl, ?_⟩
        first | exact G.out.drewN _ | exact (G.out.drewN _).drewN _ | exact ((G.out.drewN _).drewN _).drewN _
  · have ev' : ((b : Int) % 2 == 1) = false := by simp; omega
    clear EV
    rcases HM.out with m0 | ⟨m0, m1⟩
    · rcases HL.out with l0 | ⟨l0, l1⟩ | ⟨l0, l1, l2⟩
      · go_wp2
        go_ret
        refine ⟨rfl, ?_⟩
        first | exact G.out.drewN _ | exact (G.out.drewN _).drewN _ | exact ((G.out.drewN _).drewN _).drewN _
      · go_wp2
        go_ret
        refine ⟨rfl, ?_⟩
        first | exact G.out.drewN _ | exact (G.out.drewN _).drewN _ | exact ((G.out.drewN _).drewN _).drewN _
      · go_wp2_with fail
        refine (hN2.out ⟨l0, l1⟩ _).mono ?_
        rintro e w2 ⟨rfl, n2, rfl⟩
        go_wp2
        go_ret
        refine ⟨rfl, ?_⟩
        first | exact G.out.drewN _ | exact (G.out.drewN _).drewN _ | exact ((G.out.drewN _).drewN _).drewN _
    · go_wp2_with fail
      refine (hN1.out m0 _).mono ?_
      rintro e w2 ⟨rfl, n1, rfl⟩
      rcases HL.out with l0 | ⟨l0, l1⟩ | ⟨l0, l1, l2⟩
      · go_wp2
        go_ret
        refine ⟨rfl, ?_⟩
        first | exact G.out.drewN _ | exact (G.out.drewN _).drewN _ | exact ((G.out.drewN _).drewN _).drewN _
      · go_wp2
        go_ret
        refine ⟨rfl, ?_⟩
        first | exact G.out.drewN _ | exact (G.out.drewN _).drewN _ | exact ((G.out.drewN _).drewN _).drewN _
      · go_wp2_with fail
        refine (hN2.out ⟨l0, l1⟩ _).mono ?_
        rintro e w2 ⟨rfl, n2, rfl⟩
        go_wp2
        go_ret
        refine ⟨rfl, ?_⟩
        first | exact G.out.drewN _ | exact (G.out.drewN _).drewN _ | exact ((G.out.drewN _).drewN _).drewN _
  · have ev' : ((b : Int) % 2 == 1) = false := by simp; omega
    clear EV
    rcases HM.out with m0 | ⟨m0, m1⟩
    · rcases HL.out with l0 | ⟨l0, l1⟩ | ⟨l0, l1, l2⟩
      · go_wp2
        go_ret
        refine ⟨rfl, ?_⟩
        first | exact G.out.drewN _ | exact (G.out.drewN _).drewN _ | exact ((G.out.drewN _).drewN _).drewN _
      · go_wp2
        go_ret
        refine ⟨rfl, ?_⟩
        first | exact G.out.drewN _ | exact (G.out.drewN _).drewN _ | exact ((G.out.drewN _).drewN _).drewN _
      · go_wp2_with fail
        refine (hN2.out ⟨l0, l1⟩ _).mono ?_
        rintro e w2 ⟨rfl, n2, rfl⟩
        go_wp2
        go_ret
        refine ⟨rfl, ?_⟩
        first | exact G.out.drewN _ | exact (G.out.drewN _).drewN _ | exact ((G.out.drewN _).drewN _).drewN _
    · go_wp2_with fail
      refine (hN1.out m0 _).mono ?_
      rintro e w2 ⟨rfl, n1, rfl⟩
      rcases HL.out with l0 | ⟨l0, l1⟩ | ⟨l0, l1, l2⟩
      · go_wp2
        go_ret
        refine ⟨rfl, ?_⟩
        first | exact G.out.drewN _ | exact (G.out.drewN _).drewN _ | exact ((G.out.drewN _).drewN _).drewN _
      · go_wp2
        go_ret
        refine ⟨rfl, ?_⟩
        first | exact G.out.drewN _ | exact (G.out.drewN _).drewN _ | exact ((G.out.drewN _).drewN _).drewN _
      · go_wp2_with fail
        refine (hN2.out ⟨l0, l1⟩ _).mono ?_
        rintro e w2 ⟨rfl, n2, rfl⟩
        go_wp2
        go_ret
        refine ⟨rfl, ?_⟩
        first | exact G.out.drewN _ | exact (G.out.drewN _).drewN _ | exact ((G.out.drewN _).drewN _).drewN _
  · have ev' : ((b : Int) % 2 == 1) = false := by simp; omega
    clear EV
    rcases HM.out with m0 | ⟨m0, m1⟩
    · rcases HL.out with l0 | ⟨l0, l1⟩ | ⟨l0, l1, l2⟩
      · go_wp2
        go_ret
        refine ⟨rfl, ?_⟩
        first | exact G.out.drewN _ | exact (G.out.drewN _).drewN _ | exact ((G.out.drewN _).drewN _).drewN _
      · go_wp2
        go_ret
        refine ⟨rfl, ?_⟩
        first | exact G.out.drewN _ | exact (G.out.drewN _).drewN _ | exact ((G.out.drewN _).drewN _).drewN _
      · go_wp2_with fail
        refine (hN2.out ⟨l0, l1⟩ _).mono ?_
        rintro e w2 ⟨rfl, n2, rfl⟩
        go_wp2
        go_ret
        refine ⟨rfl, ?_⟩
        first | exact G.out.drewN _ | exact (G.out.drewN _).drewN _ | exact ((G.out.drewN _).drewN _).drewN _
    · go_wp2_with fail
      refine (hN1.out m0 _).mono ?_
      rintro e w2 ⟨rfl, n1, rfl⟩
      rcases HL.out with l0 | ⟨l0, l1⟩ | ⟨l0, l1, l2⟩
      · go_wp2
        go_ret
        refine ⟨rfl, ?_⟩
        first | exact G.out.drewN _ | exact (G.out.drewN _).drewN _ | exact ((G.out.drewN _).drewN _).drewN _
      · go_wp2
        go_ret
        refine ⟨rfl, ?_⟩
        first | exact G.out.drewN _ | exact (G.out.drewN _).drewN _ | exact ((G.out.drewN _).drewN _).drewN _
      · go_wp2_with fail
        refine (hN2.out ⟨l0, l1⟩ _).mono ?_
        rintro e w2 ⟨rfl, n2, rfl⟩
        go_wp2
        go_ret
        refine ⟨rfl, ?_⟩
        first | exact G.out.drewN _ | exact (G.out.drewN _).drewN _ | exact ((G.out.drewN _).drewN _).drewN _
  · have ev' : ((b : Int) % 2 == 1) = false := by simp; omega
    clear EV
    rcases HM.out with m0 | ⟨m0, m1⟩
    · rcases HL.out with l0 | ⟨l0, l1⟩ | ⟨l0, l1, l2⟩
      · go_wp2
        go_ret
        refine ⟨rfl, ?_⟩
        first | exact G.out.drewN _ | exact (G.out.drewN _).drewN _ | exact ((G.out.drewN _).drewN _).drewN _
      · go_wp2
        go_ret
        refine ⟨rfl, ?_⟩
        first | exact G.out.drewN _ | exact (G.out.drewN _).drewN _ | exact ((G.out.drewN _).drewN _).drewN _
      · go_wp2_with fail
        refine (hN2.out ⟨l0, l1⟩ _).mono ?_
        rintro e w2 ⟨rfl, n2, rfl⟩
        go_wp2
        go_ret
        refine ⟨rfl, ?_⟩
        first | exact G.out.drewN _ | exact (G.out.drewN _).drewN _ | exact ((G.out.drewN _).drewN _).drewN _
    · go_wp2_with fail
      refine (hN1.out m0 _).mono ?_
      rintro e w2 ⟨rfl, n1, rfl⟩
      rcases HL.out with l0 | ⟨l0, l1⟩ | ⟨l0, l1, l2⟩
      · go_wp2
        go_ret
        refine ⟨rfl, ?_⟩
        first | exact G.out.drewN _ | exact (G.out.drewN _).drewN _ | exact ((G.out.drewN _).drewN _).drewN _
      · go_wp2
        go_ret
        refine ⟨rfl, ?_⟩
        first | exact G.out.drewN _ | exact (G.out.drewN _).drewN _ | exact ((G.out.drewN _).drewN _).drewN _
      · go_wp2_with fail
        refine (hN2.out ⟨l0, l1⟩ _).mono ?_
        rintro e w2 ⟨rfl, n2, rfl⟩
        go_wp2
        go_ret
        refine ⟨rfl, ?_⟩
        first | exact G.out.drewN _ | exact (G.out.drewN _).drewN _ | exact ((G.out.drewN _).drewN _).drewN _

theorem nearest_law (l0 : Int) (a0 : 0 ≤ l0) (a1 : l0 < 18446744073709551616) (l1 : Int) (b0 : 0 ≤ l1) (b1 : l1 < 18446744073709551616) (l2 : Int) (c0 : 0 ≤ l2) (c1 : l2 < 18446744073709551616) (l3 : Int) (d0 : 0 ≤ l3) (d1 : l3 < 18446744073709551616) (w : World) :
    Calls Try.prog 4 #[.agg #[.int .u64 l0, .int .u64 l1, .int .u64 l2, .int .u64 l3]] w fun e w' => e = .returned (.bool true) ∧ Gb w w' := by
  obtain ⟨num, rfl⟩ := Int.eq_ofNat_of_zero_le a0
  obtain ⟨den, rfl⟩ := Int.eq_ofNat_of_zero_le b0
  obtain ⟨more, rfl⟩ := Int.eq_ofNat_of_zero_le c0
  obtain ⟨less, rfl⟩ := Int.eq_ofNat_of_zero_le d0
  have hn : num < 18446744073709551616 := by omega
  have hd : den < 18446744073709551616 := by omega
  have hm : more < 18446744073709551616 := by omega
  have hl : less < 18446744073709551616 := by omega
  rcases Nat.eq_zero_or_pos den with z | z
  · subst z
    exact lnst_den num more less w
  rcases Nat.eq_zero_or_pos num with y | y
  · subst y
    exact lnst_num den more less z w
  obtain ⟨b, nb, b0, b1, cN⟩ := near_ex num den hn hd y z
  have fin : ∀ g, g ≤ 4895412794951729152 → rg g < 9218868437227405312 := fun g h => by rw [rg_small (by omega)]; omega
  have lt : ∀ g, g ≤ 4895412794951729152 → b ≤ g → (FloatKind.f64.format.order g b == some .lt) = false := fun g h k => by
    rw [fmt, f_lt (fin g h) (fin b b1), SV_small (by omega), SV_small (by omega)]
    have := V_le k
    exact decide_eq_false (by omega)
  -- a greater numerator
  obtain ⟨g1, m1, cM⟩ : ∃ g1, (¬ num < more ∨ num < more ∧ (FloatKind.f64.format.order g1 b == some .lt) = false) ∧ (num < more → ∀ w, Calls Try.prog 10 #[.int .u64 more, .int .u64 den] w fun e w' => e = .returned (.tuple #[.float .f64 g1, .int .i64 0]) ∧ ∃ n, w' = w.drewN n) := by
    by_cases k : num < more
    · obtain ⟨g1, n1, -, u1, c1⟩ := near_ex more den hm hd (by omega) z
      exact ⟨g1, .inr ⟨k, lt g1 u1 (nb.mono n1 z z (Nat.mul_le_mul_right _ (Nat.mul_le_mul_right _ (by omega))))⟩, fun _ => c1⟩
    · exact ⟨0, .inl k, fun h => absurd h k⟩
  -- a lesser denominator
  obtain ⟨g2, m2, cL⟩ : ∃ g2, (¬ 0 < less ∨ 0 < less ∧ ¬ less < den ∨ 0 < less ∧ less < den ∧ (FloatKind.f64.format.order g2 b == some .lt) = false) ∧ (0 < less ∧ less < den → ∀ w, Calls Try.prog 10 #[.int .u64 num, .int .u64 less] w fun e w' => e = .returned (.tuple #[.float .f64 g2, .int .i64 0]) ∧ ∃ n, w' = w.drewN n) := by
    by_cases k : 0 < less
    · by_cases j : less < den
      · obtain ⟨g2, n2, -, u2, c2⟩ := near_ex num less hn hl y k
        exact ⟨g2, .inr (.inr ⟨k, j, lt g2 u2 (nb.mono n2 z k (Nat.mul_le_mul_left _ (by omega)))⟩), fun _ => c2⟩
      · exact ⟨0, .inr (.inl ⟨k, j⟩), fun h => absurd h.2 j⟩
    · exact ⟨0, .inl k, fun h => absurd h.1 k⟩
  have hH := fun w => btw_any b num den (by omega) (by omega) hn hd z w
  have hL := fun w => btw_any (b - 1) num den (by omega) (by omega) hn hd z w
  rw [show b - 1 + 1 = b by omega] at hL
  have mh : mid b num den = -1 ∨ mid b num den = 0 ∧ b % 2 = 0 := by
    unfold mid
    have h1 := nb.hi
    have h2 := nb.hie
    generalize num * Un = X at *
    generalize (V b + V (b + 1)) * den = Y at *
    rcases Nat.lt_or_ge (2 * X) Y with k | k
    · exact .inl (cmpi_lt (Int.ofNat_lt.2 k))
    · exact .inr ⟨cmpi_eq (by omega), h2 (by omega)⟩
  have ml : mid (b - 1) num den = 1 ∨ mid (b - 1) num den = 0 ∧ b % 2 = 0 := by
    unfold mid
    rw [show b - 1 + 1 = b by omega]
    have h1 := nb.lo
    have h2 := nb.loe
    generalize num * Un = X at *
    generalize (V (b - 1) + V b) * den = Y at *
    rcases Nat.lt_or_ge Y (2 * X) with k | k
    · exact .inl (cmpi_gt (Int.ofNat_lt.2 k))
    · exact .inr ⟨cmpi_eq (by omega), h2 (by omega)⟩
  have ev : mid b num den = -1 ∧ mid (b - 1) num den = 1 ∨ b % 2 = 0 ∧ (mid b num den = -1 ∨ mid b num den = 0) ∧ (mid (b - 1) num den = 1 ∨ mid (b - 1) num den = 0) := by
    rcases mh with p | ⟨p, p2⟩ <;> rcases ml with q | ⟨q, q2⟩
    · exact .inl ⟨p, q⟩
    · exact .inr ⟨q2, .inl p, .inr q⟩
    · exact .inr ⟨p2, .inr p, .inl q⟩
    · exact .inr ⟨p2, .inr p, .inr q⟩
  have sv : SV b = V b := SV_small (by omega)
  have vp : 0 < V b := V_pos (by omega)
  refine lnst_core num den more less b g1 g2 (mid b num den) (mid (b - 1) num den) y z (by omega) (by omega) ?_ ?_ ?_ cN hH hL ev m1 cM m2 cL w
  · rw [self_ne]; exact decide_eq_false (by rw [rg_small (by omega)]; omega)
  · rw [fmt, f_le (fin b b1) (by decide), sv, show SV 0 = 0 from rfl]; exact decide_eq_false (by omega)
  · rw [fmt, f_gt (fin b b1) (by decide), sv, SV_small (by decide)]
    have := V_le b1
    exact decide_eq_false (by omega)
end Go.Proofs.Ytfoliapennaneaa
