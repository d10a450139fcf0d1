/- RatioRises' walk: of a slope that is a nearest float, and a whole base, what is reckoned does not fall. -/
import Derived.Test.YtfoliapennaneabRShown
import Derived.Test.YtfoliapennaneabFMath4
namespace Go.Proofs.Ytfoliapennaneab
open Go.RowKit Go.Shelf
set_option linter.unusedVariables false

/-- A sum of two finite floats that is not too great. -/
theorem add_val {x y B : Nat} (hx : rg x < 9218868437227405312) (hy : rg y < 9218868437227405312) (hB : B < 9218868437227405312) (h : (SV x + SV y).natAbs ≤ V B) :
    ∃ a r, Ieee.double.add x y = some a ∧ rg a < 9218868437227405312 ∧ Nr (SV x + SV y).natAbs 1 r ∧ SV a = if SV x + SV y < 0 then -(V r : Int) else V r := by
  obtain ⟨r, h1, h2⟩ := add_fin hx hy
  have hr : r ≤ B := h1.mono (Nr.exact B 1 (by decide)) (by decide) (by decide) (by omega)
  rw [Nat.min_eq_left (by omega)] at h2
  refine ⟨_, r, h2, by rw [word_rg _ _ (by omega)]; omega, h1, ?_⟩
  rw [SV_word _ _ (by omega)]
  by_cases z : SV x + SV y = 0
  · have e : r = 0 := h1.uniq (by rw [z]; exact Nr.zero 1 (by decide)) (by decide)
    rw [e, V_zero, if_neg (show ¬ SV x + SV y < 0 by omega)]
    generalize (if SV x + SV y = 0 then sg x && sg y else decide (SV x + SV y < 0)) = c
    cases c <;> rfl
  · rw [if_neg z]
    by_cases n : SV x + SV y < 0 <;> simp [n]

/-- What is rounded does not fall. -/
theorem rnd_mono {S1 S2 : Int} {r1 r2 : Nat} (h1 : Nr S1.natAbs 1 r1) (h2 : Nr S2.natAbs 1 r2) (h : S1 ≤ S2) :
    (if S1 < 0 then -(V r1 : Int) else V r1) ≤ (if S2 < 0 then -(V r2 : Int) else V r2) := by
  by_cases a : S1 < 0
  · rw [if_pos a]
    by_cases b : S2 < 0
    · rw [if_pos b]
      have : r2 ≤ r1 := h2.mono h1 (by decide) (by decide) (by omega)
      have := V_le this
      omega
    · rw [if_neg b]; omega
  · rw [if_neg a, if_neg (by omega)]
    have : r1 ≤ r2 := h1.mono h2 (by decide) (by decide) (by omega)
    have := V_le this
    omega

theorem clampv_fin {x y : Nat} (lo hi : Int) (hx : rg x < 9218868437227405312) (hy : rg y < 9218868437227405312) (h : SV x ≤ SV y) : clampv x lo hi ≤ clampv y lo hi := by
  have hU := Un_pos
  have nx : ¬ 9218868437227405312 < rg x := by omega
  have ny : ¬ 9218868437227405312 < rg y := by omega
  unfold clampv
  by_cases hl : hi < lo
  · rw [if_pos (.inl hl), if_pos (.inl hl)]; exact Int.le_refl _
  · have e1 : ¬ (hi < lo ∨ 9218868437227405312 < rg x) := by omega
    have e2 : ¬ (hi < lo ∨ 9218868437227405312 < rg y) := by omega
    rw [if_neg e1, if_neg e2]
    have c1 : cMin x = decide (SV x < -(9223372036854775808 * (Un : Int))) := by unfold cMin; rw [f_lt hx (by decide), SVmin]
    have c2 : cMin y = decide (SV y < -(9223372036854775808 * (Un : Int))) := by unfold cMin; rw [f_lt hy (by decide), SVmin]
    have c3 : cMax x = decide (9223372036854775808 * (Un : Int) ≤ SV x) := by unfold cMax; rw [f_ge hx (by decide), SVmax]
    have c4 : cMax y = decide (9223372036854775808 * (Un : Int) ≤ SV y) := by unfold cMax; rw [f_ge hy (by decide), SVmax]
    have m : flo x ≤ flo y := Int.ediv_le_ediv (by omega) h
    rw [c1, c2, c3, c4]
    simp only [decide_eq_true_eq]
    split
    · split
      · exact Int.le_refl _
      · split <;> omega
    · rename_i k1
      rw [if_neg (show ¬ SV y < -(9223372036854775808 * (Un : Int)) by omega)]
      split
      · rename_i k2
        rw [if_pos (show 9223372036854775808 * (Un : Int) ≤ SV y by omega)]; exact Int.le_refl _
      · split <;> omega

theorem V128 : ∃ B, B < 9218868437227405312 ∧ V B = 340282366920938463463374607431768211456 * Un := by
  have h := V_pw2 128
  rw [show (2 : Nat) ^ 128 = 340282366920938463463374607431768211456 by decide +kernel] at h
  exact ⟨_, by decide, h⟩
theorem V129 : ∃ B, B < 9218868437227405312 ∧ V B = 680564733841876926926749214863536422912 * Un := by
  have h := V_pw2 129
  rw [show (2 : Nat) ^ 129 = 680564733841876926926749214863536422912 by decide +kernel] at h
  exact ⟨_, by decide, h⟩

/-- A slope from 0 to 2^64, and a distance: their product. -/
theorem way {s y : Nat} (hs : s ≤ 4895412794951729152) (hy : y ≤ 4895412794951729152) :
    ∃ p, Ieee.double.mul s y = some p ∧ p < 9218868437227405312 ∧ Nr (V s * V y) Un p ∧ V p ≤ 340282366920938463463374607431768211456 * Un := by
  have hU := Un_pos
  have rs : rg s = s := Nat.mod_eq_of_lt (by omega)
  have ry : rg y = y := Nat.mod_eq_of_lt (by omega)
  have ss : sg s = false := by unfold sg; simp; omega
  have sy : sg y = false := by unfold sg; simp; omega
  obtain ⟨p, h1, h2⟩ := mul_fin (x := s) (y := y) (by omega) (by omega)
  rw [rs, ry] at h1
  obtain ⟨B, hB, eB⟩ := V128
  have v1 : V s ≤ 18446744073709551616 * Un := by rw [← V64]; exact V_le hs
  have v2 : V y ≤ 18446744073709551616 * Un := by rw [← V64]; exact V_le hy
  have hp : p ≤ B := by
    refine h1.mono (Nr.exact B 1 (by decide)) hU (by decide) ?_
    rw [Nat.mul_one, Nat.mul_one, eB]
    have := Nat.mul_le_mul v1 v2
    rw [Nat.mul_mul_mul_comm, ← Nat.mul_assoc, show (18446744073709551616 : Nat) * 18446744073709551616 = 340282366920938463463374607431768211456 from rfl] at this
    exact this
  have := V_le hp
  rw [Nat.min_eq_left (by omega), ss, sy] at h2
  exact ⟨p, h2, by omega, h1, by rw [← eB]; exact this⟩

/-- What a line reckons at two distances. -/
theorem lines (s y1 y2 c : Nat) (neg : Bool) (hs : s ≤ 4895412794951729152) (h1 : y1 ≤ y2) (h2 : y2 ≤ 4895412794951729152) (hc : c ≤ 4895412794951729152) :
    ∃ p1 p2 a b, Ieee.double.mul s y1 = some p1 ∧ Ieee.double.mul s y2 = some p2 ∧ Ieee.double.add p1 (Ieee.double.word neg c) = some a ∧ Ieee.double.add p2 (Ieee.double.word neg c) = some b ∧
      rg a < 9218868437227405312 ∧ rg b < 9218868437227405312 ∧ SV a ≤ SV b := by
  have hU := Un_pos
  obtain ⟨p1, m1, q1, n1, b1⟩ := way hs (show y1 ≤ _ by omega)
  obtain ⟨p2, m2, q2, n2, b2⟩ := way hs h2
  have pp : p1 ≤ p2 := n1.mono n2 hU hU (Nat.mul_le_mul_right _ (Nat.mul_le_mul_left _ (V_le h1)))
  have vp := V_le pp
  obtain ⟨B, hB, eB⟩ := V129
  have vc : V c ≤ 18446744073709551616 * Un := by rw [← V64]; exact V_le hc
  have r1 : rg p1 = p1 := Nat.mod_eq_of_lt (by omega)
  have r2 : rg p2 = p2 := Nat.mod_eq_of_lt (by omega)
  have e1 := SV_pos_word p1 (by omega)
  have e2 := SV_pos_word p2 (by omega)
  have ec := SV_word neg c (by omega)
  have rc : rg (Ieee.double.word neg c) = c := word_rg _ _ (by omega)
  have hT : SV (Ieee.double.word neg c) ≤ V c ∧ -(V c : Int) ≤ SV (Ieee.double.word neg c) := by rw [ec]; split <;> omega
  obtain ⟨a, x1, a1, a2, a3, a4⟩ := add_val (x := p1) (y := Ieee.double.word neg c) (by omega) (by omega) hB (by rw [e1, eB]; omega)
  obtain ⟨b, x2, c1, c2, c3, c4⟩ := add_val (x := p2) (y := Ieee.double.word neg c) (by omega) (by omega) hB (by rw [e2, eB]; omega)
  refine ⟨p1, p2, a, b, m1, m2, a1, c1, a2, c2, ?_⟩
  rw [a4, c4]
  exact rnd_mono a3 c3 (by omega)

theorem four (w w1 : World) (v0 v1 v2 v3 : Value) (t : TypeId) (g : Gb (w.alloc (.cells #[v0, v1, v2, v3] t)) w1) :
    w.heap.size < w1.heap.size ∧ w1.cell? ⟨w.heap.size, 0, none⟩ = some v0 ∧ w1.cell? ⟨w.heap.size, 1, none⟩ = some v1 ∧ w1.cell? ⟨w.heap.size, 2, none⟩ = some v2 ∧ w1.cell? ⟨w.heap.size, 3, none⟩ = some v3 := by
  have hs := g.size
  refine ⟨by simp at hs; omega, ?_, ?_, ?_, ?_⟩
  all_goals (rw [g.cell _ _ (by simp)]; simp [go_sem])

set_option maxRecDepth 10000 in
set_option maxHeartbeats 4000000 in
theorem lrises_zero (l0 l2 l3 : Nat) (base : Int) (w : World) :
    Calls Try.prog 4 #[.agg #[.int .u64 l0, .int .u64 0, .int .u64 l2, .int .u64 l3], .int .i64 base] w fun e w' => e = .returned (.bool true) ∧ Gb w w' := by
  go_enter Try.func4, Try.ntmps4
  go_wp2_with fail
  refine (shown_any _).mono ?_
  rintro e w1 ⟨rfl, g1⟩
  obtain ⟨k, k0, k1, k2, k3⟩ := four _ _ _ _ _ _ _ g1
  go_wp2_with fail
  refine (near_zero_den l0 _).mono ?_
  rintro e w2 ⟨rfl, hw⟩
  have hw' : w1 = w2 := hw.symm
  clear hw
  subst hw'
  go_wp2_with fail
  go_quiet (fail)
  go_wp2
  go_ret
  exact ⟨rfl, (((Gb.refl w).alloc _ _).trans g1).drewN _⟩

set_option maxRecDepth 10000 in
set_option maxHeartbeats 4000000 in
theorem lrises_core (l0 l1 l2 l3 lo hi s tb a b : Nat) (base ca cb : Int) (d0 : 0 < l1) (hlh : l2 ≤ l3 ∧ lo = l2 ∧ hi = l3 ∨ l3 < l2 ∧ lo = l3 ∧ hi = l2)
    (hN : Hid (∀ w, Calls Try.prog 10 #[.int .u64 l0, .int .u64 l1] w fun e w' => e = .returned (.tuple #[.float .f64 s, .int .i64 0]) ∧ ∃ n, w' = w.drewN n))
    (et : floatOfInt .f64 base = tb)
    (hA : Hid (∀ w, Calls Try.prog 7 #[.float .f64 s, .int .u64 lo, .float .f64 tb] w fun e w' => e = .returned (.float .f64 a) ∧ w' = w))
    (hB : Hid (∀ w, Calls Try.prog 7 #[.float .f64 s, .int .u64 hi, .float .f64 tb] w fun e w' => e = .returned (.float .f64 b) ∧ w' = w))
    (ea : (FloatKind.f64.format.order a a == some .eq) = true) (eb : (FloatKind.f64.format.order b b == some .eq) = true)
    (eab : (FloatKind.f64.format.order a b == some .lt || FloatKind.f64.format.order a b == some .eq) = true)
    (hC : Hid (∀ w, Calls Try.prog 11 #[.float .f64 a, .int .i64 0, .int .i64 1099511627776] w fun e w' => e = .returned (.int .i64 ca) ∧ w' = w))
    (hD : Hid (∀ w, Calls Try.prog 11 #[.float .f64 b, .int .i64 0, .int .i64 1099511627776] w fun e w' => e = .returned (.int .i64 cb) ∧ w' = w)) (hcd : ca ≤ cb) (w : World) :
    Calls Try.prog 4 #[.agg #[.int .u64 l0, .int .u64 l1, .int .u64 l2, .int .u64 l3], .int .i64 base] w fun e w' => e = .returned (.bool true) ∧ Gb w w' := by
  have hd : ((l1 : Int) == 0) = false := by simp; omega
  rcases hlh with ⟨hl, rfl, rfl⟩ | ⟨hl, rfl, rfl⟩
  · have hl' : ¬ hi < lo := by omega
    go_enter Try.func4, Try.ntmps4
    go_wp2_with fail
    refine (shown_any _).mono ?_
    rintro e w1 ⟨rfl, g1⟩
    obtain ⟨k, k0, k1, k2, k3⟩ := four _ _ _ _ _ _ _ g1
    go_wp2_with fail
    refine (hN.out _).mono ?_
    rintro e w2 ⟨rfl, n, rfl⟩
    go_wp2_with fail
    go_quiet (fail)
    go_wp2_with fail
    refine (hA.out _).mono ?_
    rintro e w3 ⟨rfl, rfl⟩
    go_wp2_with fail
    refine (hB.out _).mono ?_
    rintro e w3 ⟨rfl, rfl⟩
    go_wp2_with fail
    refine (hC.out _).mono ?_
    rintro e w3 ⟨rfl, rfl⟩
    go_wp2_with fail
    refine (hD.out _).mono ?_
    rintro e w3 ⟨rfl, rfl⟩
    go_wp2
    go_ret
    exact ⟨rfl, (((Gb.refl w).alloc _ _).trans g1).drewN _⟩
  · go_enter Try.func4, Try.ntmps4
    go_wp2_with fail
    refine (shown_any _).mono ?_
    rintro e w1 ⟨rfl, g1⟩
    obtain ⟨k, k0, k1, k2, k3⟩ := four _ _ _ _ _ _ _ g1
    go_wp2_with fail
    refine (hN.out _).mono ?_
    rintro e w2 ⟨rfl, n, rfl⟩
    go_wp2_with fail
    go_quiet (fail)
    go_wp2_with fail
    refine (hA.out _).mono ?_
    rintro e w3 ⟨rfl, rfl⟩
    go_wp2_with fail
    refine (hB.out _).mono ?_
    rintro e w3 ⟨rfl, rfl⟩
    go_wp2_with fail
    refine (hC.out _).mono ?_
    rintro e w3 ⟨rfl, rfl⟩
    go_wp2_with fail
    refine (hD.out _).mono ?_
    rintro e w3 ⟨rfl, rfl⟩
    go_wp2
    go_ret
    exact ⟨rfl, (((Gb.refl w).alloc _ _).trans g1).drewN _⟩

/-- A nearest float, 0 among them. -/
theorem near_le (num den : Nat) (hn : num < 18446744073709551616) (hd : den < 18446744073709551616) (d0 : 0 < den) :
    ∃ s, s ≤ 4895412794951729152 ∧ ∀ w, Calls Try.prog 10 #[.int .u64 num, .int .u64 den] w fun e w' => e = .returned (.tuple #[.float .f64 s, .int .i64 0]) ∧ ∃ n, w' = w.drewN n := by
  rcases Nat.eq_zero_or_pos num with z | z
  · subst z
    exact ⟨0, by decide, fun w => (near_zero_num den d0 w).mono fun e w' h => ⟨h.1, 0, h.2⟩⟩
  · obtain ⟨b, -, -, h, c⟩ := near_ex num den hn hd z d0
    exact ⟨b, h, c⟩

/-- An int as a float. -/
theorem ofI64 (n : Int) (h0 : -9223372036854775808 ≤ n) (h1 : n < 9223372036854775808) : ∃ c, c ≤ 4895412794951729152 ∧ floatOfInt .f64 n = Ieee.double.word (decide (n < 0)) c := by
  obtain ⟨b, k1, k2⟩ := ofInt_any n
  have hb : b ≤ 4895412794951729152 := by
    refine k1.mono (Nr.exact 4895412794951729152 1 (by decide)) (by decide) (by decide) ?_
    rw [V64]; simp only [Nat.mul_one]
    exact Nat.mul_le_mul_right _ (by omega)
  rw [Nat.min_eq_left (by omega)] at k2
  exact ⟨b, hb, k2⟩

theorem self_eq {x : Nat} (h : rg x < 9218868437227405312) : (FloatKind.f64.format.order x x == some .eq) = true := by rw [fmt, f_eq h h]; simp

theorem rises_law (l0 : Int) (a0 : 0 ≤ l0) (a1 : l0 < 18446744073709551616) (l1 : Int) (b0 : 0 ≤ l1) (b1 : l1 < 18446744073709551616) (l2 : Int) (c0 : 0 ≤ l2) (c1 : l2 < 18446744073709551616) (l3 : Int) (d0 : 0 ≤ l3) (d1 : l3 < 18446744073709551616)
    (base : Int) (e0 : -9223372036854775808 ≤ base) (e1 : base < 9223372036854775808) (w : World) :
    Calls Try.prog 4 #[.agg #[.int .u64 l0, .int .u64 l1, .int .u64 l2, .int .u64 l3], .int .i64 base] w fun e w' => e = .returned (.bool true) ∧ Gb w w' := by
  obtain ⟨l0, rfl⟩ := Int.eq_ofNat_of_zero_le a0
  obtain ⟨l1, rfl⟩ := Int.eq_ofNat_of_zero_le b0
  obtain ⟨l2, rfl⟩ := Int.eq_ofNat_of_zero_le c0
  obtain ⟨l3, rfl⟩ := Int.eq_ofNat_of_zero_le d0
  rcases Nat.eq_zero_or_pos l1 with z | z
  · subst z
    exact lrises_zero l0 l2 l3 base w
  · obtain ⟨lo, hi, hlh, hle, hlo, hhi⟩ : ∃ lo hi : Nat, (l2 ≤ l3 ∧ lo = l2 ∧ hi = l3 ∨ l3 < l2 ∧ lo = l3 ∧ hi = l2) ∧ lo ≤ hi ∧ lo < 18446744073709551616 ∧ hi < 18446744073709551616 := by
      rcases Nat.lt_or_ge l3 l2 with k | k
      · exact ⟨l3, l2, .inr ⟨k, rfl, rfl⟩, by omega, by omega, by omega⟩
      · exact ⟨l2, l3, .inl ⟨k, rfl, rfl⟩, k, by omega, by omega⟩
    obtain ⟨s, hs, cN⟩ := near_le l0 l1 (by omega) (by omega) z
    obtain ⟨y1, n1, u1, f1⟩ := ofU64 lo hlo
    obtain ⟨y2, n2, u2, f2⟩ := ofU64 hi hhi
    have hy : y1 ≤ y2 := n1.mono n2 (by decide) (by decide) (Nat.mul_le_mul_right _ (Nat.mul_le_mul_right _ hle))
    obtain ⟨c, hc, et⟩ := ofI64 base e0 e1
    obtain ⟨p1, p2, a, b, m1, m2, s1, s2, ra, rb, hab⟩ := lines s y1 y2 c (decide (base < 0)) hs hy u2 hc
    rw [← et] at s1 s2
    exact lrises_core l0 l1 l2 l3 lo hi s (floatOfInt .f64 base) a b base (clampv a 0 1099511627776) (clampv b 0 1099511627776) z hlh cN rfl
      (fun w => along_some s y1 lo _ p1 a hlo f1 m1 s1 w) (fun w => along_some s y2 hi _ p2 b hhi f2 m2 s2 w) (self_eq ra) (self_eq rb)
      (by rw [fmt, f_le ra rb]; exact decide_eq_true hab) (fun w => clamp_any a 0 1099511627776 (by decide) (by decide) (by decide) (by decide) w) (fun w => clamp_any b 0 1099511627776 (by decide) (by decide) (by decide) (by decide) w)
      (clampv_fin 0 1099511627776 ra rb hab) w
end Go.Proofs.Ytfoliapennaneab
