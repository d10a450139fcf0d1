/- Layer 5's product of 128 bits in halves of 32, and which of two slopes is above. -/
import Derived.Test.YtncnoaofdflbmabHBase
namespace Go.Proofs.Ytncnoaofdflbmab
open Go.RowKit
set_option linter.unusedVariables false

theorem half_mul {a b : Int} (a0 : 0 ≤ a) (a1 : a < 4294967296) (b0 : 0 ≤ b) (b1 : b < 4294967296) : 0 ≤ a * b ∧ a * b ≤ 18446744065119617025 := by
  refine ⟨Int.mul_nonneg a0 b0, ?_⟩
  have h1 : a * b ≤ 4294967295 * b := Int.mul_le_mul_of_nonneg_right (by omega) b0
  omega

theorem halves_mul (a b : Int) : a * b = 18446744073709551616 * (a / 4294967296 * (b / 4294967296)) + 4294967296 * (a / 4294967296 * (b % 4294967296)) + 4294967296 * (a % 4294967296 * (b / 4294967296)) + a % 4294967296 * (b % 4294967296) := by
  have ea := Int.emod_add_mul_ediv a 4294967296
  have eb := Int.emod_add_mul_ediv b 4294967296
  generalize a / 4294967296 = p at *
  generalize a % 4294967296 = q at *
  generalize b / 4294967296 = r at *
  generalize b % 4294967296 = s at *
  subst ea eb
  rw [Int.add_mul, Int.mul_add, Int.mul_add]
  have e1 : q * (4294967296 * r) = 4294967296 * (q * r) := by rw [Int.mul_left_comm]
  have e2 : 4294967296 * p * s = 4294967296 * (p * s) := Int.mul_assoc _ _ _
  have e3 : 4294967296 * p * (4294967296 * r) = 18446744073709551616 * (p * r) := by
    rw [Int.mul_assoc, Int.mul_left_comm p, ← Int.mul_assoc]; rfl
  omega

set_option maxRecDepth 10000 in
set_option maxHeartbeats 4000000 in
theorem times5_any (a b : Int) (a0 : 0 ≤ a) (a1 : a < 18446744073709551616) (b0 : 0 ≤ b) (b1 : b < 18446744073709551616) (w : World) :
    Calls Try.prog 21 #[.int .u64 a, .int .u64 b] w fun e w' => e = .returned (.tuple #[.int .u64 (a * b / 18446744073709551616), .int .u64 (a * b % 18446744073709551616)]) ∧ Gw w w' := by
  have E := halves_mul a b
  have A0 : 0 ≤ a / 4294967296 ∧ a / 4294967296 < 4294967296 := by omega
  have A1 : 0 ≤ a % 4294967296 ∧ a % 4294967296 < 4294967296 := by omega
  have B0 : 0 ≤ b / 4294967296 ∧ b / 4294967296 < 4294967296 := by omega
  have B1 : 0 ≤ b % 4294967296 ∧ b % 4294967296 < 4294967296 := by omega
  have h1 := half_mul A0.1 A0.2 B0.1 B0.2
  have h2 := half_mul A0.1 A0.2 B1.1 B1.2
  have h3 := half_mul A1.1 A1.2 B0.1 B0.2
  have h4 := half_mul A1.1 A1.2 B1.1 B1.2
  obtain ⟨pp, hpp⟩ : ∃ x, a / 4294967296 * (b / 4294967296) = x := ⟨_, rfl⟩
  obtain ⟨pq, hpq⟩ : ∃ x, a / 4294967296 * (b % 4294967296) = x := ⟨_, rfl⟩
  obtain ⟨qp, hqp⟩ : ∃ x, a % 4294967296 * (b / 4294967296) = x := ⟨_, rfl⟩
  obtain ⟨qq, hqq⟩ : ∃ x, a % 4294967296 * (b % 4294967296) = x := ⟨_, rfl⟩
  rw [hpp, hpq, hqp, hqq] at E
  rw [hpp] at h1
  rw [hpq] at h2
  rw [hqp] at h3
  rw [hqq] at h4
  obtain ⟨T, hT⟩ : ∃ T, a * b = T := ⟨_, rfl⟩
  rw [hT] at E ⊢
  have q0 : 0 ≤ qq := h4.1
  have w1 : IntKind.u64.wrap qq = qq := by rw [IntKind.wrap_u64]; omega
  have w2 : IntKind.u64.wrap pq = pq := by rw [IntKind.wrap_u64]; omega
  have w3 : IntKind.u64.wrap qp = qp := by rw [IntKind.wrap_u64]; omega
  have w4 : IntKind.u64.wrap pp = pp := by rw [IntKind.wrap_u64]; omega
  obtain ⟨qh, hqh⟩ : ∃ x, qq / 4294967296 = x := ⟨_, rfl⟩
  obtain ⟨ql, hql⟩ : ∃ x, qq % 4294967296 = x := ⟨_, rfl⟩
  have v1 : IntKind.u64.wrap qh = qh := by rw [IntKind.wrap_u64]; omega
  obtain ⟨x, hx⟩ : ∃ x, pq + qh = x := ⟨_, rfl⟩
  have x0 : 0 ≤ x := by omega
  have w5 : IntKind.u64.wrap x = x := by rw [IntKind.wrap_u64]; omega
  obtain ⟨xh, hxh⟩ : ∃ y, x / 4294967296 = y := ⟨_, rfl⟩
  obtain ⟨xl, hxl⟩ : ∃ y, x % 4294967296 = y := ⟨_, rfl⟩
  have v2 : IntKind.u64.wrap xh = xh := by rw [IntKind.wrap_u64]; omega
  obtain ⟨y, hy⟩ : ∃ y, qp + xl = y := ⟨_, rfl⟩
  have y0 : 0 ≤ y := by omega
  have w6 : IntKind.u64.wrap y = y := by rw [IntKind.wrap_u64]; omega
  obtain ⟨yh, hyh⟩ : ∃ z, y / 4294967296 = z := ⟨_, rfl⟩
  obtain ⟨yl, hyl⟩ : ∃ z, y % 4294967296 = z := ⟨_, rfl⟩
  have v3 : IntKind.u64.wrap yh = yh := by rw [IntKind.wrap_u64]; omega
  have F1 : Hid (T / 18446744073709551616 = pp + xh + yh) := by show _ = _; omega
  have F2 : Hid (T % 18446744073709551616 = yl * 4294967296 + ql) := by show _ = _; omega
  have w7 : IntKind.u64.wrap (pp + xh) = pp + xh := by rw [IntKind.wrap_u64]; omega
  have w8 : IntKind.u64.wrap (pp + xh + yh) = pp + xh + yh := by rw [IntKind.wrap_u64]; omega
  have w9 : IntKind.u64.wrap (yl * 4294967296) = yl * 4294967296 := by rw [IntKind.wrap_u64]; omega
  have w10 : IntKind.u64.wrap (yl * 4294967296 + ql) = yl * 4294967296 + ql := by rw [IntKind.wrap_u64]; omega
  have d1 : qq.tdiv 4294967296 = qh := by rw [Int.tdiv_eq_ediv_of_nonneg q0]; exact hqh
  have d2 : x.tdiv 4294967296 = xh := by rw [Int.tdiv_eq_ediv_of_nonneg x0]; exact hxh
  have d3 : y.tdiv 4294967296 = yh := by rw [Int.tdiv_eq_ediv_of_nonneg y0]; exact hyh
  have d4 : qq.tmod 4294967296 = ql := by rw [Int.tmod_eq_emod_of_nonneg q0]; exact hql
  have d5 : x.tmod 4294967296 = xl := by rw [Int.tmod_eq_emod_of_nonneg x0]; exact hxl
  have d6 : y.tmod 4294967296 = yl := by rw [Int.tmod_eq_emod_of_nonneg y0]; exact hyl
  rw [F1.out, F2.out]
  clear F1 F2 E hT A0 A1 B0 B1 h1 h2 h3 h4
  go_enter Try.func21, Try.ntmps21
  go_wp2_with fail
  exact bodyPost_ret (v := .tuple #[.int .u64 (pp + xh + yh), .int .u64 (yl * 4294967296 + ql)]) (by simp [results, Try.results21, go_sem, *]) rfl ⟨rfl, Gw.refl w⟩

theorem wide_lt {a b : Int} : (b / 18446744073709551616 < a / 18446744073709551616 ∨ (a / 18446744073709551616 = b / 18446744073709551616 ∧ b % 18446744073709551616 < a % 18446744073709551616)) ↔ b < a := by omega

set_option maxRecDepth 10000 in
set_option maxHeartbeats 4000000 in
theorem above5_any (a b c a' b' c' : Int) (a0 : 0 ≤ a) (a1 : a < 18446744073709551616) (b0 : 0 ≤ b) (b1 : b < 18446744073709551616) (a0' : 0 ≤ a') (a1' : a' < 18446744073709551616) (b0' : 0 ≤ b') (b1' : b' < 18446744073709551616) (w : World) :
    Calls Try.prog 8 #[.agg #[.int .u64 a, .int .u64 b, .int .i64 c], .agg #[.int .u64 a', .int .u64 b', .int .i64 c']] w fun e w' => e = .returned (.bool (decide (a' * b < a * b'))) ∧ Gw w w' := by
  have T1 : Hid _ := fun W => times5_any a b' a0 a1 b0' b1' W
  have T2 : Hid _ := fun W => times5_any a' b a0' a1' b0 b1 W
  have K := @wide_lt (a * b') (a' * b)
  obtain ⟨P, hP⟩ : ∃ x, a * b' = x := ⟨_, rfl⟩
  obtain ⟨Q, hQ⟩ : ∃ x, a' * b = x := ⟨_, rfl⟩
  rw [hP] at T1 K ⊢
  rw [hQ] at T2 K ⊢
  clear hP hQ
  obtain ⟨Ph, hPh⟩ : ∃ x, P / 18446744073709551616 = x := ⟨_, rfl⟩
  obtain ⟨Pl, hPl⟩ : ∃ x, P % 18446744073709551616 = x := ⟨_, rfl⟩
  obtain ⟨Qh, hQh⟩ : ∃ x, Q / 18446744073709551616 = x := ⟨_, rfl⟩
  obtain ⟨Ql, hQl⟩ : ∃ x, Q % 18446744073709551616 = x := ⟨_, rfl⟩
  rw [hPh, hPl, hQh, hQl] at K
  rw [hPh, hPl] at T1
  rw [hQh, hQl] at T2
  clear hPh hPl hQh hQl
  have KK : decide (Q < P) = (decide (Qh < Ph) || (Ph == Qh && decide (Ql < Pl))) := by
    rw [Bool.eq_iff_iff]
    simp only [decide_eq_true_eq, Bool.or_eq_true, Bool.and_eq_true, beq_iff_eq]
    exact K.symm
  rw [KK]
  clear K KK
  have G2 : Aside (Gw w ((w.alloc (.cells #[.int .u64 a, .int .u64 b, .int .i64 c] 26)).alloc (.cells #[.int .u64 a', .int .u64 b', .int .i64 c'] 26))) := ((Gw.refl w).alloc _ _).alloc _ _
  go_enter Try.func8, Try.ntmps8
  go_wp2_with fail
  refine (T1.out _).mono ?_
  rintro e w1 ⟨rfl, g1⟩
  have c0 : w1.cell? ⟨w.heap.size + 1, 0, none⟩ = some (.int .u64 a') := (g1.cell _ _ (by simp)).trans (by simp [go_sem])
  have c1 : w1.cell? ⟨w.heap.size, 1, none⟩ = some (.int .u64 b) := (g1.cell _ _ (by simp; omega)).trans (by simp [go_sem])
  go_wp2_with fail
  refine (T2.out _).mono ?_
  rintro e w2 ⟨rfl, g2⟩
  have G : Aside (Gw w w2) := (G2.out.trans g1).trans g2
  clear g1 g2 c0 c1 G2
  by_cases k1 : Qh < Ph
  · have t1 : decide (Qh < Ph) = true := by simpa using k1
    go_wp2_with fail
    go_ret
    exact ⟨by simp [t1], G.out⟩
  · have t1 : decide (Qh < Ph) = false := by simpa using k1
    by_cases k2 : Ph = Qh
    · have t2 : (Ph == Qh) = true := by simpa using k2
      by_cases k3 : Ql < Pl
      · have t3 : decide (Ql < Pl) = true := by simpa using k3
        go_wp2_with fail
        go_ret
        exact ⟨by simp [t1, t2, t3], G.out⟩
      · have t3 : decide (Ql < Pl) = false := by simpa using k3
        go_wp2_with fail
        go_ret
        exact ⟨by simp [t1, t2, t3], G.out⟩
    · have t2 : (Ph == Qh) = false := by simpa using k2
      go_wp2_with fail
      go_ret
      exact ⟨by simp [t1, t2], G.out⟩

end Go.Proofs.Ytncnoaofdflbmab
