/- Package line's At, over what its 'climb' does. -/
import Derived.Test.YtncnoaofdflbmaaHBase
import Derived.Test.YtncnoaofdflbmaaLPlain
namespace Go.Proofs.Ytncnoaofdflbmaa
open Go.RowKit
set_option linter.unusedVariables false

/-- 'climb' refuses. -/
abbrev ClimbBad (a b d : Int) : Prop := b = 0 ∨ 2305843009213693952 < a * d / b

/-- What 'climb' does. -/
def ClimbC : Prop := ∀ (a b c d : Int), 0 ≤ a → a < 18446744073709551616 → 0 ≤ b → b < 18446744073709551616 → 0 ≤ d → d < 18446744073709551616 → ∀ w : World,
    Calls Try.prog 30 #[.agg #[.int .u64 a, .int .u64 b, .int .i64 c], .int .u64 d] w fun ex w' => ex = .returned (.tuple #[.int .i64 (if ClimbBad a b d then 0 else a * d / b), .bool (!decide (ClimbBad a b d))]) ∧ Gw w w'

set_option maxRecDepth 10000 in
set_option maxHeartbeats 4000000 in
theorem xat_any (CC : ClimbC) (a b c d : Int) (a0 : 0 ≤ a) (a1 : a < 18446744073709551616) (b0 : 0 ≤ b) (b1 : b < 18446744073709551616) (c0 : -9223372036854775808 ≤ c) (c1 : c < 9223372036854775808) (d0 : 0 ≤ d) (d1 : d < 18446744073709551616) (w : World) :
    Calls Try.prog 14 #[.agg #[.int .u64 a, .int .u64 b, .int .i64 c], .int .u64 d] w fun ex w' => (∃ r err : Int, ex = .returned (.tuple #[.int .i64 r, .int .i64 err]) ∧ AtR a b c d r err) ∧ Gw w w' := by
  have G0 : Aside (Gw w (w.alloc (.cells #[.int .u64 a, .int .u64 b, .int .i64 c] 27))) := (Gw.refl w).alloc _ _
  by_cases h1 : c < -2305843009213693952
  · have t2 : decide (c < -2305843009213693952) = true := by simpa using h1
    have R : Aside (AtR a b c d 0 1) := .inl ⟨.inr (.inl h1), rfl, rfl⟩
    go_enter Try.func14, Try.ntmps14
    go_wp2_with fail
    exact bodyPost_ret (v := .tuple #[.int .i64 0, .int .i64 1]) (by simp [results, Try.results14, go_sem]) rfl ⟨⟨0, 1, rfl, R.out⟩, G0.out⟩
  · have t2 : decide (c < -2305843009213693952) = false := by simpa using h1
    by_cases h2 : 2305843009213693952 < c
    · have t3 : decide (2305843009213693952 < c) = true := by simpa using h2
      have R : Aside (AtR a b c d 0 1) := .inl ⟨.inr (.inr (.inl h2)), rfl, rfl⟩
      go_enter Try.func14, Try.ntmps14
      go_wp2_with fail
      exact bodyPost_ret (v := .tuple #[.int .i64 0, .int .i64 1]) (by simp [results, Try.results14, go_sem]) rfl ⟨⟨0, 1, rfl, R.out⟩, G0.out⟩
    · have t3 : decide (2305843009213693952 < c) = false := by simpa using h2
      have D : Hid _ := fun W => CC a b c d a0 a1 b0 b1 d0 d1 W
      have RR : Aside (∀ r err, AtR a b c d r err ↔ (ClimbBad a b d ∧ r = 0 ∧ err = 1) ∨ (¬ ClimbBad a b d ∧ r = a * d / b + c ∧ err = 0)) := by
        intro r err
        have k : AtBad a b c d ↔ ClimbBad a b d := by
          unfold AtBad ClimbBad
          constructor
          · rintro (q | q | q | q)
            · exact .inl q
            · exact absurd q h1
            · exact absurd q h2
            · exact .inr q
          · rintro (q | q)
            · exact .inl q
            · exact .inr (.inr (.inr q))
        unfold AtR
        rw [k]
      have q0 : 0 ≤ a * d / b := Int.ediv_nonneg (Int.mul_nonneg a0 d0) b0
      have q1 : ¬ ClimbBad a b d → a * d / b ≤ 2305843009213693952 := fun q => by unfold ClimbBad at q; omega
      obtain ⟨Q, hQ⟩ : ∃ Q, a * d / b = Q := ⟨_, rfl⟩
      obtain ⟨z, hz⟩ : ∃ z, decide (ClimbBad a b d) = z := ⟨_, rfl⟩
      have Z : Aside (z = true ↔ ClimbBad a b d) := by rw [← hz]; exact decide_eq_true_iff
      have ei : (if ClimbBad a b d then 0 else a * d / b) = if z = true then 0 else Q := by
        by_cases q : ClimbBad a b d
        · rw [if_pos q, if_pos (Z.out.2 q)]
        · rw [if_neg q, if_neg (fun h => q (Z.out.1 h)), hQ]
      rw [ei, hz] at D
      rw [hQ] at RR q0 q1
      clear hQ hz ei
      go_enter Try.func14, Try.ntmps14
      go_wp2_with fail
      refine (D.out _).mono ?_
      rintro ex w1 ⟨rfl, g1⟩
      have cc : w1.cell? ⟨w.heap.size, 2, none⟩ = some (.int .i64 c) := (g1.cell _ _ (by simp)).trans (by simp [go_sem])
      have G : Aside (Gw w w1) := G0.out.trans g1
      clear g1 G0
      cases z with
      | true =>
        have h3 := Z.out.1 rfl
        have R : Aside (AtR a b c d 0 1) := (RR.out 0 1).2 (.inl ⟨h3, rfl, rfl⟩)
        rw [if_pos rfl]
        clear h3 RR Z q1
        go_wp2_with fail
        exact bodyPost_ret (v := .tuple #[.int .i64 0, .int .i64 1]) (by simp [results, Try.results14, go_sem]) rfl ⟨⟨0, 1, rfl, R.out⟩, G.out⟩
      | false =>
        have h3 : ¬ ClimbBad a b d := fun q => by have := Z.out.2 q; simp at this
        have R : Aside (AtR a b c d (Q + c) 0) := (RR.out _ 0).2 (.inr ⟨h3, rfl, rfl⟩)
        have q2 := q1 h3
        have wz : IntKind.i64.wrap (Q + c) = Q + c := by rw [IntKind.wrap_i64]; omega
        rw [if_neg (by decide)]
        clear h3 RR Z q1
        go_wp2_with fail
        exact bodyPost_ret (v := .tuple #[.int .i64 (Q + c), .int .i64 0]) (by simp [results, Try.results14, go_sem]) rfl ⟨⟨Q + c, 0, rfl, R.out⟩, G.out⟩

end Go.Proofs.Ytncnoaofdflbmaa
