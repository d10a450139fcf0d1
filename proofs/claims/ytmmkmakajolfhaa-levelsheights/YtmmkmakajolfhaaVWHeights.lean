/- LevelsHeights' walk. -/
import Derived.Test.YtmmkmakajolfhaaVShown
namespace Go.Proofs.Ytmmkmakajolfhaa
open Go.RowKit
set_option linter.unusedVariables false

theorem mxh_up {n eps : Int} (h1 : 2 ≤ eps) (h2 : eps < 64) (h3 : 1 ≤ n) : mxh n eps ≤ mxh (n + 1) eps := by
  unfold mxh
  rw [if_pos ⟨h1, by omega, h3⟩, if_pos ⟨h1, by omega, by omega⟩]
  have := hgt_mono (e := eps.toNat) (by omega) (n + 1).toNat n.toNat (by omega)
  omega
theorem mxh_dn {n eps : Int} (h1 : 2 ≤ eps) (h2 : eps < 64) (h3 : 1 ≤ n) : mxh n (eps + 1) ≤ mxh n eps := by
  unfold mxh
  rw [if_pos (show 2 ≤ eps + 1 ∧ eps + 1 ≤ 64 ∧ 1 ≤ n by omega), if_pos (show 2 ≤ eps ∧ eps ≤ 64 ∧ 1 ≤ n by omega)]
  have := hgt_anti (e := eps.toNat) (by omega) n.toNat
  rw [show (eps + 1).toNat = eps.toNat + 1 by omega]
  omega

set_option maxRecDepth 10000 in
set_option maxHeartbeats 4000000 in
theorem heights_walk (LL : LevelsC) (n eps : Int) (n0 : -9223372036854775808 ≤ n) (n1 : n < 9223372036854775808) (e0 : -9223372036854775808 ≤ eps) (e1 : eps < 9223372036854775808) (w : World) :
    Calls Try.prog 4 #[.int .i64 n, .int .i64 eps] w fun e w' => e = .returned (.bool true) ∧ Gw w w' := by
  have SH : Hid (∀ W, Calls Try.prog 8 #[] W fun e w' => e = .returned (.bool true) ∧ Gw W w') := fun W => shown8 LL W
  have LH := fun W => LL.height n eps n0 n1 e0 e1 W
  have RH := fun W => rmaxh_any n eps n0 n1 e0 e1 W
  obtain ⟨H, hH⟩ : ∃ H, mxh n eps = H := ⟨_, rfl⟩
  rw [hH] at LH RH
  have LH' : Hid (∀ W, Calls Try.prog 13 #[.int .i64 n, .int .i64 eps] W fun ex w' => ex = .returned (.int .i64 H) ∧ Gw W w') := LH
  have RH' : Hid (∀ W, Calls Try.prog 14 #[.int .i64 n, .int .i64 eps] W fun ex w' => ex = .returned (.int .i64 H) ∧ Gw W w') := RH
  clear LH RH
  by_cases c : 2 ≤ eps ∧ eps < 64 ∧ 1 ≤ n ∧ n ≠ 9223372036854775807
  · obtain ⟨c1, c2, c3, c4⟩ := c
    have L1 := fun W => LL.height (n + 1) eps (by omega) (by omega) e0 e1 W
    have L2 := fun W => LL.height n (eps + 1) n0 n1 (by omega) (by omega) W
    have U := mxh_up c1 c2 c3
    have D := mxh_dn c1 c2 c3
    rw [hH] at U D
    obtain ⟨A, hA⟩ : ∃ A, mxh (n + 1) eps = A := ⟨_, rfl⟩
    obtain ⟨B, hB⟩ : ∃ B, mxh n (eps + 1) = B := ⟨_, rfl⟩
    rw [hA] at L1 U
    rw [hB] at L2 D
    have L1' : Hid (∀ W, Calls Try.prog 13 #[.int .i64 (n + 1), .int .i64 eps] W fun ex w' => ex = .returned (.int .i64 A) ∧ Gw W w') := L1
    have L2' : Hid (∀ W, Calls Try.prog 13 #[.int .i64 n, .int .i64 (eps + 1)] W fun ex w' => ex = .returned (.int .i64 B) ∧ Gw W w') := L2
    have t1 : decide (eps < 2) = false := by simp; omega
    have t2 : decide (64 ≤ eps) = false := by simp; omega
    have t3 : decide (n < 1) = false := by simp; omega
    have t4 : (n == 9223372036854775807) = false := by simpa using c4
    have w1 : IntKind.i64.wrap (n + 1) = n + 1 := by rw [IntKind.wrap_i64]; omega
    have w2 : IntKind.i64.wrap (eps + 1) = eps + 1 := by rw [IntKind.wrap_i64]; omega
    have t5 : decide (H ≤ A) = true := by simpa using U
    have t6 : decide (B ≤ H) = true := by simpa using D
    clear L1 L2 hA hB hH LL U D c1 c2 c3 c4
    go_enter Try.func4, Try.ntmps4
    go_wp2_with fail
    refine (SH.out _).mono ?_
    rintro e w1 ⟨rfl, g1⟩
    have G1 : Aside (Gw w w1) := g1
    clear g1
    go_wp2_with fail
    refine (LH'.out _).mono ?_
    rintro e w2 ⟨rfl, g2⟩
    have G2 : Aside (Gw w w2) := G1.out.trans g2
    clear g2 G1
    go_wp2_with fail
    refine (RH'.out _).mono ?_
    rintro e w3 ⟨rfl, g3⟩
    have G3 : Aside (Gw w w3) := G2.out.trans g3
    clear g3 G2
    go_wp2_with fail
    refine (L1'.out _).mono ?_
    rintro e w4 ⟨rfl, g4⟩
    have G4 : Aside (Gw w w4) := G3.out.trans g4
    clear g4 G3
    go_wp2_with fail
    refine (L2'.out _).mono ?_
    rintro e w5 ⟨rfl, g5⟩
    have G5 : Aside (Gw w w5) := G4.out.trans g5
    clear g5 G4
    go_wp2_with fail
    go_ret
    exact ⟨rfl, G5.out⟩
  · have CS : Aside (decide (eps < 2) = true ∨ (decide (eps < 2) = false ∧ decide (64 ≤ eps) = true) ∨ (decide (eps < 2) = false ∧ decide (64 ≤ eps) = false ∧ decide (n < 1) = true) ∨ (decide (eps < 2) = false ∧ decide (64 ≤ eps) = false ∧ decide (n < 1) = false ∧ (n == 9223372036854775807) = true)) := by
      show _ ∨ _ ∨ _ ∨ _
      by_cases a : eps < 2
      · exact .inl (by simpa using a)
      · by_cases b : 64 ≤ eps
        · exact .inr (.inl ⟨by simpa using a, by simpa using b⟩)
        · by_cases d : n < 1
          · exact .inr (.inr (.inl ⟨by simpa using a, by simpa using b, by simpa using d⟩))
          · exact .inr (.inr (.inr ⟨by simpa using a, by simpa using b, by simpa using d, by simp; omega⟩))
    clear LL hH c
    go_enter Try.func4, Try.ntmps4
    go_wp2_with fail
    refine (SH.out _).mono ?_
    rintro e w1 ⟨rfl, g1⟩
    have G1 : Aside (Gw w w1) := g1
    clear g1
    go_wp2_with fail
    refine (LH'.out _).mono ?_
    rintro e w2 ⟨rfl, g2⟩
    have G2 : Aside (Gw w w2) := G1.out.trans g2
    clear g2 G1
    go_wp2_with fail
    refine (RH'.out _).mono ?_
    rintro e w3 ⟨rfl, g3⟩
    have G3 : Aside (Gw w w3) := G2.out.trans g3
    clear g3 G2
    rcases CS.out with c1 | ⟨c1, c2⟩ | ⟨c1, c2, c3⟩ | ⟨c1, c2, c3, c4⟩
    all_goals
      clear CS
      go_wp2_with fail
      go_ret
      exact ⟨rfl, G3.out⟩

end Go.Proofs.Ytmmkmakajolfhaa
