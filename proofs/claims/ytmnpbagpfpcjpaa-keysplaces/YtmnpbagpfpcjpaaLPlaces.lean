/- KeysPlaces returns true for every list of keys and every two keys. -/
import Derived.Test.YtmnpbagpfpcjpaaKShown
namespace Go.Proofs.Ytmnpbagpfpcjpaa
open Go.RowKit
set_option linter.unusedVariables false

set_option maxHeartbeats 8000000 in
theorem places_walk (ao : Option Addr) (n c : Nat) (f : Nat → Int) (q p : Int) (hn : n * 8 ≤ 140737488351232) (w : World) (h : KS w ao n f) :
    Calls Try.prog 6 #[.slice ao n c, .int .u64 q, .int .u64 p] w fun e w' => e = .returned (.bool true) ∧ Gb w w' := by
  go_enter Try.func6, Try.ntmps6
  go_wp2_with fail
  refine (shown_any _).mono ?_
  rintro e w1 ⟨rfl, g1⟩
  go_wp2_with fail
  refine (rank_any ao n c f q (by omega) _ (h.gb g1)).mono ?_
  rintro e w2 ⟨⟨m, t, rfl, hr⟩, g2⟩
  have H : Hid (RankA f n q m t) := hr
  clear hr
  go_wp2_with fail
  refine (rising_any ao n c f (by omega) _ (h.gb (g1.trans g2))).mono ?_
  rintro e w3 ⟨⟨r, rfl, hr⟩, g3⟩
  have G3 : Hid (Gb w w3) := (g1.trans g2).trans g3
  clear g1 g2 g3
  cases r with
  | false =>
    obtain ⟨rfl, rfl⟩ : m = -1 ∧ t = false := by
      rcases H.out with ⟨u, _⟩ | ⟨_, e1, e2⟩
      · exact Bool.noConfusion (hr.2 u)
      · exact ⟨e1, e2⟩
    clear hr H
    go_wp2_with fail
    go_ret
    exact ⟨by simp, G3.out⟩
  | true =>
    obtain ⟨U, k, rfl, R⟩ : Aside (Up f n) ∧ ∃ k : Nat, m = k ∧ Aside (RankR f n q k t) := by
      rcases H.out with ⟨u, k, rfl, hk⟩ | ⟨u, _⟩
      · exact ⟨u, k, rfl, hk⟩
      · exact absurd (hr.1 rfl) u
    clear hr H
    have hk : k ≤ n := R.out.le
    have last : ∀ (wr : World), Gb w wr → Calls Try.prog 18 #[.slice ao n c, .int .u64 p] wr fun e w' => (∃ k2 : Nat, e = .returned (.tuple #[.int .i64 k2, .bool (decide (k2 < n ∧ f k2 = p))]) ∧ k2 ≤ n ∧ (p ≤ q → k2 ≤ k) ∧ (q ≤ p → k ≤ k2)) ∧ Gb wr w' := by
      intro wr gr
      refine (rank_any ao n c f p (by omega) _ (h.gb gr)).mono ?_
      rintro e w2 ⟨⟨m, t2, rfl, hr⟩, g2⟩
      rcases hr with ⟨u, k2, rfl, hk2⟩ | ⟨u, _⟩
      · refine ⟨⟨k2, ?_, hk2.le, fun h => R.out.mono hk2 h, fun h => hk2.mono R.out h⟩, g2⟩
        have : t2 = decide (k2 < n ∧ f k2 = p) := by
          have := hk2.at_
          cases t2 <;> simp_all
        rw [this]
      · exact absurd U.out u
    have each : ∀ (wr : World), Gb w wr → ∀ i : Nat, i < n → Calls Try.prog 18 #[.slice ao n c, .int .u64 (f i)] wr fun e w' => e = .returned (.tuple #[.int .i64 i, .bool true]) ∧ Gb wr w' := by
      intro wr gr i hi
      refine (rank_any ao n c f (f i) (by omega) _ (h.gb gr)).mono ?_
      rintro e w2 ⟨⟨m, t2, rfl, hr⟩, g2⟩
      rcases hr with ⟨u, k2, rfl, hk2⟩ | ⟨u, _⟩
      · obtain ⟨rfl, rfl⟩ := hk2.self U.out hi
        exact ⟨rfl, g2⟩
      · exact absurd U.out u
    have LA : Aside _ := last
    have EA : Aside _ := each
    clear last each
    have hat : (k < n ∧ ∃ b off y, ao = some ⟨b, off, none⟩ ∧ w3.cell? ⟨b, off + k, none⟩ = some (.int .u64 y) ∧ t = (y == q)) ∨ (k = n ∧ t = false) := by
      have ha := R.out.at_
      by_cases hlt : k < n
      · obtain ⟨b, off, e, hb, hc⟩ := (h.gb G3.out).cells (by omega)
        refine .inl ⟨hlt, b, off, f k, e, hc k hlt, ?_⟩
        cases t <;> simp_all
      · refine .inr ⟨by omega, ?_⟩
        cases t with
        | false => rfl
        | true => exact absurd (ha.1 rfl).1 hlt
    have HH : Aside (KS w ao n f) := h
    have z1 : decide ((k : Int) < 0) = false := by simp
    have z2 : ¬ n < k := by omega
    have z3 : ¬ (k : Int) < 0 := by omega
    rcases hat with ⟨hlt, b, off, y, rfl, c1, rfl⟩ | ⟨hkn, rfl⟩
    · go_wp2_with fail
      clear c1
      clear h
      go_loopg [10] n (fun gg s10 wr => ∃ i : Nat, s10 = .int .i64 i ∧ i ≤ n ∧ n - i ≤ gg ∧ Aside (Gb w wr))
      case atStart => exact ⟨0, rfl, Nat.zero_le _, by omega, G3.out⟩
      case round =>
        obtain ⟨i, rfl, h1, h2, G⟩ := hrel
        by_cases hin : i < n
        · obtain ⟨b', off', eo, hb, hc⟩ := (HH.out.gb G.out).cells (by omega)
          cases eo
          have c1 := hc i hin
          have EC := EA.out
          clear hc EA LA
          have hy : (k ≤ i ∧ ¬ f i < q) ∨ (i < k ∧ f i < q) := by
            rcases Nat.lt_or_ge i k with hh | hh
            · exact .inr ⟨hh, R.out.lo i hh⟩
            · have := R.out.hi i hh hin
              exact .inl ⟨hh, by omega⟩
          have EC' : Aside (∀ wr : World, Gb w wr → Calls Try.prog 18 #[.slice (some ⟨b, off, none⟩) n c, .int .u64 (f i)] wr fun e w' => e = .returned (.tuple #[.int .i64 i, .bool true]) ∧ Gb wr w') := fun wr gr => EC wr gr i hin
          clear EC
          generalize f i = y' at c1 hy EC'
          rcases hy with ⟨y1, y2⟩ | ⟨y1, y2⟩
          · have y1' : ¬ i < k := by omega
            go_wp2_with fail
            refine (EC'.out _ G.out).mono ?_
            rintro e w4 ⟨rfl, g4⟩
            go_wp2_with fail
            go_roundg (n - (i + 1))
            case measure => omega
            case rel => exact ⟨i + 1, by go_num, by omega, Nat.le_refl _, (show Aside _ from G.out.trans g4)⟩
          · go_wp2_with fail
            refine (EC'.out _ G.out).mono ?_
            rintro e w4 ⟨rfl, g4⟩
            go_wp2_with fail
            go_roundg (n - (i + 1))
            case measure => omega
            case rel => exact ⟨i + 1, by go_num, by omega, Nat.le_refl _, (show Aside _ from G.out.trans g4)⟩
        · have LB := LA.out
          clear LA EA
          go_wp2_with fail
          refine (LB _ G.out).mono ?_
          rintro e w4 ⟨⟨k2, rfl, k3, k4, k5⟩, g4⟩
          generalize decide (k2 < n ∧ f k2 = p) = t2
          rcases Int.lt_trichotomy p q with hpq | hpq | hpq
          · have a1 : ¬ q < p := by omega
            have a2 : k2 ≤ k := k4 (by omega)
            clear k4 k5 LB R U
            go_wp2_with fail
            go_ret
            exact ⟨by simp, G.out.trans g4⟩
          · subst hpq
            have a2 : k2 = k := by have := k4 (by omega); have := k5 (by omega); omega
            clear k4 k5 LB R U
            subst a2
            go_wp2_with fail
            go_ret
            exact ⟨by simp, G.out.trans g4⟩
          · have a1 : ¬ p < q := by omega
            have a2 : k ≤ k2 := k5 (by omega)
            clear k4 k5 LB R U
            go_wp2_with fail
            go_ret
            exact ⟨by simp, G.out.trans g4⟩
    · have hnot : ¬ k < n := by omega
      have K : Aside (k = n) := hkn
      clear hkn
      go_wp2_with fail
      clear h
      go_loopg [10] n (fun gg s10 wr => ∃ i : Nat, s10 = .int .i64 i ∧ i ≤ n ∧ n - i ≤ gg ∧ Aside (Gb w wr))
      case atStart => exact ⟨0, rfl, Nat.zero_le _, by omega, G3.out⟩
      case round =>
        obtain ⟨i, rfl, h1, h2, G⟩ := hrel
        by_cases hin : i < n
        · obtain ⟨b', off', eo, hb, hc⟩ := (HH.out.gb G.out).cells (by omega)
          subst eo
          have c1 := hc i hin
          have EC := EA.out
          clear hc EA LA
          have hy : (k ≤ i ∧ ¬ f i < q) ∨ (i < k ∧ f i < q) := by
            rcases Nat.lt_or_ge i k with hh | hh
            · exact .inr ⟨hh, R.out.lo i hh⟩
            · have := R.out.hi i hh hin
              exact .inl ⟨hh, by omega⟩
          have EC' : Aside (∀ wr : World, Gb w wr → Calls Try.prog 18 #[.slice (some ⟨b', off', none⟩) n c, .int .u64 (f i)] wr fun e w' => e = .returned (.tuple #[.int .i64 i, .bool true]) ∧ Gb wr w') := fun wr gr => EC wr gr i hin
          clear EC
          generalize f i = y' at c1 hy EC'
          rcases hy with ⟨y1, y2⟩ | ⟨y1, y2⟩
          · have y1' : ¬ i < k := by omega
            go_wp2_with fail
            refine (EC'.out _ G.out).mono ?_
            rintro e w4 ⟨rfl, g4⟩
            go_wp2_with fail
            go_roundg (n - (i + 1))
            case measure => omega
            case rel => exact ⟨i + 1, by go_num, by omega, Nat.le_refl _, (show Aside _ from G.out.trans g4)⟩
          · go_wp2_with fail
            refine (EC'.out _ G.out).mono ?_
            rintro e w4 ⟨rfl, g4⟩
            go_wp2_with fail
            go_roundg (n - (i + 1))
            case measure => omega
            case rel => exact ⟨i + 1, by go_num, by omega, Nat.le_refl _, (show Aside _ from G.out.trans g4)⟩
        · have LB := LA.out
          clear LA EA
          go_wp2_with fail
          refine (LB _ G.out).mono ?_
          rintro e w4 ⟨⟨k2, rfl, k3, k4, k5⟩, g4⟩
          generalize decide (k2 < n ∧ f k2 = p) = t2
          rcases Int.lt_trichotomy p q with hpq | hpq | hpq
          · have a1 : ¬ q < p := by omega
            have a2 : k2 ≤ k := k4 (by omega)
            clear k4 k5 LB R U
            go_wp2_with fail
            go_ret
            exact ⟨by simp, G.out.trans g4⟩
          · subst hpq
            have a2 : k2 = k := by have := k4 (by omega); have := k5 (by omega); omega
            clear k4 k5 LB R U
            subst a2
            go_wp2_with fail
            go_ret
            exact ⟨by simp, G.out.trans g4⟩
          · have a1 : ¬ p < q := by omega
            have a2 : k ≤ k2 := k5 (by omega)
            clear k4 k5 LB R U
            go_wp2_with fail
            go_ret
            exact ⟨by simp, G.out.trans g4⟩

end Go.Proofs.Ytmnpbagpfpcjpaa
