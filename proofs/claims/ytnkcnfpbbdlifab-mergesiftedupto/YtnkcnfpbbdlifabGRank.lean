/- The document's Rank, over what is kept. -/
import Derived.Test.YtnkcnfpbbdlifabHRise
import Derived.Test.YtnkcnfpbbdlifabKPlain
namespace Go.Proofs.Ytnkcnfpbbdlifab
open Go.RowKit
set_option linter.unusedVariables false

def RankA (f : Nat → Int) (n : Nat) (q : Int) (m : Int) (t : Bool) : Prop := (Up f n ∧ ∃ k : Nat, m = k ∧ RankR f n q k t) ∨ (¬ Up f n ∧ m = -1 ∧ t = false)
set_option maxHeartbeats 1000000 in
theorem rrank13 (ao : Option Addr) (n c : Nat) (f : Nat → Int) (x : Int) (hn : n < 4611686018427387904) (w : World) (h : KS w ao n f) :
    Calls Try.prog 15 #[.slice ao n c, .int .u64 x] w fun e w' => (∃ (m : Int) (t : Bool), e = .returned (.tuple #[.int .i64 m, .bool t]) ∧ RankA f n x m t) ∧ Gw w w' := by
  go_enter Try.func15, Try.ntmps15
  go_wp2_with fail
  refine (rrising_any ao n c f hn w h).mono ?_
  rintro e w1 ⟨⟨r, rfl, h1⟩, g1⟩
  cases r with
  | false =>
    have H : Hid (¬ Up f n) := fun hu => Bool.noConfusion (h1.2 hu)
    clear h1
    go_wp2_with fail
    go_ret2
    exact ⟨⟨-1, false, rfl, .inr ⟨H.out, rfl, rfl⟩⟩, g1⟩
  | true =>
    have U : Aside (Up f n) := h1.1 rfl
    clear h1
    go_wp2_with fail
    go_loopg [6, 7, 8] n (fun gg s6 s7 s8 wr => ∃ (k i : Nat) (t : Bool), s6 = .int .i64 k ∧ s7 = .bool t ∧ s8 = .int .i64 i ∧ i ≤ n ∧ n - i ≤ gg ∧ k ≤ i ∧ Aside ((∀ j, j < k → f j < x) ∧ (∀ j, k ≤ j → j < i → x ≤ f j) ∧ (t = true ↔ (k < i ∧ f k = x))) ∧ Aside (Gw w wr))
    case atStart => exact ⟨0, 0, false, rfl, rfl, rfl, Nat.zero_le _, by omega, Nat.le_refl _, ⟨fun j hj => by omega, fun j h1 h2 => by omega, by simp⟩, g1⟩
    case round =>
      obtain ⟨k, i, t, rfl, rfl, rfl, hin, hg, hki, I, G⟩ := hrel
      by_cases hlt : i < n
      · obtain ⟨b, off, rfl, hb, hc⟩ := (h.gw G.out).cells (by omega)
        have c1 := hc i hlt
        clear hc h
        generalize hy : f i = y at c1
        have Y : Aside (f i = y) := hy
        clear hy
        by_cases hyx : y < x
        · have hk : k = i := by
            rcases Nat.lt_or_ge k i with hh | hh
            · have := I.out.2.1 k (Nat.le_refl _) hh
              have := U.out.lt hh hlt
              rw [Y.out] at this
              omega
            · omega
          subst hk
          have ht : t = false := by
            cases t with
            | false => rfl
            | true => have := I.out.2.2.1 rfl; omega
          subst ht
          have J : Aside (∀ j, j < k → f j < x) := I.out.1
          clear I
          have hne : (y == x) = false := by simp; omega
          go_wp2_with fail
          go_roundg (n - (k + 1))
          case measure => omega
          case rel =>
            refine ⟨k + 1, k + 1, false, by go_num, by simp, by go_num, by omega, Nat.le_refl _, Nat.le_refl _, (show Aside _ from ⟨fun j hj => ?_, fun j h1 h2 => by omega, by simp⟩), G⟩
            by_cases e : j = k
            · subst e; rw [Y.out]; exact hyx
            · exact J.out j (by omega)
        · cases t with
          | true =>
            have J : Aside ((∀ j, j < k → f j < x) ∧ (∀ j, k ≤ j → j < i → x ≤ f j) ∧ (k < i ∧ f k = x)) := ⟨I.out.1, I.out.2.1, I.out.2.2.1 rfl⟩
            clear I
            go_wp2_with fail
            go_roundg (n - (i + 1))
            case measure => omega
            case rel =>
              refine ⟨k, i + 1, true, rfl, rfl, by go_num, by omega, Nat.le_refl _, by omega, (show Aside _ from ⟨J.out.1, fun j h1 h2 => ?_, by simpa using ⟨by omega, J.out.2.2.2⟩⟩), G⟩
              by_cases e : j = i
              · subst e; rw [Y.out]; omega
              · exact J.out.2.1 j h1 (by omega)
          | false =>
            have J : Aside ((∀ j, j < k → f j < x) ∧ (∀ j, k ≤ j → j < i → x ≤ f j) ∧ ¬ (k < i ∧ f k = x)) := ⟨I.out.1, I.out.2.1, fun hh => Bool.noConfusion (I.out.2.2.2 hh)⟩
            clear I
            go_wp2_with fail
            go_roundg (n - (i + 1))
            case measure => omega
            case rel =>
              refine ⟨k, i + 1, y == x, rfl, rfl, by go_num, by omega, Nat.le_refl _, by omega, (show Aside _ from ⟨J.out.1, fun j h1 h2 => ?_, ?_⟩), G⟩
              · by_cases e : j = i
                · subst e; rw [Y.out]; omega
                · exact J.out.2.1 j h1 (by omega)
              · rw [beq_iff_eq]
                constructor
                · intro hh
                  have hk : k = i := by
                    rcases Nat.lt_or_ge k i with h1 | h1
                    · have h2 := J.out.2.1 k (Nat.le_refl _) h1
                      have h3 := U.out.lt h1 hlt
                      rw [Y.out] at h3
                      omega
                    · omega
                  subst hk
                  exact ⟨by omega, by rw [Y.out]; exact hh⟩
                · intro ⟨h1, h2⟩
                  have hk : k = i := by
                    rcases Nat.lt_or_ge k i with h3 | h3
                    · exact absurd ⟨h3, h2⟩ J.out.2.2
                    · omega
                  subst hk
                  rw [Y.out] at h2
                  exact h2
      · obtain rfl : i = n := by omega
        go_wp2_with fail
        go_ret2
        exact ⟨⟨k, t, rfl, .inl ⟨U.out, k, rfl, hki, I.out.1, I.out.2.1, I.out.2.2⟩⟩, G.out⟩
end Go.Proofs.Ytnkcnfpbbdlifab
