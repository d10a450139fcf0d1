/- The document's own Check and Live. -/
import Derived.Test.YtmnpbagpfpcjpaaKCheck
namespace Go.Proofs.Ytmnpbagpfpcjpaa
open Go.RowKit
set_option linter.unusedVariables false

set_option maxHeartbeats 1000000 in
theorem rlive_any (ao : Option Addr) (n c : Nat) (k v : Nat → Int) (g : Nat → Bool) (hn : n < 4611686018427387904) (w : World) (h : ES w ao n k v g) :
    Calls Try.prog 14 #[.slice ao n c] w fun e w' => e = .returned (.int .i64 (lv g n)) ∧ Gb w w' := by
  go_enter Try.func14, Try.ntmps14
  go_wp2_with fail
  go_loopg [3, 4] n (fun gg s3 s4 wr => ∃ i m : Nat, s3 = .int .i64 m ∧ s4 = .int .i64 i ∧ i ≤ n ∧ n - i ≤ gg ∧ m ≤ i ∧ Aside (m = lv g i) ∧ Aside (Gb w wr))
  case atStart => exact ⟨0, 0, rfl, rfl, Nat.zero_le _, by omega, Nat.le_refl _, rfl, Gb.refl w⟩
  case round =>
    obtain ⟨i, m, rfl, rfl, h1, h2, h3, A, G⟩ := hrel
    by_cases hlt : i < n
    · obtain ⟨b, off, rfl, hb, hc⟩ := (h.gb G.out).cells (by omega)
      obtain ⟨c1, c2, c3⟩ := hc i hlt
      clear hc h
      generalize k i = k1 at c1
      generalize v i = v1 at c2
      generalize hg : g i = g1 at c3
      have Y : Aside (g i = g1) := hg
      clear hg
      cases g1 with
      | true =>
        go_wp2_with fail
        go_roundg (n - (i + 1))
        case measure => omega
        case rel =>
          refine ⟨i + 1, m, rfl, by go_num, by omega, Nat.le_refl _, by omega, (show Aside _ from ?_), G⟩
          show m = lv g (i + 1)
          rw [lv, Y.out, if_pos rfl, ← A.out]; omega
      | false =>
        go_wp2_with fail
        go_roundg (n - (i + 1))
        case measure => omega
        case rel =>
          refine ⟨i + 1, m + 1, by go_num, by go_num, by omega, Nat.le_refl _, by omega, (show Aside _ from ?_), G⟩
          show m + 1 = lv g (i + 1)
          rw [lv, Y.out, if_neg (by simp), ← A.out]
    · obtain rfl : i = n := by omega
      go_wp2_with fail
      go_ret
      exact ⟨by rw [A.out]; rfl, G.out⟩

set_option maxHeartbeats 2000000 in
theorem rcheck_any (ao : Option Addr) (n c : Nat) (k v : Nat → Int) (g : Nat → Bool) (hn : n < 4611686018427387904) (w : World) (h : ES w ao n k v g) :
    Calls Try.prog 13 #[.slice ao n c] w fun e w' => (∃ r : Int, e = .returned (.int .i64 r) ∧ ChkR k v g n r) ∧ Gb w w' := by
  go_enter Try.func13, Try.ntmps13
  go_wp2_with fail
  go_loopg [3] n (fun gg s3 wr => ∃ i : Nat, s3 = .int .i64 i ∧ i ≤ n ∧ n - i ≤ gg ∧ Aside (Up k i ∧ ∀ j, j < i → ¬ Bad v g j) ∧ Aside (Gb w wr))
  case atStart => exact ⟨0, rfl, Nat.zero_le _, by omega, ⟨fun j hj => by omega, fun j hj => by omega⟩, Gb.refl w⟩
  case round =>
    obtain ⟨i, rfl, h1, h2, A, G⟩ := hrel
    by_cases hlt : i < n
    · obtain ⟨b, off, rfl, hb, hc⟩ := (h.gb G.out).cells (by omega)
      obtain ⟨c1, c2, c3⟩ := hc i hlt
      have Y : Aside ((g i && (v i != 0)) = true ↔ Bad v g i) := bad_and
      clear h
      by_cases hi0 : i = 0
      · subst hi0
        clear hc
        generalize k 0 = k1 at c1
        generalize hv1 : v 0 = v1 at c2
        generalize hg1 : g 0 = g1 at c3
        have Z : Aside (v 0 = v1 ∧ g 0 = g1) := ⟨hv1, hg1⟩
        clear hv1 hg1 Y
        simp only [Nat.zero_mul, Nat.add_zero] at c1 c2 c3
        cases g1 with
        | true =>
          by_cases hv : v1 = 0
          · subst hv
            go_wp2_with fail
            go_quiet (fail)
            go_wp2_with fail
            go_roundg (n - 1)
            case measure => omega
            case rel =>
              refine ⟨1, rfl, by omega, Nat.le_refl _, (show Aside _ from ⟨fun j hj => by omega, fun j hj => ?_⟩), (show Aside _ from G.out.drewN _)⟩
              obtain rfl : j = 0 := by omega
              intro ⟨_, h2⟩
              exact h2 Z.out.1
          · go_wp2_with fail
            go_quiet (fail)
            go_wp2_with fail
            go_ret
            exact ⟨⟨31, rfl, .gone 0 hlt (fun j hj => by omega) (fun j hj => by omega) ⟨Z.out.2, by rw [Z.out.1]; exact hv⟩⟩, G.out.drewN _⟩
        | false =>
          go_wp2_with fail
          go_quiet (fail)
          go_wp2_with fail
          go_roundg (n - 1)
          case measure => omega
          case rel =>
            refine ⟨1, rfl, by omega, Nat.le_refl _, (show Aside _ from ⟨fun j hj => by omega, fun j hj => ?_⟩), (show Aside _ from G.out.drewN _)⟩
            obtain rfl : j = 0 := by omega
            intro ⟨h1, _⟩
            rw [Z.out.2] at h1
            exact Bool.noConfusion h1
      · obtain ⟨m, hm⟩ : ∃ m : Nat, (i : Int) - 1 = m := ⟨i - 1, by omega⟩
        have hmn : m < n := by omega
        have hw := wrap_nat m (by omega)
        have hpos : 0 < i := by omega
        have d1 := (hc m hmn).1
        clear hc
        generalize hy1 : k i = y1 at c1
        generalize hy0 : k m = y0 at d1
        generalize hv1 : v i = v1 at c2
        generalize hg1 : g i = g1 at c3
        have Z : Aside (k i = y1 ∧ k m = y0 ∧ v i = v1 ∧ g i = g1 ∧ i = m + 1) := ⟨hy1, hy0, hv1, hg1, by omega⟩
        clear hy1 hy0 hv1 hg1 Y hi0
        by_cases hle : y1 ≤ y0
        · go_wp2_with fail
          go_quiet (fail)
          go_wp2_with fail
          go_ret
          obtain ⟨e1, e2, e3, e4, rfl⟩ := Z.out
          exact ⟨⟨30, rfl, .order m hlt A.out.1 A.out.2 (by rw [e1, e2]; exact hle)⟩, G.out.drewN _⟩
        · cases g1 with
          | true =>
            by_cases hv : v1 = 0
            · subst hv
              go_wp2_with fail
              go_quiet (fail)
              go_wp2_with fail
              go_roundg (n - (i + 1))
              case measure => omega
              case rel =>
                obtain ⟨e1, e2, e3, e4, e5⟩ := Z.out
                refine ⟨i + 1, by go_num, by omega, Nat.le_refl _, (show Aside _ from ⟨fun j hj => ?_, fun j hj => ?_⟩), (show Aside _ from G.out.drewN _)⟩
                · by_cases q : j = m
                  · subst q; rw [e2, ← e5, e1]; omega
                  · exact A.out.1 j (by omega)
                · by_cases q : j = i
                  · subst q; intro ⟨_, h2⟩; exact h2 e3
                  · exact A.out.2 j (by omega)
            · go_wp2_with fail
              go_quiet (fail)
              go_wp2_with fail
              go_ret
              obtain ⟨e1, e2, e3, e4, e5⟩ := Z.out
              refine ⟨⟨31, rfl, .gone i hlt (fun j hj => ?_) A.out.2 ⟨e4, by rw [e3]; exact hv⟩⟩, G.out.drewN _⟩
              by_cases q : j = m
              · subst q; rw [e2, ← e5, e1]; omega
              · exact A.out.1 j (by omega)
          | false =>
            go_wp2_with fail
            go_quiet (fail)
            go_wp2_with fail
            go_roundg (n - (i + 1))
            case measure => omega
            case rel =>
              obtain ⟨e1, e2, e3, e4, e5⟩ := Z.out
              refine ⟨i + 1, by go_num, by omega, Nat.le_refl _, (show Aside _ from ⟨fun j hj => ?_, fun j hj => ?_⟩), (show Aside _ from G.out.drewN _)⟩
              · by_cases q : j = m
                · subst q; rw [e2, ← e5, e1]; omega
                · exact A.out.1 j (by omega)
              · by_cases q : j = i
                · subst q; intro ⟨h1, _⟩; rw [e4] at h1; exact Bool.noConfusion h1
                · exact A.out.2 j (by omega)
    · obtain rfl : i = n := by omega
      go_wp2_with fail
      go_ret
      exact ⟨⟨0, rfl, .ok A.out.1 A.out.2⟩, G.out⟩

end Go.Proofs.Ytmnpbagpfpcjpaa
