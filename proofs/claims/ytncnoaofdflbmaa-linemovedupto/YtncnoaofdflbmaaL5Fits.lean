/- The document's Fits, over what its 'down' does. -/
import Derived.Test.YtncnoaofdflbmaaL5At
import Derived.Test.YtncnoaofdflbmaaHRise
import Derived.Deep.DeepCutAuto
import Derived.Deep.RegionWith
import Derived.Deep.CondSized
namespace Go.Proofs.Ytncnoaofdflbmaa
open Go.RowKit
set_option linter.unusedVariables false

/-- A call that tells whether P. -/
def Tells (ex : Ending) (P : Prop) : Prop := ∃ r : Bool, ex = .returned (.bool r) ∧ (r = true ↔ P)
theorem Tells.no {P : Prop} (h : ¬ P) : Tells (.returned (.bool false)) P := ⟨false, rfl, by simpa using h⟩

set_option maxRecDepth 100000 in
set_option maxHeartbeats 8000000 in
theorem fits5_any (DD : DownC) (a b c eps : Int) (ao : Option Addr) (n cp : Nat) (f : Nat → Int) (a0 : 0 ≤ a) (a1 : a < 18446744073709551616) (b0 : 0 ≤ b) (b1 : b < 18446744073709551616) (c0 : -9223372036854775808 ≤ c) (c1 : c < 9223372036854775808) (p0 : -9223372036854775808 ≤ eps) (p1 : eps < 9223372036854775808) (hn : n * 8 ≤ 140737488351232) (w : World) (h : KS w ao n f) :
    Calls Try.prog 17 #[.agg #[.int .u64 a, .int .u64 b, .int .i64 c], .slice ao n cp, .int .i64 eps] w fun ex w' => Tells ex (FitR eps f n a b c) ∧ Gw w w' := by
  have HK : Aside (KS w ao n f) := h
  clear h
  have G0 : Aside (Gw w (w.alloc (.cells #[.int .u64 a, .int .u64 b, .int .i64 c] 27))) := (Gw.refl w).alloc _ _
  by_cases k1 : eps < 2
  · have t1 : decide (eps < 2) = true := by simpa using k1
    have R : Aside (¬ FitR eps f n a b c) := fun q => by have := q.1; omega
    go_enter Try.func17, Try.ntmps17
    go_wp2_with fail
    go_ret
    exact ⟨Tells.no R.out, G0.out⟩
  · have t1 : decide (eps < 2) = false := by simpa using k1
    by_cases k2 : 64 < eps
    · have t2 : decide (64 < eps) = true := by simpa using k2
      have R : Aside (¬ FitR eps f n a b c) := fun q => by have := q.1; omega
      go_enter Try.func17, Try.ntmps17
      go_wp2_with fail
      go_ret
      exact ⟨Tells.no R.out, G0.out⟩
    · have t2 : decide (64 < eps) = false := by simpa using k2
      by_cases k3 : n = 0
      · have R : Aside (¬ FitR eps f n a b c) := fun q => by have := q.2.1; omega
        subst k3
        go_enter Try.func17, Try.ntmps17
        go_wp2_with fail
        go_ret
        exact ⟨Tells.no R.out, G0.out⟩
      · have t3 : ((n : Int) == 0) = false := by simp; omega
        have B0 : Aside (∀ w', Gw (w.alloc (.cells #[.int .u64 a, .int .u64 b, .int .i64 c] 27)) w' → w'.cell? ⟨w.heap.size, 0, none⟩ = some (.int .u64 a) ∧ w'.cell? ⟨w.heap.size, 1, none⟩ = some (.int .u64 b) ∧ w'.cell? ⟨w.heap.size, 2, none⟩ = some (.int .i64 c)) := fun w' g => ⟨(g.cell _ _ (by simp)).trans (by simp [go_sem]), (g.cell _ _ (by simp)).trans (by simp [go_sem]), (g.cell _ _ (by simp)).trans (by simp [go_sem])⟩
        go_enter Try.func17, Try.ntmps17
        go_wp2_with fail
        generalize w.alloc (.cells #[.int .u64 a, .int .u64 b, .int .i64 c] 27) = wx at G0 B0 ⊢
        obtain ⟨N, hN⟩ : ∃ N, w.heap.size = N := ⟨_, rfl⟩
        rw [hN] at B0 ⊢
        clear hN
        refine (rrising_any ao n cp f (by omega) _ (HK.out.gw G0.out)).mono ?_
        rintro ex w1 ⟨⟨r, rfl, hr⟩, g1⟩
        have G1 : Aside (Gw wx w1) := g1
        have HR : Aside (r = true ↔ Up f n) := hr
        clear g1 hr
        cases r with
        | false =>
          have R : Aside (¬ FitR eps f n a b c) := fun q => by have := HR.out.2 q.2.2.1; simp at this
          go_wp2_with fail
          go_ret
          exact ⟨Tells.no R.out, G0.out.trans G1.out⟩
        | true =>
          have UP : Aside (Up f n) := HR.out.1 rfl
          clear HR
          go_wp2_with fail
          go_loopg [7, 8] n (fun gg s7 s8 wr => ∃ (i : Nat) (bb : Bool), s7 = .bool bb ∧ s8 = .int .i64 i ∧ i ≤ n ∧ n - i ≤ gg ∧ Aside (bb = true ↔ ∀ j, j < i → (j : Int) - (eps - 1) ≤ a * (f j - f 0) / b + c ∧ a * (f j - f 0) / b + c ≤ (j : Int) + (eps - 1)) ∧ Aside (∀ j, j < i → ¬ AtBad a b c (f j - f 0)) ∧ Aside (Gw wx wr))
          case atStart => exact ⟨0, true, rfl, rfl, Nat.zero_le _, by omega, (show Aside _ from ⟨fun _ j hj => by omega, fun _ => rfl⟩), (show Aside _ from fun j hj => by omega), G1⟩
          case round =>
            clear G1
            obtain ⟨i, bb, rfl, rfl, h1, h2, I, J, G⟩ := hrel
            by_cases hlt : i < n
            · obtain ⟨bk, off, rfl, hbk, hc⟩ := (HK.out.gw (G0.out.trans G.out)).cells (by omega)
              have q1 := hc i hlt
              have q0 := hc 0 (by omega)
              simp only [Nat.add_zero] at q0
              obtain ⟨y0, y1⟩ := HK.out.bd i hlt
              obtain ⟨z0, z1⟩ := HK.out.bd 0 (by omega)
              have le0 := UP.out.le (Nat.zero_le i) hlt
              obtain ⟨D, hD⟩ : ∃ D, f i - f 0 = D := ⟨_, rfl⟩
              have D0 : 0 ≤ D := by omega
              have D1 : D < 18446744073709551616 := by omega
              have ED : Aside (f i - f 0 = D) := hD
              obtain ⟨fi, hfi⟩ : ∃ y, f i = y := ⟨_, rfl⟩
              obtain ⟨f0, hf0⟩ : ∃ y, f 0 = y := ⟨_, rfl⟩
              rw [hfi] at q1 y0 y1 hD
              rw [hf0] at q0 z0 z1 hD
              clear hfi hf0 hc le0
              have hDw : IntKind.u64.wrap D = D := by rw [IntKind.wrap_u64]; omega
              have hl0 : 0 < n := by omega
              have AC : Hid _ := fun W => at5_any DD a b c D a0 a1 b0 b1 c0 c1 D0 D1 W
              obtain ⟨e0, e1, e2⟩ := B0.out wr G.out
              go_wp2_with fail
              go_cut [9, 10] (fun s s' w' => ∃ r err : Int, s = .int .i64 r ∧ s' = .int .i64 err ∧ Aside (AtR a b c D r err) ∧ Aside (Gw wr w'))
              case first =>
                go_region_with (go_at_call 15; refine (AC.out _).mono ?_; rintro ex v4 ⟨⟨r, err, rfl, hA⟩, g4⟩; have HA : Hid (AtR a b c D r err) := hA; have G4 : Hid (Gw wr v4) := (Gw.trans (by repeat (first | exact Gw.refl _ | refine Gw.drew ?_)) g4); clear hA g4)
                all_goals go_wp2_with fail
                all_goals go_meet
                all_goals
                  case rel => exact ⟨r, err, rfl, rfl, HA, (show Aside _ from (by first | exact G4.out | exact G4.out.drew | exact G4.out.drewN _))⟩
              case rest =>
                obtain ⟨wy, hwy⟩ : ∃ wy, wy = wc := ⟨_, rfl⟩
                subst hwy
                obtain ⟨r, err, rfl, rfl, HA, gy⟩ := hcut
                have GY : Aside (Gw wx wy) := G.out.trans gy.out
                clear G gy AC q0 q1 e0 e1 e2 B0
                have wa : IntKind.i64.wrap (eps - 1) = eps - 1 := by rw [IntKind.wrap_i64]; omega
                have wb : IntKind.i64.wrap ((i : Int) - (eps - 1)) = (i : Int) - (eps - 1) := by rw [IntKind.wrap_i64]; omega
                have wd : IntKind.i64.wrap ((i : Int) + (eps - 1)) = (i : Int) + (eps - 1) := by rw [IntKind.wrap_i64]; omega
                rcases HA.out with ⟨hbad, rfl, rfl⟩ | ⟨hgood, hr, rfl⟩
                · have R : Aside (¬ FitR eps f n a b c) := fun q => (q.2.2.2 i hlt).1 (by rw [ED.out]; exact hbad)
                  clear hbad HA I J
                  go_wp2_with fail
                  go_ret
                  exact ⟨Tells.no R.out, G0.out.trans GY.out⟩
                · have J' : Aside (∀ j, j < i + 1 → ¬ AtBad a b c (f j - f 0)) := fun j hj => by
                    by_cases e : j = i
                    · rw [e, ED.out]; exact hgood
                    · exact J.out j (by omega)
                  have RE : Aside (r = a * (f i - f 0) / b + c) := by rw [ED.out]; exact hr
                  have NXT : Aside (∀ bb' : Bool, (bb' = true ↔ bb = true ∧ (i : Int) - (eps - 1) ≤ r ∧ r ≤ (i : Int) + (eps - 1)) → (bb' = true ↔ ∀ j, j < i + 1 → (j : Int) - (eps - 1) ≤ a * (f j - f 0) / b + c ∧ a * (f j - f 0) / b + c ≤ (j : Int) + (eps - 1))) := by
                    intro bb' hb'
                    rw [hb', I.out]
                    constructor
                    · rintro ⟨q, q'⟩ j hj
                      by_cases e : j = i
                      · rw [e, ← RE.out]; exact q'
                      · exact q j (by omega)
                    · intro q
                      refine ⟨fun j hj => q j (by omega), ?_⟩
                      have := q i (by omega)
                      rw [← RE.out] at this
                      exact this
                  clear hgood hr HA I J RE ED hD D0 D1 hDw
                  by_cases k4 : r < (i : Int) - (eps - 1)
                  · have t4 : decide (r < (i : Int) - (eps - 1)) = true := by simpa using k4
                    go_wp2_with fail
                    go_roundg (n - (i + 1))
                    case measure => omega
                    case rel => exact ⟨i + 1, false, rfl, by go_num, by omega, Nat.le_refl _, (show Aside _ from NXT.out false ⟨fun q => by simp at q, fun q => by omega⟩), J', GY⟩
                  · have t4 : decide (r < (i : Int) - (eps - 1)) = false := by simpa using k4
                    by_cases k5 : (i : Int) + (eps - 1) < r
                    · have t5 : decide ((i : Int) + (eps - 1) < r) = true := by simpa using k5
                      go_wp2_with fail
                      go_roundg (n - (i + 1))
                      case measure => omega
                      case rel => exact ⟨i + 1, false, rfl, by go_num, by omega, Nat.le_refl _, (show Aside _ from NXT.out false ⟨fun q => by simp at q, fun q => by omega⟩), J', GY⟩
                    · have t5 : decide ((i : Int) + (eps - 1) < r) = false := by simpa using k5
                      go_wp2_with fail
                      go_roundg (n - (i + 1))
                      case measure => omega
                      case rel => exact ⟨i + 1, bb, rfl, by go_num, by omega, Nat.le_refl _, (show Aside _ from NXT.out bb ⟨fun q => ⟨q, by omega, by omega⟩, fun q => q.1⟩), J', GY⟩
            · have e : i = n := by omega
              subst e
              have R : Aside (bb = true ↔ FitR eps f i a b c) := by
                show _ ↔ _
                rw [I.out]
                constructor
                · exact fun q => ⟨⟨by omega, by omega⟩, by omega, UP.out, fun j hj => ⟨J.out j hj, q j hj⟩⟩
                · exact fun q j hj => (q.2.2.2 j hj).2
              clear I J
              go_wp2_with fail
              go_ret
              exact ⟨⟨bb, rfl, R.out⟩, G0.out.trans G.out⟩

end Go.Proofs.Ytncnoaofdflbmaa
