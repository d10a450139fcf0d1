/- The document's own Rising. -/
import Derived.Test.YtnkcnfpbbdlifabHBase
namespace Go.Proofs.Ytnkcnfpbbdlifab
open Go.RowKit
set_option linter.unusedVariables false

set_option maxHeartbeats 1000000 in
theorem rrising_any (ao : Option Addr) (n c : Nat) (f : Nat → Int) (hn : n < 4611686018427387904) (w : World) (h : KS w ao n f) :
    Calls Try.prog 21 #[.slice ao n c] w fun e w' => (∃ r : Bool, e = .returned (.bool r) ∧ (r = true ↔ Up f n)) ∧ Gw w w' := by
  go_enter Try.func21, Try.ntmps21
  go_wp2_with fail
  go_loopg [3] n (fun gg s3 wr => ∃ i : Nat, s3 = .int .i64 i ∧ 1 ≤ i ∧ (i ≤ n ∨ i = 1) ∧ n - i ≤ gg ∧ Aside (∀ j, j + 1 < i → f j < f (j + 1)) ∧ Aside (Gw w wr))
  case atStart => exact ⟨1, rfl, Nat.le_refl _, .inr rfl, by omega, fun j hj => by omega, Gw.refl w⟩
  case round =>
    obtain ⟨i, rfl, h1, h2, h3, H4, G⟩ := hrel
    by_cases hlt : i < n
    · obtain ⟨b, off, rfl, hb, hc⟩ := (h.gw G.out).cells (by omega)
      obtain ⟨m, hm⟩ : ∃ m : Nat, (i : Int) - 1 = m := ⟨i - 1, by omega⟩
      have hmn : m < n := by omega
      have hw := wrap_nat m (by omega)
      have c1 := hc i hlt
      have c0 := hc m hmn
      clear hc
      generalize hy1 : f i = y1 at c1
      generalize hy0 : f m = y0 at c0
      have Y : Aside (f i = y1 ∧ f m = y0 ∧ i = m + 1) := ⟨hy1, hy0, by omega⟩
      clear hy1 hy0 h h2
      by_cases hle : y1 ≤ y0
      · go_wp2_with fail
        go_quiet (fail)
        go_wp2_with fail
        go_ret
        obtain ⟨e1, e2, e3⟩ := Y.out
        refine ⟨⟨false, rfl, ⟨fun hh => Bool.noConfusion hh, fun hu => ?_⟩⟩, G.out.drewN _⟩
        have := hu m (by omega)
        rw [← e3, e1, e2] at this
        omega
      · go_wp2_with fail
        go_quiet (fail)
        go_wp2_with fail
        go_roundg (n - (m + 2))
        case measure => omega
        case rel =>
          obtain ⟨e1, e2, e3⟩ := Y.out
          refine ⟨m + 2, by go_num, by omega, by omega, Nat.le_refl _, (show Aside _ from fun j hj => ?_), (show Aside _ from G.out.drewN _)⟩
          by_cases hj' : j = m
          · subst hj'; rw [e2, ← e3, e1]; omega
          · exact H4.out j (by omega)
    · go_wp2_with fail
      go_ret
      exact ⟨⟨true, rfl, ⟨fun _ j hj => H4.out j (by omega), fun _ => rfl⟩⟩, G.out⟩


end Go.Proofs.Ytnkcnfpbbdlifab
