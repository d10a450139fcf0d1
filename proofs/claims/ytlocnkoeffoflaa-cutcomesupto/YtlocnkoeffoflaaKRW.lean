/- How far keys rise: package keys' generic function at keys (over layer 4's words). -/
import Derived.Test.YtlocnkoeffoflaaHBase
import Derived.Test.YtlocnkoeffoflaaKPlain
import Derived.Deep.LoopGhost
import Derived.Deep.QuietTactic
import Derived.BigQuiet
namespace Go.Proofs.Ytlocnkoeffoflaa
open Go.RowKit
set_option linter.unusedVariables false

theorem itself_any (x : Int) (w : World) : Calls Try.prog 25 #[.int .u64 x] w fun e w' => e = .returned (.int .u64 x) ∧ w' = w := by
  go_enter Try.func25, Try.ntmps25
  go_wp2
  go_ret
  exact ⟨rfl, rfl⟩

set_option maxHeartbeats 1000000 in
theorem rises_keys (ao : Option Addr) (n c : Nat) (f : Nat → Int) (hn : n < 4611686018427387904) (w : World) (h : KS w ao n f) :
    Calls Try.prog 24 #[.slice ao n c, .func (.func 25) #[] #[]] w fun e w' => (∃ r : Nat, e = .returned (.int .i64 r) ∧ r ≤ n ∧ (∀ j, j + 1 < r → f j < f (j + 1)) ∧ (r < n → 1 ≤ r ∧ f r ≤ f (r - 1))) ∧ Gw w w' := by
  go_enter Try.func24, Try.ntmps24
  go_wp2_with fail
  go_loopg [5] n (fun gg s5 wr => ∃ i : Nat, s5 = .int .i64 i ∧ 1 ≤ i ∧ (i ≤ n ∨ i = 1) ∧ n - i ≤ gg ∧ Aside (∀ j, j + 1 < i → f j < f (j + 1)) ∧ Aside (Gw w wr))
  case atStart => exact ⟨1, rfl, Nat.le_refl _, .inr rfl, by omega, fun j hj => by omega, Gw.refl w⟩
  case round =>
    obtain ⟨i, rfl, h1, h2, h3, H4, G⟩ := hrel
    by_cases hlt : i < n
    · obtain ⟨b, off, rfl, hb, hc⟩ := (h.gw G.out).cells (by omega)
      obtain ⟨m, hm⟩ : ∃ m : Nat, (i : Int) - 1 = m := ⟨i - 1, by omega⟩
      have hmn : m < n := by omega
      have hw := wrap_nat m (by omega)
      have c1 := hc i hlt
      have c0 := hc m hmn
      clear hc
      generalize hy1 : f i = y1 at c1
      generalize hy0 : f m = y0 at c0
      have Y : Aside (f i = y1 ∧ f m = y0 ∧ i = m + 1) := ⟨hy1, hy0, by omega⟩
      clear hy1 hy0 h h2
      by_cases hle : y1 ≤ y0
      · go_wp2_with fail
        go_quiet (first | (go_at_call 25; refine Calls.quiet_of_same (itself_any _ _)))
        go_wp2_with fail
        go_ret
        obtain ⟨e1, e2, e3⟩ := Y.out
        refine ⟨⟨i, rfl, by omega, H4.out, fun _ => ⟨h1, ?_⟩⟩, ?_⟩
        · rw [e1, show i - 1 = m by omega, e2]; exact hle
        · exact G.out.drewN _
      · go_wp2_with fail
        go_quiet (first | (go_at_call 25; refine Calls.quiet_of_same (itself_any _ _)))
        go_wp2_with fail
        go_roundg (n - (m + 2))
        case measure => omega
        case rel =>
          obtain ⟨e1, e2, e3⟩ := Y.out
          refine ⟨m + 2, by go_num, by omega, by omega, Nat.le_refl _, (show Aside _ from fun j hj => ?_), (show Aside _ from G.out.drewN _)⟩
          by_cases hj' : j = m
          · subst hj'; rw [e2, ← e3, e1]; omega
          · exact H4.out j (by omega)
    · go_wp2_with fail
      go_ret
      exact ⟨⟨n, rfl, Nat.le_refl _, fun j hj => H4.out j (by omega), fun hh => by omega⟩, G.out⟩

set_option maxHeartbeats 1000000 in
theorem rising_any (ao : Option Addr) (n c : Nat) (f : Nat → Int) (hn : n < 4611686018427387904) (w : World) (h : KS w ao n f) :
    Calls Try.prog 21 #[.slice ao n c] w fun e w' => (∃ r : Bool, e = .returned (.bool r) ∧ (r = true ↔ Up f n)) ∧ Gw w w' := by
  go_enter Try.func21, Try.ntmps21
  go_wp2_with fail
  refine (rises_keys ao n c f hn w h).mono ?_
  rintro e w1 ⟨⟨r, rfl, h1, h2, h3⟩, g1⟩
  have H : Hid ((∀ j, j + 1 < r → f j < f (j + 1)) ∧ (r < n → 1 ≤ r ∧ f r ≤ f (r - 1))) := ⟨h2, h3⟩
  clear h2 h3
  go_wp2_with fail
  go_ret
  obtain ⟨h2, h3⟩ := H.out
  refine ⟨⟨_, rfl, ?_⟩, g1⟩
  unfold Up
  by_cases hr : r = n
  · subst hr; simpa using h2
  · have q := h3 (by omega)
    have : ¬ ((r : Int) = n) := by omega
    simp only [beq_iff_eq]
    constructor
    · intro hh; omega
    · intro hh
      have := hh (r - 1) (by omega)
      rw [show r - 1 + 1 = r by omega] at this
      omega

end Go.Proofs.Ytlocnkoeffoflaa
