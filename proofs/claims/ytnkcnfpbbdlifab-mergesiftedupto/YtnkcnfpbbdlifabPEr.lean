import Derived.Test.YtnkcnfpbbdlifabE3Base
import Derived.Test.YtnkcnfpbbdlifabKPlain
import Derived.Deep.LoopGhost
/- Package keys at entries: how far they rise, what is wrong with them, how many live. -/
namespace Go.Proofs.Ytnkcnfpbbdlifab
open Go.RowKit
set_option linter.unusedVariables false




/-- A tombstone with a value. -/
def Bad (v : Nat → Int) (g : Nat → Bool) (j : Nat) : Prop := g j = true ∧ v j ≠ 0

theorem bad_and {v : Nat → Int} {g : Nat → Bool} {j : Nat} : (g j && (v j != 0)) = true ↔ Bad v g j := by simp [Bad]



theorem ES.take {w : World} {ao : Option Addr} {n : Nat} {k v : Nat → Int} {g : Nat → Bool} (h : ES w ao n k v g) {m : Nat} (hm : m ≤ n) : ES w ao m k v g :=
  ⟨fun hn => by
    obtain ⟨b, off, e, hb, hc⟩ := h.cells (by omega)
    exact ⟨b, off, e, hb, fun i hi => hc i (by omega)⟩, fun i hi => h.bd i (by omega)⟩



end Go.Proofs.Ytnkcnfpbbdlifab

/- The document's own Check and Live. -/
namespace Go.Proofs.Ytnkcnfpbbdlifab
open Go.RowKit
set_option linter.unusedVariables false

set_option maxHeartbeats 1000000 in
theorem rlive3_any (ao : Option Addr) (n c : Nat) (k v : Nat → Int) (g : Nat → Bool) (hn : n < 4611686018427387904) (w : World) (h : ES w ao n k v g) :
    Calls Try.prog 14 #[.slice ao n c] w fun e w' => e = .returned (.int .i64 (lv g n)) ∧ Gw w w' := by
  go_enter Try.func14, Try.ntmps14
  go_wp2_with fail
  go_loopg [3, 4] n (fun gg s3 s4 wr => ∃ i m : Nat, s3 = .int .i64 m ∧ s4 = .int .i64 i ∧ i ≤ n ∧ n - i ≤ gg ∧ m ≤ i ∧ Aside (m = lv g i) ∧ Aside (Gw w wr))
  case atStart => exact ⟨0, 0, rfl, rfl, Nat.zero_le _, by omega, Nat.le_refl _, rfl, Gw.refl w⟩
  case round =>
    obtain ⟨i, m, rfl, rfl, h1, h2, h3, A, G⟩ := hrel
    by_cases hlt : i < n
    · obtain ⟨b, off, rfl, hb, hc⟩ := (h.gw G.out).cells (by omega)
      obtain ⟨c1, c2, c3⟩ := hc i hlt
      clear hc h
      generalize k i = k1 at c1
      generalize v i = v1 at c2
      generalize hg : g i = g1 at c3
      have Y : Aside (g i = g1) := hg
      clear hg
      cases g1 with
      | true =>
        go_wp2_with fail
        go_roundg (n - (i + 1))
        case measure => omega
        case rel =>
          refine ⟨i + 1, m, rfl, by go_num, by omega, Nat.le_refl _, by omega, (show Aside _ from ?_), G⟩
          show m = lv g (i + 1)
          rw [lv, Y.out, if_pos rfl, ← A.out]; omega
      | false =>
        go_wp2_with fail
        go_roundg (n - (i + 1))
        case measure => omega
        case rel =>
          refine ⟨i + 1, m + 1, by go_num, by go_num, by omega, Nat.le_refl _, by omega, (show Aside _ from ?_), G⟩
          show m + 1 = lv g (i + 1)
          rw [lv, Y.out, if_neg (by simp), ← A.out]
    · obtain rfl : i = n := by omega
      go_wp2_with fail
      go_ret
      exact ⟨by rw [A.out]; rfl, G.out⟩


end Go.Proofs.Ytnkcnfpbbdlifab
