/- Two paths alike: the helper of layer 9's statements. -/
import Derived.Test.YtapjipinceoaoaaGreatZMem
namespace Go.Proofs.YtapjipinceoaoaaGreat
open Go.RowKit
set_option linter.unusedVariables false

set_option maxRecDepth 10000 in
set_option maxHeartbeats 4000000 in
theorem samev_any (ao bo : Option Addr) (ca cb : Nat) (l : List Vis) (hl : l.length ≤ 4000000) (w : World) (ha : PV w ao l) (hb : PV w bo l) :
    Calls Tryz.prog 10 #[.slice ao l.length ca, .slice bo l.length cb] w fun e w' => e = .returned (.bool true) ∧ Gw w w' := by
  have VA : Aside (PV w ao l) := ha
  have VB : Aside (PV w bo l) := hb
  clear ha hb
  obtain ⟨n, hn⟩ : ∃ n, l.length = n := ⟨_, rfl⟩
  have LN : Aside (l.length = n) := hn
  rw [hn] at hl ⊢
  clear hn
  go_enter Tryz.func10, Tryz.ntmps10
  go_wp2_with fail
  go_loopg [5] n (fun gg s5 wr => ∃ i : Nat, s5 = .int .i64 i ∧ i ≤ n ∧ n - i ≤ gg ∧ Aside (Gw w wr))
  case atStart => exact ⟨0, rfl, Nat.zero_le _, by omega, (show Aside _ from Gw.refl w)⟩
  case round =>
    obtain ⟨i, rfl, h1, h2, G⟩ := hrel
    by_cases hlt : i < n
    · obtain ⟨b1, f1, rfl, hb1, hc1⟩ := (VA.out.gw G.out).cells (by rw [LN.out]; omega)
      obtain ⟨b2, f2, rfl, hb2, hc2⟩ := (VB.out.gw G.out).cells (by rw [LN.out]; omega)
      obtain ⟨c0, c1, c2, c3, c4, c5⟩ := hc1 i (by rw [LN.out]; exact hlt)
      obtain ⟨d0, d1, d2, d3, d4, d5⟩ := hc2 i (by rw [LN.out]; exact hlt)
      generalize l.getD i vis0 = v at c0 c1 c2 c3 c4 c5 d0 d1 d2 d3 d4 d5
      obtain ⟨v0, v1, v2, v3, v4, v5⟩ := v
      clear hc1 hc2
      go_wp2_with fail
      first
        | (go_quiet (fail)
           go_wp2_with fail)
        | skip
      go_roundg (n - (i + 1))
      case measure => omega
      case rel => exact ⟨i + 1, by go_num, by omega, Nat.le_refl _, (by first | exact (show Aside _ from G.out.drewN _) | exact G)⟩
    · go_wp2_with fail
      go_ret
      exact ⟨rfl, G.out⟩

end Go.Proofs.YtapjipinceoaoaaGreat
