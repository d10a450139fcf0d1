/- Layer 13's statements' own: same, rising, copied, asWere. -/
import Derived.Test.YthkahedhmfkhhaaGEnt
import Derived.Test.YthkahedhmfkhhaaHStep
import Derived.Test.YthkahedhmfkhhaaHRise
import Derived.Test.YthkahedhmfkhhaaE3Make
import Derived.Test.YthkahedhmfkhhaaHGrow
import Derived.Laws.StructEq
import Derived.Deep.QuietTactic
import Derived.BigQuiet
namespace Go.Proofs.Ythkahedhmfkhhaa
open Go.RowKit
set_option linter.unusedVariables false

theorem rise_up {l : List Ent} : Rise Ent.k l ↔ Up (fun i => (l.getD i ent0).k) l.length := by
  constructor
  · intro h i hi
    have := (List.pairwise_iff_getElem.1 h) i (i + 1) (by omega) hi (by omega)
    have e1 : l.getD i ent0 = l[i] := by simp [List.getD, show i < l.length by omega]
    have e2 : l.getD (i + 1) ent0 = l[i + 1] := by simp [List.getD, hi]
    show (l.getD i ent0).k < (l.getD (i + 1) ent0).k
    rw [e1, e2]
    exact this
  · intro u
    refine List.pairwise_iff_getElem.2 fun i j hi hj hij => ?_
    have this : (l.getD i ent0).k < (l.getD j ent0).k := u.lt hij hj
    have e1 : l.getD i ent0 = l[i] := by simp [List.getD, hi]
    have e2 : l.getD j ent0 = l[j] := by simp [List.getD, hj]
    rw [e1, e2] at this
    exact this
set_option maxRecDepth 10000 in
set_option maxHeartbeats 4000000 in
theorem same13 (ao bo : Option Addr) (ca cb : Nat) (l : List Ent) (hn : l.length ≤ 4000000) (w : World) (ha : EL w ao l) (hb : EL w bo l) :
    Calls Try.prog 11 #[.slice ao l.length ca, .slice bo l.length cb] w fun e w' => e = .returned (.bool true) ∧ Gw w w' := by
  have EA : Aside (EL w ao l) := ha
  have EB : Aside (EL w bo l) := hb
  obtain ⟨n, hln⟩ : ∃ n, l.length = n := ⟨_, rfl⟩
  have LN : Aside (l.length = n) := hln
  rw [hln] at hn ⊢
  clear ha hb hln
  go_enter Try.func11, Try.ntmps11
  go_wp2_with fail
  go_loopg [5] n (fun gg s5 wr => ∃ i : Nat, s5 = .int .i64 i ∧ i ≤ n ∧ n - i ≤ gg ∧ Aside (Gw w wr))
  case atStart => exact ⟨0, rfl, Nat.zero_le _, by omega, (show Aside _ from Gw.refl w)⟩
  case round =>
    obtain ⟨i, rfl, h1, h2, G⟩ := hrel
    by_cases hlt : i < n
    · obtain ⟨ab, af, rfl, hab, hac⟩ := (EA.out.gw G.out).cells (by rw [LN.out]; omega)
      obtain ⟨bb, bf, rfl, hbb, hbc⟩ := (EB.out.gw G.out).cells (by rw [LN.out]; omega)
      obtain ⟨c0, c1, c2⟩ := hac i (by rw [LN.out]; exact hlt)
      obtain ⟨d0, d1, d2⟩ := hbc i (by rw [LN.out]; exact hlt)
      have hlt' : (i : Int) < (n : Int) := by omega
      generalize (l.getD i ent0).k = ki at c0 d0
      generalize (l.getD i ent0).v = vi at c1 d1
      generalize (l.getD i ent0).g = gi at c2 d2
      clear hac hbc
      go_wp2_with fail
      go_quiet (fail)
      go_wp2_with fail
      go_roundg (n - (i + 1))
      case measure => omega
      case rel => exact ⟨i + 1, by go_num, by omega, Nat.le_refl _, (show Aside _ from G.out.drewN _)⟩
    · go_wp2_with fail
      go_ret
      exact ⟨rfl, G.out⟩
end Go.Proofs.Ythkahedhmfkhhaa
