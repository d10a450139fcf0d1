/- Layer 13's statements' own: same, rising, copied, asWere. -/
import Derived.Test.YtnkcnfpbbdlifabGEnt
import Derived.Test.YtnkcnfpbbdlifabHStep
import Derived.Test.YtnkcnfpbbdlifabHRise
import Derived.Test.YtnkcnfpbbdlifabE3Make
import Derived.Test.YtnkcnfpbbdlifabHGrow
import Derived.Laws.StructEq
import Derived.Deep.QuietTactic
import Derived.BigQuiet
namespace Go.Proofs.Ytnkcnfpbbdlifab
open Go.RowKit
set_option linter.unusedVariables false

theorem rise_up {l : List Ent} : Rise Ent.k l ↔ Up (fun i => (l.getD i ent0).k) l.length := by
  constructor
  · intro h i hi
    have := (List.pairwise_iff_getElem.1 h) i (i + 1) (by omega) hi (by omega)
    have e1 : l.getD i ent0 = l[i] := by simp [List.getD, show i < l.length by omega]
    have e2 : l.getD (i + 1) ent0 = l[i + 1] := by simp [List.getD, hi]
    show (l.getD i ent0).k < (l.getD (i + 1) ent0).k
    rw [e1, e2]
    exact this
  · intro u
    refine List.pairwise_iff_getElem.2 fun i j hi hj hij => ?_
    have this : (l.getD i ent0).k < (l.getD j ent0).k := u.lt hij hj
    have e1 : l.getD i ent0 = l[i] := by simp [List.getD, hi]
    have e2 : l.getD j ent0 = l[j] := by simp [List.getD, hj]
    rw [e1, e2] at this
    exact this
set_option maxRecDepth 10000 in
set_option maxHeartbeats 4000000 in
theorem same13 (ao bo : Option Addr) (ca cb : Nat) (l : List Ent) (hn : l.length ≤ 4000000) (w : World) (ha : EL w ao l) (hb : EL w bo l) :
    Calls Try.prog 8 #[.slice ao l.length ca, .slice bo l.length cb] w fun e w' => e = .returned (.bool true) ∧ Gw w w' := by
  have EA : Aside (EL w ao l) := ha
  have EB : Aside (EL w bo l) := hb
  obtain ⟨n, hln⟩ : ∃ n, l.length = n := ⟨_, rfl⟩
  have LN : Aside (l.length = n) := hln
  rw [hln] at hn ⊢
  clear ha hb hln
  go_enter Try.func8, Try.ntmps8
  go_wp2_with fail
  go_loopg [5] n (fun gg s5 wr => ∃ i : Nat, s5 = .int .i64 i ∧ i ≤ n ∧ n - i ≤ gg ∧ Aside (Gw w wr))
  case atStart => exact ⟨0, rfl, Nat.zero_le _, by omega, (show Aside _ from Gw.refl w)⟩
  case round =>
    obtain ⟨i, rfl, h1, h2, G⟩ := hrel
    by_cases hlt : i < n
    · obtain ⟨ab, af, rfl, hab, hac⟩ := (EA.out.gw G.out).cells (by rw [LN.out]; omega)
      obtain ⟨bb, bf, rfl, hbb, hbc⟩ := (EB.out.gw G.out).cells (by rw [LN.out]; omega)
      obtain ⟨c0, c1, c2⟩ := hac i (by rw [LN.out]; exact hlt)
      obtain ⟨d0, d1, d2⟩ := hbc i (by rw [LN.out]; exact hlt)
      have hlt' : (i : Int) < (n : Int) := by omega
      generalize (l.getD i ent0).k = ki at c0 d0
      generalize (l.getD i ent0).v = vi at c1 d1
      generalize (l.getD i ent0).g = gi at c2 d2
      clear hac hbc
      go_wp2_with fail
      go_quiet (fail)
      go_wp2_with fail
      go_roundg (n - (i + 1))
      case measure => omega
      case rel => exact ⟨i + 1, by go_num, by omega, Nat.le_refl _, (show Aside _ from G.out.drewN _)⟩
    · go_wp2_with fail
      go_ret
      exact ⟨rfl, G.out⟩
set_option maxRecDepth 10000 in
set_option maxHeartbeats 4000000 in
theorem rising13 (ao : Option Addr) (c : Nat) (L : List (List Ent)) (hl : L.length ≤ 2000000) (hs : ∀ i, i < L.length → (L.getD i []).length ≤ 2000000) (w : World) (h : EV w ao L) :
    Calls Try.prog 6 #[.slice ao L.length c] w fun e w' => (∃ b : Bool, e = .returned (.bool b) ∧ (b = true ↔ ∀ l ∈ L, Rise Ent.k l)) ∧ Gw w w' := by
  have HE : Aside (EV w ao L) := h
  have HS : Aside (∀ i, i < L.length → (L.getD i []).length ≤ 2000000) := hs
  obtain ⟨ln, hln⟩ : ∃ ln, L.length = ln := ⟨_, rfl⟩
  have LN : Aside (L.length = ln) := hln
  rw [hln] at hl HS ⊢
  clear h hs hln
  go_enter Try.func6, Try.ntmps6
  go_wp2_with fail
  go_loopg [3] ln (fun gg s wr => ∃ i : Nat, s = .int .i64 (i : Int) ∧ i ≤ ln ∧ ln - i ≤ gg ∧ Aside (∀ j, j < i → Rise Ent.k (L.getD j [])) ∧ Aside (Gw w wr))
  case atStart => exact ⟨0, rfl, Nat.zero_le _, by omega, (show Aside _ from fun j hj => by omega), (show Aside _ from Gw.refl w)⟩
  case round =>
    obtain ⟨i, rfl, a1, a2, Y, G⟩ := hrel
    by_cases ilt : i < ln
    · have ilt' : (i : Int) < (ln : Int) := by omega
      obtain ⟨lb, loff, rfl, hlb, hlc⟩ := (HE.out.gw G.out).cells (by rw [LN.out]; omega)
      obtain ⟨eo, ec, p1, p2, p3, _⟩ := hlc i (by rw [LN.out]; exact ilt)
      have lb1 := HS.out i ilt
      have E3 : Aside (EL wr eo (L.getD i [])) := p3
      obtain ⟨n, hn⟩ : ∃ n, (L.getD i []).length = n := ⟨_, rfl⟩
      have LL : Aside ((L.getD i []).length = n) := hn
      rw [hn] at p1 p2 lb1
      have OFC : Hid (Calls Try.prog 16 #[.slice eo n ec] wr fun e w' => (∃ b cap, e = .returned (.slice (some ⟨b, 0, none⟩) n cap) ∧ KS w' (some ⟨b, 0, none⟩) n (fun t => ((L.getD i []).getD t ent0).k)) ∧ Gw wr w') := by
        have := rof3_any eo n ec _ _ _ (by omega) wr (by have := E3.out; unfold EL at this; rw [LL.out] at this; exact this)
        exact this.mono fun e w' ⟨⟨b, cap, q1, _, q3⟩, g⟩ => ⟨⟨b, cap, q1, ks_of_own q3 fun t ht => (E3.out.ok (i := t) (by rw [LL.out]; exact ht)).1⟩, g⟩
      clear hlc p3 hn
      go_wp2_with fail
      refine Calls.mono OFC.out ?_
      rintro e w2 ⟨⟨kb, kc, rfl, ks⟩, g2⟩
      have K2 : Aside (KS w2 (some ⟨kb, 0, none⟩) n (fun t => ((L.getD i []).getD t ent0).k)) := ks
      have G2 : Aside (Gw w w2) := G.out.trans g2
      clear ks g2 OFC p1 p2 hlb
      go_wp2_with fail
      refine Calls.mono (rrising_any (some ⟨kb, 0, none⟩) n kc _ (by omega) w2 K2.out) ?_
      rintro e w3 ⟨⟨r, rfl, hr⟩, g3⟩
      have G3 : Aside (Gw w w3) := G2.out.trans g3
      have RI : Aside (r = true ↔ Rise Ent.k (L.getD i [])) := by
        show _ ↔ _
        rw [rise_up, LL.out]
        exact hr
      clear hr g3 K2 G2 E3
      cases r with
      | false =>
        have NO : Aside (¬ ∀ l ∈ L, Rise Ent.k l) := fun q => by
          have hi : i < L.length := by rw [LN.out]; exact ilt
          have := q (L.getD i []) (by rw [show L.getD i [] = L[i] by simp [List.getD, hi]]; exact List.getElem_mem hi)
          exact Bool.noConfusion (RI.out.2 this)
        go_wp2_with fail
        go_ret
        exact ⟨⟨false, rfl, ⟨fun q => Bool.noConfusion q, fun q => absurd q NO.out⟩⟩, G3.out⟩
      | true =>
        have Y' : Aside (∀ j, j < i + 1 → Rise Ent.k (L.getD j [])) := fun j hj => by
          by_cases e : j = i
          · rw [e]; exact RI.out.1 rfl
          · exact Y.out j (by omega)
        go_wp2_with fail
        go_roundg (ln - (i + 1))
        case measure => omega
        case rel => exact ⟨i + 1, by go_num, by omega, Nat.le_refl _, Y', G3⟩
    · have ei : i = ln := by omega
      subst ei
      have YES : Aside (∀ l ∈ L, Rise Ent.k l) := fun l hl => by
        obtain ⟨j, hj, rfl⟩ := List.mem_iff_getElem.1 hl
        have := Y.out j (by rw [← LN.out]; exact hj)
        rwa [show L.getD j [] = L[j] by simp [List.getD, hj]] at this
      go_wp2_with fail
      go_ret
      exact ⟨⟨true, rfl, ⟨fun _ => YES.out, fun _ => rfl⟩⟩, G.out⟩
end Go.Proofs.Ytnkcnfpbbdlifab
