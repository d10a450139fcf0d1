/- Package cut, whole. -/
import Derived.Test.YtmmkmakajolfhabXCut
import Derived.Test.YtmmkmakajolfhabCFit
namespace Go.Proofs.Ytmmkmakajolfhab
open Go.RowKit
set_option linter.unusedVariables false

theorem rise_any (ao : Option Addr) (n c : Nat) (f : Nat → Int) (hn : n < 4611686018427387904) (w : World) (h : KS w ao n f) :
    Calls Try.prog 47 #[.slice ao n c] w fun e w' => (∃ r : Bool, e = .returned (.bool r) ∧ (r = true ↔ Up f n)) ∧ Gw w w' := by
  have HK : Aside (KS w ao n f) := h
  clear h
  go_enter Try.func47, Try.ntmps47
  go_wp2_with fail
  refine (rising_any ao n c f hn w HK.out).mono ?_
  rintro e w1 ⟨⟨r, rfl, hr⟩, g1⟩
  have HR : Aside (r = true ↔ Up f n) := hr
  clear hr
  go_wp2_with fail
  go_ret
  exact ⟨⟨r, rfl, HR.out⟩, g1⟩

set_option maxHeartbeats 2000000 in
theorem cutc_of {HF : World → Nat → (Nat → Prop) → Int → Nat → (Nat → Int) → Prop} (H : HullC HF) : CutC where
  ends eps ao n cp f p0 p1 hn hcp w h := by
    have HH : Aside (HullC HF) := H
    have HK : Aside (KS w ao n f) := h
    clear H h
    by_cases k0 : ¬ (2 ≤ eps ∧ eps ≤ 64)
    · have R : Aside (EndsR eps f n [] 1) := .inl ⟨k0, rfl, rfl⟩
      have BAD : Hid _ := fun W => HH.out.bad eps k0 W
      clear k0
      go_enter Try.func38, Try.ntmps38
      go_wp2_with fail
      refine (BAD.out _).mono ?_
      rintro ex w1 ⟨rfl, g1⟩
      go_wp2_with fail
      exact bodyPost_ret (v := .tuple #[.slice none 0 0, .int .i64 1]) (by simp [results, Try.results38, go_sem]) rfl ⟨⟨_, [], 1, rfl, R.out, ir_nil _ _⟩, g1⟩
    · have KE : Aside (2 ≤ eps ∧ eps ≤ 64) := Classical.not_not.1 k0
      have NEW : Hid _ := fun W => HH.out.new eps KE.out.1 KE.out.2 W
      clear k0
      go_enter Try.func38, Try.ntmps38
      go_wp2_with fail
      refine (NEW.out _).mono ?_
      rintro ex w1 ⟨⟨p, S, rfl, _, _⟩, g1⟩
      have G1 : Aside (Gw w w1) := g1
      clear g1
      go_wp2_with fail
      refine (rise_any ao n cp f (by omega) _ (HK.out.gw G1.out)).mono ?_
      rintro ex w2 ⟨⟨r, rfl, hr⟩, g2⟩
      have HR : Aside (r = true ↔ Up f n) := hr
      have G2 : Aside (Gw w w2) := G1.out.trans g2
      clear hr g2 G1
      cases r with
      | false =>
        have R : Aside (EndsR eps f n [] 60) := .inr (.inl ⟨KE.out, fun q => by have := HR.out.2 q; simp at this, rfl, rfl⟩)
        go_wp2_with fail
        exact bodyPost_ret (v := .tuple #[.slice none 0 0, .int .i64 60]) (by simp [results, Try.results38, go_sem]) rfl ⟨⟨_, [], 60, rfl, R.out, ir_nil _ _⟩, G2.out⟩
      | true =>
        have UP : Aside (Up f n) := HR.out.1 rfl
        clear HR
        go_wp2_with fail
        refine (xends_any HH.out eps ao n cp f KE.out.1 KE.out.2 UP.out hn hcp w _ HK.out G2.out).mono ?_
        rintro ex w3 ⟨⟨v, l, rfl, hE, hI⟩, g3⟩
        have R : Aside (EndsR eps f n l 0) := .inr (.inr ⟨KE.out, UP.out, hE, rfl⟩)
        have I3 : Aside (IR w3 w.heap.size v l) := hI
        clear hE hI
        go_wp2_with fail
        exact bodyPost_ret (v := .tuple #[v, .int .i64 0]) (by simp [results, Try.results38, go_sem]) rfl ⟨⟨_, _, 0, rfl, R.out, I3.out⟩, g3⟩

theorem cutc : CutC := cutc_of hullc
end Go.Proofs.Ytmmkmakajolfhab
