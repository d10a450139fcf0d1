/- JudgeAll. -/
import Derived.Test.YtkojcjfjmlompaaS3Shown
import Derived.Test.YtkojcjfjmlompaaS3All
namespace Go.Proofs.Ytkojcjfjmlompaa
open Go.RowKit
set_option linter.unusedVariables false
theorem tells_len (most : Int) (os : List Ot) (aa : List Aw) (h1 : os.length ≤ 1048576) : (tellsP most os aa).length ≤ 8000000 := by
  unfold tellsP
  have := all_len most (os.zip aa) [] 0
  rw [List.length_zip] at this
  rw [List.length_append]
  split <;> simp <;> omega
set_option maxRecDepth 100000 in
set_option maxHeartbeats 8000000 in
theorem all_walk (HJ : World → Nat → (Nat → Prop) → Int → Ps → Prop) (C : JudgeC HJ) (most : Int) (lo ao : Option Addr) (lc ac : Nat) (os : List Ot) (aa : List Aw) (w : World) (hos : os.length ≤ 1048576) (haa : aa.length ≤ 1048576) (hlc : os.length ≤ lc) (hac : aa.length ≤ ac) (bo : ∀ o ∈ os, BdO o) (ba : ∀ A ∈ aa, A.L.length ≤ 4000000) (ho : OLr w lo os) (ha : ALr w ao aa) :
    Calls Try.prog 4 #[.int .i64 most, .slice lo os.length lc, .slice ao aa.length ac] w fun e w' => e = .returned (.bool true) ∧ Gw w w' := by
  have SH : Hid (∀ W, Calls Try.prog 7 #[] W fun e w' => e = .returned (.bool true) ∧ Gw W w') := fun W => shown23 HJ C W
  by_cases q : most < 1 ∨ 4294967296 < most
  · have AP : Hid (∀ W, Calls Try.prog 15 #[.int .i64 most, .slice lo os.length lc, .slice ao aa.length ac] W fun e w' => (∃ bo c, e = .returned (.tuple #[.slice bo 0 c, .int .i64 1])) ∧ Gw W w') := fun W => C.no most lo ao _ _ _ _ W q
    have AD : Hid (∀ W, Calls Try.prog 16 #[.int .i64 most, .slice lo os.length lc, .slice ao aa.length ac] W fun e w' => e = .returned (.tuple #[.slice none 0 0, .int .i64 1]) ∧ Gw W w') := fun W => rall23_no most q _ _ W
    have SF : Hid (∀ W bo c, Calls Try.prog 17 #[.slice bo 0 c, .slice none 0 0] W fun e w' => e = .returned (.bool true) ∧ Gw W w') := fun W bo c => sfaults23 bo none c 0 [] (by simp) W ⟨fun h => by simp at h⟩ ⟨fun h => by simp at h⟩
    clear q hos haa hlc hac bo ba ho ha
    go_enter Try.func4, Try.ntmps4
    go_wp2_with fail
    refine (SH.out _).mono ?_
    rintro e w1 ⟨rfl, g1⟩
    have G1 : Hid (Gw w w1) := g1
    clear g1
    dsimp only
    go_wp2_with fail
    refine (AP.out _).mono ?_
    rintro e w2 ⟨⟨bo, c, rfl⟩, g2⟩
    have G2 : Hid (Gw w w2) := G1.out.trans g2
    clear g2
    dsimp only
    go_wp2_with fail
    refine (AD.out _).mono ?_
    rintro e w3 ⟨rfl, g3⟩
    have G3 : Hid (Gw w w3) := G2.out.trans g3
    clear g3
    dsimp only
    go_wp2_with fail
    refine (SF.out _ _ _).mono ?_
    rintro e w4 ⟨rfl, g4⟩
    have G4 : Hid (Gw w w4) := G3.out.trans g4
    clear g4
    dsimp only
    go_wp2_with fail
    refine bodyPost_ret (v := .bool true) (by simp [results, Try.results4, go_sem]) rfl ⟨rfl, G4.out⟩
  · have q1 : 1 ≤ most := by omega
    have q2 : most ≤ 4294967296 := by omega
    have AP : Hid (∀ W, Gw w W → Calls Try.prog 15 #[.int .i64 most, .slice lo os.length lc, .slice ao aa.length ac] W fun e w' => AllJ W w' e (tellsP most os aa)) := fun W g => C.all most lo ao lc ac os aa W q1 q2 hos haa hlc hac bo ba (ho.gw g) (ha.gw g)
    have AD : Hid (∀ W, Gw w W → Calls Try.prog 16 #[.int .i64 most, .slice lo os.length lc, .slice ao aa.length ac] W fun e w' => AllJ W w' e (tellsP most os aa)) := fun W g => rall23 most lo ao lc ac os aa W q1 q2 hos haa bo ba (ho.gw g) (ha.gw g)
    have tl := tells_len most os aa hos
    obtain ⟨T, hT⟩ : ∃ T, tellsP most os aa = T := ⟨_, rfl⟩
    rw [hT] at AP AD tl
    have SF : Hid (∀ W bo bo' c c', FLr W bo T → FLr W bo' T → Calls Try.prog 17 #[.slice bo T.length c, .slice bo' T.length c'] W fun e w' => e = .returned (.bool true) ∧ Gw W w') := fun W bo bo' c c' h1 h2 => sfaults23 bo bo' c c' T tl W h1 h2
    clear q q1 q2 hos haa hlc hac bo ba ho ha hT tl
    go_enter Try.func4, Try.ntmps4
    go_wp2_with fail
    refine (SH.out _).mono ?_
    rintro e w1 ⟨rfl, g1⟩
    have G1 : Hid (Gw w w1) := g1
    clear g1
    dsimp only
    go_wp2_with fail
    refine (AP.out _ G1.out).mono ?_
    rintro e w2 ⟨bo, c, rfl, f2, _, _, g2⟩
    have G2 : Hid (Gw w w2) := G1.out.trans g2
    have F2 : Hid (FLr w2 bo T) := f2
    clear g2 f2
    dsimp only
    go_wp2_with fail
    refine (AD.out _ G2.out).mono ?_
    rintro e w3 ⟨bo', c', rfl, f3, _, _, g3⟩
    have G3 : Hid (Gw w w3) := G2.out.trans g3
    have F3 : Hid (FLr w3 bo T ∧ FLr w3 bo' T) := ⟨F2.out.gw g3, f3⟩
    clear g3 f3 F2
    dsimp only
    go_wp2_with fail
    refine (SF.out _ _ _ _ _ F3.out.1 F3.out.2).mono ?_
    rintro e w4 ⟨rfl, g4⟩
    have G4 : Hid (Gw w w4) := G3.out.trans g4
    clear g4
    dsimp only
    go_wp2_with fail
    refine bodyPost_ret (v := .bool true) (by simp [results, Try.results4, go_sem]) rfl ⟨rfl, G4.out⟩
end Go.Proofs.Ytkojcjfjmlompaa
