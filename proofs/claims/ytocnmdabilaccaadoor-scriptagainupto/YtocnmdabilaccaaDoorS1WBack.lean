/- ScriptBack, ScriptAgain: the walks. -/
import Derived.Test.YtocnmdabilaccaaDoorS1Shown
namespace Go.Proofs.YtocnmdabilaccaaDoor
open Go.RowKit
set_option linter.unusedVariables false

theorem cd_nums {L : List Cd} (h : chk L = 0) : ∀ c ∈ L, c.nums.length ≤ 2000000 := fun c hc => by
  have h1 := chk_ok h c hc
  have h2 := takes_bd c.word
  omega
set_option maxRecDepth 100000 in
set_option maxHeartbeats 8000000 in
theorem back_walk (C : ScriptC) (ao : Option Addr) (cp : Nat) (L : List Cd) (hl : L.length ≤ 2000000) (hn : ∀ c ∈ L, c.nums.length ≤ 2000000) (w : World) (T : Tab w) (h : CS w ao L) :
    Calls Tryd.prog 7 #[.slice ao L.length cp] w fun e w' => e = .returned (.bool true) ∧ Gw w w' := by
  have SH : Hid (∀ W, Gw w W → Calls Tryd.prog 9 #[] W fun e w' => e = .returned (.bool true) ∧ Gw W w') := fun W g => shown21 C W (T.gw g)
  obtain ⟨⟨S, er⟩, hr⟩ : ∃ r, print L = r := ⟨_, rfl⟩
  have PR : Hid (∀ W, Gw w W → Calls Tryd.prog 14 #[.slice ao L.length cp] W fun e w' => e = .returned (.tuple #[.string (Bs S), .int .i64 er]) ∧ Gw W w') := fun W g => by have := C.print ao cp L W hl hn (h.gw g) (T.gw g); rw [hr] at this; exact this
  have NO : ∀ c ∈ L, NumsOk c := h.ok
  have HH : Hid (CS w ao L) := h
  have HN : Hid (∀ c ∈ L, c.nums.length ≤ 2000000) := hn
  have SM : Hid (∀ W bo cb, Gw w W → CS W bo L → Calls Tryd.prog 12 #[.slice bo L.length cb, .slice ao L.length cp] W fun e w' => e = .returned (.bool true) ∧ Gw W w') := fun W bo cb g k => same21 bo ao cb cp L hl hn W k (HH.out.gw g)
  have PB := parse_print NO
  have PE := print_err (l := L)
  rw [hr] at PB PE
  have PBH : Hid (er = 0 → parse S = (L, 0, 0) ∧ S.length ≤ 65536) := PB
  have PEH : Hid (er ≠ 0 → S = []) := PE
  have PA : Hid (∀ W, S.length ≤ 2000000 → Calls Tryd.prog 10 #[.string (Bs S)] W fun e w' => ParO W w' e (parse S) ∧ Gw W w') := fun W k => C.parse S W k
  obtain ⟨n, hln⟩ : ∃ n, L.length = n := ⟨_, rfl⟩
  have LN : Aside (L.length = n) := hln
  rw [hln] at hl PR SM ⊢
  clear h hn hln hr PB PE NO C
  go_enter Tryd.func7, Tryd.ntmps7
  go_wp2_with fail
  refine (SH.out _ (by first | exact Gw.refl _ | exact (Gw.refl _).alloc _ _ | exact ((Gw.refl _).alloc _ _).alloc _ _)).mono ?_
  rintro e w1 ⟨rfl, g1⟩
  have G1 : Hid (Gw w w1) := g1
  clear g1
  dsimp only
  go_wp2_with fail
  refine (PR.out _ G1.out).mono ?_
  rintro e w2 ⟨rfl, g2⟩
  have G2 : Hid (Gw w w2) := G1.out.trans g2
  clear g2
  dsimp only
  by_cases q : er = 0
  · obtain ⟨p1, p2⟩ := PBH.out q
    have P1 : Hid (parse S = (L, 0, 0)) := p1
    subst q
    clear p1 PBH PEH
    go_wp2_with fail
    refine (PA.out _ (by omega)).mono ?_
    rw [P1.out]
    rintro e w3 ⟨⟨bo, m, cb, V, rfl, hm, c3⟩, g3⟩
    have hm' : m = n := by rw [← LN.out]; exact hm
    subst hm'
    have C3 : Hid (CO w3 w2.heap.size (.slice bo m cb) L V) := c3
    have G3 : Hid (Gw w w3) := G2.out.trans g3
    clear hm c3 g3
    dsimp only
    go_wp2_with fail
    refine (SM.out _ _ _ G3.out C3.out.cs2).mono ?_
    rintro e w4 ⟨rfl, g4⟩
    have G4 : Hid (Gw w w4) := G3.out.trans g4
    clear g4
    dsimp only
    have s6 : (S.length : Int) ≤ 65536 := by omega
    go_wp2_with fail
    refine bodyPost_ret (v := .bool true) (by simp [results, Tryd.results7, go_sem]) rfl ⟨rfl, G4.out⟩
  · have e1 := PEH.out q
    subst e1
    have q' : (er == 0) = false := by simpa using q
    go_wp2_with fail
    refine bodyPost_ret (v := .bool true) (by simp [results, Tryd.results7, go_sem]) rfl ⟨rfl, G2.out⟩
set_option maxRecDepth 100000 in
set_option maxHeartbeats 8000000 in
theorem again_walk (C : ScriptC) (t : List UInt8) (ht : t.length ≤ 2000000) (w : World) (T : Tab w) :
    Calls Tryd.prog 8 #[.string (Bs t)] w fun e w' => e = .returned (.bool true) ∧ Gw w w' := by
  have SH : Hid (∀ W, Gw w W → Calls Tryd.prog 9 #[] W fun e w' => e = .returned (.bool true) ∧ Gw W w') := fun W g => shown21 C W (T.gw g)
  obtain ⟨⟨L, a, er⟩, hr⟩ : ∃ r, parse t = r := ⟨_, rfl⟩
  have PA : Hid (∀ W, Calls Tryd.prog 10 #[.string (Bs t)] W fun e w' => ParO W w' e (L, a, er) ∧ Gw W w') := fun W => by have := C.parse t W ht; rw [hr] at this; exact this
  have PE := parse_err (t := t)
  rw [hr] at PE
  have PEH : Hid (er ≠ 0 → L = [] ∧ (0 < a ∨ 65536 < t.length)) := PE
  have PF : Hid (er = 0 → a = 0 ∧ t.length ≤ 65536 ∧ L.length ≤ 4096 ∧ chk L = 0 ∧ (∀ c ∈ L, NumsOk c) ∧ (text L).length ≤ t.length + 1) := fun q => parse_facts (by rw [hr, q])
  have PG : Hid (er = 0 → ((print L).2 ≠ 0 → (print L).2 = 210 ∧ t.length = 65536) ∧ ((print L).2 = 0 → parse (print L).1 = (L, 0, 0) ∧ (print L).1.length ≤ t.length + 1)) := fun q => parse_again (a := a) (by rw [hr, q])
  have CH : Hid ScriptC := C
  obtain ⟨tn, htn⟩ : ∃ tn, t.length = tn := ⟨_, rfl⟩
  have TN : Aside (t.length = tn) := htn
  rw [htn] at ht PEH PF PG
  clear hr PE C
  go_enter Tryd.func8, Tryd.ntmps8
  go_wp2_with fail
  refine (SH.out _ (by first | exact Gw.refl _ | exact (Gw.refl _).alloc _ _ | exact ((Gw.refl _).alloc _ _).alloc _ _)).mono ?_
  rintro e w1 ⟨rfl, g1⟩
  have G1 : Hid (Gw w w1) := g1
  clear g1
  dsimp only
  go_wp2_with fail
  refine (PA.out _).mono ?_
  rintro e w2 ⟨⟨bo, n, cb, V, rfl, hn, c2⟩, g2⟩
  dsimp only at hn c2
  have C2 : Hid (CO w2 w1.heap.size (.slice bo n cb) L V) := c2
  have G2 : Hid (Gw w w2) := G1.out.trans g2
  have LN : Aside (n = L.length) := hn
  clear hn c2 g2
  dsimp only
  by_cases q : er = 0
  · obtain ⟨f1, f2, f3, f4, f5, f6⟩ := PF.out q
    obtain ⟨h1, h2⟩ := PG.out q
    subst q f1
    have F4 : Hid (chk L = 0) := f4
    have n4 : n ≤ 4096 := by rw [LN.out]; exact f3
    obtain ⟨⟨S, pe⟩, hp⟩ : ∃ r, print L = r := ⟨_, rfl⟩
    rw [hp] at h1 h2
    have H1 : Hid (pe ≠ 0 → pe = 210 ∧ tn = 65536) := h1
    have H2 : Hid (pe = 0 → parse S = (L, 0, 0) ∧ S.length ≤ tn + 1) := h2
    have PR : Hid (∀ W, CS W bo L → Tab W → Calls Tryd.prog 14 #[.slice bo n cb] W fun e w' => e = .returned (.tuple #[.string (Bs S), .int .i64 pe]) ∧ Gw W w') := fun W k t => by have := CH.out.print bo cb L W (by omega) (cd_nums F4.out) k t; rw [hp, ← LN.out] at this; exact this
    clear hp h1 h2 f3 f4 f5 f6 PEH PF PG
    go_wp2_with fail
    refine (PR.out _ C2.out.cs2 (T.gw G2.out)).mono ?_
    rintro e w3 ⟨rfl, g3⟩
    have G3 : Hid (Gw w w3) := G2.out.trans g3
    have C3 : Hid (CO w3 w1.heap.size (.slice bo n cb) L V) := C2.out.gw g3
    clear g3
    dsimp only
    by_cases q2 : pe = 0
    · obtain ⟨p1, p2⟩ := H2.out q2
      subst q2
      have PA2 : Hid (∀ W, Calls Tryd.prog 10 #[.string (Bs S)] W fun e w' => ParO W w' e (L, 0, 0) ∧ Gw W w') := fun W => by have := CH.out.parse S W (by omega); rw [p1] at this; exact this
      have p2' : (S.length : Int) ≤ (tn : Int) + 1 := by omega
      clear p1
      go_wp2_with fail
      refine (PA2.out _).mono ?_
      rintro e w4 ⟨⟨bo2, n2, cb2, V2, rfl, hn2, c4⟩, g4⟩
      dsimp only at hn2 c4
      have e2 : n2 = n := by rw [LN.out]; exact hn2
      subst e2
      have SM : Hid (Calls Tryd.prog 12 #[.slice bo2 n2 cb2, .slice bo n2 cb] w4 fun e w' => e = .returned (.bool true) ∧ Gw w4 w') := by have := same21 bo2 bo cb2 cb L (by omega) (cd_nums F4.out) w4 c4.cs2 (C3.out.gw g4).cs2; rw [← LN.out] at this; exact this
      have G4 : Hid (Gw w w4) := G3.out.trans g4
      clear hn2 c4 g4
      dsimp only
      go_wp2_with fail
      refine SM.out.mono ?_
      rintro e w5 ⟨rfl, g5⟩
      have G5 : Hid (Gw w w5) := G4.out.trans g5
      clear g5
      dsimp only
      go_wp2_with fail
      refine bodyPost_ret (v := .bool true) (by simp [results, Tryd.results8, go_sem]) rfl ⟨rfl, G5.out⟩
    · obtain ⟨p1, p2⟩ := H1.out q2
      subst p1
      have p2' : ((tn : Int) == 65536) = true := by simp; omega
      go_wp2_with fail
      refine bodyPost_ret (v := .bool true) (by simp [results, Tryd.results8, go_sem]) rfl ⟨rfl, G3.out⟩
  · obtain ⟨e1, e2⟩ := PEH.out q
    have q' : (er == 0) = false := by simpa using q
    have n0 : n = 0 := by rw [LN.out, e1]; rfl
    subst n0
    by_cases a0 : 0 < a
    · go_wp2_with fail
      refine bodyPost_ret (v := .bool true) (by simp [results, Tryd.results8, go_sem]) rfl ⟨rfl, G2.out⟩
    · have t6 : (65536 : Int) < (tn : Int) := by omega
      go_wp2_with fail
      refine bodyPost_ret (v := .bool true) (by simp [results, Tryd.results8, go_sem]) rfl ⟨rfl, G2.out⟩
end Go.Proofs.YtocnmdabilaccaaDoor
