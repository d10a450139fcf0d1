/- LevelsBound's and LevelsApart's walks. -/
import Derived.Test.YtmmkmakajolfhabVWRight
namespace Go.Proofs.Ytmmkmakajolfhab
open Go.RowKit
set_option linter.unusedVariables false

set_option maxRecDepth 10000 in
set_option maxHeartbeats 4000000 in
theorem bound8_walk (LL : LevelsC) (MM : ModelC) (ao : Option Addr) (n cp : Nat) (f : Nat → Int) (eps : Int) (po : Option Addr) (m pc : Nat) (p : Nat → Int) (e0 : -9223372036854775808 ≤ eps) (e1 : eps < 9223372036854775808) (hn : n ≤ 2000000) (hcp : n ≤ cp) (hm : m ≤ 2000000) (w : World) (h : KS w ao n f) (hp : KS w po m p) :
    Calls Try.prog 3 #[.slice ao n cp, .int .i64 eps, .slice po m pc] w fun e w' => e = .returned (.bool true) ∧ Gw w w' := by
  have HK : Aside (KS w ao n f) := h
  have HP : Aside (KS w po m p) := hp
  clear h hp
  have SH : Hid (∀ W, Calls Try.prog 7 #[] W fun e w' => e = .returned (.bool true) ∧ Gw W w') := fun W => shown8 LL W
  have BU : Hid (∀ W, KS W ao n f → _) := fun W h => LL.build eps ao n cp f e0 e1 hn hcp W h
  have RI : Hid (∀ W, KS W ao n f → _) := fun W h => rrising_any ao n cp f (by omega) W h
  have RC : Hid (∀ lo lc (L : List (List Sg)), Short L → CheckR eps f n L 0 → ∀ W, KS W ao n f → VS W lo L → Calls Try.prog 9 #[.slice ao n cp, .int .i64 eps, .slice lo L.length lc] W fun e w' => e = .returned (.int .i64 0) ∧ Gw W w') := fun lo lc L s c W h v => by
    refine (rcheck8_any eps ao n cp f lo lc L e0 e1 (by omega) hcp (by have := s.1; omega) (fun i hi => by have := s.2 i hi; omega) W h v).mono ?_
    rintro e w' ⟨⟨E, rfl, hE⟩, g⟩
    obtain rfl := hE.one c
    exact ⟨rfl, g⟩
  have NR : Hid (∀ lo lc (L : List (List Sg)), Short L → CheckR eps f n L 0 → ∀ q : Int, 0 ≤ q → q < 18446744073709551616 → ∀ W, KS W ao n f → VS W lo L → _) := fun lo lc L s c q q0 q1 W h v => near_any (fun s q ok q0 q1 W => MM.guess s.k s.sl s.ic s.fr s.te q ok q0 q1 W) eps q ao n cp f lo lc L c.zero.1.1 c.zero.1.2 q0 q1 hn s.1 s.2 W h v c.zero.2.1 c.zero.2.2.1
  clear LL MM
  go_enter Try.func3, Try.ntmps3
  go_wp2_with fail
  refine (SH.out _).mono ?_
  rintro e w1 ⟨rfl, g1⟩
  have G1 : Aside (Gw w w1) := g1
  clear g1
  go_wp2_with fail
  refine (BU.out _ (HK.out.gw G1.out)).mono ?_
  rintro e w2 ⟨⟨lo, lc, L, err, rfl, hB, hV, hl⟩, g2⟩
  have G2 : Aside (Gw w w2) := G1.out.trans g2
  have V2 : Aside (VS w2 lo L) := hV
  clear g2 G1 hV
  rcases hB with ⟨k0, hL, hE⟩ | ⟨k0, k1, hL, hE⟩ | ⟨k0, k1, hR, hE⟩
  · subst hL hE
    by_cases h2 : eps < 2
    · have t1 : decide (eps < 2) = true := by simpa using h2
      clear k0 h2 V2
      go_wp2_with fail
      go_ret
      exact ⟨rfl, G2.out⟩
    · have t1 : decide (eps < 2) = false := by simpa using h2
      have t2 : decide (64 < eps) = true := by simp; omega
      clear k0 h2 V2
      go_wp2_with fail
      go_ret
      exact ⟨rfl, G2.out⟩
  · subst hL hE
    have t1 : decide (eps < 2) = false := by simp; omega
    have t2 : decide (64 < eps) = false := by simp; omega
    have NU : Aside (¬ Up f n) := k1
    clear k0 k1 V2
    go_wp2_with fail
    refine (RI.out _ (HK.out.gw G2.out)).mono ?_
    rintro e w3 ⟨⟨r, rfl, hr⟩, g3⟩
    have G3 : Aside (Gw w w3) := G2.out.trans g3
    obtain rfl : r = false := by
      cases r with
      | false => rfl
      | true => exact absurd (hr.1 rfl) NU.out
    clear g3 hr
    go_wp2_with fail
    go_ret
    exact ⟨rfl, G3.out⟩
  · subst hE
    have CT : Aside (CheckR eps f n L 0) := hR.taken k0.1 k0.2 hn HK.out.bd k1
    have ST : Aside (Short L) := hR.isShort k0.1 hn HK.out.bd k1
    have R1 : Hid (∀ W, KS W ao n f → VS W lo L → _) := fun W h v => RC.out lo lc L ST.out CT.out W h v
    have N1 : Hid (∀ q : Int, 0 ≤ q → q < 18446744073709551616 → ∀ W, KS W ao n f → VS W lo L → _) := fun q q0 q1 W h v => NR.out lo lc L ST.out CT.out q q0 q1 W h v
    clear k0 k1 hR RC NR CT ST hl
    generalize L.length = ln at R1 N1 ⊢
    go_wp2_with fail
    refine (R1.out _ (HK.out.gw G2.out) V2.out).mono ?_
    rintro e w3 ⟨rfl, g3⟩
    have G3 : Aside (Gw w w3) := G2.out.trans g3
    have V3 : Aside (VS w3 lo L) := V2.out.gw g3
    clear g3 V2
    go_wp2_with fail
    go_loopg [10] m (fun gg s10 wr => ∃ i : Nat, s10 = .int .i64 i ∧ i ≤ m ∧ m - i ≤ gg ∧ Aside (VS wr lo L) ∧ Aside (Gw w wr))
    case atStart => exact ⟨0, rfl, Nat.zero_le _, by omega, V3, G3⟩
    case round =>
      clear V3 G3
      obtain ⟨i, rfl, h1, h2, V, G⟩ := hrel
      by_cases hlt : i < m
      · obtain ⟨pb, pf, rfl, hpb, hpc⟩ := (HP.out.gw G.out).cells (by omega)
        have q1 := hpc i hlt
        obtain ⟨y0, y1⟩ := HP.out.bd i hlt
        obtain ⟨q, hq⟩ : ∃ q, p i = q := ⟨_, rfl⟩
        rw [hq] at q1 y0 y1
        clear hpc hq
        go_wp2_with fail
        refine (N1.out q y0 y1 _ (HK.out.gw G.out) V.out).mono ?_
        rintro e w4 ⟨rfl, g4⟩
        have V4 : Aside (VS w4 lo L) := V.out.gw g4
        have G4 : Aside (Gw w w4) := G.out.trans g4
        clear g4 V G q1
        go_wp2_with fail
        go_roundg (m - (i + 1))
        case measure => omega
        case rel => exact ⟨i + 1, by go_num, by omega, Nat.le_refl _, V4, G4⟩
      · go_wp2_with fail
        go_ret
        exact ⟨rfl, G.out⟩

theorem vs_drop {w : World} {b off : Nat} {L : List (List Sg)} (h : VS w (some ⟨b, off, none⟩) L) : VS w (some ⟨b, off + 1, none⟩) (L.drop 1) := by
  refine ⟨fun h0 => ?_⟩
  rw [List.length_drop] at h0
  obtain ⟨b', o', e, hb, hc⟩ := h.cells (by omega)
  cases e
  refine ⟨b, off + 1, rfl, hb, fun i hi => ?_⟩
  rw [List.length_drop] at hi
  have gd : (L.drop 1).getD i [] = L.getD (1 + i) [] := by rw [Nat.add_comm]; simp [List.getD]
  obtain ⟨bo, c, q1, q2, q3, q4⟩ := hc (1 + i) (by omega)
  rw [gd]
  exact ⟨bo, c, by rw [Nat.add_assoc]; exact q1, q2, q3, q4⟩

set_option maxRecDepth 10000 in
set_option maxHeartbeats 4000000 in
theorem apart_walk (LL : LevelsC) (ao : Option Addr) (n cp : Nat) (f : Nat → Int) (eps : Int) (lo : Option Addr) (lc : Nat) (L : List (List Sg)) (e0 : -9223372036854775808 ≤ eps) (e1 : eps < 9223372036854775808) (hn : n ≤ 2000000) (hcp : n ≤ cp) (hL : Short L) (hlc : L.length ≤ lc) (w : World) (h : KS w ao n f) (hv : VS w lo L) :
    Calls Try.prog 4 #[.slice ao n cp, .int .i64 eps, .slice lo L.length lc] w fun e w' => e = .returned (.bool true) ∧ Gw w w' := by
  have HK : Aside (KS w ao n f) := h
  have HV : Aside (VS w lo L) := hv
  have HL : Aside (Short L) := hL
  clear h hv
  have SH : Hid (∀ W, Calls Try.prog 7 #[] W fun e w' => e = .returned (.bool true) ∧ Gw W w') := fun W => shown8 LL W
  have RC : Hid (∀ W, KS W ao n f → VS W lo L → _) := fun W h v => rcheck8_any eps ao n cp f lo lc L e0 e1 (by omega) hcp (by have := hL.1; omega) (fun i hi => by have := hL.2 i hi; omega) W h v
  have CC : Hid (∀ (ao : Option Addr) (n cp : Nat) (f : Nat → Int) (lo : Option Addr) (lc : Nat) (L : List (List Sg)), n ≤ 2000000 → n ≤ cp → Short L → L.length ≤ lc → CheckR eps f n L 0 → ∀ W, KS W ao n f → VS W lo L → Calls Try.prog 13 #[.slice ao n cp, .int .i64 eps, .slice lo L.length lc] W fun e w' => e = .returned (.int .i64 0) ∧ Gw W w') := fun ao n cp f lo lc L hn hcp s l c W h v => by
    refine (LL.check eps ao n cp f lo lc L e0 e1 hn hcp s l W h v).mono ?_
    rintro e w' ⟨⟨E, rfl, hE⟩, g⟩
    obtain rfl := hE.one c
    exact ⟨rfl, g⟩
  clear LL
  obtain ⟨ln, hln⟩ : ∃ ln, L.length = ln := ⟨_, rfl⟩
  have LN : Aside (L.length = ln) := hln
  rw [hln] at hlc ⊢
  rw [hln] at RC
  clear hln hL
  go_enter Try.func4, Try.ntmps4
  go_wp2_with fail
  refine (SH.out _).mono ?_
  rintro e w1 ⟨rfl, g1⟩
  have G1 : Aside (Gw w w1) := g1
  clear g1
  by_cases two : ln < 2
  · have t1 : decide ((ln : Int) < 2) = true := by simp; omega
    go_wp2_with fail
    go_ret
    exact ⟨rfl, G1.out⟩
  · have t1 : decide ((ln : Int) < 2) = false := by simp; omega
    go_wp2_with fail
    refine (RC.out _ (HK.out.gw G1.out) (HV.out.gw G1.out)).mono ?_
    rintro e w2 ⟨⟨E, rfl, hE⟩, g2⟩
    have G2 : Aside (Gw w w2) := G1.out.trans g2
    have CE : Aside (CheckR eps f n L E) := hE
    clear g2 G1 hE
    by_cases z : E = 0
    · subst z
      have DL : L = L.getD 0 [] :: L.drop 1 := by
        have := dropL_at (L := L) (i := 0) (by rw [LN.out]; omega)
        rwa [List.drop_zero] at this
      have CR : Aside (CheckR eps (fst8 (L.getD 0 [])) (L.getD 0 []).length (L.drop 1) 0 ∧ (L.getD 0 []).length ≤ 2000000 ∧ Short (L.drop 1)) := by
        rcases CE.out with ⟨_, q⟩ | ⟨_, _, q⟩ | ⟨_, _, _, q⟩ | ⟨k0, k1, k2, q⟩
        · cases q
        · cases q
        · cases q
        · have P := chk_parts (show chkE eps f n (L.getD 0 [] :: L.drop 1) = 0 by rw [← DL]; exact q.symm)
          obtain ⟨u1, _, _⟩ := fst8_up k1 P.1 (fun s hs => (segE_ok.1 (P.2.2.1 s hs)).2.1)
          have d1 : (L.drop 1).length = ln - 1 := by rw [List.length_drop, LN.out]
          have ne : L.drop 1 ≠ [] := fun e => by rw [e] at d1; simp at d1; omega
          have l0 : 0 < (L.getD 0 []).length := List.length_pos_iff.2 P.2.1
          refine ⟨.inr (.inr (.inr ⟨k0, u1, ⟨?_, ?_⟩, (P.2.2.2 ne).symm⟩)), HL.out.2 0 (by rw [LN.out]; omega), ⟨by rw [d1]; have := HL.out.1; rw [LN.out] at this; omega, fun i hi => ?_⟩⟩
          · rw [d1]; have := k2.1; rw [LN.out] at this; omega
          · rw [d1]; omega
          · rw [d1] at hi
            have gd : (L.drop 1).getD i [] = L.getD (1 + i) [] := by rw [Nat.add_comm]; simp [List.getD]
            rw [gd]
            exact HL.out.2 (1 + i) (by rw [LN.out]; omega)
      obtain ⟨lb, lf, rfl, hlb, hc⟩ := (HV.out.gw G2.out).cells (by rw [LN.out]; omega)
      obtain ⟨so, sc, p1, p2, p3, p4⟩ := hc 0 (by rw [LN.out]; omega)
      rw [Nat.add_zero] at p1
      have D1 : Aside ((L.drop 1).length = ln - 1) := by show (L.drop 1).length = ln - 1; rw [List.length_drop, LN.out]
      have C1 : Hid (∀ W, KS W ao n f → VS W (some ⟨lb, lf, none⟩) L → Calls Try.prog 13 #[.slice ao n cp, .int .i64 eps, .slice (some ⟨lb, lf, none⟩) ln lc] W fun e w' => e = .returned (.int .i64 0) ∧ Gw W w') := fun W h v => by
        have := CC.out ao n cp f (some ⟨lb, lf, none⟩) lc L hn hcp HL.out (by rw [LN.out]; exact hlc) CE.out W h v
        rwa [LN.out] at this
      clear hc DL
      generalize L.getD 0 [] = l at p1 p2 p3 p4 CR
      have C2 : Hid (∀ (fb : Nat) (fc : Nat) W, l.length ≤ fc → KS W (some ⟨fb, 0, none⟩) l.length (fst8 l) → VS W (some ⟨lb, lf, none⟩) L → Calls Try.prog 13 #[.slice (some ⟨fb, 0, none⟩) l.length fc, .int .i64 eps, .slice (some ⟨lb, lf + 1, none⟩) (ln - 1) (lc - 1)] W fun e w' => e = .returned (.int .i64 0) ∧ Gw W w') := fun fb fc W hf h v => by
        have := CC.out (some ⟨fb, 0, none⟩) l.length fc (fst8 l) (some ⟨lb, lf + 1, none⟩) (lc - 1) (L.drop 1) CR.out.2.1 hf CR.out.2.2 (by rw [D1.out]; omega) CR.out.1 W h (vs_drop v)
        rwa [D1.out] at this
      have FI : Hid (∀ W, GS W so l → _) := fun W h => rfirsts_any so sc l (by have := CR.out.2.1; omega) W h
      have GL : Aside (GS w2 so l) := p4
      have V2 : Aside (VS w2 (some ⟨lb, lf, none⟩) L) := HV.out.gw G2.out
      have sl := CR.out.2.1
      clear CC CR CE p2 p3 p4 D1 RC
      generalize l.length = sn at C2 FI p1 sl
      have o1 : ¬ lc = 1 := by omega
      have o2 : (1 : Int) ≤ (ln : Int) := by omega
      go_wp2_with fail
      refine (FI.out _ GL.out).mono ?_
      rintro e w3 ⟨⟨fb, fc, rfl, _, hfc, hk⟩, g3⟩
      have G3 : Aside (Gw w w3) := G2.out.trans g3
      have V3 : Aside (VS w3 (some ⟨lb, lf, none⟩) L) := V2.out.gw g3
      have K3 : Aside (KS w3 (some ⟨fb, 0, none⟩) sn (fst8 l)) := hk
      clear g3 hk V2 GL FI p1 hlb
      go_wp2_with fail
      refine (C1.out _ (HK.out.gw G3.out) V3.out).mono ?_
      rintro e w4 ⟨rfl, g4⟩
      have G4 : Aside (Gw w w4) := G3.out.trans g4
      have V4 : Aside (VS w4 (some ⟨lb, lf, none⟩) L) := V3.out.gw g4
      have K4 : Aside (KS w4 (some ⟨fb, 0, none⟩) sn (fst8 l)) := K3.out.gw g4
      clear g4 V3 K3 C1
      go_wp2_with fail
      refine (C2.out fb fc _ hfc K4.out V4.out).mono ?_
      rintro e w5 ⟨rfl, g5⟩
      have G5 : Aside (Gw w w5) := G4.out.trans g5
      clear g5
      go_wp2_with fail
      go_ret
      exact ⟨rfl, G5.out⟩
    · have t : (E != 0) = true := by simpa using z
      clear z
      go_wp2_with fail
      go_ret
      exact ⟨rfl, G2.out⟩

end Go.Proofs.Ytmmkmakajolfhab
