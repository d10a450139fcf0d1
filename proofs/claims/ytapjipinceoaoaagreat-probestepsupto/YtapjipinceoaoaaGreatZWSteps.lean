/- ProbeSteps' walk. -/
import Derived.Test.YtapjipinceoaoaaGreatZCom
import Derived.StillTailTactics
namespace Go.Proofs.YtapjipinceoaoaaGreat
open Go.RowKit
set_option linter.unusedVariables false

set_option maxRecDepth 10000 in
set_option maxHeartbeats 8000000 in
theorem steps9_walk {HP : World → Nat → (Nat → Prop) → Int → (Nat → Int) → Nat → List (List Sg) → Prop} (PC : ProbeC HP) (O5 : Of5C) (ao : Option Addr) (n cp : Nat) (f : Nat → Int) (eps : Int) (own : Bool) (uo : Option Addr) (uc : Nat) (U : List (List Sg)) (bo : Option Addr) (m cb : Nat) (g : Nat → Int) (e0 : -9223372036854775808 ≤ eps) (e1 : eps < 9223372036854775808) (hn : n ≤ 2000000) (hcp : n ≤ cp) (hU : Short U) (hm : m ≤ 2000000) (w : World) (h : KS w ao n f) (hv : UV w uo U) (hg : KS w bo m g) :
    Calls Tryz.prog 5 #[madeV ao n cp eps own uo U.length uc, .slice bo m cb] w fun ex w' => ex = .returned (.bool true) ∧ Gw w w' := by
  have HK : Aside (KS w ao n f) := h
  have HG : Aside (KS w bo m g) := hg
  have SH : Hid _ := fun W => shown9 PC W
  have MD : Hid (∀ W, Gw w W → Calls Tryz.prog 7 #[madeV ao n cp eps own uo U.length uc] W fun ex w' => (∃ lo lc L ok, ex = .returned (.tuple #[.slice lo (L : List (List Sg)).length lc, .bool ok]) ∧ MadeR eps f n own U L ok ∧ VSf w' W.heap.size lo L ∧ L.length ≤ lc) ∧ Gw W w') := fun W gW => made_any O5 eps ao n cp f own uo uc U e0 e1 hn hcp hU W (h.gw gW) (hv.gw gW)
  have PCC : Aside (ProbeC HP) := PC
  obtain ⟨un, hun⟩ : ∃ un, U.length = un := ⟨_, rfl⟩
  rw [hun] at MD ⊢
  clear h hv hg O5 PC hU hun
  have G0 : Aside (Gw w (w.alloc (.cells #[.slice ao n cp, .int .i64 eps, .bool own, .slice uo un uc] 25))) := (Gw.refl w).alloc _ _
  have BK : Aside ((w.alloc (.cells #[.slice ao n cp, .int .i64 eps, .bool own, .slice uo un uc] 25)).heap[w.heap.size]? = some (.cells #[.slice ao n cp, .int .i64 eps, .bool own, .slice uo un uc] 25 (0, 0))) := heap_alloc_new w _
  go_enter Tryz.func5, Tryz.ntmps5
  go_wp2_with fail
  generalize w.alloc (.cells #[.slice ao n cp, .int .i64 eps, .bool own, .slice uo un uc] 25) = w1 at G0 BK ⊢
  obtain ⟨mb, hmb⟩ : ∃ mb, w.heap.size = mb := ⟨_, rfl⟩
  rw [hmb] at BK ⊢
  clear hmb
  refine (SH.out _).mono ?_
  rintro e w2 ⟨rfl, g2⟩
  have G2 : Aside (Gw w w2) := G0.out.trans g2
  have B2 : Aside (w2.heap[mb]? = some (.cells #[.slice ao n cp, .int .i64 eps, .bool own, .slice uo un uc] 25 (0, 0))) := (g2.below.block mb (Array.getElem?_eq_some_iff.1 BK.out).1).trans BK.out
  clear g2 G0 BK SH
  have b0 : w2.cell? ⟨mb, 0, none⟩ = some (.slice ao n cp) := by have := B2.out; simp [World.cell?, this]
  have b1 : w2.cell? ⟨mb, 1, none⟩ = some (.int .i64 eps) := by have := B2.out; simp [World.cell?, this]
  have b2 : w2.cell? ⟨mb, 2, none⟩ = some (.bool own) := by have := B2.out; simp [World.cell?, this]
  have b3 : w2.cell? ⟨mb, 3, none⟩ = some (.slice uo un uc) := by have := B2.out; simp [World.cell?, this]
  have bl : mb < w2.heap.size := (Array.getElem?_eq_some_iff.1 B2.out).1
  go_wp2_with fail
  refine (MD.out _ G2.out).mono ?_
  rintro e w3 ⟨⟨lo, lc, L, ok, rfl, hM, hV, hl⟩, g3⟩
  have G3 : Aside (Gw w w3) := G2.out.trans g3
  have B3 : Aside (w3.heap[mb]? = some (.cells #[.slice ao n cp, .int .i64 eps, .bool own, .slice uo un uc] 25 (0, 0))) := (g3.below.block mb bl).trans B2.out
  have V3 : Aside (VS w3 lo L) := hV.vs
  have MR : Aside (MadeR eps f n own U L ok) := hM
  clear hM hV g3 G2 B2 b0 b1 b2 b3 bl MD
  cases ok with
  | false =>
    go_wp2_with fail
    go_ret
    exact ⟨rfl, G3.out⟩
  | true =>
    have RD : Aside (Ready eps f n L) := Ready.of (MR.out.chk rfl) hn MR.out.sh HK.out.bd
    obtain ⟨ln, hln⟩ : ∃ ln, L.length = ln := ⟨_, rfl⟩
    have LN : Aside (L.length = ln) := hln
    rw [hln] at hl ⊢
    have CH : Aside (CheckR eps f n L 0) := MR.out.chk rfl
    clear hln MR
    have ST : Aside (Sit w3 ao n cp f eps lo lc L ln) := ⟨HK.out.gw G3.out, hcp, V3.out, LN.out, hl, RD.out⟩
    have OF : Hid (∀ W, Gw w3 W → Calls Tryz.prog 14 #[.slice ao n cp, .int .i64 eps, .slice lo ln lc] W fun ex w' => (∃ p S, ex = .returned (.tuple #[.pointer (some ⟨p, 0, none⟩), .int .i64 0]) ∧ HP w' p S eps f n L) ∧ Gw W w') := fun W gW => by
      have := PCC.out.of eps ao n cp f lo lc L e0 e1 hn hcp RD.out.sh (by rw [LN.out]; exact hl) W (ST.out.gw gW).ks (ST.out.gw gW).vs
      rw [LN.out] at this
      refine this.mono ?_
      rintro ex w' ⟨⟨E, hE, q⟩, g⟩
      obtain rfl := hE.one CH.out
      rcases q with ⟨q, _⟩ | ⟨_, p, S, rfl, _, hp⟩
      · exact absurd rfl q
      · exact ⟨⟨p, S, rfl, hp⟩, g⟩
    have b0 : w3.cell? ⟨mb, 0, none⟩ = some (.slice ao n cp) := by have := B3.out; simp [World.cell?, this]
    have b1 : w3.cell? ⟨mb, 1, none⟩ = some (.int .i64 eps) := by have := B3.out; simp [World.cell?, this]
    have bl : mb < w3.heap.size := (Array.getElem?_eq_some_iff.1 B3.out).1
    go_wp2_with fail
    refine (OF.out _ (Gw.refl w3)).mono ?_
    rintro ex w4 ⟨⟨p, S, rfl, hp⟩, g4⟩
    have G4 : Aside (Gw w w4) := G3.out.trans g4
    have H4 : Aside (HP w4 p S eps f n L) := hp
    have ST4 : Aside (Sit w4 ao n cp f eps lo lc L ln) := ST.out.gw g4
    have B4 : Aside (w4.heap[mb]? = some (.cells #[.slice ao n cp, .int .i64 eps, .bool own, .slice uo un uc] 25 (0, 0))) := (g4.below.block mb bl).trans B3.out
    clear hp g4 OF ST B3 V3 b0 b1 bl
    have UPF : Aside (Up f n) := by
      rcases CH.out with ⟨_, q⟩ | ⟨_, _, q⟩ | ⟨_, _, _, q⟩ | ⟨_, u, _⟩
      · cases q
      · cases q
      · cases q
      · exact u
    have FD : Hid (∀ W, Gw w4 W → ∀ q : Int, 0 ≤ q → q < 18446744073709551616 → Calls Tryz.prog 15 #[.pointer (some ⟨p, 0, none⟩), .int .u64 q] W fun ex w' => ex = .returned (.tuple #[.int .i64 (cntb f q n : Nat), .bool (decide (cntb f q n < n ∧ f (cntb f q n) = q))]) ∧ Gw W w') := fun W gW q q0 q1 => PCC.out.pfind (PCC.out.gw H4.out gW) RD.out q q0 q1
    have PD : Hid (∀ W, Gw w4 W → ∀ q : Int, 0 ≤ q → q < 18446744073709551616 → Calls Tryz.prog 16 #[.pointer (some ⟨p, 0, none⟩), .int .u64 q] W fun ex w' => (∃ bo c, ex = .returned (.slice bo ln c) ∧ PV w' bo (pathL eps q f n L) ∧ ∀ a, bo = some a → W.heap.size ≤ a.block) ∧ Gw W w') := fun W gW q q0 q1 => by
      have := PCC.out.ppath (PCC.out.gw H4.out gW) RD.out q q0 q1
      rw [LN.out] at this
      exact this
    go_wp2_with fail
    go_loopg [10] m (fun gg s10 wr => ∃ i : Nat, s10 = .int .i64 i ∧ i ≤ m ∧ m - i ≤ gg ∧ Aside (Gw w4 wr))
    case atStart => exact ⟨0, rfl, Nat.zero_le _, by omega, (show Aside _ from Gw.refl w4)⟩
    case round =>
      obtain ⟨i, rfl, h1, h2, G⟩ := hrel
      by_cases ilt : i < m
      · obtain ⟨bk, off, rfl, hbk, hc⟩ := ((HG.out.gw G4.out).gw G.out).cells (by omega)
        have CL : Aside (∀ W, Gw wr W → ∀ j, j < m → W.cell? ⟨bk, off + j, none⟩ = some (.int .u64 (g j)) ∧ bk < W.heap.size) := fun W gW j hj => ⟨(gW.cell _ _ hbk).trans (hc j hj), Nat.lt_of_lt_of_le hbk gW.size⟩
        have q1 := hc i ilt
        have qb := HG.out.bd i ilt
        obtain ⟨q, hq⟩ : ∃ q, g i = q := ⟨_, rfl⟩
        have GQ : Aside (g i = q) := hq
        rw [hq] at q1 qb
        clear hc hq
        have BR : Aside (wr.heap[mb]? = some (.cells #[.slice ao n cp, .int .i64 eps, .bool own, .slice uo un uc] 25 (0, 0))) := (G.out.below.block mb (Array.getElem?_eq_some_iff.1 B4.out).1).trans B4.out
        obtain ⟨wS, hwS⟩ : ∃ wx, wx = wr := ⟨_, rfl⟩
        subst hwS
        obtain ⟨N, hN⟩ : ∃ N : Nat, cntb f q n = N := ⟨_, rfl⟩
        obtain ⟨T, hT⟩ : ∃ T, decide (N < n ∧ f N = q) = T := ⟨_, rfl⟩
        have CN : Aside (cntb f q n = N) := hN
        have CT : Aside (T = true ↔ N < n ∧ f N = q) := by show _ ↔ _; rw [← hT]; exact decide_eq_true_iff
        have Nn : N ≤ n := by rw [← hN]; exact cntb_le _ _ _
        have F1 : Hid (∀ W, Gw w4 W → Calls Tryz.prog 15 #[.pointer (some ⟨p, 0, none⟩), .int .u64 q] W fun ex w' => ex = .returned (.tuple #[.int .i64 (N : Int), .bool T]) ∧ Gw W w') := fun W gW => by
          have := FD.out W gW q qb.1 qb.2
          rw [hN, hT] at this
          exact this
        have FV : Aside (foundV f n q = .tuple #[.int .i64 (N : Int), .bool T]) := by
          show foundV f n q = _
          unfold foundV
          rw [hN, hT]
        clear hN hT
        go_wp2_with fail
        refine (F1.out _ G.out).mono ?_
        rintro ex w5 ⟨rfl, g5⟩
        have G5 : Aside (Gw wS w5) := g5
        have B5 : Aside (w5.heap[mb]? = some (.cells #[.slice ao n cp, .int .i64 eps, .bool own, .slice uo un uc] 25 (0, 0))) := (g5.below.block mb (Array.getElem?_eq_some_iff.1 BR.out).1).trans BR.out
        have b0 : w5.cell? ⟨mb, 0, none⟩ = some (.slice ao n cp) := by have := B5.out; simp [World.cell?, this]
        have b1 : w5.cell? ⟨mb, 1, none⟩ = some (.int .i64 eps) := by have := B5.out; simp [World.cell?, this]
        have bl : mb < w5.heap.size := (Array.getElem?_eq_some_iff.1 B5.out).1
        obtain ⟨c5, l5⟩ := CL.out w5 g5 i ilt
        rw [GQ.out] at c5
        have ST5 : Aside (Sit w5 ao n cp f eps lo lc L ln) := (ST4.out.gw G.out).gw g5
        clear g5 q1 BR
        go_wp2_with fail
        refine (ST5.out.sfind0 PCC.out q qb.1 qb.2).mono ?_
        rintro ex w6 ⟨⟨S6, A6, B6, rfl, hs6, hk6, hS6⟩, g6⟩
        have L6 : Aside (SL w6 w5.heap.size S6 ao n cp eps lo ln lc A6 B6 false) := hs6
        have AK : Aside (A6.length ≤ 1000000000 ∧ B6.length ≤ 1000000000) := by have := hk6.small RD.out; exact ⟨by omega, by omega⟩
        have SS6 : Aside (∀ q, S6 q → w5.heap.size ≤ q) := hS6
        have G6 : Aside (Gw w5 w6) := g6
        rw [FV.out]
        obtain ⟨c6, l6⟩ := CL.out w6 (G5.out.trans g6) i ilt
        rw [GQ.out] at c6
        clear hs6 hk6 hS6 g6 b0 b1 bl B5 c5 l5
        go_wp2_with fail
        refine (PD.out _ ((G.out.trans G5.out).trans G6.out) q qb.1 qb.2).mono ?_
        rintro ex w7 ⟨⟨po, pc, rfl, hp7, hb7⟩, g7⟩
        have P7 : Aside (PV w7 po (pathL eps q f n L)) := hp7
        have N7 : Aside (∀ a, po = some a → w6.heap.size ≤ a.block) := hb7
        have L7 : Aside (SL w7 w5.heap.size S6 ao n cp eps lo ln lc A6 B6 false) := L6.out.gw g7
        have G7 : Aside (Gw w5 w7) := G6.out.trans g7
        obtain ⟨c7, l7⟩ := CL.out w7 (G5.out.trans G7.out) i ilt
        rw [GQ.out] at c7
        clear hp7 hb7 g7 c6 l6 G6
        go_wp2_with fail
        refine (ST5.out.spath1 PCC.out G7.out SS6.out L7.out AK.out.1 AK.out.2 q qb.1 qb.2).mono ?_
        rintro ex w8 ⟨⟨ro, rc, rfl, hr8⟩, gs8, g8⟩
        have R8 : Aside (PV w8 ro (pathL eps q f n L)) := hr8
        have P8 : Aside (PV w8 po (pathL eps q f n L)) := P7.out.keep (fun a e lt => gs8.block _ lt (fun s => by have := L6.out.lt _ s; have := N7.out a e; omega)) gs8.size
        have G8 : Aside (Gw w5 w8) := g8
        clear hr8 gs8 g8 c7 l7 L7 P7 G7
        go_wp2_with fail
        refine (Sit.same LN.out RD.out po ro pc rc q P8.out R8.out).mono ?_
        rintro ex w9 ⟨rfl, g9⟩
        have G9 : Aside (Gw wS w9) := (G5.out.trans G8.out).trans g9
        obtain ⟨c9, l9⟩ := CL.out w9 G9.out i ilt
        rw [GQ.out] at c9
        clear g9 P8 R8 G8
        obtain ⟨wX, hX⟩ : ∃ wX, wX = w9 := ⟨_, rfl⟩
        by_cases qm : q < 18446744073709551615
        · have tq : decide (q < 18446744073709551615) = true := by simpa using qm
          have wq : IntKind.u64.wrap (q + 1) = q + 1 := by rw [IntKind.wrap_u64]; omega
          have F2 : Hid (∀ W, Gw w4 W → Calls Tryz.prog 15 #[.pointer (some ⟨p, 0, none⟩), .int .u64 (q + 1)] W fun ex w' => (∃ T2, ex = .returned (.tuple #[.int .i64 (if T then (N : Int) + 1 else (N : Int)), .bool T2])) ∧ Gw W w') := fun W gW => by
            have := FD.out W gW (q + 1) (by omega) (by omega)
            rw [found_next UPF.out q, CN.out] at this
            by_cases c : N < n ∧ f N = q
            · rw [if_pos c] at this
              rw [if_pos (CT.out.2 c)]
              exact this.mono fun ex w' h => ⟨⟨_, h.1⟩, h.2⟩
            · rw [if_neg c] at this
              rw [if_neg (fun q' => c (CT.out.1 q'))]
              exact this.mono fun ex w' h => ⟨⟨_, h.1⟩, h.2⟩
          have wn : IntKind.i64.wrap ((N : Int) + 1) = (N : Int) + 1 := by rw [IntKind.wrap_i64]; omega
          cases T with
          | true =>
            rw [if_pos rfl] at F2
            go_wp2_with fail
            refine (F2.out _ (G.out.trans G9.out)).mono ?_
            rintro ex w10 ⟨⟨T2, rfl⟩, g10⟩
            have G10 : Aside (Gw wS w10) := G9.out.trans g10
            clear g10 F2 F1
            go_wp2_with fail
            go_loopg [21] i (fun gg s21 wr => ∃ j : Nat, s21 = .int .i64 j ∧ j ≤ i ∧ i - j ≤ gg ∧ Aside (Gw wS wr))
            case atStart => exact ⟨0, rfl, Nat.zero_le _, by omega, G10⟩
            case round =>
              obtain ⟨j, rfl, j1, j2, GJ⟩ := hrel
              by_cases jlt : j < i
              · by_cases j30 : j < 30
                · obtain ⟨cj, lj⟩ := CL.out wr GJ.out j (by omega)
                  have bj := HG.out.bd j (by omega)
                  obtain ⟨x, hx⟩ : ∃ x, g j = x := ⟨_, rfl⟩
                  rw [hx] at cj bj
                  clear hx
                  obtain ⟨M, hM⟩ : ∃ M : Nat, cntb f x n = M := ⟨_, rfl⟩
                  have MO : Aside (x ≤ q → M ≤ N) := fun h => by rw [← hM, ← CN.out]; exact found_mono UPF.out h
                  have F3 : Hid (∀ W, Gw w4 W → Calls Tryz.prog 15 #[.pointer (some ⟨p, 0, none⟩), .int .u64 x] W fun ex w' => (∃ T3, ex = .returned (.tuple #[.int .i64 (M : Int), .bool T3])) ∧ Gw W w') := fun W gW => by
                    have := FD.out W gW x bj.1 bj.2
                    rw [hM] at this
                    exact this.mono fun ex w' h => ⟨⟨_, h.1⟩, h.2⟩
                  have Mn : M ≤ n := by rw [← hM]; exact cntb_le _ _ _
                  clear hM
                  go_wp2_with fail
                  refine (F3.out _ (G.out.trans GJ.out)).mono ?_
                  rintro ex w11 ⟨⟨T3, rfl⟩, g11⟩
                  have G11 : Aside (Gw wS w11) := GJ.out.trans g11
                  have cj' : w11.cell? ⟨bk, off + j, none⟩ = some (.int .u64 x) := (g11.cell _ _ lj).trans cj
                  obtain ⟨ci, li⟩ := CL.out w11 G11.out i ilt
                  rw [GQ.out] at ci
                  clear g11 cj F3
                  by_cases xq : x ≤ q
                  · have t1 : decide (x ≤ q) = true := by simpa using xq
                    have t2 : decide ((N : Int) < (M : Int)) = false := by have := MO.out xq; simp; omega
                    have t3 : ¬ N < M := by have := MO.out xq; omega
                    go_wp2_with fail
                    go_quiet (fail)
                    go_wp2_with fail
                    go_roundg (i - (j + 1))
                    case measure => omega
                    case rel => exact ⟨j + 1, by go_num, by omega, Nat.le_refl _, (show Aside _ from G11.out.drewN _)⟩
                  · have t1 : decide (x ≤ q) = false := by simpa using xq
                    go_wp2_with fail
                    go_quiet (fail)
                    go_wp2_with fail
                    go_roundg (i - (j + 1))
                    case measure => omega
                    case rel => exact ⟨j + 1, by go_num, by omega, Nat.le_refl _, (show Aside _ from G11.out.drewN _)⟩
                · go_wp2_with fail
                  go_roundg (m - (i + 1))
                  case measure => omega
                  case rel => exact ⟨i + 1, by go_num, by omega, Nat.le_refl _, (show Aside _ from G.out.trans GJ.out)⟩
              · go_wp2_with fail
                go_roundg (m - (i + 1))
                case measure => omega
                case rel => exact ⟨i + 1, by go_num, by omega, Nat.le_refl _, (show Aside _ from G.out.trans GJ.out)⟩
          | false =>
            rw [if_neg (by decide)] at F2
            go_wp2_with fail
            refine (F2.out _ (G.out.trans G9.out)).mono ?_
            rintro ex w10 ⟨⟨T2, rfl⟩, g10⟩
            have G10 : Aside (Gw wS w10) := G9.out.trans g10
            clear g10 F2 F1
            go_wp2_with fail
            go_loopg [21] i (fun gg s21 wr => ∃ j : Nat, s21 = .int .i64 j ∧ j ≤ i ∧ i - j ≤ gg ∧ Aside (Gw wS wr))
            case atStart => exact ⟨0, rfl, Nat.zero_le _, by omega, G10⟩
            case round =>
              obtain ⟨j, rfl, j1, j2, GJ⟩ := hrel
              by_cases jlt : j < i
              · by_cases j30 : j < 30
                · obtain ⟨cj, lj⟩ := CL.out wr GJ.out j (by omega)
                  have bj := HG.out.bd j (by omega)
                  obtain ⟨x, hx⟩ : ∃ x, g j = x := ⟨_, rfl⟩
                  rw [hx] at cj bj
                  clear hx
                  obtain ⟨M, hM⟩ : ∃ M : Nat, cntb f x n = M := ⟨_, rfl⟩
                  have MO : Aside (x ≤ q → M ≤ N) := fun h => by rw [← hM, ← CN.out]; exact found_mono UPF.out h
                  have F3 : Hid (∀ W, Gw w4 W → Calls Tryz.prog 15 #[.pointer (some ⟨p, 0, none⟩), .int .u64 x] W fun ex w' => (∃ T3, ex = .returned (.tuple #[.int .i64 (M : Int), .bool T3])) ∧ Gw W w') := fun W gW => by
                    have := FD.out W gW x bj.1 bj.2
                    rw [hM] at this
                    exact this.mono fun ex w' h => ⟨⟨_, h.1⟩, h.2⟩
                  have Mn : M ≤ n := by rw [← hM]; exact cntb_le _ _ _
                  clear hM
                  go_wp2_with fail
                  refine (F3.out _ (G.out.trans GJ.out)).mono ?_
                  rintro ex w11 ⟨⟨T3, rfl⟩, g11⟩
                  have G11 : Aside (Gw wS w11) := GJ.out.trans g11
                  have cj' : w11.cell? ⟨bk, off + j, none⟩ = some (.int .u64 x) := (g11.cell _ _ lj).trans cj
                  obtain ⟨ci, li⟩ := CL.out w11 G11.out i ilt
                  rw [GQ.out] at ci
                  clear g11 cj F3
                  by_cases xq : x ≤ q
                  · have t1 : decide (x ≤ q) = true := by simpa using xq
                    have t2 : decide ((N : Int) < (M : Int)) = false := by have := MO.out xq; simp; omega
                    have t3 : ¬ N < M := by have := MO.out xq; omega
                    go_wp2_with fail
                    go_quiet (fail)
                    go_wp2_with fail
                    go_roundg (i - (j + 1))
                    case measure => omega
                    case rel => exact ⟨j + 1, by go_num, by omega, Nat.le_refl _, (show Aside _ from G11.out.drewN _)⟩
                  · have t1 : decide (x ≤ q) = false := by simpa using xq
                    go_wp2_with fail
                    go_quiet (fail)
                    go_wp2_with fail
                    go_roundg (i - (j + 1))
                    case measure => omega
                    case rel => exact ⟨j + 1, by go_num, by omega, Nat.le_refl _, (show Aside _ from G11.out.drewN _)⟩
                · go_wp2_with fail
                  go_roundg (m - (i + 1))
                  case measure => omega
                  case rel => exact ⟨i + 1, by go_num, by omega, Nat.le_refl _, (show Aside _ from G.out.trans GJ.out)⟩
              · go_wp2_with fail
                go_roundg (m - (i + 1))
                case measure => omega
                case rel => exact ⟨i + 1, by go_num, by omega, Nat.le_refl _, (show Aside _ from G.out.trans GJ.out)⟩
        · have tq : decide (q < 18446744073709551615) = false := by simpa using qm
          clear F1
          go_wp2_with fail
          go_loopg [21] i (fun gg s21 wr => ∃ j : Nat, s21 = .int .i64 j ∧ j ≤ i ∧ i - j ≤ gg ∧ Aside (Gw wS wr))
          case atStart => exact ⟨0, rfl, Nat.zero_le _, by omega, G9⟩
          case round =>
            obtain ⟨j, rfl, j1, j2, GJ⟩ := hrel
            by_cases jlt : j < i
            · by_cases j30 : j < 30
              · obtain ⟨cj, lj⟩ := CL.out wr GJ.out j (by omega)
                have bj := HG.out.bd j (by omega)
                obtain ⟨x, hx⟩ : ∃ x, g j = x := ⟨_, rfl⟩
                rw [hx] at cj bj
                clear hx
                obtain ⟨M, hM⟩ : ∃ M : Nat, cntb f x n = M := ⟨_, rfl⟩
                have MO : Aside (x ≤ q → M ≤ N) := fun h => by rw [← hM, ← CN.out]; exact found_mono UPF.out h
                have F3 : Hid (∀ W, Gw w4 W → Calls Tryz.prog 15 #[.pointer (some ⟨p, 0, none⟩), .int .u64 x] W fun ex w' => (∃ T3, ex = .returned (.tuple #[.int .i64 (M : Int), .bool T3])) ∧ Gw W w') := fun W gW => by
                  have := FD.out W gW x bj.1 bj.2
                  rw [hM] at this
                  exact this.mono fun ex w' h => ⟨⟨_, h.1⟩, h.2⟩
                have Mn : M ≤ n := by rw [← hM]; exact cntb_le _ _ _
                clear hM
                go_wp2_with fail
                refine (F3.out _ (G.out.trans GJ.out)).mono ?_
                rintro ex w11 ⟨⟨T3, rfl⟩, g11⟩
                have G11 : Aside (Gw wS w11) := GJ.out.trans g11
                have cj' : w11.cell? ⟨bk, off + j, none⟩ = some (.int .u64 x) := (g11.cell _ _ lj).trans cj
                obtain ⟨ci, li⟩ := CL.out w11 G11.out i ilt
                rw [GQ.out] at ci
                clear g11 cj F3
                by_cases xq : x ≤ q
                · have t1 : decide (x ≤ q) = true := by simpa using xq
                  have t2 : decide ((N : Int) < (M : Int)) = false := by have := MO.out xq; simp; omega
                  have t3 : ¬ N < M := by have := MO.out xq; omega
                  go_wp2_with fail
                  go_quiet (fail)
                  go_wp2_with fail
                  go_roundg (i - (j + 1))
                  case measure => omega
                  case rel => exact ⟨j + 1, by go_num, by omega, Nat.le_refl _, (show Aside _ from G11.out.drewN _)⟩
                · have t1 : decide (x ≤ q) = false := by simpa using xq
                  go_wp2_with fail
                  go_quiet (fail)
                  go_wp2_with fail
                  go_roundg (i - (j + 1))
                  case measure => omega
                  case rel => exact ⟨j + 1, by go_num, by omega, Nat.le_refl _, (show Aside _ from G11.out.drewN _)⟩
              · go_wp2_with fail
                go_roundg (m - (i + 1))
                case measure => omega
                case rel => exact ⟨i + 1, by go_num, by omega, Nat.le_refl _, (show Aside _ from G.out.trans GJ.out)⟩
            · go_wp2_with fail
              go_roundg (m - (i + 1))
              case measure => omega
              case rel => exact ⟨i + 1, by go_num, by omega, Nat.le_refl _, (show Aside _ from G.out.trans GJ.out)⟩
      · have ei : i = m := by omega
        subst ei
        go_wp2_with fail
        go_ret
        exact ⟨rfl, G4.out.trans G.out⟩

end Go.Proofs.YtapjipinceoaoaaGreat
