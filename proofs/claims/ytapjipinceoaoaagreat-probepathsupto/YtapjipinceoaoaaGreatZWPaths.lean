/- ProbePaths' walk. -/
import Derived.Test.YtapjipinceoaoaaGreatZCom
import Derived.StillTailTactics
namespace Go.Proofs.YtapjipinceoaoaaGreat
open Go.RowKit
set_option linter.unusedVariables false

set_option maxRecDepth 10000 in
set_option maxHeartbeats 8000000 in
theorem paths9_walk {HP : World → Nat → (Nat → Prop) → Int → (Nat → Int) → Nat → List (List Sg) → Prop} (PC : ProbeC HP) (O5 : Of5C) (ao : Option Addr) (n cp : Nat) (f : Nat → Int) (eps : Int) (own : Bool) (uo : Option Addr) (uc : Nat) (U : List (List Sg)) (bo : Option Addr) (m cb : Nat) (g : Nat → Int) (e0 : -9223372036854775808 ≤ eps) (e1 : eps < 9223372036854775808) (hn : n ≤ 2000000) (hcp : n ≤ cp) (hU : Short U) (hm : m ≤ 2000000) (w : World) (h : KS w ao n f) (hv : UV w uo U) (hg : KS w bo m g) :
    Calls Tryz.prog 3 #[madeV ao n cp eps own uo U.length uc, .slice bo m cb] w fun ex w' => ex = .returned (.bool true) ∧ Gw w w' := by
  have HK : Aside (KS w ao n f) := h
  have HG : Aside (KS w bo m g) := hg
  have SH : Hid _ := fun W => shown9 PC W
  have MD : Hid (∀ W, Gw w W → Calls Tryz.prog 7 #[madeV ao n cp eps own uo U.length uc] W fun ex w' => (∃ lo lc L ok, ex = .returned (.tuple #[.slice lo (L : List (List Sg)).length lc, .bool ok]) ∧ MadeR eps f n own U L ok ∧ VSf w' W.heap.size lo L ∧ L.length ≤ lc) ∧ Gw W w') := fun W gW => made_any O5 eps ao n cp f own uo uc U e0 e1 hn hcp hU W (h.gw gW) (hv.gw gW)
  have PCC : Aside (ProbeC HP) := PC
  obtain ⟨un, hun⟩ : ∃ un, U.length = un := ⟨_, rfl⟩
  rw [hun] at MD ⊢
  clear h hv hg O5 PC hU hun
  have G0 : Aside (Gw w (w.alloc (.cells #[.slice ao n cp, .int .i64 eps, .bool own, .slice uo un uc] 25))) := (Gw.refl w).alloc _ _
  have BK : Aside ((w.alloc (.cells #[.slice ao n cp, .int .i64 eps, .bool own, .slice uo un uc] 25)).heap[w.heap.size]? = some (.cells #[.slice ao n cp, .int .i64 eps, .bool own, .slice uo un uc] 25 (0, 0))) := heap_alloc_new w _
  go_enter Tryz.func3, Tryz.ntmps3
  go_wp2_with fail
  generalize w.alloc (.cells #[.slice ao n cp, .int .i64 eps, .bool own, .slice uo un uc] 25) = w1 at G0 BK ⊢
  obtain ⟨mb, hmb⟩ : ∃ mb, w.heap.size = mb := ⟨_, rfl⟩
  rw [hmb] at BK ⊢
  clear hmb
  refine (SH.out _).mono ?_
  rintro e w2 ⟨rfl, g2⟩
  have G2 : Aside (Gw w w2) := G0.out.trans g2
  have B2 : Aside (w2.heap[mb]? = some (.cells #[.slice ao n cp, .int .i64 eps, .bool own, .slice uo un uc] 25 (0, 0))) := (g2.below.block mb (Array.getElem?_eq_some_iff.1 BK.out).1).trans BK.out
  clear g2 G0 BK SH
  have b0 : w2.cell? ⟨mb, 0, none⟩ = some (.slice ao n cp) := by have := B2.out; simp [World.cell?, this]
  have b1 : w2.cell? ⟨mb, 1, none⟩ = some (.int .i64 eps) := by have := B2.out; simp [World.cell?, this]
  have b2 : w2.cell? ⟨mb, 2, none⟩ = some (.bool own) := by have := B2.out; simp [World.cell?, this]
  have b3 : w2.cell? ⟨mb, 3, none⟩ = some (.slice uo un uc) := by have := B2.out; simp [World.cell?, this]
  have bl : mb < w2.heap.size := (Array.getElem?_eq_some_iff.1 B2.out).1
  go_wp2_with fail
  refine (MD.out _ G2.out).mono ?_
  rintro e w3 ⟨⟨lo, lc, L, ok, rfl, hM, hV, hl⟩, g3⟩
  have G3 : Aside (Gw w w3) := G2.out.trans g3
  have B3 : Aside (w3.heap[mb]? = some (.cells #[.slice ao n cp, .int .i64 eps, .bool own, .slice uo un uc] 25 (0, 0))) := (g3.below.block mb bl).trans B2.out
  have V3 : Aside (VS w3 lo L) := hV.vs
  have MR : Aside (MadeR eps f n own U L ok) := hM
  clear hM hV g3 G2 B2 b0 b1 b2 b3 bl MD
  cases ok with
  | false =>
    go_wp2_with fail
    go_ret
    exact ⟨rfl, G3.out⟩
  | true =>
    have RD : Aside (Ready eps f n L) := Ready.of (MR.out.chk rfl) hn MR.out.sh HK.out.bd
    obtain ⟨ln, hln⟩ : ∃ ln, L.length = ln := ⟨_, rfl⟩
    have LN : Aside (L.length = ln) := hln
    rw [hln] at hl ⊢
    clear hln MR
    have ST : Aside (Sit w3 ao n cp f eps lo lc L ln) := ⟨HK.out.gw G3.out, hcp, V3.out, LN.out, hl, RD.out⟩
    have RF : Hid (∀ W, Gw w3 W → ∀ q : Int, 0 ≤ q → q < 18446744073709551616 → Calls Tryz.prog 12 #[.slice ao n cp, .int .i64 eps, .slice lo ln lc, .int .u64 q] W fun e w' => e = .returned (foundV f n q) ∧ Gw W w') := fun W gW q q0 q1 => by
      have := rfind_any ao n cp f eps lo lc L q RD.out.e0 RD.out.e1 q0 q1 hn hcp RD.out.sh.1 RD.out.sh.2 RD.out.lv RD.out.z.1 W ((HK.out.gw G3.out).gw gW) (V3.out.gw gW)
      rw [LN.out] at this
      exact this
    go_wp2_with fail
    go_loopg [8] m (fun gg s8 wr => ∃ i : Nat, s8 = .int .i64 i ∧ i ≤ m ∧ m - i ≤ gg ∧ Aside (Gw w3 wr))
    case atStart => exact ⟨0, rfl, Nat.zero_le _, by omega, (show Aside _ from Gw.refl w3)⟩
    case round =>
      obtain ⟨i, rfl, h1, h2, G⟩ := hrel
      by_cases ilt : i < m
      · obtain ⟨bk, off, rfl, hbk, hc⟩ := ((HG.out.gw G3.out).gw G.out).cells (by omega)
        have q1 := hc i ilt
        have qb := HG.out.bd i ilt
        obtain ⟨q, hq⟩ : ∃ q, g i = q := ⟨_, rfl⟩
        rw [hq] at q1 qb
        clear hc hq
        have BR : Aside (wr.heap[mb]? = some (.cells #[.slice ao n cp, .int .i64 eps, .bool own, .slice uo un uc] 25 (0, 0))) := (G.out.below.block mb (Array.getElem?_eq_some_iff.1 B3.out).1).trans B3.out
        have b0 : wr.cell? ⟨mb, 0, none⟩ = some (.slice ao n cp) := by have := BR.out; simp [World.cell?, this]
        have b1 : wr.cell? ⟨mb, 1, none⟩ = some (.int .i64 eps) := by have := BR.out; simp [World.cell?, this]
        have bl : mb < wr.heap.size := (Array.getElem?_eq_some_iff.1 BR.out).1
        obtain ⟨wS, hwS⟩ : ∃ wx, wx = wr := ⟨_, rfl⟩
        subst hwS
        obtain ⟨N, T, hF⟩ : ∃ N T, foundV f n q = .tuple #[.int .i64 N, .bool T] := ⟨_, _, rfl⟩
        have FV : Aside (foundV f n q = .tuple #[.int .i64 N, .bool T]) := hF
        clear hF
        go_wp2_with fail
        refine ((ST.out.gw G.out).spath PCC.out q qb.1 qb.2).mono ?_
        rintro ex w5 ⟨⟨po, pc, S5, A5, B5, rfl, hp, hs, hk, hS, _⟩, g5⟩
        have P5 : Aside (PV w5 po (pathL eps q f n L)) := hp
        have L5 : Aside (SL w5 wS.heap.size S5 ao n cp eps lo ln lc A5 B5 false) := hs
        have S6 : Aside (∀ q, S5 q → wS.heap.size ≤ q) := hS
        have AK : Aside (A5.length ≤ 1000000000 ∧ B5.length ≤ 1000000000) := by have := hk.small RD.out; exact ⟨by omega, by omega⟩
        have G5 : Aside (Gw wS w5) := g5
        have c0 : w5.drew.cell? ⟨mb, 0, none⟩ = some (.slice ao n cp) := (g5.cell _ _ bl).trans b0
        have c1 : w5.drew.cell? ⟨mb, 1, none⟩ = some (.int .i64 eps) := (g5.cell _ _ bl).trans b1
        have c2 : w5.drew.cell? ⟨bk, off + i, none⟩ = some (.int .u64 q) := (g5.cell _ _ hbk).trans q1
        clear hp hs hk hS g5
        go_wp2_with fail
        refine wp_region_still_tail 9 (by kernel_rfl) (by kernel_rfl) ?_
        change wpStill _ _ (World.drew w5) (fun a' => wpList _ _ _ _ a' (World.drew w5)) _ _
        simp only [List.take_succ_cons, List.take_zero, List.drop_succ_cons, List.drop_zero]
        still_step
        still_step
        still_step
        still_step
        still_step
        still_step
        still_step
        still_step
        still_step
        refine wpStill_nil ?_
        go_wp2_with fail
        refine ((ST.out.gw (G.out.trans G5.out.drew)).rpath q qb.1 qb.2).mono ?_
        rintro ex w6 ⟨⟨ro, rc, rfl, hr⟩, g6'⟩
        have g6 : Gw w5 w6 := (Gw.refl w5).drew.trans g6'
        have R6 : Aside (PV w6 ro (pathL eps q f n L)) := hr
        have P6 : Aside (PV w6 po (pathL eps q f n L)) := P5.out.gw g6
        have L6 : Aside (SL w6 wS.heap.size S5 ao n cp eps lo ln lc A5 B5 false) := L5.out.gw g6
        have G6 : Aside (Gw wS w6) := G5.out.trans g6
        clear hr g6 g6' c0 c1 c2 P5 L5 G5
        go_wp2_with fail
        refine (Sit.same LN.out RD.out po ro pc rc q P6.out R6.out).mono ?_
        rintro ex w7 ⟨rfl, g7⟩
        have L7 : Aside (SL w7 wS.heap.size S5 ao n cp eps lo ln lc A5 B5 false) := L6.out.gw g7
        have G7 : Aside (Gw wS w7) := G6.out.trans g7
        have d2 : w7.cell? ⟨bk, off + i, none⟩ = some (.int .u64 q) := (G7.out.cell _ _ hbk).trans q1
        have hbk7 : bk < w7.heap.size := Nat.lt_of_lt_of_le hbk G7.out.size
        clear g7 P6 R6 L6 G6
        go_wp2_with fail
        refine ((ST.out.gw G.out).sfind PCC.out G7.out S6.out L7.out AK.out.1 AK.out.2 q qb.1 qb.2).mono ?_
        rintro ex w8 ⟨⟨S8, A8, B8, rfl, hs8, _, _, hS8⟩, _, g8⟩
        have W8 := hs8.wrong
        have L8 : Aside (SL w8 wS.heap.size S8 ao n cp eps lo ln lc (A5 ++ A8) (B5 ++ B8) false) := hs8
        have G8 : Aside (Gw wS w8) := g8
        have p8 : wS.heap.size < w8.heap.size := hs8.lt _ hs8.self
        rw [FV.out]
        clear hs8 g8 d2 hbk7 L7 G7 hS8
        have RFX : Hid (∀ gx : GX w8, Calls Tryz.prog 12 #[.slice ao n cp, .int .i64 eps, .slice lo ln lc, .int .u64 q] gx.1 fun e w' => e = .returned (.tuple #[.int .i64 N, .bool T]) ∧ Gw gx.1 w') := fun gx => by
          have := RF.out gx.1 ((G.out.trans G8.out).trans gx.2) q qb.1 qb.2
          rw [FV.out] at this
          exact this
        have x0 := GX.cell ((G8.out.cell _ _ bl).trans b0) (Nat.lt_of_lt_of_le bl G8.out.size)
        have x1 := GX.cell ((G8.out.cell _ _ bl).trans b1) (Nat.lt_of_lt_of_le bl G8.out.size)
        have x2 := GX.cell ((G8.out.cell _ _ hbk).trans q1) (Nat.lt_of_lt_of_le hbk G8.out.size)
        have NN := GX.some w8
        clear b0 b1 q1
        go_wp2_with fail
        refine wp_region_growx (by kernel_rfl) (by kernel_rfl) ?_
        repeat (go_big_quiet_step (fail))
        go_big_quiet_want
        go_big_quiet_op
        go_big_quiet_call (exact growx_of (RFX.out _))
        repeat (go_big_quiet_step (fail))
        refine wpQuiet_nil ?_
        rintro _ ⟨gx, rfl⟩
        have w9 : gx.1.cell? ⟨wS.heap.size, 5, none⟩ = some (.bool false) := (gx.2.cell _ _ p8).trans W8
        have p9 : wS.heap.size < gx.1.heap.size := Nat.lt_of_lt_of_le p8 gx.2.size
        have G9 : Aside (Gw w3 gx.1) := (G.out.trans G8.out).trans gx.2
        generalize gx.1 = w10 at w9 p9 G9 ⊢
        clear x0 x1 x2 NN W8 p8
        go_wp2_with fail
        go_roundg (m - (i + 1))
        case measure => omega
        case rel => exact ⟨i + 1, by go_num, by omega, Nat.le_refl _, G9⟩
      · have ei : i = m := by omega
        subst ei
        go_wp2_with fail
        go_ret
        exact ⟨rfl, G3.out.trans G.out⟩

end Go.Proofs.YtapjipinceoaoaaGreat
