/- RunTakes' walk. -/
import Derived.Test.YtdikiaeagcokdaaGreatPSh
import Derived.Test.YtdikiaeagcokdaaGreatR1Of
namespace Go.Proofs.YtdikiaeagcokdaaGreat
open Go.RowKit
set_option linter.unusedVariables false
attribute [local go_sem] run_store_float

set_option maxRecDepth 10000 in
set_option maxHeartbeats 8000000 in
theorem takes_walk {HR : World → Nat → (Nat → Prop) → Int → (Nat → Int) → (Nat → Int) → (Nat → Bool) → Nat → List (List Sg) → Prop} (H : RunC HR) (ao : Option Addr) (n cp : Nat) (k v : Nat → Int) (g : Nat → Bool) (eps : Int) (lo : Option Addr) (lc : Nat) (L : List (List Sg)) (e0 : -9223372036854775808 ≤ eps) (e1 : eps < 9223372036854775808) (hn : n ≤ 2000000) (hcp : n ≤ cp) (hz : ao = none → n = 0 ∧ cp = 0) (sh : Short L) (w : World) (h : ES w ao n k v g) (hv : VS w lo L) :
    Calls Tryz.prog 4 #[.slice ao n cp, .int .i64 eps, .slice lo L.length lc] w fun e w' => e = .returned (.bool true) ∧ Gw w w' := by
  have HE : Aside (ES w ao n k v g) := h
  have HV : Aside (VS w lo L) := hv
  have HH : Aside (RunC HR) := H
  have SHO : Aside (Short L) := sh
  have HZ : Aside (ao = none → n = 0 ∧ cp = 0) := hz
  obtain ⟨ln, hln⟩ : ∃ ln, L.length = ln := ⟨_, rfl⟩
  have LN : Aside (L.length = ln) := hln
  have ln1 : ln ≤ 2000000 := by rw [← hln]; exact sh.1
  have SH : Hid (Calls Tryz.prog 9 #[] w fun e w' => e = .returned (.bool true) ∧ Gw w w') := shown11 H w
  have CO : Hid (∀ W, Gw w W → Calls Tryz.prog 16 #[.slice lo ln lc] W fun e w' => (∃ vo vc vals, e = .returned (.slice vo ln vc) ∧ OwnV w' W.heap.size (.slice vo ln vc) L vals ∧ ln ≤ vc) ∧ Gw W w') := fun W gg => by
    have := copied11 lo lc L sh W (hv.gw gg)
    rw [hln] at this
    exact this
  have RO : Hid (∀ (W : World) (xo : Option Addr) (xc : Nat) (mo : Option Addr) (mc : Nat), n ≤ xc → (xo = none → n = 0 ∧ xc = 0) → ln ≤ mc → ES W xo n k v g → VS W mo L → Calls Tryz.prog 17 #[.slice xo n xc, .int .i64 eps, .slice mo ln mc] W fun ex w' => OfOutR HR W w' ex eps k v g n L ∧ Gw W w') := fun W xo xc mo mc a b c hx hm => by
    have := H.of eps xo n xc k v g mo mc L e0 e1 hn a b sh (by rw [hln]; exact c) W hx hm
    rw [hln] at this
    exact this
  have DO : Hid (∀ W, Gw w W → Calls Tryz.prog 18 #[.slice ao n cp, .int .i64 eps, .slice lo ln lc] W fun ex w' => OfOutR HDoc W w' ex eps k v g n L ∧ Gw W w') := fun W gg => by
    have := dc_of eps ao n cp k v g lo lc L e0 e1 hn hcp hz sh W (h.gw gg) (hv.gw gg)
    rw [hln] at this
    exact this
  have SL : Hid (∀ (W : World) (xo : Option Addr) (xc : Nat), Gw w W → ES W xo n k v g → Calls Tryz.prog 12 #[.slice xo n xc, .slice ao n cp] W fun e w' => e = .returned (.bool true) ∧ Gw W w') := fun W xo xc gg hx => same11_list xo ao xc cp n k v g (by omega) W hx (h.gw gg)
  have ML : Hid (∀ (W : World) (mo : Option Addr) (mc : Nat), Gw w W → VS W mo L → Calls Tryz.prog 19 #[.slice mo ln mc, .slice lo ln lc] W fun e w' => e = .returned (.bool true) ∧ Gw W w') := fun W mo mc gg hm => by
    have := same11_lev mo lo mc lc L (by omega) (fun i hi => by have := sh.2 i hi; omega) W hm (hv.gw gg)
    rw [hln] at this
    exact this
  rw [hln]
  clear h H hz hv sh hln
  go_enter Tryz.func4, Tryz.ntmps4
  go_wp2_with fail
  refine Calls.mono SH.out ?_
  rintro e w1 ⟨rfl, g1⟩
  have G1 : Aside (Gw w w1) := g1
  clear g1 SH
  obtain ⟨ii, hii, iz, is, iby⟩ := info_parts info_e
  have O0 : Hid ((w1.alloc (.cells #[] 26)).ownsRow w1.heap.size 26 3 (.slice (some ⟨w1.heap.size, 0, none⟩) 0 0) 0 []) := World.ownsRow_made w1 #[] 0 (Nat.le_refl _) (Nat.zero_le _) rfl
  have NW : Hid (∀ ad, ao = some ad → ∀ j u, (ecs k v g n)[j]? = some u → (w1.alloc (.cells #[] 26)).cell? (ad.add j) = some u) := es_news (HE.out.gw (G1.out.alloc _ _))
  go_wp2_with (at_builtin; refine wpList_append_src _ rfl _ _ 22 rfl w1.heap.size 26 ii (.agg #[.int .u64 0, .int .u64 0, .bool false]) 3 24 Tryz.underlying22 hii iz is iby rfl (by decide) _ 0 [] rfl O0.out ao n cp (ecs k v g n) rfl HZ.out (ecs_len k v g n) NW.out (ecs_one k v g n) (by simp only [maxLen]; omega) (by omega) (by simp) ?_)
  intro v' w2 q1 q2 q3
  have R2 : ER w2 w1.heap.size v' k v g n := by show World.ownsRow _ _ _ _ _ _ _; simpa using q1
  have G2 : Aside (Gw w1 w2) := ((Gw.refl w1).alloc _ _).grown q2 (fun j hj => by cases hj; exact Nat.le_refl _)
  obtain ⟨bo, bc, rfl, _, _⟩ := er_form R2
  have E2 : Aside (ER w2 w1.heap.size (.slice bo n bc) k v g n) := R2
  have E2' : Aside (n ≤ bc ∧ (bo = none → n = 0 ∧ bc = 0)) := by
    rcases R2.2 with ⟨e, z⟩ | ⟨b, cap, cur, e, hb, hh, hc, _⟩
    · cases e
      exact ⟨by omega, fun _ => ⟨z, rfl⟩⟩
    · cases e
      exact ⟨hc, fun q => by cases q⟩
  clear q1 q2 q3 O0 NW R2 hii iz is iby
  go_wp2_with fail
  refine Calls.mono (CO.out _ (G1.out.trans G2.out)) ?_
  rintro e w3 ⟨⟨vo, vc, vals, rfl, ow3, hvc⟩, g3⟩
  have OV3 : Aside (OwnV w3 w2.heap.size (.slice vo ln vc) L vals) := ow3
  have G3 : Aside (Gw w2 w3) := g3
  have LOK : Aside (Lok L) := vs_ok8 HV.out
  have V3 : Aside (VS w3 vo L) := by
    have : OwnV w3 w2.heap.size (.slice vo L.length vc) L vals := by rw [LN.out]; exact ow3
    exact (this.vsf LOK.out).vs
  clear ow3 g3 CO
  go_wp2_with fail
  refine Calls.mono (RO.out _ bo bc vo vc E2'.out.1 E2'.out.2 hvc ((er_es E2.out HE.out.bd).gw G3.out) V3.out) ?_
  rintro e w4 ⟨⟨E, oe, x⟩, g4⟩
  have G4 : Aside (Gw w3 w4) := g4
  have OE : Aside (OfE eps k v g n L E) := oe
  clear g4 oe RO hvc
  rcases x with ⟨x0, rfl⟩ | ⟨rfl, p, S, rfl, hS, hr⟩
  · have X0 : Aside (E ≠ 0) := x0
    clear x0
    go_wp2_with fail
    refine Calls.mono (DO.out _ (((G1.out.trans G2.out).trans G3.out).trans G4.out)) ?_
    rintro e w5 ⟨⟨E', oe', x⟩, g5⟩
    have ee := oe'.one OE.out
    subst ee
    rcases x with ⟨_, rfl⟩ | ⟨x, _⟩
    case inr => exact absurd x X0.out
    have G5 : Aside (Gw w w5) := (((G1.out.trans G2.out).trans G3.out).trans G4.out).trans g5
    have E5 : Aside (ES w5 bo n k v g ∧ VS w5 vo L) := ⟨(er_es E2.out HE.out.bd).gw ((G3.out.trans G4.out).trans g5), V3.out.gw (G4.out.trans g5)⟩
    clear g5 oe' DO
    go_wp2_with fail
    refine Calls.mono (SL.out _ bo bc G5.out E5.out.1) ?_
    rintro e w6 ⟨rfl, g6⟩
    have G6 : Aside (Gw w w6) := G5.out.trans g6
    have V6 : Aside (VS w6 vo L) := E5.out.2.gw g6
    clear g6 E5 G5
    go_wp2_with fail
    refine Calls.mono (ML.out _ vo vc G6.out V6.out) ?_
    rintro e w7 ⟨rfl, g7⟩
    have G7 : Aside (Gw w w7) := G6.out.trans g7
    clear g7
    go_wp2_with fail
    go_ret
    exact ⟨rfl, G7.out⟩
  · have R4 : Aside (HR w4 p S eps k v g n L ∧ ∀ q, S q → w3.heap.size ≤ q) := ⟨hr, hS⟩
    clear hr hS
    go_wp2_with fail
    refine Calls.mono (DO.out _ (((G1.out.trans G2.out).trans G3.out).trans G4.out)) ?_
    rintro e w5 ⟨⟨E', oe', x⟩, g5⟩
    have ee := oe'.one OE.out
    subst ee
    rcases x with ⟨x, _⟩ | ⟨_, px, Sx, rfl, hSx, hd⟩
    · exact absurd rfl x
    have G5 : Aside (Gw w w5) := (((G1.out.trans G2.out).trans G3.out).trans G4.out).trans g5
    have E5 : Aside (ES w5 bo n k v g ∧ VS w5 vo L) := ⟨(er_es E2.out HE.out.bd).gw ((G3.out.trans G4.out).trans g5), V3.out.gw (G4.out.trans g5)⟩
    have RD : Aside ((HR w5 p S eps k v g n L ∧ ∀ q, S q → w3.heap.size ≤ q) ∧ HDoc w5 px Sx eps k v g n L ∧ ∀ q, Sx q → w3.heap.size ≤ q) := ⟨⟨HH.out.gw R4.out.1 g5, R4.out.2⟩, hd, fun q hq => Nat.le_trans G4.out.size (hSx q hq)⟩
    have G35 : Aside (Gw w3 w5) := G4.out.trans g5
    clear g5 oe' DO hd hSx R4
    go_wp2_with fail
    refine Calls.mono (SL.out _ bo bc G5.out E5.out.1) ?_
    rintro e w6 ⟨rfl, g6⟩
    have G6 : Aside (Gw w w6) := G5.out.trans g6
    have H6 : Aside (Gw w5 w6) := g6
    have V6 : Aside (VS w6 vo L) := E5.out.2.gw g6
    clear g6 E5 G5
    go_wp2_with fail
    refine Calls.mono (ML.out _ vo vc G6.out V6.out) ?_
    rintro e w7 ⟨rfl, g7⟩
    have H7 : Aside (Gw w5 w7) := H6.out.trans g7
    have G37 : Aside (Gw w3 w7) := G35.out.trans H7.out
    have O7 : Aside (w7.ownsRow w1.heap.size 26 3 (.slice bo n bc) n (ecs k v g n)) := by
      have : w2.ownsRow w1.heap.size 26 3 (.slice bo n bc) n (ecs k v g n) := E2.out
      exact own_kept this fun q hq => (G3.out.trans G37.out).below.block q (this.lt q hq).2
    have B7 : Aside (∀ q, (Value.slice bo n bc).ownBlock = some q → w1.heap.size ≤ q ∧ q < w3.heap.size) := fun q hq => by
      have : w2.ownsRow w1.heap.size 26 3 (.slice bo n bc) n (ecs k v g n) := E2.out
      exact ⟨(this.lt q hq).1, Nat.lt_of_lt_of_le (this.lt q hq).2 G3.out.size⟩
    have OV7 : Aside (OwnV w7 w2.heap.size (.slice vo ln vc) L vals) := OV3.out.gw G37.out
    have BV : Aside (∀ i, i < ln → ∀ q, (vals.getD i nilS).ownBlock = some q → w1.heap.size ≤ q ∧ q < w3.heap.size) := fun i hi q hq => by
      have := sr_lt (OV3.out.rows i (by rw [LN.out]; exact hi)) q hq
      exact ⟨Nat.le_trans G2.out.size this.1, this.2⟩
    have G17 : Aside (Gw w1 w7) := (G2.out.trans G3.out).trans G37.out
    have RD7 : Aside ((HR w7 p S eps k v g n L ∧ ∀ q, S q → w3.heap.size ≤ q) ∧ HDoc w7 px Sx eps k v g n L ∧ ∀ q, Sx q → w3.heap.size ≤ q) := ⟨⟨HH.out.gw RD.out.1.1 H7.out, RD.out.1.2⟩, RD.out.2.1.gw H7.out, RD.out.2.2⟩
    have K7 : Aside (Gs (fun q => w1.heap.size ≤ q ∧ q < w3.heap.size) w7 w7) := (Gw.refl w7).gs _
    have BE : Aside (ER w2 w1.heap.size (.slice bo n bc) k v g n) := E2.out
    clear g7 V6 H6 G6 G35 RD H7 G37 E2 OV3 V3 SL ML
    go_wp2_with fail
    go_loopg [14] n (fun gg s14 wr => ∃ (i : Nat) (xs : List Value), s14 = .int .i64 (i : Int) ∧ i ≤ n ∧ n - i ≤ gg ∧ Aside (wr.ownsRow w1.heap.size 26 3 (.slice bo n bc) n xs) ∧ Aside (Gs (fun q => w1.heap.size ≤ q ∧ q < w3.heap.size) w7 wr ∧ OwnV wr w2.heap.size (.slice vo ln vc) L vals))
    case atStart => exact ⟨0, _, rfl, Nat.zero_le _, by omega, O7, (show Aside _ from ⟨K7.out, OV7.out⟩)⟩
    case round =>
      clear O7 K7 OV7
      obtain ⟨i, xs, rfl, a1, a2, OO, KK⟩ := hrel
      obtain ⟨wS, hwS⟩ : ∃ wx, wx = wr := ⟨_, rfl⟩
      subst hwS
      by_cases hlt : i < n
      · have hlt' : (i : Int) < (n : Int) := by omega
        obtain ⟨b, rfl⟩ := row_some OO.out (by omega)
        obtain ⟨y0, c0⟩ := row_cells OO.out (j := i * 3) (by omega)
        obtain ⟨y1, c1⟩ := row_cells OO.out (j := i * 3 + 1) (by omega)
        obtain ⟨y2, c2⟩ := row_cells OO.out (j := i * 3 + 2) (by omega)
        have z0 := World.ownsRow.frozenAt OO.out (i * 3)
        have z1 := World.ownsRow.frozenAt OO.out (i * 3 + 1)
        have z2 := World.ownsRow.frozenAt OO.out (i * 3 + 2)
        have bl : b < wS.heap.size := (OO.out.lt b rfl).2
        have hb := B7.out b rfl
        have O9 : Aside (World.ownsRow (((wS.setCell ⟨b, i * 3, none⟩ (.int .u64 5)).setCell ⟨b, i * 3 + 1, none⟩ (.int .u64 5)).setCell ⟨b, i * 3 + 2, none⟩ (.bool false)) w1.heap.size 26 3 (.slice (some ⟨b, 0, none⟩) n bc) n (((xs.set (i * 3) (.int .u64 5)).set (i * 3 + 1) (.int .u64 5)).set (i * 3 + 2) (.bool false))) := (((OO.out.stored (i * 3) _).1.stored (i * 3 + 1) _).1.stored (i * 3 + 2) _).1
        have K9 : Aside (Gs (fun q => w1.heap.size ≤ q ∧ q < w3.heap.size) w7 (((wS.setCell ⟨b, i * 3, none⟩ (.int .u64 5)).setCell ⟨b, i * 3 + 1, none⟩ (.int .u64 5)).setCell ⟨b, i * 3 + 2, none⟩ (.bool false)) ∧ OwnV (((wS.setCell ⟨b, i * 3, none⟩ (.int .u64 5)).setCell ⟨b, i * 3 + 1, none⟩ (.int .u64 5)).setCell ⟨b, i * 3 + 2, none⟩ (.bool false)) w2.heap.size (.slice vo ln vc) L vals) := by
          refine ⟨((KK.out.1.set hb _ _).set hb _ _).set hb _ _, KK.out.2.keep fun q h1 h2 => ?_⟩
          have ne : q ≠ b := by
            have : w2.ownsRow w1.heap.size 26 3 (.slice (some ⟨b, 0, none⟩) n bc) n (ecs k v g n) := BE.out
            have := (this.lt b rfl).2
            omega
          rw [Go.Deep.blk_setCell_other _ _ _ _ ne, Go.Deep.blk_setCell_other _ _ _ _ ne, Go.Deep.blk_setCell_other _ _ _ _ ne]
        clear OO KK hb
        go_wp2_with fail
        go_roundg (n - (i + 1))
        case measure => omega
        case rel => exact ⟨i + 1, _, by go_num, by omega, Nat.le_refl _, O9, K9⟩
      · have ei : i = n := by omega
        subst ei
        have KL : Aside (Gs (fun q => w1.heap.size ≤ q ∧ q < w3.heap.size) w7 wS) := KK.out.1
        have OL : Aside (OwnV wS w2.heap.size (.slice vo ln vc) L vals) := KK.out.2
        clear OO KK
        go_wp2_with fail
        go_loopg [15] ln (fun gg s15 wr => ∃ (j : Nat) (L' : List (List Sg)), s15 = .int .i64 (j : Int) ∧ j ≤ ln ∧ ln - j ≤ gg ∧ Aside (OwnV wr w2.heap.size (.slice vo ln vc) L' vals ∧ Lens L' L) ∧ Aside (Gs (fun q => w1.heap.size ≤ q ∧ q < w3.heap.size) w7 wr))
        case atStart => exact ⟨0, L, rfl, Nat.zero_le _, by omega, (show Aside _ from ⟨OL.out, Lens.refl L⟩), KL⟩
        case round =>
          clear OL KL
          obtain ⟨j, L', rfl, b1, b2, OV, KK⟩ := hrel
          obtain ⟨wT, hwT⟩ : ∃ wx, wx = wr := ⟨_, rfl⟩
          subst hwT
          by_cases jlt : j < ln
          · have jlt' : (j : Int) < (ln : Int) := by omega
            obtain ⟨gA, rfl⟩ : ∃ gA, vo = some ⟨gA, 0, none⟩ := by
              have := OV.out.1.outer
              rw [OV.out.2.1, LN.out] at this
              exact row_some this (by omega)
            obtain ⟨rv, hrv⟩ : ∃ rv, vals.getD j nilS = rv := ⟨_, rfl⟩
            have RV : Aside (vals.getD j nilS = rv) := hrv
            obtain ⟨so, sc, e1, _, sz, sb⟩ := sr_form (OV.out.1.rows j (by rw [OV.out.2.1, LN.out]; exact jlt))
            rw [hrv] at e1
            obtain ⟨sn, hsn⟩ : ∃ sn, (L.getD j []).length = sn := ⟨_, rfl⟩
            have SN : Aside ((L.getD j []).length = sn) := hsn
            have sn1 : sn ≤ 2000000 := by rw [← hsn]; exact SHO.out.2 j (by rw [LN.out]; exact jlt)
            rw [OV.out.2.2 j, hsn] at e1
            have CA : Aside (∀ W, (∃ L2, OwnV W w2.heap.size (.slice (some ⟨gA, 0, none⟩) ln vc) L2 vals ∧ Lens L2 L) → W.cell? ⟨gA, j, none⟩ = some (.slice so sn sc) ∧ gA < W.heap.size) := fun W ⟨L2, o2, l2⟩ => by
              have vl := o2.len
              have o := o2.outer
              rw [l2.1, LN.out] at o vl
              have := o.cellAt j (by omega)
              rw [List.getElem?_eq_getElem (by omega)] at this
              refine ⟨this.trans ?_, (o.lt gA rfl).2⟩
              rw [← e1, ← RV.out, List.getD_eq_getElem?_getD, List.getElem?_eq_getElem (by omega)]
              rfl
            have EV : Aside (vals.getD j nilS = .slice so sn sc ∧ (so = none → sn = 0) ∧ ∀ a, so = some a → a = ⟨a.block, 0, none⟩) := ⟨by rw [RV.out]; exact e1, fun q => by have := (sz q).1; rw [OV.out.2.2 j, hsn] at this; exact this, fun a q => (sb a q).1⟩
            clear hrv RV e1 sz sb hsn
            go_wp2_with fail
            go_loopg [16] sn (fun gg s16 wr => ∃ (t : Nat) (L2 : List (List Sg)), s16 = .int .i64 (t : Int) ∧ t ≤ sn ∧ sn - t ≤ gg ∧ Aside (OwnV wr w2.heap.size (.slice (some ⟨gA, 0, none⟩) ln vc) L2 vals ∧ Lens L2 L) ∧ Aside (Gs (fun q => w1.heap.size ≤ q ∧ q < w3.heap.size) w7 wr))
            case atStart => exact ⟨0, L', rfl, Nat.zero_le _, by omega, OV, KK⟩
            case round =>
              clear OV KK
              obtain ⟨t, L2, rfl, d1, d2, OV, KK⟩ := hrel
              obtain ⟨wU, hwU⟩ : ∃ wx, wx = wr := ⟨_, rfl⟩
              subst hwU
              obtain ⟨cA, lA⟩ := CA.out _ ⟨L2, OV.out⟩
              by_cases tlt : t < sn
              · have tlt' : (t : Int) < (sn : Int) := by omega
                obtain ⟨b, rfl⟩ : ∃ b, so = some ⟨b, 0, none⟩ := by
                  cases so with
                  | none => have := EV.out.2.1 rfl; omega
                  | some a => exact ⟨a.block, by rw [← EV.out.2.2 a rfl]⟩
                have jl : j < L2.length := by rw [OV.out.2.1, LN.out]; exact jlt
                have ev : vals.getD j nilS = .slice (some ⟨b, 0, none⟩) (L2.getD j []).length sc := by rw [OV.out.2.2 j, SN.out]; exact EV.out.1
                have rw5 : wU.ownsRow w2.heap.size 42 5 (.slice (some ⟨b, 0, none⟩) sn sc) sn ((L2.getD j []).flatMap sgc) := by
                  have := OV.out.1.rows j jl
                  rw [ev] at this
                  have th : wU.ownsRow w2.heap.size 42 5 (.slice (some ⟨b, 0, none⟩) (L2.getD j []).length sc) (L2.getD j []).length ((L2.getD j []).flatMap sgc) := this
                  rw [OV.out.2.2 j, SN.out] at th
                  exact th
                obtain ⟨y0, c0⟩ := row_cells rw5 (j := t * 5) (by omega)
                obtain ⟨y1, c1⟩ := row_cells rw5 (j := t * 5 + 1) (by omega)
                obtain ⟨y2, c2⟩ := row_cells rw5 (j := t * 5 + 2) (by omega)
                obtain ⟨y3, c3⟩ := row_cells rw5 (j := t * 5 + 3) (by omega)
                obtain ⟨y4, c4⟩ := row_cells rw5 (j := t * 5 + 4) (by omega)
                have z0 := World.ownsRow.frozenAt rw5 (t * 5)
                have z1 := World.ownsRow.frozenAt rw5 (t * 5 + 1)
                have z2 := World.ownsRow.frozenAt rw5 (t * 5 + 2)
                have z3 := World.ownsRow.frozenAt rw5 (t * 5 + 3)
                have z4 := World.ownsRow.frozenAt rw5 (t * 5 + 4)
                have bl : b < wU.heap.size := (rw5.lt b rfl).2
                have nb : ¬ gA = b := fun e => (OV.out.1.apart j jl b (by rw [ev]; rfl)).1 (by rw [← e]; rfl)
                have nb' : ¬ b = gA := fun e => nb e.symm
                have O9 : Aside (OwnV (put5 wU b (t * 5) ⟨0, 0, 0, -6, 0⟩) w2.heap.size (.slice (some ⟨gA, 0, none⟩) ln vc) (L2.set j ((L2.getD j []).set t ⟨0, 0, 0, -6, 0⟩)) vals ∧ Lens (L2.set j ((L2.getD j []).set t ⟨0, 0, 0, -6, 0⟩)) L) := ⟨OV.out.1.put1 jl ev (by rw [OV.out.2.2 j, SN.out]; exact tlt) _, OV.out.2.put _ _ _⟩
                have K9 : Aside (Gs (fun q => w1.heap.size ≤ q ∧ q < w3.heap.size) w7 (put5 wU b (t * 5) ⟨0, 0, 0, -6, 0⟩)) := put5_gs KK.out (BV.out j jlt b (by rw [EV.out.1]; rfl)) _ _
                clear OV KK ev rw5 jl
                go_wp2_with fail
                go_roundg (sn - (t + 1))
                case measure => omega
                case rel => exact ⟨t + 1, _, by go_num, by omega, Nat.le_refl _, O9, K9⟩
              · have et : t = sn := by omega
                subst et
                go_wp2_with fail
                go_roundg (ln - (j + 1))
                case measure => omega
                case rel => exact ⟨j + 1, L2, by go_num, by omega, Nat.le_refl _, OV, KK⟩
          · have ej : j = ln := by omega
            subst ej
            have kp : ∀ q, w3.heap.size ≤ q → q < w7.heap.size → wT.heap[q]? = w7.heap[q]? := fun q h1 h2 => KK.out.block q h2 (fun x => absurd x.2 (Nat.not_lt.2 h1))
            have AL : Hid (Calls Tryz.prog 13 #[.pointer (some ⟨p, 0, none⟩), .pointer (some ⟨px, 0, none⟩)] wT fun e w' => e = .returned (.bool true) ∧ Gw wT w') := alike11 HH.out (HH.out.keep RD7.out.1.1 fun q hq => kp q (RD7.out.1.2 q hq) (HH.out.lt RD7.out.1.1 q hq)) (RD7.out.2.1.keep fun q hq => kp q (RD7.out.2.2 q hq) (RD7.out.2.1.lt q hq))
            have GT : Aside (Gw w wT) := G1.out.trans (gs_gwd G17.out KK.out fun q hq => hq.1)
            clear kp
            go_wp2_with fail
            refine Calls.mono AL.out ?_
            rintro e w9 ⟨rfl, g9⟩
            have G9 : Aside (Gw w w9) := GT.out.trans g9
            clear g9 AL
            go_wp2_with fail
            go_ret
            exact ⟨rfl, G9.out⟩

end Go.Proofs.YtdikiaeagcokdaaGreat
