/- RunAgain's walk. -/
import Derived.Test.YtdikiaeagcokdaaGreatPSh
import Derived.Deep.RegionHeld3
namespace Go.Proofs.YtdikiaeagcokdaaGreat
open Go.RowKit
set_option linter.unusedVariables false

theorem BuildR.took {eps : Int} {f : Nat → Int} {n : Nat} {L : List (List Sg)} (e1 : 2 ≤ eps) (e2 : eps ≤ 64) (n1 : n ≤ 2000000) (bd : ∀ t, t < n → 0 ≤ f t ∧ f t < 18446744073709551616) (u : Up f n) (h : BuildR eps f n L) : CheckR eps f n L 0 := by
  refine .inr (.inr (.inr ⟨⟨e1, e2⟩, u, ⟨?_, ?_⟩, (h.chk n1 bd u).symm⟩))
  · have a := h.low e1 n1 bd u
    have b := hgt_mono (e := eps.toNat) (by omega) 4294967296 n (by omega)
    unfold mxh
    rw [if_pos ⟨e1, e2, by decide⟩]
    show (L.length : Int) ≤ ((hgt eps.toNat 4294967296 : Nat) : Int)
    omega
  · rw [List.length_eq_zero_iff]; exact h.none
theorem er_two {w : World} {base : Nat} {bo : Option Addr} {c n : Nat} {k v : Nat → Int} {g : Nat → Bool} (h : ER w base (.slice bo n c) k v g n) : n ≤ c ∧ (bo = none → n = 0 ∧ c = 0) := by
  rcases h.2 with ⟨e, z⟩ | ⟨b, cap, cur, e, hb, hh, hc, _⟩
  · cases e
    exact ⟨by omega, fun _ => ⟨z, rfl⟩⟩
  · cases e
    exact ⟨hc, fun q => by cases q⟩

set_option maxRecDepth 10000 in
set_option maxHeartbeats 8000000 in
theorem again_walk {HR : World → Nat → (Nat → Prop) → Int → (Nat → Int) → (Nat → Int) → (Nat → Bool) → Nat → List (List Sg) → Prop} (H : RunC HR) (ao : Option Addr) (n cp : Nat) (k v : Nat → Int) (g : Nat → Bool) (eps : Int) (e0 : -9223372036854775808 ≤ eps) (e1 : eps < 9223372036854775808) (hn : n ≤ 2000000) (hcp : n ≤ cp) (hz : ao = none → n = 0 ∧ cp = 0) (w : World) (h : ES w ao n k v g) :
    Calls Tryz.prog 7 #[.slice ao n cp, .int .i64 eps] w fun e w' => e = .returned (.bool true) ∧ Gw w w' := by
  have HE : Aside (ES w ao n k v g) := h
  have HH : Aside (RunC HR) := H
  have KB : Aside (∀ t, t < n → 0 ≤ k t ∧ k t < 18446744073709551616) := fun t ht => (h.bd t ht).1
  have SH : Hid (Calls Tryz.prog 9 #[] w fun e w' => e = .returned (.bool true) ∧ Gw w w') := shown11 H w
  have NW : Hid (∀ (W : World) (xo : Option Addr) (xc : Nat), n ≤ xc → (xo = none → n = 0 ∧ xc = 0) → ES W xo n k v g → Calls Tryz.prog 10 #[.slice xo n xc, .int .i64 eps] W fun ex w' => RunOut HR W w' ex eps k v g n ∧ Gw W w') := fun W xo xc a b hx => H.new eps xo n xc k v g e0 e1 hn a b W hx
  have CK : Hid (∀ W, Gw w W → Calls Tryz.prog 21 #[.slice ao n cp] W fun e w' => (∃ r : Int, e = .returned (.int .i64 r) ∧ ChkR k v g n r) ∧ Gw W w') := fun W gg => rcheck3_any ao n cp k v g (by omega) W (h.gw gg)
  have SL : Hid (∀ (W : World) (xo : Option Addr) (xc : Nat), Gw w W → ES W xo n k v g → Calls Tryz.prog 12 #[.slice xo n xc, .slice ao n cp] W fun e w' => e = .returned (.bool true) ∧ Gw W w') := fun W xo xc gg hx => same11_list xo ao xc cp n k v g (by omega) W hx (h.gw gg)
  have OF : Hid (∀ (W : World) (xo : Option Addr) (xc : Nat) (lo : Option Addr) (lc : Nat) (L : List (List Sg)), n ≤ xc → (xo = none → n = 0 ∧ xc = 0) → Short L → L.length ≤ lc → ES W xo n k v g → VS W lo L → Calls Tryz.prog 17 #[.slice xo n xc, .int .i64 eps, .slice lo L.length lc] W fun ex w' => OfOutR HR W w' ex eps k v g n L ∧ Gw W w') := fun W xo xc lo lc L a b s l hx hv => H.of eps xo n xc k v g lo lc L e0 e1 hn a b s l W hx hv
  have HC : Aside (n ≤ cp ∧ (ao = none → n = 0 ∧ cp = 0)) := ⟨hcp, hz⟩
  clear h H hz
  go_enter Tryz.func7, Tryz.ntmps7
  go_wp2_with fail
  refine Calls.mono SH.out ?_
  rintro e w1 ⟨rfl, g1⟩
  have G1 : Aside (Gw w w1) := g1
  clear g1 SH
  go_wp2_with fail
  refine Calls.mono (NW.out _ ao cp HC.out.1 HC.out.2 (HE.out.gw G1.out)) ?_
  rintro e w2 ⟨⟨E, ne, x⟩, g2⟩
  have G2 : Aside (Gw w w2) := G1.out.trans g2
  have NE : Aside (NewE eps k v g n E) := ne
  clear g2 ne G1
  rcases x with ⟨x0, rfl⟩ | ⟨rfl, p, S, L, rfl, hS, br, hr⟩
  · have X0 : Aside (E ≠ 0) := x0
    clear x0
    go_wp2_with fail
    refine Calls.mono (CK.out _ G2.out) ?_
    rintro e w3 ⟨⟨r, rfl, cr⟩, g3⟩
    have G3 : Aside (Gw w w3) := G2.out.trans g3
    clear g3
    by_cases r0 : r = 0
    · subst r0
      have nb : ¬ (2 ≤ eps ∧ eps ≤ 64) := fun b => by
        rcases NE.out with ⟨nb, _⟩ | ⟨_, c⟩
        · exact nb b
        · exact X0.out (c.one cr)
      clear cr
      by_cases c : eps < 2
      · have t1 : decide (eps < 2) = true := by simpa using c
        clear nb c
        go_wp2_with fail
        go_ret
        exact ⟨rfl, G3.out⟩
      · have t1 : decide (eps < 2) = false := by simpa using c
        have t2 : decide (64 < eps) = true := by simp; omega
        clear nb c
        go_wp2_with fail
        go_ret
        exact ⟨rfl, G3.out⟩
    · have r0' : (r != 0) = true := by simpa using r0
      clear r0 cr
      go_wp2_with fail
      go_ret
      exact ⟨rfl, G3.out⟩
  · obtain ⟨⟨b1, b2⟩, up⟩ := NewE.up NE.out
    have BR : Aside (BuildR eps k n L ∧ CheckR eps k n L 0 ∧ Short L) := ⟨br, br.took b1 b2 hn KB.out up, br.fine b1 hn KB.out up⟩
    have R2 : Aside (HR w2 p S eps k v g n L) := hr
    obtain ⟨pp, Sp, cp0, hp, _⟩ := HH.out.pile hr
    have pl : p < w2.heap.size := HH.out.lt hr p (HH.out.own hr)
    obtain ⟨ln, hln⟩ : ∃ ln, L.length = ln := ⟨_, rfl⟩
    have LN : Aside (L.length = ln) := hln
    have EP : Hid (∀ W, Gw w2 W → Calls Tryz.prog 22 #[.pointer (some ⟨pp, 0, none⟩)] W fun e w' => e = .returned (.int .i64 eps) ∧ w' = W) := fun W gg => pl_eps (hp.keep fun q hq => gg.below.block q (hp.lt q hq))
    have LI : Hid (∀ W, Gw w2 W → Calls Tryz.prog 14 #[.pointer (some ⟨p, 0, none⟩)] W fun e w' => (∃ bo c, e = .returned (.slice bo n c) ∧ ES w' bo n k v g ∧ n ≤ c ∧ (bo = none → n = 0 ∧ c = 0)) ∧ Gw W w') := fun W gg => (HH.out.list (HH.out.gw R2.out gg)).mono fun e w' ⟨⟨bo, c, a, er⟩, b⟩ => ⟨⟨bo, c, a, er_es er HE.out.bd, er_two er⟩, b⟩
    have LV : Hid (∀ W, Gw w2 W → Calls Tryz.prog 15 #[.pointer (some ⟨p, 0, none⟩)] W fun e w' => (∃ lo lc, e = .returned (.slice lo ln lc) ∧ VS w' lo L ∧ ln ≤ lc) ∧ Gw W w') := fun W gg => (HH.out.levels (HH.out.gw R2.out gg)).mono fun e w' ⟨⟨lo, lc, vals, a, ow, lok, hl⟩, b⟩ => ⟨⟨lo, lc, by rw [← LN.out]; exact a, (ow.vsf lok).vs, by rw [← LN.out]; exact hl⟩, b⟩
    have O2 : Hid (∀ (W : World) (xo : Option Addr) (xc : Nat) (lo : Option Addr) (lc : Nat), n ≤ xc → (xo = none → n = 0 ∧ xc = 0) → ln ≤ lc → ES W xo n k v g → VS W lo L → Calls Tryz.prog 17 #[.slice xo n xc, .int .i64 eps, .slice lo ln lc] W fun ex w' => (∃ pa Sa, ex = .returned (.tuple #[.pointer (some ⟨pa, 0, none⟩), .int .i64 0]) ∧ HR w' pa Sa eps k v g n L) ∧ Gw W w') := fun W xo xc lo lc a b l hx hv => by
      have := OF.out W xo xc lo lc L a b BR.out.2.2 (by rw [LN.out]; exact l) hx hv
      rw [LN.out] at this
      refine this.mono ?_
      rintro ex w' ⟨⟨E, oe, x⟩, gg⟩
      have e := oe.one ⟨0, NE.out, .inr ⟨rfl, BR.out.2.1⟩⟩
      subst e
      rcases x with ⟨x, _⟩ | ⟨_, pa, Sa, rfl, _, hr⟩
      · exact absurd rfl x
      · exact ⟨⟨pa, Sa, rfl, hr⟩, gg⟩
    have N2 : Hid (∀ (W : World) (xo : Option Addr) (xc : Nat), n ≤ xc → (xo = none → n = 0 ∧ xc = 0) → ES W xo n k v g → Calls Tryz.prog 10 #[.slice xo n xc, .int .i64 eps] W fun ex w' => (∃ pa Sa, ex = .returned (.tuple #[.pointer (some ⟨pa, 0, none⟩), .int .i64 0]) ∧ HR w' pa Sa eps k v g n L) ∧ Gw W w') := fun W xo xc a b hx => by
      refine (NW.out W xo xc a b hx).mono ?_
      rintro ex w' ⟨⟨E, oe, x⟩, gg⟩
      have e := oe.one NE.out
      subst e
      rcases x with ⟨x, _⟩ | ⟨_, pa, Sa, L', rfl, _, br', hr'⟩
      · exact absurd rfl x
      · have e := br'.one BR.out.1
        rw [e] at hr'
        exact ⟨⟨pa, Sa, rfl, hr'⟩, gg⟩
    have LIW : Hid (∀ (W : World) (x : Nat) (Sx : Nat → Prop), HR W x Sx eps k v g n L → Calls Tryz.prog 14 #[.pointer (some ⟨x, 0, none⟩)] W fun e w' => (∃ bo c, e = .returned (.slice bo n c) ∧ ES w' bo n k v g) ∧ Gw W w') := fun W x Sx hx => (HH.out.list hx).mono fun e w' ⟨⟨bo, c, a, er⟩, b⟩ => ⟨⟨bo, c, a, er_es er HE.out.bd⟩, b⟩
    have LVW : Hid (∀ (W : World) (x : Nat) (Sx : Nat → Prop), HR W x Sx eps k v g n L → Calls Tryz.prog 15 #[.pointer (some ⟨x, 0, none⟩)] W fun e w' => (∃ lo lc, e = .returned (.slice lo ln lc) ∧ VS w' lo L) ∧ Gw W w') := fun W x Sx hx => (HH.out.levels hx).mono fun e w' ⟨⟨lo, lc, vals, a, ow, lok, hl⟩, b⟩ => ⟨⟨lo, lc, by rw [← LN.out]; exact a, (ow.vsf lok).vs⟩, b⟩
    have HW : Hid (∀ w', Gw w2 w' → Gw w2 w' ∧ w'.cell? ⟨p, 0, none⟩ = some (.pointer (some ⟨pp, 0, none⟩))) := fun w' gg => ⟨gg, (gg.cell _ _ pl).trans cp0⟩
    have ML : Hid (∀ (W : World) (lo lo2 : Option Addr) (lc lc2 : Nat), VS W lo L → VS W lo2 L → Calls Tryz.prog 19 #[.slice lo ln lc, .slice lo2 ln lc2] W fun e w' => e = .returned (.bool true) ∧ Gw W w') := fun W lo lo2 lc lc2 a b => by
      have s1 := BR.out.2.2
      have := same11_lev lo lo2 lc lc2 L (by have := s1.1; omega) (fun i hi => by have := s1.2 i hi; omega) W a b
      rw [LN.out] at this
      exact this
    clear hr hS br up b1 b2 hp cp0 pl hln
    go_wp2_with fail
    go_region_held3 (fun w' => Gw w2 w' ∧ w'.cell? ⟨p, 0, none⟩ = some (.pointer (some ⟨pp, 0, none⟩)))
      ((refine HW.out _ ?_; (repeat (first | exact Gw.refl _ | exact And.left (by assumption) | exact Hid.out (by assumption) | refine Gw.drew ?_ | refine Gw.trans ?_ (by assumption))); done))
      ((first
        | (go_at_call 14; refine (LI.out _ (by repeat (first | exact Gw.refl _ | exact And.left (by assumption) | exact Hid.out (by assumption) | refine Gw.drew ?_ | refine Gw.drewN ?_ _))).mono ?_; rintro ex w4 ⟨⟨bo, bc, rfl, es4, bl4⟩, g4⟩; have E4 : Aside (ES w4 bo n k v g ∧ n ≤ bc ∧ (bo = none → n = 0 ∧ bc = 0)) := ⟨es4, bl4⟩; have G4 : Hid (Gw w2 w4) := (Gw.trans (by repeat (first | exact Gw.refl _ | exact And.left (by assumption) | exact Hid.out (by assumption) | refine Gw.drew ?_ | refine Gw.drewN ?_ _)) g4); clear g4 es4 bl4)
        | (go_at_call 22; refine (EP.out _ (by repeat (first | exact Gw.refl _ | exact And.left (by assumption) | exact Hid.out (by assumption) | refine Gw.drew ?_ | refine Gw.drewN ?_ _))).mono ?_; rintro ex w5 ⟨rfl, rfl⟩)
        | (go_at_call 15; refine (LV.out _ G4.out).mono ?_; rintro ex w6 ⟨⟨lo, lc, rfl, vs6, hl6⟩, g6⟩; have E6 : Aside (ES w6 bo n k v g ∧ VS w6 lo L ∧ ln ≤ lc) := ⟨E4.out.1.gw g6, vs6, hl6⟩; have G6 : Hid (Gw w2 w6) := G4.out.trans g6; clear g6 vs6 hl6)
        | (go_at_call 17; refine (O2.out _ bo bc lo lc E4.out.2.1 E4.out.2.2 E6.out.2.2 E6.out.1 E6.out.2.1).mono ?_; rintro ex w7 ⟨⟨pa, Sa, rfl, ra⟩, g7⟩; have R7 : Aside (HR w7 pa Sa eps k v g n L) := ra; have G7 : Hid (Gw w2 w7) := G6.out.trans g7; clear g7 ra)))
    go_wp2_with fail
    have HW7 : Hid (∀ w', Gw w7 w' → Gw w7 w' ∧ w'.cell? ⟨p, 0, none⟩ = some (.pointer (some ⟨pp, 0, none⟩))) := fun w' gg => ⟨gg, (HW.out w' (G7.out.trans gg)).2⟩
    clear E4 E6 G4 G6
    go_region_held3 (fun w' => Gw w7 w' ∧ w'.cell? ⟨p, 0, none⟩ = some (.pointer (some ⟨pp, 0, none⟩)))
      ((refine HW7.out _ ?_; (repeat (first | exact Gw.refl _ | exact And.left (by assumption) | exact Hid.out (by assumption) | refine Gw.drew ?_ | refine Gw.trans ?_ (by assumption))); done))
      ((first
        | (go_at_call 14; refine (LI.out _ (G7.out.trans (by repeat (first | exact Gw.refl _ | exact And.left (by assumption) | exact Hid.out (by assumption) | refine Gw.drew ?_ | refine Gw.drewN ?_ _)))).mono ?_; rintro ex w8 ⟨⟨bo8, bc8, rfl, es8, bl8⟩, g8⟩; have E8 : Aside (ES w8 bo8 n k v g ∧ n ≤ bc8 ∧ (bo8 = none → n = 0 ∧ bc8 = 0)) := ⟨es8, bl8⟩; have G8 : Hid (Gw w7 w8) := (Gw.trans (by repeat (first | exact Gw.refl _ | exact And.left (by assumption) | exact Hid.out (by assumption) | refine Gw.drew ?_ | refine Gw.drewN ?_ _)) g8); clear g8 es8 bl8)
        | (go_at_call 22; refine (EP.out _ (G7.out.trans (by repeat (first | exact Gw.refl _ | exact And.left (by assumption) | exact Hid.out (by assumption) | refine Gw.drew ?_ | refine Gw.drewN ?_ _)))).mono ?_; rintro ex w9 ⟨rfl, rfl⟩)
        | (go_at_call 10; refine (N2.out _ bo8 bc8 E8.out.2.1 E8.out.2.2 E8.out.1).mono ?_; rintro ex w10 ⟨⟨pb, Sb, rfl, rb⟩, g10⟩; have RB : Aside (HR w10 pb Sb eps k v g n L) := rb; have G10 : Hid (Gw w7 w10) := G8.out.trans g10; clear g10 rb)))
    have GG : Aside (Gw w w10) := (G2.out.trans G7.out).trans G10.out
    have RA : Aside (HR w10 pa Sa eps k v g n L) := HH.out.gw R7.out G10.out
    have RR : Aside (HR w10 p S eps k v g n L) := HH.out.gw (HH.out.gw R2.out G7.out) G10.out
    clear R7 R2 G7 G10 G8 E8 LI LV EP O2 N2 HW HW7 NW CK OF
    go_wp2_with fail
    refine Calls.mono (LIW.out _ pa Sa RA.out) ?_
    rintro e w20 ⟨⟨xo, xc, rfl, es⟩, gg⟩
    have GG' : Aside (Gw w w20) := GG.out.trans gg
    have RA' : Aside (HR w20 pa Sa eps k v g n L) := HH.out.gw RA.out gg
    have RB' : Aside (HR w20 pb Sb eps k v g n L) := HH.out.gw RB.out gg
    have RR' : Aside (HR w20 p S eps k v g n L) := HH.out.gw RR.out gg
    have EX : Aside (ES w20 xo n k v g) := es
    clear es
    clear GG RA RB RR gg
    have GG := GG'
    have RA := RA'
    have RB := RB'
    have RR := RR'
    clear GG' RA' RB' RR'
    go_wp2_with fail
    refine Calls.mono (SL.out _ xo xc GG.out EX.out) ?_
    rintro e w21 ⟨rfl, gg⟩
    have GG' : Aside (Gw w w21) := GG.out.trans gg
    have RA' : Aside (HR w21 pa Sa eps k v g n L) := HH.out.gw RA.out gg
    have RB' : Aside (HR w21 pb Sb eps k v g n L) := HH.out.gw RB.out gg
    have RR' : Aside (HR w21 p S eps k v g n L) := HH.out.gw RR.out gg
    clear EX
    clear GG RA RB RR gg
    have GG := GG'
    have RA := RA'
    have RB := RB'
    have RR := RR'
    clear GG' RA' RB' RR'
    go_wp2_with fail
    refine Calls.mono (LIW.out _ pb Sb RB.out) ?_
    rintro e w22 ⟨⟨xo, xc, rfl, es⟩, gg⟩
    have GG' : Aside (Gw w w22) := GG.out.trans gg
    have RA' : Aside (HR w22 pa Sa eps k v g n L) := HH.out.gw RA.out gg
    have RB' : Aside (HR w22 pb Sb eps k v g n L) := HH.out.gw RB.out gg
    have RR' : Aside (HR w22 p S eps k v g n L) := HH.out.gw RR.out gg
    have EX : Aside (ES w22 xo n k v g) := es
    clear es
    clear GG RA RB RR gg
    have GG := GG'
    have RA := RA'
    have RB := RB'
    have RR := RR'
    clear GG' RA' RB' RR'
    go_wp2_with fail
    refine Calls.mono (SL.out _ xo xc GG.out EX.out) ?_
    rintro e w23 ⟨rfl, gg⟩
    have GG' : Aside (Gw w w23) := GG.out.trans gg
    have RA' : Aside (HR w23 pa Sa eps k v g n L) := HH.out.gw RA.out gg
    have RB' : Aside (HR w23 pb Sb eps k v g n L) := HH.out.gw RB.out gg
    have RR' : Aside (HR w23 p S eps k v g n L) := HH.out.gw RR.out gg
    clear EX
    clear GG RA RB RR gg
    have GG := GG'
    have RA := RA'
    have RB := RB'
    have RR := RR'
    clear GG' RA' RB' RR'
    go_wp2_with fail
    refine Calls.mono (LVW.out _ pa Sa RA.out) ?_
    rintro e w24 ⟨⟨yo, yc, rfl, vs⟩, gg⟩
    have GG' : Aside (Gw w w24) := GG.out.trans gg
    have RA' : Aside (HR w24 pa Sa eps k v g n L) := HH.out.gw RA.out gg
    have RB' : Aside (HR w24 pb Sb eps k v g n L) := HH.out.gw RB.out gg
    have RR' : Aside (HR w24 p S eps k v g n L) := HH.out.gw RR.out gg
    have VX : Aside (VS w24 yo L) := vs
    clear vs
    clear GG RA RB RR gg
    have GG := GG'
    have RA := RA'
    have RB := RB'
    have RR := RR'
    clear GG' RA' RB' RR'
    go_wp2_with fail
    refine Calls.mono (LVW.out _ p S RR.out) ?_
    rintro e w25 ⟨⟨xo2, xc2, rfl, vs⟩, gg⟩
    have GG' : Aside (Gw w w25) := GG.out.trans gg
    have RA' : Aside (HR w25 pa Sa eps k v g n L) := HH.out.gw RA.out gg
    have RB' : Aside (HR w25 pb Sb eps k v g n L) := HH.out.gw RB.out gg
    have RR' : Aside (HR w25 p S eps k v g n L) := HH.out.gw RR.out gg
    have VY : Aside (VS w25 xo2 L) := vs
    have VX' : Aside (VS w25 yo L) := VX.out.gw gg
    clear vs VX
    have VX := VX'
    clear VX'
    clear GG RA RB RR gg
    have GG := GG'
    have RA := RA'
    have RB := RB'
    have RR := RR'
    clear GG' RA' RB' RR'
    go_wp2_with fail
    refine Calls.mono (ML.out _ yo xo2 yc xc2 VX.out VY.out) ?_
    rintro e w26 ⟨rfl, gg⟩
    have GG' : Aside (Gw w w26) := GG.out.trans gg
    have RA' : Aside (HR w26 pa Sa eps k v g n L) := HH.out.gw RA.out gg
    have RB' : Aside (HR w26 pb Sb eps k v g n L) := HH.out.gw RB.out gg
    have RR' : Aside (HR w26 p S eps k v g n L) := HH.out.gw RR.out gg
    clear VX VY
    clear GG RA RB RR gg
    have GG := GG'
    have RA := RA'
    have RB := RB'
    have RR := RR'
    clear GG' RA' RB' RR'
    go_wp2_with fail
    refine Calls.mono (LVW.out _ pb Sb RB.out) ?_
    rintro e w27 ⟨⟨yo, yc, rfl, vs⟩, gg⟩
    have GG' : Aside (Gw w w27) := GG.out.trans gg
    have RA' : Aside (HR w27 pa Sa eps k v g n L) := HH.out.gw RA.out gg
    have RB' : Aside (HR w27 pb Sb eps k v g n L) := HH.out.gw RB.out gg
    have RR' : Aside (HR w27 p S eps k v g n L) := HH.out.gw RR.out gg
    have VX : Aside (VS w27 yo L) := vs
    clear vs
    clear GG RA RB RR gg
    have GG := GG'
    have RA := RA'
    have RB := RB'
    have RR := RR'
    clear GG' RA' RB' RR'
    go_wp2_with fail
    refine Calls.mono (LVW.out _ p S RR.out) ?_
    rintro e w28 ⟨⟨xo2, xc2, rfl, vs⟩, gg⟩
    have GG' : Aside (Gw w w28) := GG.out.trans gg
    have RA' : Aside (HR w28 pa Sa eps k v g n L) := HH.out.gw RA.out gg
    have RB' : Aside (HR w28 pb Sb eps k v g n L) := HH.out.gw RB.out gg
    have RR' : Aside (HR w28 p S eps k v g n L) := HH.out.gw RR.out gg
    have VY : Aside (VS w28 xo2 L) := vs
    have VX' : Aside (VS w28 yo L) := VX.out.gw gg
    clear vs VX
    have VX := VX'
    clear VX'
    clear GG RA RB RR gg
    have GG := GG'
    have RA := RA'
    have RB := RB'
    have RR := RR'
    clear GG' RA' RB' RR'
    go_wp2_with fail
    refine Calls.mono (ML.out _ yo xo2 yc xc2 VX.out VY.out) ?_
    rintro e w29 ⟨rfl, gg⟩
    have GG' : Aside (Gw w w29) := GG.out.trans gg
    have RA' : Aside (HR w29 pa Sa eps k v g n L) := HH.out.gw RA.out gg
    have RB' : Aside (HR w29 pb Sb eps k v g n L) := HH.out.gw RB.out gg
    have RR' : Aside (HR w29 p S eps k v g n L) := HH.out.gw RR.out gg
    clear VX VY
    clear GG RA RB RR gg
    have GG := GG'
    have RA := RA'
    have RB := RB'
    have RR := RR'
    clear GG' RA' RB' RR'
    obtain ⟨qpa, spa, cpa, hpa, _⟩ := HH.out.pile RA.out
    have lpa : pa < w29.heap.size := HH.out.lt RA.out pa (HH.out.own RA.out)
    have EQ : Hid (Calls Tryz.prog 22 #[.pointer (some ⟨qpa, 0, none⟩)] w29 fun e w' => e = .returned (.int .i64 eps) ∧ w' = w29) := pl_eps hpa
    clear hpa
    go_wp2_with fail
    clear cpa lpa
    refine Calls.mono EQ.out ?_
    rintro e w30 ⟨rfl, rfl⟩
    clear EQ
    obtain ⟨qpb, spb, cpb, hpb, _⟩ := HH.out.pile RB.out
    have lpb : pb < w30.heap.size := HH.out.lt RB.out pb (HH.out.own RB.out)
    have EQ : Hid (Calls Tryz.prog 22 #[.pointer (some ⟨qpb, 0, none⟩)] w30 fun e w' => e = .returned (.int .i64 eps) ∧ w' = w30) := pl_eps hpb
    clear hpb
    go_wp2_with fail
    clear cpb lpb
    refine Calls.mono EQ.out ?_
    rintro e w31 ⟨rfl, rfl⟩
    clear EQ
    go_wp2_with fail
    go_ret
    exact ⟨rfl, GG.out⟩

end Go.Proofs.YtdikiaeagcokdaaGreat
