/- Layer 12's statements' alike: a run has these entries, this eps, these levels. -/
import Derived.Laws.StructEq
import Derived.Test.YtinefkljjnepjaaGreatAVCheck
import Derived.Test.YtinefkljjnepjaaGreatAPRd
namespace Go.Proofs.YtinefkljjnepjaaGreat
open Go.RowKit
set_option linter.unusedVariables false
attribute [local go_sem] run_store_float f64bits

set_option maxRecDepth 10000 in
set_option maxHeartbeats 4000000 in
theorem same12_seg (s : Sg) (w : World) :
    Calls Tryz.prog 53 #[sgV s, sgV s] w fun e w' => e = .returned (.bool true) ∧ Gw w w' := by
  obtain ⟨k, sl, ic, fr, te⟩ := s
  go_enter Tryz.func53, Tryz.ntmps53
  go_wp2_with fail
  go_quiet (first | simp only [f64bits])
  go_wp2_with fail
  go_ret
  exact ⟨rfl, (((Gw.refl w).alloc _ _).alloc _ _).drewN _⟩
set_option maxRecDepth 10000 in
set_option maxHeartbeats 8000000 in
theorem alike12 {HR : World → Nat → (Nat → Prop) → Int → (Nat → Int) → (Nat → Int) → (Nat → Bool) → Nat → List (List Sg) → Prop} (H : RunC HR) {w : World} {p : Nat} {S : Nat → Prop} {eps : Int} {k v : Nat → Int} {g : Nat → Bool} {n : Nat} {L : List (List Sg)} (h : HR w p S eps k v g n L) (bd : ∀ i, i < n → (0 ≤ k i ∧ k i < 18446744073709551616) ∧ (0 ≤ v i ∧ v i < 18446744073709551616)) (bo : Option Addr) (cb : Nat) (he : ES w bo n k v g) (vo : Option Addr) (vc : Nat) (hv : VS w vo L) :
    Calls Tryz.prog 15 #[.pointer (some ⟨p, 0, none⟩), .slice bo n cb, .int .i64 eps, .slice vo L.length vc] w fun e w' => e = .returned (.bool true) ∧ Gw w w' := by
  have HH : Hid (RunC HR) := H
  have R2 : Hid (HR w p S eps k v g n L) := h
  have BD : Hid (∀ i, i < n → (0 ≤ k i ∧ k i < 18446744073709551616) ∧ (0 ≤ v i ∧ v i < 18446744073709551616)) := bd
  have rdy := H.ready h
  have n1 := rdy.n1
  have HL : Aside (∀ i, i < L.length → (L.getD i []).length ≤ 4000000) := fun i hi => by have := rdy.sh.2 i hi; omega
  obtain ⟨pp, Sp, cp0, hp, sub⟩ := H.pile h
  have pl : p < w.heap.size := H.lt h p (H.own h)
  obtain ⟨ln, hln⟩ : ∃ ln, L.length = ln := ⟨_, rfl⟩
  have LN : Aside (L.length = ln) := hln
  have s1 : ln ≤ 2000000 := hln ▸ rdy.sh.1
  have EP : Hid (∀ W, Gw w W → Calls Tryz.prog 18 #[.pointer (some ⟨pp, 0, none⟩)] W fun e w' => e = .returned (.int .i64 eps) ∧ w' = W) := fun W gg => pl_eps (hp.keep fun q hq => gg.below.block q (hp.lt q hq))
  have LI : Hid (∀ W, Gw w W → Calls Tryz.prog 16 #[.pointer (some ⟨p, 0, none⟩)] W fun e w' => (∃ bo c, e = .returned (.slice bo n c) ∧ ES w' bo n k v g) ∧ Gw W w') := fun W gg => (HH.out.list (HH.out.gw R2.out gg)).mono fun e w' ⟨⟨bo, c, a, er⟩, b⟩ => ⟨⟨bo, c, a, er_es er BD.out⟩, b⟩
  have LV : Hid (∀ W, Gw w W → Calls Tryz.prog 17 #[.pointer (some ⟨p, 0, none⟩)] W fun e w' => (∃ mo mc, e = .returned (.slice mo ln mc) ∧ VS w' mo L) ∧ Gw W w') := fun W gg => (HH.out.levels (HH.out.gw R2.out gg)).mono fun e w' ⟨⟨mo, mc, vals, a, ow, lok, hl⟩, b⟩ => ⟨⟨mo, mc, by rw [← LN.out]; exact a, (ow.vsf lok).vs⟩, b⟩
  have CP : Hid (∀ W, Gw w W → W.cell? ⟨p, 0, none⟩ = some (.pointer (some ⟨pp, 0, none⟩)) ∧ p < W.heap.size) := fun W gg => ⟨(gg.cell _ _ pl).trans cp0, Nat.lt_of_lt_of_le pl gg.size⟩
  have EB0 : Hid (ES w bo n k v g ∧ VS w vo L) := ⟨he, hv⟩
  rw [hln]
  clear H h rdy hp sub hln bd he hv cp0 pl
  go_enter Tryz.func15, Tryz.ntmps15
  go_wp2_with fail
  refine (LI.out w (Gw.refl w)).mono ?_
  rintro e w1 ⟨⟨ao, ca, rfl, ea⟩, g1⟩
  have G1 : Hid (Gw w w1) := g1
  have EA1 : Hid (ES w1 ao n k v g) := ea
  clear ea g1
  go_wp2_with fail
  refine (LV.out w1 G1.out).mono ?_
  rintro e w2 ⟨⟨mo, mc, rfl, va⟩, g2⟩
  have G2 : Hid (Gw w w2) := G1.out.trans g2
  have EA : Aside (ES w2 ao n k v g) := EA1.out.gw g2
  have EB : Aside (ES w2 bo n k v g) := EB0.out.1.gw G2.out
  have VA : Aside (VS w2 mo L) := va
  have VB : Aside (VS w2 vo L) := EB0.out.2.gw G2.out
  obtain ⟨c0, l0⟩ := CP.out _ G2.out
  clear va g2 EA1 EB0 G1 LI LV CP
  go_wp2_with fail
  refine (EP.out w2 G2.out).mono ?_
  rintro e w3 ⟨rfl, hw⟩
  subst hw
  clear EP c0 l0
  go_wp2_with fail
  go_loopg [11] n (fun gg s5 wr => ∃ i : Nat, s5 = .int .i64 i ∧ i ≤ n ∧ n - i ≤ gg ∧ Aside (Gw w3 wr))
  case atStart => exact ⟨0, rfl, Nat.zero_le _, by omega, (show Aside _ from Gw.refl _)⟩
  case round =>
    obtain ⟨i, rfl, h1, h2, G⟩ := hrel
    by_cases hlt : i < n
    · obtain ⟨ab, af, rfl, hab, hac⟩ := (EA.out.gw G.out).cells (by omega)
      obtain ⟨bb, bf, rfl, hbb, hbc⟩ := (EB.out.gw G.out).cells (by omega)
      obtain ⟨c0, c1, c2⟩ := hac i hlt
      obtain ⟨d0, d1, d2⟩ := hbc i hlt
      have hlt' : (i : Int) < (n : Int) := by omega
      generalize k i = ki at c0 d0
      generalize v i = vi at c1 d1
      generalize g i = gi at c2 d2
      clear hac hbc
      go_wp2_with fail
      go_quiet (fail)
      go_wp2_with fail
      go_roundg (n - (i + 1))
      case measure => omega
      case rel => exact ⟨i + 1, by go_num, by omega, Nat.le_refl _, (show Aside _ from G.out.drewN _)⟩
    · have GG0 : Aside (Gw w3 wr) := G.out
      clear EA EB
      go_wp2_with fail
      go_loopg [12] ln (fun gg s5 wr => ∃ i : Nat, s5 = .int .i64 i ∧ i ≤ ln ∧ ln - i ≤ gg ∧ Aside (Gw w3 wr))
      case atStart => exact ⟨0, rfl, Nat.zero_le _, by omega, GG0⟩
      case round =>
        clear GG0 G hlt h1 h2
        obtain ⟨i, rfl, h1, h2, G⟩ := hrel
        by_cases hlt : i < ln
        · obtain ⟨ab, af, rfl, hab, hac⟩ := (VA.out.gw G.out).cells (by rw [LN.out]; omega)
          obtain ⟨so, sc, p1, _, _, p4⟩ := hac i (by rw [LN.out]; exact hlt)
          obtain ⟨bb, bf, rfl, hbb, hbc⟩ := (VB.out.gw G.out).cells (by rw [LN.out]; omega)
          obtain ⟨to_, tc, q1, _, _, q4⟩ := hbc i (by rw [LN.out]; exact hlt)
          have sl := HL.out i (by rw [LN.out]; exact hlt)
          clear hac hbc
          generalize L.getD i [] = l at p1 p4 q1 q4 sl
          have GA : Aside (GS wr so l) := p4
          have GB : Aside (GS wr to_ l) := q4
          obtain ⟨sn, hsn⟩ : ∃ sn, l.length = sn := ⟨_, rfl⟩
          have SN : Aside (l.length = sn) := hsn
          rw [hsn] at p1 q1 sl
          have L8 : Aside ((wr.cell? ⟨ab, af + i, none⟩ = some (.slice so sn sc) ∧ ab < wr.heap.size) ∧ (wr.cell? ⟨bb, bf + i, none⟩ = some (.slice to_ sn tc) ∧ bb < wr.heap.size)) := ⟨⟨p1, hab⟩, ⟨q1, hbb⟩⟩
          obtain ⟨w8, hw8⟩ : ∃ wx, wx = wr := ⟨_, rfl⟩
          subst hw8
          clear hsn p4 q4
          go_wp2_with fail
          go_quiet (fail)
          go_wp2_with fail
          have D9 : Aside (Gw w8 (w8.drewN nq)) := (Gw.refl w8).drewN _
          generalize w8.drewN nq = w9 at D9 ⊢
          clear p1 q1 hab hbb
          go_loopg [13] sn (fun gg s6 wr => ∃ k : Nat, s6 = .int .i64 k ∧ k ≤ sn ∧ sn - k ≤ gg ∧ Aside (Gw w8 wr))
          case atStart => exact ⟨0, rfl, Nat.zero_le _, by omega, D9⟩
          case round =>
            obtain ⟨k, rfl, j1, j2, GW⟩ := hrel
            have p1 : wr.cell? ⟨ab, af + i, none⟩ = some (.slice so sn sc) := (GW.out.cell _ _ L8.out.1.2).trans L8.out.1.1
            have hab : ab < wr.heap.size := Nat.lt_of_lt_of_le L8.out.1.2 GW.out.size
            by_cases klt : k < sn
            · have q1 : wr.cell? ⟨bb, bf + i, none⟩ = some (.slice to_ sn tc) := (GW.out.cell _ _ L8.out.2.2).trans L8.out.2.1
              have hbb : bb < wr.heap.size := Nat.lt_of_lt_of_le L8.out.2.2 GW.out.size
              obtain ⟨sb, sf, rfl, hsb, hsc⟩ := (GA.out.gw GW.out).cells (by rw [SN.out]; omega)
              obtain ⟨tb, tf, rfl, htb, htc⟩ := (GB.out.gw GW.out).cells (by rw [SN.out]; omega)
              have C := hsc k (by rw [SN.out]; exact klt)
              have D := htc k (by rw [SN.out]; exact klt)
              clear hsc htc
              generalize l.getD k sg0 = s at C D
              obtain ⟨sk, ssl, sic, sfr, ste⟩ := s
              have c0 : wr.cell? ⟨sb, sf + k * 5, none⟩ = some (.int .u64 sk) := C.c0
              have c1 : wr.cell? ⟨sb, sf + k * 5 + 1, none⟩ = some (.float .f64 ssl) := C.c1
              have c2 : wr.cell? ⟨sb, sf + k * 5 + 2, none⟩ = some (.float .f64 sic) := C.c2
              have c3 : wr.cell? ⟨sb, sf + k * 5 + 3, none⟩ = some (.int .i64 sfr) := C.c3
              have c4 : wr.cell? ⟨sb, sf + k * 5 + 4, none⟩ = some (.int .i64 ste) := C.c4
              have d0 : wr.cell? ⟨tb, tf + k * 5, none⟩ = some (.int .u64 sk) := D.c0
              have d1 : wr.cell? ⟨tb, tf + k * 5 + 1, none⟩ = some (.float .f64 ssl) := D.c1
              have d2 : wr.cell? ⟨tb, tf + k * 5 + 2, none⟩ = some (.float .f64 sic) := D.c2
              have d3 : wr.cell? ⟨tb, tf + k * 5 + 3, none⟩ = some (.int .i64 sfr) := D.c3
              have d4 : wr.cell? ⟨tb, tf + k * 5 + 4, none⟩ = some (.int .i64 ste) := D.c4
              have SS : Hid (∀ W, Calls Tryz.prog 53 #[.agg #[.int .u64 sk, .float .f64 ssl, .float .f64 sic, .int .i64 sfr, .int .i64 ste], .agg #[.int .u64 sk, .float .f64 ssl, .float .f64 sic, .int .i64 sfr, .int .i64 ste]] W fun e w' => e = .returned (.bool true) ∧ Gw W w') := fun W => same12_seg ⟨sk, ssl, sic, sfr, ste⟩ W
              have GW9 : Aside (Gw w8 wr) := GW.out
              have x1 := GX.cell p1 hab
              have x2 := GX.cell q1 hbb
              have y0 := GX.cell c0 hsb
              have y1 := GX.cell c1 hsb
              have y2 := GX.cell c2 hsb
              have y3 := GX.cell c3 hsb
              have y4 := GX.cell c4 hsb
              have z0 := GX.cell d0 htb
              have z1 := GX.cell d1 htb
              have z2 := GX.cell d2 htb
              have z3 := GX.cell d3 htb
              have z4 := GX.cell d4 htb
              have ne := GX.some wr
              clear C D
              go_wp2_with fail
              refine wp_region_growx (by kernel_rfl) (by kernel_rfl) ?_
              repeat (go_big_quiet_step (fail))
              go_big_quiet_want
              go_big_quiet_op
              go_big_quiet_call (exact growx_of (SS.out _))
              repeat (go_big_quiet_step (fail))
              refine wpQuiet_nil ?_
              rintro _ ⟨gw, rfl⟩
              clear x1 x2 y0 y1 y2 y3 y4 z0 z1 z2 z3 z4
              go_wp2_with fail
              go_roundg (sn - (k + 1))
              case measure => omega
              case rel => exact ⟨k + 1, by go_num, by omega, Nat.le_refl _, (show Aside _ from GW9.out.trans gw.gw)⟩
            · have ek : k = sn := by omega
              subst ek
              go_wp2_with fail
              go_roundg (ln - (i + 1))
              case measure => omega
              case rel => exact ⟨i + 1, by go_num, by omega, Nat.le_refl _, (show Aside _ from G.out.trans GW.out)⟩
        · go_wp2_with fail
          go_ret
          exact ⟨rfl, G2.out.trans G.out⟩

end Go.Proofs.YtinefkljjnepjaaGreat
