/- OctetsPuts, walked. -/
import Derived.Test.YtmioagkmedcflaaOShown
namespace Go.Proofs.Ytmioagkmedcflaa
open Go.RowKit
set_option linter.unusedVariables false
attribute [local go_sem] f64from f64bits

theorem own_of_row {w : World} {base b m : Nat} {t : TypeId} {f : Nat → Value} (h : w.rowIs b t m f) (hb : base ≤ b) (hm : m ≤ maxLen) : w.ownsRow base t 1 (.slice (some ⟨b, 0, none⟩) m m) m ((List.range m).map f) := by
  obtain ⟨c, h1, h2, h3⟩ := h
  refine ⟨by simp, .inr ⟨b, m, c, rfl, hb, h1, Nat.le_refl _, hm, by omega, ?_⟩⟩
  apply List.ext_getElem?
  intro i
  by_cases hi : i < m
  · rw [List.getElem?_take_of_lt (by omega)]
    simp [hi, h3 i hi]
  · rw [List.getElem?_eq_none (by simp; omega), List.getElem?_eq_none (by simp; omega)]

theorem br_some {w : World} {base : Nat} {v : Value} {f : Nat → Int} {n : Nat} (h : BR w base v f (n + 8)) : ¬ v = .slice none 0 0 := by
  intro e
  rcases h.2 with ⟨_, z⟩ | ⟨g, cap, cur, e', _⟩
  · omega
  · rw [e] at e'; cases e'
/-- What is kept: what was handed in, and the second answer. -/
def Kp (w : World) (ba by' n : Nat) (f : Nat → Int) (y : Nat) (W : World) : Prop :=
  Gw w W ∧ W.rowIs ba 5 (n + 9) (fun i => .int .u8 (mk10 n f i)) ∧ W.rowIs by' 5 (n + 8) (fun i => .int .u8 (cat f n (fun i => byt (y : Int) (7 - i)) i))
theorem Kp.gw {w W W' : World} {ba by' n : Nat} {f : Nat → Int} {y : Nat} (h : Kp w ba by' n f y W) (g : Gw W W') : Kp w ba by' n f y W' := ⟨h.1.trans g, rowIs_gb h.2.1 g, rowIs_gb h.2.2 g⟩
theorem Kp.set {w W : World} {ba bx by' n : Nat} {f : Nat → Int} {y : Nat} (h : Kp w ba by' n f y W) (n1 : ba ≠ bx) (n2 : by' ≠ bx) (n3 : w.heap.size ≤ bx) (i : Nat) (v : Value) : Kp w ba by' n f y (W.setCell ⟨bx, i, none⟩ v) :=
  ⟨h.1.setCell n3 v, h.2.1.setOther (a := ⟨bx, i, none⟩) n1 v, h.2.2.setOther (a := ⟨bx, i, none⟩) n2 v⟩
theorem Kp.grown {w W W' : World} {ba bx by' n cx : Nat} {f : Nat → Int} {y m : Nat} (h : Kp w ba by' n f y W) (g : W.grownBy W' (Value.slice (some ⟨bx, 0, none⟩) m cx).ownBlock) (n1 : ba ≠ bx) (n2 : by' ≠ bx) (n3 : w.heap.size ≤ bx) : Kp w ba by' n f y W' :=
  ⟨h.1.grown g (fun k hk => by cases hk; exact n3), h.2.1.of_block (g.block _ h.2.1.lt (fun e => n1 (by cases e; rfl))), h.2.2.of_block (g.block _ h.2.2.lt (fun e => n2 (by cases e; rfl)))⟩
theorem three_new (w : World) : ∀ t u, [Value.int .u8 1, .int .u8 2, .int .u8 3][t]? = some u → (w.alloc (.cells #[.int .u8 1, .int .u8 2, .int .u8 3] 5)).cell? ((⟨w.heap.size, 0, none⟩ : Addr).add t) = some u := by
  intro t u h
  have r := World.rowIs_alloc w #[.int .u8 1, .int .u8 2, .int .u8 3] 5 (fun i => .int .u8 (1 + (i : Int))) (fun i hi => by
    have : i = 0 ∨ i = 1 ∨ i = 2 := by simp at hi; omega
    rcases this with rfl | rfl | rfl <;> rfl)
  have ht : t < 3 := by
    have := (List.getElem?_eq_some_iff.1 h).1
    simpa using this
  rw [Addr.add_lit, Nat.zero_add, r.cell (i := t) ht]
  have : t = 0 ∨ t = 1 ∨ t = 2 := by omega
  rcases this with rfl | rfl | rfl <;> (simp at h; subst h; rfl)

set_option maxRecDepth 10000 in
set_option maxHeartbeats 4000000 in
theorem puts10_walk (ao : Option Addr) (n c : Nat) (f : Nat → Int) (x : Int) (x0 : 0 ≤ x) (x1 : x < 18446744073709551616) (bt : Int) (bt0 : 0 ≤ bt) (bt1 : bt < 18446744073709551616) (hn : n ≤ 140737488351232) (hz : ao = none → n = 0 ∧ c = 0) (w : World) (h : BS w ao n f) :
    Calls Try.prog 3 #[.slice ao n c, .int .u64 x, .int .u64 bt] w fun e w' => e = .returned (.bool true) ∧ Gw w w' := by
  have HK : Aside (BS w ao n f) := h
  have HZ : Aside (ao = none → n = 0 ∧ c = 0) := hz
  have FB : Aside (∀ i, i < n → 0 ≤ f i ∧ f i < 256) := h.bd
  obtain ⟨y, rfl⟩ : ∃ y : Nat, bt = (y : Int) := ⟨bt.toNat, by omega⟩
  have y1 : y < 18446744073709551616 := by omega
  clear h hz
  go_enter Try.func3, Try.ntmps3
  go_wp2_with fail
  refine Calls.mono (shown10 w) ?_
  rintro e w1 ⟨rfl, g1⟩
  have G1 : Aside (Gw w w1) := g1
  clear g1
  go_wp2_with fail
  refine Calls.mono (lent10_any ao n c f hn w1 (HK.out.gw G1.out)) ?_
  rintro e w2 ⟨⟨ba, rfl, hba, Ra⟩, g2⟩
  have G2 : Aside (Gw w w2) := G1.out.trans g2
  have RA2 : Aside (w2.rowIs ba 5 (n + 9) (fun i => .int .u8 (mk10 n f i))) := Ra
  clear hba Ra g2 G1
  go_wp2_with fail
  have BA2 : BS w2 (some ⟨ba, 0, none⟩) n f := (bs_of_row RA2.out (by omega) (fun i hi => by unfold mk10; rw [if_pos hi]; exact FB.out i hi)).congr fun i hi => by unfold mk10; rw [if_pos hi]
  refine Calls.mono (xput_any _ n (n + 9) f x x0 x1 (by omega) w2 BA2) ?_
  rintro e w3 ⟨⟨bx, rfl, hbx, Rx⟩, g3⟩
  have G3 : Aside (Gw w w3) := G2.out.trans g3
  have RA3 : Aside (w3.rowIs ba 5 (n + 9) (fun i => .int .u8 (mk10 n f i))) := rowIs_gb RA2.out g3
  have RX3 : Aside (w3.rowIs bx 5 (n + 8) (fun i => .int .u8 (cat f n (fun i => byt x (7 - i)) i))) := Rx
  have NE1 : Aside (ba ≠ bx ∧ w.heap.size ≤ bx) := by
    have := RA2.out.lt
    have := G2.out.size
    exact ⟨by omega, by omega⟩
  have BA3 : BS w3 (some ⟨ba, 0, none⟩) n f := BA2.gw g3
  have BA3' : Aside (BS w3 (some ⟨ba, 0, none⟩) n f) := BA3
  clear hbx Rx g3 G2 RA2 BA2 BA3
  go_wp2_with fail
  refine Calls.mono (xputf_any _ n (n + 9) f y y1 (by omega) w3 BA3'.out) ?_
  rintro e w4 ⟨⟨by', rfl, hby, Ry⟩, g4⟩
  have G4 : Aside (Gw w w4) := G3.out.trans g4
  have RA4 : Aside (w4.rowIs ba 5 (n + 9) (fun i => .int .u8 (mk10 n f i))) := rowIs_gb RA3.out g4
  have RX4 : Aside (w4.rowIs bx 5 (n + 8) (fun i => .int .u8 (cat f n (fun i => byt x (7 - i)) i))) := rowIs_gb RX3.out g4
  have RY4 : Aside (w4.rowIs by' 5 (n + 8) (fun i => .int .u8 (cat f n (fun i => byt (y : Int) (7 - i)) i))) := Ry
  have NE2 : Aside (by' ≠ bx) := by
    have := RX3.out.lt
    show by' ≠ bx
    omega
  clear hby Ry g4 G3 RA3 RX3 BA3'
  go_wp2_with fail
  refine Calls.mono (kept10_any ao ba n c f hn w4 (HK.out.gw G4.out) RA4.out) ?_
  rintro e w5 ⟨rfl, g5⟩
  have KP : Aside (Kp w ba by' n f y w5) := ⟨G4.out.trans g5, rowIs_gb RA4.out g5, rowIs_gb RY4.out g5⟩
  have RX : Aside (w5.rowIs bx 5 (n + 8) (fun i => .int .u8 (cat f n (fun i => byt x (7 - i)) i))) := rowIs_gb RX4.out g5
  clear g5 G4 RA4 RX4 RY4
  go_wp2_with fail
  refine Calls.mono (rput_any ao n c f x x0 x1 (by omega) HZ.out w5 (HK.out.gw KP.out.1)) ?_
  rintro e w6a ⟨⟨v, rfl, rv⟩, gv⟩
  obtain ⟨vg, vc, rfl, _, _, _⟩ := own_slice rv (br_some rv)
  have BV : BS w6a (some ⟨vg, 0, none⟩) (n + 8) (cat f n (fun i => byt x (7 - i))) := br_bs rv (cat_bd FB.out (fun i _ => byt_bd _ _))
  have BW : BS w6a (some ⟨bx, 0, none⟩) (n + 8) (cat f n (fun i => byt x (7 - i))) := (bs_of_row RX.out (Nat.le_refl _) (cat_bd FB.out (fun i _ => byt_bd _ _))).gw gv
  have SM : Hid (Calls Try.prog 13 #[.slice (some ⟨bx, 0, none⟩) (n + 8) (n + 8), .slice (some ⟨vg, 0, none⟩) (n + 8) vc] w6a fun e w' => e = .returned (.bool true) ∧ Gw w6a w') := same10_any (m := 0) BW BV fun i _ => rfl
  have GV : Aside (Gw w5 w6a) := gv
  clear rv gv BV BW
  go_wp2_with fail
  refine Calls.mono SM.out ?_
  rintro e w6 ⟨rfl, gs⟩
  have RX9 : Aside (w6.rowIs bx 5 (n + 8) (fun i => .int .u8 (cat f n (fun i => byt x (7 - i)) i))) := rowIs_gb RX.out (GV.out.trans gs)
  have KP9 : Aside (Kp w ba by' n f y w6) := KP.out.gw (GV.out.trans gs)
  clear gs GV SM KP RX
  have KP := KP9
  clear KP9
  have RX := RX9
  clear RX9
  have SN := self_ne y
  by_cases nan : 9218868437227405312 < rg y
  · have sn : (FloatKind.f64.format.order y y != some .eq) = true := by rw [SN]; simpa using nan
    clear SN nan
    go_wp2_with fail
    go_loopg [15] (n + 8) (fun gg s15 wr => ∃ (i : Nat) (g : Nat → Value), s15 = .int .i64 (i : Int) ∧ i ≤ n + 8 ∧ n + 8 - i ≤ gg ∧ Aside (wr.rowIs bx 5 (n + 8) g) ∧ Aside (Kp w ba by' n f y wr))
    case atStart => exact ⟨0, _, rfl, Nat.zero_le _, by omega, RX, KP⟩
    case round =>
      clear RX KP
      obtain ⟨i, gx, rfl, a1, a2, RX, KP⟩ := hrel
      obtain ⟨wS, hwS⟩ : ∃ wx, wx = wr := ⟨_, rfl⟩
      subst hwS
      by_cases hlt : i < n + 8
      · have r0 := RX.out.cell (i := i) hlt
        have f0 := RX.out.frozen i
        have hlt' : (i : Int) < (n : Int) + 8 := by omega
        go_wp2_with fail
        go_roundg (n + 8 - (i + 1))
        case measure => omega
        case rel => exact ⟨i + 1, _, by go_num, by omega, Nat.le_refl _, (show Aside _ from RX.out.set i (.int .u8 5)), (show Aside _ from KP.out.set NE1.out.1 NE2.out NE1.out.2 _ _)⟩
      · have ei : i = n + 8 := by omega
        subst ei
        obtain ⟨ii, hii, iz, is, iby⟩ := info_parts info_b
        have OW : Aside ((wS.alloc (.cells #[.int .u8 1, .int .u8 2, .int .u8 3] 5)).ownsRow w.heap.size 5 1 (.slice (some ⟨bx, 0, none⟩) (n + 8) (n + 8)) (n + 8) ((List.range (n + 8)).map gx)) := World.ownsRow.alloc (own_of_row RX.out NE1.out.2 (by simp only [maxLen]; omega)) _
        have NW : Aside (∀ t u, [Value.int .u8 1, .int .u8 2, .int .u8 3][t]? = some u → (wS.alloc (.cells #[.int .u8 1, .int .u8 2, .int .u8 3] 5)).cell? ((⟨wS.heap.size, 0, none⟩ : Addr).add t) = some u) := three_new wS
        have zs := KP.out.1.size
        have KPa : Aside (Kp w ba by' n f y (wS.alloc (.cells #[.int .u8 1, .int .u8 2, .int .u8 3] 5))) := KP.out.gw ((Gw.refl wS).alloc _ _)
        clear RX KP
        go_wp2_with (at_builtin; refine wpList_append_own _ rfl _ _ 22 rfl w.heap.size 5 ii (.int .u8 0) 1 1 Try.underlying22 hii iz is iby rfl (by decide) _ (n + 8) _ rfl OW.out ⟨wS.heap.size, 0, none⟩ 3 3 [.int .u8 1, .int .u8 2, .int .u8 3] rfl rfl NW.out (ints_oneCell .u8 [1, 2, 3]) (by simp only [maxLen]; omega) (by omega) (by simp; omega) ?_)
        intro v8 w8 r1 r2 r3
        obtain ⟨b8, cap8, ev, _, _, _⟩ := own_slice r1 (by simpa using r3)
        subst ev
        have KP : Aside (Kp w ba by' n f y w8) := KPa.out.grown r2 NE1.out.1 NE2.out NE1.out.2
        clear r1 r2 r3 KPa OW NW
        go_wp2_with fail
        refine Calls.mono (kept10_any ao ba n c f hn w8 (HK.out.gw KP.out.1) KP.out.2.1) ?_
        rintro e w9 ⟨rfl, g9⟩
        have KP9 : Aside (Kp w ba by' n f y w9) := KP.out.gw g9
        clear KP g9
        have KP := KP9
        clear KP9
        have t11 : ((n : Int) + 8 + 3 == (n : Int) + 11) = true := by simp; omega
        go_wp2_with fail
        have KF := KP
        clear KP
        go_ret
        exact ⟨rfl, KF.out.1⟩
  · have sn : (FloatKind.f64.format.order y y != some .eq) = false := by rw [SN]; simpa using nan
    clear SN nan
    go_wp2_with fail
    refine Calls.mono (rputf_any ao n c f y y1 (by omega) HZ.out w6 (HK.out.gw KP.out.1)) ?_
    rintro e w7a ⟨⟨v, rfl, rv⟩, gv⟩
    obtain ⟨vg, vc, rfl, _, _, _⟩ := own_slice rv (br_some rv)
    have BV : BS w7a (some ⟨vg, 0, none⟩) (n + 8) (cat f n (fun i => byt (y : Int) (7 - i))) := br_bs rv (cat_bd FB.out (fun i _ => byt_bd _ _))
    have BW : BS w7a (some ⟨by', 0, none⟩) (n + 8) (cat f n (fun i => byt (y : Int) (7 - i))) := (bs_of_row KP.out.2.2 (Nat.le_refl _) (cat_bd FB.out (fun i _ => byt_bd _ _))).gw gv
    have SM : Hid (Calls Try.prog 13 #[.slice (some ⟨by', 0, none⟩) (n + 8) (n + 8), .slice (some ⟨vg, 0, none⟩) (n + 8) vc] w7a fun e w' => e = .returned (.bool true) ∧ Gw w7a w') := same10_any (m := 0) BW BV fun i _ => rfl
    have GV : Aside (Gw w6 w7a) := gv
    clear rv gv BV BW
    go_wp2_with fail
    refine Calls.mono SM.out ?_
    rintro e w7 ⟨rfl, gs⟩
    have RX9 : Aside (w7.rowIs bx 5 (n + 8) (fun i => .int .u8 (cat f n (fun i => byt x (7 - i)) i))) := rowIs_gb RX.out (GV.out.trans gs)
    have KP9 : Aside (Kp w ba by' n f y w7) := KP.out.gw (GV.out.trans gs)
    clear gs GV SM KP RX
    have KP := KP9
    clear KP9
    have RX := RX9
    clear RX9
    go_wp2_with fail
    go_loopg [15] (n + 8) (fun gg s15 wr => ∃ (i : Nat) (g : Nat → Value), s15 = .int .i64 (i : Int) ∧ i ≤ n + 8 ∧ n + 8 - i ≤ gg ∧ Aside (wr.rowIs bx 5 (n + 8) g) ∧ Aside (Kp w ba by' n f y wr))
    case atStart => exact ⟨0, _, rfl, Nat.zero_le _, by omega, RX, KP⟩
    case round =>
      clear RX KP
      obtain ⟨i, gx, rfl, a1, a2, RX, KP⟩ := hrel
      obtain ⟨wS, hwS⟩ : ∃ wx, wx = wr := ⟨_, rfl⟩
      subst hwS
      by_cases hlt : i < n + 8
      · have r0 := RX.out.cell (i := i) hlt
        have f0 := RX.out.frozen i
        have hlt' : (i : Int) < (n : Int) + 8 := by omega
        go_wp2_with fail
        go_roundg (n + 8 - (i + 1))
        case measure => omega
        case rel => exact ⟨i + 1, _, by go_num, by omega, Nat.le_refl _, (show Aside _ from RX.out.set i (.int .u8 5)), (show Aside _ from KP.out.set NE1.out.1 NE2.out NE1.out.2 _ _)⟩
      · have ei : i = n + 8 := by omega
        subst ei
        obtain ⟨ii, hii, iz, is, iby⟩ := info_parts info_b
        have OW : Aside ((wS.alloc (.cells #[.int .u8 1, .int .u8 2, .int .u8 3] 5)).ownsRow w.heap.size 5 1 (.slice (some ⟨bx, 0, none⟩) (n + 8) (n + 8)) (n + 8) ((List.range (n + 8)).map gx)) := World.ownsRow.alloc (own_of_row RX.out NE1.out.2 (by simp only [maxLen]; omega)) _
        have NW : Aside (∀ t u, [Value.int .u8 1, .int .u8 2, .int .u8 3][t]? = some u → (wS.alloc (.cells #[.int .u8 1, .int .u8 2, .int .u8 3] 5)).cell? ((⟨wS.heap.size, 0, none⟩ : Addr).add t) = some u) := three_new wS
        have zs := KP.out.1.size
        have KPa : Aside (Kp w ba by' n f y (wS.alloc (.cells #[.int .u8 1, .int .u8 2, .int .u8 3] 5))) := KP.out.gw ((Gw.refl wS).alloc _ _)
        clear RX KP
        go_wp2_with (at_builtin; refine wpList_append_own _ rfl _ _ 22 rfl w.heap.size 5 ii (.int .u8 0) 1 1 Try.underlying22 hii iz is iby rfl (by decide) _ (n + 8) _ rfl OW.out ⟨wS.heap.size, 0, none⟩ 3 3 [.int .u8 1, .int .u8 2, .int .u8 3] rfl rfl NW.out (ints_oneCell .u8 [1, 2, 3]) (by simp only [maxLen]; omega) (by omega) (by simp; omega) ?_)
        intro v8 w8 r1 r2 r3
        obtain ⟨b8, cap8, ev, _, _, _⟩ := own_slice r1 (by simpa using r3)
        subst ev
        have KP : Aside (Kp w ba by' n f y w8) := KPa.out.grown r2 NE1.out.1 NE2.out NE1.out.2
        clear r1 r2 r3 KPa OW NW
        go_wp2_with fail
        refine Calls.mono (kept10_any ao ba n c f hn w8 (HK.out.gw KP.out.1) KP.out.2.1) ?_
        rintro e w9 ⟨rfl, g9⟩
        have KP9 : Aside (Kp w ba by' n f y w9) := KP.out.gw g9
        clear KP g9
        have KP := KP9
        clear KP9
        have t11 : ((n : Int) + 8 + 3 == (n : Int) + 11) = true := by simp; omega
        go_wp2_with fail
        refine Calls.mono (rputf_any ao n c f y y1 (by omega) HZ.out w9 (HK.out.gw KP.out.1)) ?_
        rintro e w10a ⟨⟨v, rfl, rv⟩, gv⟩
        obtain ⟨vg, vc, rfl, _, _, _⟩ := own_slice rv (br_some rv)
        have BV : BS w10a (some ⟨vg, 0, none⟩) (n + 8) (cat f n (fun i => byt (y : Int) (7 - i))) := br_bs rv (cat_bd FB.out (fun i _ => byt_bd _ _))
        have BW : BS w10a (some ⟨by', 0, none⟩) (n + 8) (cat f n (fun i => byt (y : Int) (7 - i))) := (bs_of_row KP.out.2.2 (Nat.le_refl _) (cat_bd FB.out (fun i _ => byt_bd _ _))).gw gv
        have SM : Hid (Calls Try.prog 13 #[.slice (some ⟨by', 0, none⟩) (n + 8) (n + 8), .slice (some ⟨vg, 0, none⟩) (n + 8) vc] w10a fun e w' => e = .returned (.bool true) ∧ Gw w10a w') := same10_any (m := 0) BW BV fun i _ => rfl
        have GV : Aside (Gw w9 w10a) := gv
        clear rv gv BV BW
        go_wp2_with fail
        refine Calls.mono SM.out ?_
        rintro e w10 ⟨rfl, gs⟩
        have KP9 : Aside (Kp w ba by' n f y w10) := KP.out.gw (GV.out.trans gs)
        clear gs GV SM KP
        have KP := KP9
        clear KP9
        go_wp2_with fail
        have KF := KP
        clear KP
        go_ret
        exact ⟨rfl, KF.out.1⟩

end Go.Proofs.Ytmioagkmedcflaa
