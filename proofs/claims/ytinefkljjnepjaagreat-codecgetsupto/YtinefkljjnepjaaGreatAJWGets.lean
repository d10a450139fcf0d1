/- CodecGets: the walk. -/
import Derived.Test.YtinefkljjnepjaaGreatAR4Fit
import Derived.Test.YtinefkljjnepjaaGreatAJS
import Derived.Test.YtinefkljjnepjaaGreatAJD2
import Derived.Test.YtinefkljjnepjaaGreatAJA
namespace Go.Proofs.YtinefkljjnepjaaGreat
open Go.RowKit
set_option linter.unusedVariables false

set_option maxRecDepth 10000 in
set_option maxHeartbeats 4000000 in
theorem gets_walk {HR : World → Nat → (Nat → Prop) → Int → (Nat → Int) → (Nat → Int) → (Nat → Bool) → Nat → List (List Sg) → Prop} (H : RunC HR) (ao : Option Addr) (m cp : Nat) (f : Nat → Int) (hm : m ≤ 2000000) (hcp : m ≤ cp) (hz : ao = none → m = 0 ∧ cp = 0) (w : World) (h : BS w ao m f) :
    Calls Tryz.prog 4 #[.slice ao m cp] w fun e w' => e = .returned (.bool true) ∧ Gw w w' := by
  have HH : Hid (RunC HR) := H
  have HB : Hid (BS w ao m f) := h
  have HZ : Hid (ao = none → m = 0 ∧ cp = 0) := hz
  clear H h hz
  go_enter Tryz.func4, Tryz.ntmps4
  go_wp2_with fail
  refine (shown12 HH.out w).mono ?_
  rintro e w1 ⟨rfl, g1⟩
  have G1 : Hid (Gw w w1) := g1
  have hmk := made_b (m + 5) ((m : Int) + 5) (by omega) (by omega) w1
  have hR := World.rowIs_made w1 (.int .u8 0) (m + 5) 5
  have hG := (Gw.refl w1).alloc (madeCells #[.int .u8 0] (m + 5)) 5
  obtain ⟨b, hb⟩ : ∃ b, b = w1.heap.size := ⟨_, rfl⟩
  rw [← hb] at hR
  obtain ⟨w2, hcp2, hR2, hG2⟩ := copy_brun 3 ao m cp (m + 5) (m + 5) f _ ((HB.out.gw g1).gw hG) (by omega) (Nat.le_refl _) b _ hR
  replace hG2 := hG2 w1 hG (by omega)
  have RR : Hid (w2.rowIs b 5 (m + 5) (fun i => .int .u8 (if i < m then f i else 0))) := hR2.congr fun j hj => by by_cases c : j < m <;> simp [c]
  have G2 : Hid (Gw w w2) := g1.trans hG2
  have BL2 : Hid (b < w2.heap.size) := RR.out.lt
  have BW : Hid (w.heap.size ≤ b) := by show _ ≤ _; rw [hb]; exact g1.size
  rw [hb] at hcp2
  clear g1 hR hR2 hG hG2 G1
  go_wp2_with fail
  rw [← hb]
  clear hb hmk hcp2
  have BA : Hid (∀ W, W.rowIs b 5 (m + 5) (fun i => .int .u8 (if i < m then f i else 0)) → BS W (some ⟨b, 0, none⟩) m f) := fun W hr => (bs_of_row (f := fun i => if i < m then f i else 0) hr (by omega) (fun i hi => by rw [if_pos hi]; exact HB.out.bd i hi)).congr fun i hi => by rw [if_pos hi]
  refine (jget HH.out (some ⟨b, 0, none⟩) m (m + 5) f (by omega) (.few (by omega)) w2 (BA.out _ RR.out)).mono ?_
  rintro e w3 ⟨hGo, g3⟩
  have G3 : Hid (Gw w w3) := G2.out.trans g3
  have R3 : Hid (w3.rowIs b 5 (m + 5) (fun i => .int .u8 (if i < m then f i else 0))) := rowIs_gb RR.out g3
  clear g3 RR G2
  by_cases ft : Fit f m
  · rcases hGo with ⟨_, px, Sx, rfl, hSx, hrx, rgx⟩ | ⟨nf, _⟩
    rotate_left
    · exact absurd ft nf
    have X3 : Hid (HR w3 px Sx (numR f 4 8) (kF f) (vF f) (gF f) (nF f) (LF f) ∧ RunG (numR f 4 8) (kF f) (vF f) (gF f) (nF f) (LF f)) := ⟨hrx, rgx⟩
    have FT : Hid (Fit f m) := ft
    have NB : Hid (∀ q, Sx q → q ≠ b) := fun q hq => by have := hSx q hq; have := BL2.out; omega
    clear hSx hrx rgx ft
    go_wp2_with fail
    refine (dget ao m cp f (by omega) HZ.out (.few (by omega)) w3 (HB.out.gw G3.out)).mono ?_
    rintro e w4 ⟨hD, g4⟩
    rcases hD with ⟨_, py, Sy, rfl, hSy, hdy⟩ | ⟨nf, _⟩
    rotate_left
    · exact absurd FT.out nf
    have G4 : Hid (Gw w w4) := G3.out.trans g4
    have R4 := rowIs_gb R3.out g4
    have X4 : Hid (HR w4 px Sx (numR f 4 8) (kF f) (vF f) (gF f) (nF f) (LF f)) := HH.out.gw X3.out.1 g4
    have Y4 : Hid (HDoc w4 py Sy (numR f 4 8) (kF f) (vF f) (gF f) (nF f) (LF f) ∧ ∀ q, Sy q → q ≠ b) := ⟨hdy, fun q hq => by have := hSy q hq; have := R3.out.lt; omega⟩
    clear hdy hSy g4
    have cv1 : ∀ k, (convert 31 9 (.slice (some ⟨b, 0, none⟩) m (m + 5))).run Tryz.prog (w4.drewN k) = .ok (.string (txt f m)) (w4.drewN k) := fun k => conv_b ((BA.out _ R4).gw ((Gw.refl w4).drewN k)) (m + 5)
    have cv2 : ∀ k, (convert 31 9 (.slice ao m cp)).run Tryz.prog (w4.drewN k) = .ok (.string (txt f m)) (w4.drewN k) := fun k => conv_b ((HB.out.gw G4.out).gw ((Gw.refl w4).drewN k)) cp
    have mc5 : m ≤ m + 5 := by omega
    generalize txt f m = tx at cv1 cv2
    go_wp2_with fail
    go_quiet (fail)
    go_wp2_with fail
    have DN : Hid (Gw w4 (w4.drewN nq)) := (Gw.refl w4).drewN _
    have RN : Hid ((w4.drewN nq).rowIs b 5 (m + 5) (fun j => .int .u8 (if j < 0 then 9 else if j < m then f j else 0))) := (rowIs_gb R4 DN.out).congr fun j hj => by rw [if_neg (show ¬ j < 0 by omega)]
    generalize w4.drewN nq = w5 at DN RN ⊢
    clear R4 cv1 cv2
    go_loopg [9] (m + 5) (fun gg s9 wr => ∃ i : Nat, s9 = .int .i64 i ∧ i ≤ m + 5 ∧ m + 5 - i ≤ gg ∧ Hid (wr.rowIs b 5 (m + 5) (fun j => .int .u8 (if j < i then 9 else if j < m then f j else 0))) ∧ Hid (Gs (fun q => q = b) w5 wr))
    case atStart => exact ⟨0, rfl, Nat.zero_le _, by omega, RN, (show Hid _ from (Gw.refl w5).gs _)⟩
    case round =>
      clear RN
      obtain ⟨i, rfl, h1, h2, RI, SI⟩ := hrel
      by_cases hlt : i < m + 5
      · have r0 := RI.out.cell (i := i) hlt
        have f0 := RI.out.frozen i
        have l0 := RI.out.lt
        have RX : Hid ((wr.setCell ⟨b, i, none⟩ (.int .u8 9)).rowIs b 5 (m + 5) (fun j => .int .u8 (if j < i + 1 then 9 else if j < m then f j else 0))) := (RI.out.set i (.int .u8 9)).congr fun j hj => by
          by_cases c : j = i
          · subst c; rw [if_pos rfl, if_pos (by omega)]
          · rw [if_neg c]
            by_cases c2 : j < i
            · rw [if_pos c2, if_pos (by omega)]
            · rw [if_neg c2, if_neg (show ¬ j < i + 1 by omega)]
        have SX : Hid (Gs (fun q => q = b) w5 (wr.setCell ⟨b, i, none⟩ (.int .u8 9))) := SI.out.set (q := b) rfl _ _
        clear RI SI
        by_cases ge : m ≤ i
        · have t1 : decide ((m : Int) ≤ (i : Int)) = true := by simpa using ge
          have t2 : decide (m ≤ i) = true := by simpa using ge
          rw [if_neg (by omega), if_neg (by omega)] at r0
          go_wp2_with fail
          go_roundg (m + 5 - (i + 1))
          case measure => omega
          case rel => exact ⟨i + 1, by go_num, by omega, Nat.le_refl _, RX, SX⟩
        · have t1 : decide ((m : Int) ≤ (i : Int)) = false := by simpa using ge
          have t2 : decide (m ≤ i) = false := by simpa using ge
          go_wp2_with fail
          go_roundg (m + 5 - (i + 1))
          case measure => omega
          case rel => exact ⟨i + 1, by go_num, by omega, Nat.le_refl _, RX, SX⟩
      · have GWR : Hid (Gw w wr) := Gs.gw (G4.out.trans DN.out) SI.out (fun q hq => by have e9 : q = b := hq; rw [e9]; exact BW.out)
        have XR : Hid (HR wr px Sx (numR f 4 8) (kF f) (vF f) (gF f) (nF f) (LF f)) := HH.out.keep X4.out fun q hq => (SI.out.block q (Nat.lt_of_lt_of_le (HH.out.lt X4.out q hq) DN.out.size) (NB.out q hq)).trans (DN.out.below.block q (HH.out.lt X4.out q hq))
        have YR : HDoc wr py Sy (numR f 4 8) (kF f) (vF f) (gF f) (nF f) (LF f) := Y4.out.1.keep fun q hq => (SI.out.block q (Nat.lt_of_lt_of_le (Y4.out.1.lt q hq) DN.out.size) (Y4.out.2 q hq)).trans (DN.out.below.block q (Y4.out.1.lt q hq))
        obtain ⟨eo, ec, lo, lc, x1, xe, xv⟩ := YR.opened
        obtain ⟨d0, d1, d2⟩ := dc_cells x1
        have xl : py < wr.heap.size := (Array.getElem?_eq_some_iff.1 x1).1
        have AL : Hid (∀ W, Gw wr W → Calls Tryz.prog 15 #[.pointer (some ⟨px, 0, none⟩), .slice eo (nF f) ec, .int .i64 (numR f 4 8), .slice lo (LF f).length lc] W fun e w' => e = .returned (.bool true) ∧ Gw W w') := fun W g => alike12 HH.out (HH.out.gw XR.out g) X3.out.2.bd eo ec (xe.gw g) lo lc (xv.gw g)
        generalize nF f = n9 at AL d0
        generalize numR f 4 8 = e9 at AL d1
        generalize (LF f).length = l9 at AL d2
        have x0 := GX.cell d0 xl
        have x2 := GX.cell d1 xl
        have x3 := GX.cell d2 xl
        have ne := GX.some wr
        clear YR x1 xe xv SI RI
        go_wp2_with fail
        refine wp_region_growx (by kernel_rfl) (by kernel_rfl) ?_
        repeat (go_big_quiet_step (fail))
        go_big_quiet_want
        go_big_quiet_op
        go_big_quiet_call (exact growx_of (AL.out _ (GX.gw _)))
        repeat (go_big_quiet_step (fail))
        refine wpQuiet_nil ?_
        rintro _ ⟨gw, rfl⟩
        clear x0 x2 x3
        go_wp2_with fail
        go_ret
        exact ⟨rfl, GWR.out.trans gw.gw⟩
  · rcases hGo with ⟨nf, _⟩ | ⟨_, rfl⟩
    · exact absurd nf ft
    have NF : Hid (¬ Fit f m) := ft
    clear ft
    go_wp2_with fail
    refine (dget ao m cp f (by omega) HZ.out (.few (by omega)) w3 (HB.out.gw G3.out)).mono ?_
    rintro e w4 ⟨hD, g4⟩
    rcases hD with ⟨nf, _⟩ | ⟨_, rfl⟩
    · exact absurd nf NF.out
    have G4 : Hid (Gw w w4) := G3.out.trans g4
    have R4 := rowIs_gb R3.out g4
    have cv1 : ∀ k, (convert 31 9 (.slice (some ⟨b, 0, none⟩) m (m + 5))).run Tryz.prog (w4.drewN k) = .ok (.string (txt f m)) (w4.drewN k) := fun k => conv_b ((BA.out _ R4).gw ((Gw.refl w4).drewN k)) (m + 5)
    have cv2 : ∀ k, (convert 31 9 (.slice ao m cp)).run Tryz.prog (w4.drewN k) = .ok (.string (txt f m)) (w4.drewN k) := fun k => conv_b ((HB.out.gw G4.out).gw ((Gw.refl w4).drewN k)) cp
    have mc5 : m ≤ m + 5 := by omega
    generalize txt f m = tx at cv1 cv2
    clear g4
    go_wp2_with fail
    go_quiet (fail)
    go_wp2_with fail
    have DN : Hid (Gw w4 (w4.drewN nq)) := (Gw.refl w4).drewN _
    have RN : Hid ((w4.drewN nq).rowIs b 5 (m + 5) (fun j => .int .u8 (if j < 0 then 9 else if j < m then f j else 0))) := (rowIs_gb R4 DN.out).congr fun j hj => by rw [if_neg (show ¬ j < 0 by omega)]
    generalize w4.drewN nq = w5 at DN RN ⊢
    clear R4 cv1 cv2
    go_loopg [9] (m + 5) (fun gg s9 wr => ∃ i : Nat, s9 = .int .i64 i ∧ i ≤ m + 5 ∧ m + 5 - i ≤ gg ∧ Hid (wr.rowIs b 5 (m + 5) (fun j => .int .u8 (if j < i then 9 else if j < m then f j else 0))) ∧ Hid (Gs (fun q => q = b) w5 wr))
    case atStart => exact ⟨0, rfl, Nat.zero_le _, by omega, RN, (show Hid _ from (Gw.refl w5).gs _)⟩
    case round =>
      clear RN
      obtain ⟨i, rfl, h1, h2, RI, SI⟩ := hrel
      by_cases hlt : i < m + 5
      · have r0 := RI.out.cell (i := i) hlt
        have f0 := RI.out.frozen i
        have l0 := RI.out.lt
        have RX : Hid ((wr.setCell ⟨b, i, none⟩ (.int .u8 9)).rowIs b 5 (m + 5) (fun j => .int .u8 (if j < i + 1 then 9 else if j < m then f j else 0))) := (RI.out.set i (.int .u8 9)).congr fun j hj => by
          by_cases c : j = i
          · subst c; rw [if_pos rfl, if_pos (by omega)]
          · rw [if_neg c]
            by_cases c2 : j < i
            · rw [if_pos c2, if_pos (by omega)]
            · rw [if_neg c2, if_neg (show ¬ j < i + 1 by omega)]
        have SX : Hid (Gs (fun q => q = b) w5 (wr.setCell ⟨b, i, none⟩ (.int .u8 9))) := SI.out.set (q := b) rfl _ _
        clear RI SI
        by_cases ge : m ≤ i
        · have t1 : decide ((m : Int) ≤ (i : Int)) = true := by simpa using ge
          have t2 : decide (m ≤ i) = true := by simpa using ge
          rw [if_neg (by omega), if_neg (by omega)] at r0
          go_wp2_with fail
          go_roundg (m + 5 - (i + 1))
          case measure => omega
          case rel => exact ⟨i + 1, by go_num, by omega, Nat.le_refl _, RX, SX⟩
        · have t1 : decide ((m : Int) ≤ (i : Int)) = false := by simpa using ge
          have t2 : decide (m ≤ i) = false := by simpa using ge
          go_wp2_with fail
          go_roundg (m + 5 - (i + 1))
          case measure => omega
          case rel => exact ⟨i + 1, by go_num, by omega, Nat.le_refl _, RX, SX⟩
      · have GWR : Hid (Gw w wr) := Gs.gw (G4.out.trans DN.out) SI.out (fun q hq => by have e9 : q = b := hq; rw [e9]; exact BW.out)
        clear SI RI
        go_wp2_with fail
        go_ret
        exact ⟨rfl, GWR.out⟩

end Go.Proofs.YtinefkljjnepjaaGreat
