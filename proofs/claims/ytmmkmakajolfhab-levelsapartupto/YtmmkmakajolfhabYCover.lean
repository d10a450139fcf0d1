/- Package levels: cover. -/
import Derived.Test.YtmmkmakajolfhabYFirst
import Derived.Test.YtmmkmakajolfhabPVo
import Derived.Test.YtmmkmakajolfhabELaw
import Derived.Test.YtmmkmakajolfhabVBuild
import Derived.RegionDies
namespace Go.Proofs.Ytmmkmakajolfhab
open Go.RowKit
set_option linter.unusedVariables false
attribute [local go_sem] run_store_float

abbrev zsg : Array Value := #[.int .u64 0, .float .f64 0, .float .f64 0, .int .i64 0, .int .i64 0]
theorem made_flat : ∀ n : Nat, (List.range (n * 5)).map (fun i => zsg[i % 5]!) = (List.replicate n sg0).flatMap sgc := by
  intro n
  induction n with
  | zero => rfl
  | succ n ih =>
    have e : (n + 1) * 5 = n * 5 + 5 := by omega
    have e2 : ∀ i, (n * 5 + i) % 5 = i % 5 := fun i => by omega
    rw [e, List.range_add, List.map_append, ih, List.map_map, List.replicate_succ', flat_one]
    congr 1
    show (List.range 5).map (fun i => zsg[(n * 5 + i) % 5]!) = sgc sg0
    simp only [e2]
    rfl
theorem made_sr (w : World) (base n : Nat) (hb : base ≤ w.heap.size) (hn : n ≤ 4000000) : SR (w.alloc (.cells (madeCells zsg (n * 5)) 38)) base (.slice (some ⟨w.heap.size, 0, none⟩) n n) (List.replicate n sg0) := by
  show World.ownsRow _ _ _ _ _ _ _
  rw [List.length_replicate]
  refine ⟨by rw [flat_len, List.length_replicate], .inr ⟨w.heap.size, n, madeCells zsg (n * 5), rfl, hb, heap_alloc_new w _, Nat.le_refl _, by unfold maxLen; omega, size_madeCells _ _, ?_⟩⟩
  rw [← made_flat, List.take_of_length_le (by simp [madeCells])]
  simp [madeCells]
/-- The row that is filled in turn. -/
theorem set_next {l : List Sg} {k m : Nat} (hl : l.length = k) (s : Sg) (hk : k < m) : (l ++ List.replicate (m - k) sg0).set k s = (l ++ [s]) ++ List.replicate (m - (k + 1)) sg0 := by
  rw [show m - k = (m - (k + 1)) + 1 by omega, List.replicate_succ, List.set_append_right _ _ (by omega), hl, Nat.sub_self, List.append_assoc]
  rfl

set_option maxHeartbeats 4000000 in
theorem cover_any (C : CutC) (M : ModelC) (eps : Int) (k2 : 2 ≤ eps) (k3 : eps ≤ 64) (bo : Option Addr) (m c : Nat) (g : Nat → Int) (m0 : 0 < m) (m1 : m ≤ 2000000) (mc : m ≤ c) (u : Up g m) (w : World) (k : KS w bo m g) :
    Calls Try.prog 24 #[.slice bo m c, .int .i64 eps] w fun e w' => (∃ (b : Nat) (lv : List Sg), e = .returned (.slice (some ⟨b, 0, none⟩) lv.length lv.length) ∧ LvlAt eps g m 0 lv ∧ SR w' w.heap.size (.slice (some ⟨b, 0, none⟩) lv.length lv.length) lv ∧ (∀ j, j < lv.length → (lv.getD j sg0).ok)) ∧ Gw w w' := by
  have HK : Aside (KS w bo m g) := k
  have UP : Aside (Up g m) := u
  have KE : Aside (2 ≤ eps ∧ eps ≤ 64) := ⟨k2, k3⟩
  have CE : Hid (∀ W, KS W bo m g → _) := fun W h => C.ends eps bo m c g (by omega) (by omega) m1 mc W h
  have MO : Hid _ := fun (fr : Nat) (hfr : fr ≤ m) (ao : Option Addr) (n cp : Nat) (f : Nat → Int) (hn : n ≤ 2000000) (hcp : n ≤ cp) (W : World) (h : KS W ao n f) => M.of eps (fr : Int) ao n cp f (by omega) (by omega) (by omega) (by omega) hn hcp W h
  clear k u C M
  obtain ⟨bk, off, rfl, hbk, hkc⟩ := HK.out.cells m0
  clear hkc hbk
  go_enter Try.func24, Try.ntmps24
  go_wp2_with fail
  refine (CE.out _ HK.out).mono ?_
  rintro e w1 ⟨⟨v1, es, err, rfl, hE, hI⟩, g1⟩
  obtain ⟨EA, rfl⟩ : EndsAt (eps - 1) g m 0 es ∧ err = 0 := by
    rcases hE with ⟨q, _⟩ | ⟨_, q, _⟩ | ⟨_, _, q, q'⟩
    · exact absurd KE.out q
    · exact absurd UP.out q
    · exact ⟨q, q'⟩
  have ED : Aside (EndsAt (eps - 1) g m 0 es) := EA
  have eln := EA.len
  obtain ⟨eo, ec, rfl, ei1, ei2⟩ := ir_slice hI
  have e1' : 0 < es.length := List.length_pos_iff.2 (EA.nonempty m0)
  cases eo with
  | none => have := (ei1 rfl).1; rw [this] at e1'; simp at e1'
  | some ea =>
    obtain ⟨eb, rfl, _, heb, hec⟩ := ei2 ea rfl
    have EC : Aside (∀ W, Gw w1 W → ∀ i, i < es.length → W.cell? ⟨eb, i, none⟩ = some (.int .i64 ((es.getD i 0 : Nat) : Int)) ∧ eb < W.heap.size) := fun W gW i hi => ⟨(gW.cell _ _ heb).trans (hec i hi), Nat.lt_of_lt_of_le heb gW.size⟩
    have G1 : Aside (Gw w w1) := g1
    clear hE EA hI ei1 ei2 hec g1 CE
    obtain ⟨en, hen⟩ : ∃ en, es.length = en := ⟨_, rfl⟩
    have EN : Aside (es.length = en) := hen
    rw [hen] at eln e1' ⊢
    clear hen heb
    obtain ⟨e9, rfl⟩ : ∃ e9, en = e9 + 1 := ⟨en - 1, by omega⟩
    have hmk := made_sg e9 (by omega)
    have S4 : Aside (SR (w1.alloc (.cells (madeCells zsg ((e9 + 1) * 5)) 38)) w.heap.size (.slice (some ⟨w1.heap.size, 0, none⟩) (e9 + 1) (e9 + 1)) (List.replicate (e9 + 1) sg0)) := made_sr w1 w.heap.size (e9 + 1) G1.out.size (by omega)
    have G4 : Aside (Gw w (w1.alloc (.cells (madeCells zsg ((e9 + 1) * 5)) 38))) := G1.out.alloc _ _
    have H4 : Aside (Gw w1 (w1.alloc (.cells (madeCells zsg ((e9 + 1) * 5)) 38))) := (Gw.refl w1).alloc _ _
    have B4 : Aside (w.heap.size ≤ w1.heap.size) := G1.out.size
    have B5 : Aside (w1.heap.size ≤ w1.heap.size) := Nat.le_refl _
    go_wp2_with fail
    refine (need_ok 0 _).mono ?_
    rintro e w2 ⟨rfl, rfl⟩
    go_wp2_with fail
    generalize w2.alloc (.cells (madeCells zsg ((e9 + 1) * 5)) 38) = w4 at S4 G4 H4 ⊢
    obtain ⟨lb, hlb⟩ : ∃ lb, w2.heap.size = lb := ⟨_, rfl⟩
    have B6 : Aside (w2.heap.size ≤ lb) := by rw [← hlb]; exact Nat.le_refl _
    have B7 : Aside (w.heap.size ≤ lb) := by rw [← hlb]; exact B4.out
    rw [hlb] at S4 ⊢
    clear hlb B4 B5 G1 hmk
    obtain ⟨en, hen⟩ : ∃ en, e9 + 1 = en := ⟨_, rfl⟩
    have hen' : (e9 : Int) + 1 = (en : Int) := by omega
    rw [hen] at S4 EN eln e1' ⊢
    rw [hen']
    clear hen hen'
    go_loopg [6, 8, 26] en (fun gg s6 s8 s26 wr => ∃ (i fr : Nat) (lv : List Sg), s6 = .int .i64 0 ∧ s8 = .int .i64 fr ∧ s26 = .int .i64 i ∧ i ≤ en ∧ en - i ≤ gg ∧ Aside (lv.length = i) ∧ Aside (fr = starts 0 es i) ∧ Aside (SR wr w.heap.size (.slice (some ⟨lb, 0, none⟩) en en) (lv ++ List.replicate (en - i) sg0)) ∧ Aside (∀ j, j < lv.length → (lv.getD j sg0).ok) ∧ Aside (∀ l', LvlAt eps g m fr l' → LvlAt eps g m 0 (lv ++ l')) ∧ Aside (Gw w wr) ∧ Aside (Gw w2 wr))
    case atStart => exact ⟨0, 0, [], rfl, rfl, rfl, Nat.zero_le _, by omega, (show Aside _ from rfl), (show Aside _ from rfl), S4, (show Aside _ from fun j hj => by simp at hj), (show Aside _ from fun l' h => h), G4, H4⟩
    case round =>
      clear S4 G4 H4
      obtain ⟨i, fr, lv, rfl, rfl, rfl, j1, j2, LI, FR, SRr, OKr, PRE, GSr, GTr⟩ := hrel
      have XL : (lv ++ List.replicate (en - i) sg0).length = en := by rw [List.length_append, LI.out, List.length_replicate]; omega
      by_cases ilt : i < en
      · have ST := ED.out.step i (by rw [EN.out]; exact ilt)
        rw [← FR.out] at ST
        obtain ⟨ec1, ec2⟩ := EC.out _ GTr.out i (by rw [EN.out]; exact ilt)
        obtain ⟨ei, hei⟩ : ∃ ei, es.getD i 0 = ei := ⟨_, rfl⟩
        rw [hei] at ST ec1
        obtain ⟨s1, s2, s3, s4, _⟩ := ST
        have FN : Aside (starts 0 es (i + 1) = ei) := hei
        clear hei
        have tc : ei ≤ c := by omega
        have cf : ¬ c = fr := by omega
        have fc : ¬ fr = c := by omega
        have i1 : (0 : Int) ≤ (fr : Int) := by omega
        have i2 : (fr : Int) ≤ (ei : Int) := by omega
        have i3 : (ei : Int) ≤ (c : Int) := by omega
        have fe : fr ≤ ei := by omega
        go_wp2_with fail
        refine (MO.out fr (by omega) _ (ei - fr) (c - fr) (sh g fr) (by omega) (by omega) _ (ks_cut (HK.out.gw GSr.out) s2)).mono ?_
        rintro ex w5 ⟨⟨k5, sl5, ic5, F5, T5, er5, rfl, hS5⟩, g5⟩
        obtain rfl := seg_ok hS5 KE.out (by omega) (sh_up UP.out s2) s3 (by omega) (by omega)
        have bd5 : ∀ t, t < ei - fr → 0 ≤ sh g fr t ∧ sh g fr t < 18446744073709551616 := fun t ht => HK.out.bd (fr + t) (by omega)
        have SA : Aside (SegAt eps g fr ei (Sg.mk k5 sl5 ic5 F5 T5)) := hS5
        have SO : Aside (Sg.ok (Sg.mk k5 sl5 ic5 F5 T5)) := hS5.ok (by omega) bd5
        have GS5 : Aside (Gw w w5) := GSr.out.trans g5
        have GT5 : Aside (Gw w2 w5) := GTr.out.trans g5
        have SK' : Aside (SR w5 w.heap.size (.slice (some ⟨lb, 0, none⟩) (lv ++ List.replicate (en - i) sg0).length en) (lv ++ List.replicate (en - i) sg0)) := by rw [XL]; exact sr_gw SRr.out g5
        have cc : ∀ r, r < 5 → w5.cell? ⟨lb, i * 5 + r, none⟩ = some (flc (lv ++ List.replicate (en - i) sg0) (i * 5 + r)) := fun r hr => by
          have h' : w5.ownsRow w.heap.size 38 5 (.slice (some ⟨lb, 0, none⟩) (lv ++ List.replicate (en - i) sg0).length en) (lv ++ List.replicate (en - i) sg0).length ((lv ++ List.replicate (en - i) sg0).flatMap sgc) := SK'.out
          rw [h'.cellAt _ (by omega)]
          exact flc_get _ _ (by omega)
        have fz : ∀ r, w5.frozen? ⟨lb, r, none⟩ = false := fun r => World.ownsRow.frozenAt SK'.out r
        have x0 := cc 0 (by decide)
        have x1 := cc 1 (by decide)
        have x2 := cc 2 (by decide)
        have x3 := cc 3 (by decide)
        have x4 := cc 4 (by decide)
        rw [Nat.add_zero] at x0
        have y0 := fz (i * 5)
        have y1 := fz (i * 5 + 1)
        have y2 := fz (i * 5 + 2)
        have y3 := fz (i * 5 + 3)
        have y4 := fz (i * 5 + 4)
        generalize flc (lv ++ List.replicate (en - i) sg0) (i * 5) = z0 at x0
        generalize flc (lv ++ List.replicate (en - i) sg0) (i * 5 + 1) = z1 at x1
        generalize flc (lv ++ List.replicate (en - i) sg0) (i * 5 + 2) = z2 at x2
        generalize flc (lv ++ List.replicate (en - i) sg0) (i * 5 + 3) = z3 at x3
        generalize flc (lv ++ List.replicate (en - i) sg0) (i * 5 + 4) = z4 at x4
        have S9 : Aside (SR (put5 w5 lb (i * 5) ⟨k5, sl5, ic5, F5, T5⟩) w.heap.size (.slice (some ⟨lb, 0, none⟩) en en) ((lv ++ [⟨k5, sl5, ic5, F5, T5⟩]) ++ List.replicate (en - (i + 1)) sg0)) := by
          have r := sr_put SK'.out (k := i) (by omega) ⟨k5, sl5, ic5, F5, T5⟩
          rw [set_next LI.out _ ilt] at r
          have el : ((lv ++ [(⟨k5, sl5, ic5, F5, T5⟩ : Sg)]) ++ List.replicate (en - (i + 1)) sg0).length = en := by rw [List.length_append, List.length_append, LI.out, List.length_replicate]; simp; omega
          rw [el] at r
          exact r
        have GS9 : Aside (Gw w (put5 w5 lb (i * 5) ⟨k5, sl5, ic5, F5, T5⟩)) := put5_gw GS5.out B7.out
        have GT9 : Aside (Gw w2 (put5 w5 lb (i * 5) ⟨k5, sl5, ic5, F5, T5⟩)) := put5_gw GT5.out B6.out
        have LI7 : Aside ((lv ++ [(Sg.mk k5 sl5 ic5 F5 T5)]).length = i + 1) := by show (lv ++ [_]).length = i + 1; rw [List.length_append, LI.out]; rfl
        have OK7 : Aside (∀ j, j < (lv ++ [(Sg.mk k5 sl5 ic5 F5 T5)]).length → ((lv ++ [(Sg.mk k5 sl5 ic5 F5 T5)]).getD j sg0).ok) := fun j hj => by
          rw [LI7.out] at hj
          by_cases x : j < lv.length
          · rw [show (lv ++ [(Sg.mk k5 sl5 ic5 F5 T5)]).getD j sg0 = lv.getD j sg0 by simp [List.getD, List.getElem?_append_left x]]
            exact OKr.out j x
          · have e : j = lv.length := by have := LI.out; omega
            rw [show (lv ++ [(Sg.mk k5 sl5 ic5 F5 T5)]).getD j sg0 = (Sg.mk k5 sl5 ic5 F5 T5) by subst e; simp [List.getD]]
            exact SO.out
        have PR7 : Aside (∀ l', LvlAt eps g m ei l' → LvlAt eps g m 0 ((lv ++ [(Sg.mk k5 sl5 ic5 F5 T5)]) ++ l')) := fun l' h => by
          rw [List.append_assoc]
          exact PRE.out ((Sg.mk k5 sl5 ic5 F5 T5) :: l') ⟨ei, ⟨s1, s2, s3, s4⟩, SA.out, h⟩
        have FR7 : Aside (ei = starts 0 es (i + 1)) := FN.out.symm
        have lbl : lb < w5.heap.size := (sr_lt SK'.out lb rfl).2
        clear hS5 bd5 g5 GSr GTr SRr ec1 ec2 cc fz SK' s3 s4 OKr PRE SA XL
        go_wp2_with fail
        refine (need_ok 0 _).mono ?_
        rintro e w6 ⟨rfl, rfl⟩
        go_wp2_with fail
        go_roundg (en - (i + 1))
        case measure => omega
        case rel => exact ⟨i + 1, ei, lv ++ [(Sg.mk k5 sl5 ic5 F5 T5)], rfl, rfl, by go_num, by omega, Nat.le_refl _, LI7, FR7, S9, OK7, PR7, GS9, GT9⟩
      · have ei : i = en := by omega
        subst ei
        have frm : fr = m := by
          rw [FR.out]
          obtain ⟨i', hi'⟩ : ∃ i', i = i' + 1 := ⟨i - 1, by omega⟩
          have := (ED.out.last i' (by rw [EN.out]; omega)).2 (by rw [EN.out]; omega)
          rw [hi']
          exact this
        have LVL : Aside (LvlAt eps g m 0 lv) := by
          have := PRE.out [] frm
          rwa [List.append_nil] at this
        have S9 : Aside (SR wr w.heap.size (.slice (some ⟨lb, 0, none⟩) lv.length lv.length) lv) := by
          have := SRr.out
          rw [Nat.sub_self, List.replicate_zero, List.append_nil] at this
          rw [LI.out]
          exact this
        have LE : Aside (Ending.returned (.slice (some ⟨lb, 0, none⟩) i i) = Ending.returned (.slice (some ⟨lb, 0, none⟩) lv.length lv.length)) := by show _ = _; rw [LI.out]
        clear PRE SRr frm
        go_wp2_with fail
        go_ret
        exact ⟨⟨lb, lv, LE.out, LVL.out, S9.out, OKr.out⟩, GSr.out⟩

end Go.Proofs.Ytmmkmakajolfhab
