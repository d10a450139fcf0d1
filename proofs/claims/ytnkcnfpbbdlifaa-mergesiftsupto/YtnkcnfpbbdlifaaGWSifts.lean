/- MergeSifts: the walk. -/
import Derived.Test.YtnkcnfpbbdlifaaGWGroups
namespace Go.Proofs.Ytnkcnfpbbdlifaa
open Go.RowKit
set_option linter.unusedVariables false

def e90 : Ent := ⟨9, 0, false⟩
def e80 : Ent := ⟨8, 0, false⟩
/-- The first i are turned. -/
def turned0 (o : List Ent) (i : Nat) : List Ent := List.replicate i e90 ++ o.drop i
theorem turned0_len {o : List Ent} {i : Nat} (h : i ≤ o.length) : (turned0 o i).length = o.length := by
  unfold turned0
  rw [List.length_append, List.length_replicate, List.length_drop]
  omega
theorem turned0_next {o : List Ent} {i : Nat} (h : i < o.length) : (turned0 o i).set i e90 = turned0 o (i + 1) := by
  unfold turned0
  have e : o.drop i = o[i] :: o.drop (i + 1) := (List.drop_eq_getElem_cons h)
  rw [e, List.set_append, if_neg (by simp), List.length_replicate, Nat.sub_self, List.set_cons_zero, List.replicate_succ', List.append_assoc]
  rfl
theorem fn_sifts (bx : Nat) (qo : Option Addr) (qn qc : Nat) (qf : Nat → Int) (hqn : qn ≤ 4000000) (w : World) (hb : w.cell? ⟨bx, 0, none⟩ = some (.slice qo qn qc)) (hl : bx < w.heap.size) (hq : KS w qo qn qf) : FnB 23 #[.pointer (some ⟨bx, 0, none⟩)] (liveB qn qf) w := by
  refine ⟨fun args W => rfl, fun W gg q q0 q1 => ?_⟩
  have c0 := (gg.cell _ _ hl).trans hb
  have LV : Hid (Calls Try.prog 24 #[.slice qo qn qc, .int .u64 q] W fun e w' => e = .returned (.bool (liveB qn qf q)) ∧ w' = W) := rlive13 qo qn qc qf q hqn W (hq.gw gg)
  show Calls Try.prog 23 #[.int .u64 q, .pointer (some ⟨bx, 0, none⟩)] W _
  clear hb hl hq gg
  go_enter Try.func23, Try.ntmps23
  go_wp2_with fail
  refine Calls.mono LV.out ?_
  rintro e w1 ⟨rfl, e1⟩
  have e2 := e1.symm
  subst e2
  go_wp2_with fail
  go_ret
  exact ⟨rfl, Gw.refl _⟩
set_option maxRecDepth 10000 in
set_option maxHeartbeats 8000000 in
theorem sifts_walk (MC : MergeC) (a0 : Option Addr) (c0 : Nat) (l : List Ent) (hl : l.length ≤ 2000000) (le0 : l.length ≤ c0) (z0 : a0 = none → l.length = 0 ∧ c0 = 0) (qo : Option Addr) (qn qc : Nat) (qf : Nat → Int) (hqn : qn ≤ 2000000) (w : World) (h : EL w a0 l) (hq : KS w qo qn qf) :
    Calls Try.prog 7 #[.slice a0 l.length c0, .slice qo qn qc] w fun e w' => e = .returned (.bool true) ∧ Gw w w' := by
  have M : Hid MergeC := MC
  have HA : Hid ((Gst.mk a0 c0 l).ok w) := ⟨h, le0, z0⟩
  have EVL : Hid (∀ W, Gw w W → EV (W.alloc (.cells #[.slice a0 l.length c0] 25)) (some ⟨W.heap.size, 0, none⟩) [l]) := fun W gg => ev_rows (w := W) [⟨a0, c0, l⟩] (fun r hr => by rw [List.mem_singleton.1 hr]; exact HA.out.gw gg)
  have one : ∀ i, i < [l].length → ([l].getD i []).length ≤ 2000000 := fun i hi => by
    have hi' : i < 1 := hi
    match i, hi' with
    | 0, _ => exact hl
  have CO : Hid (∀ W, Gw w W → Calls Try.prog 10 #[.slice (some ⟨W.heap.size, 0, none⟩) 1 1] (W.alloc (.cells #[.slice a0 l.length c0] 25)) fun e w' => (∃ ob oc, e = .returned (.slice (some ⟨ob, 0, none⟩) 1 oc) ∧ EX w' (some ⟨ob, 0, none⟩) [l] ∧ 1 ≤ oc) ∧ Gw W w') := fun W gg => (copied13 (some ⟨W.heap.size, 0, none⟩) 1 [l] (by simp) one _ (EVL.out W gg)).mono fun e w' ⟨⟨ob, oc, q1, q2, q3⟩, g⟩ => ⟨⟨ob, oc, q1, q2, q3⟩, ((Gw.refl W).alloc _ _).trans g⟩
  have AW : Hid (∀ (W : World) (ob oc : Nat), Gw w W → EX W (some ⟨ob, 0, none⟩) [l] → Calls Try.prog 14 #[.slice (some ⟨ob, 0, none⟩) 1 oc, .slice (some ⟨W.heap.size, 0, none⟩) 1 1] (W.alloc (.cells #[.slice a0 l.length c0] 25)) fun e w' => e = .returned (.bool true) ∧ Gw W w') := fun W ob oc gg hx => (asWere13 (some ⟨ob, 0, none⟩) oc (some ⟨W.heap.size, 0, none⟩) 1 [l] (by simp) one _ (hx.gw ((Gw.refl W).alloc _ _)) (EVL.out W gg)).mono fun e w' ⟨q1, g⟩ => ⟨q1, ((Gw.refl W).alloc _ _).trans g⟩
  have RS : Hid (∀ W, Gw w W → Calls Try.prog 26 #[.slice a0 l.length c0, .slice qo qn qc] W fun e w' => (∃ ob oc, e = .returned (.slice (some ⟨ob, 0, none⟩) (l.filter (keepP (liveB qn qf))).length oc) ∧ EO w' W.heap.size (.slice (some ⟨ob, 0, none⟩) (l.filter (keepP (liveB qn qf))).length oc) (l.filter (keepP (liveB qn qf)))) ∧ Gw W w') := fun W gg => rsift13 a0 c0 l qo qn qc qf (by omega) (by omega) W (HA.out.gw gg).el (hq.gw gg)
  have ALL : ∀ e ∈ l.filter (keepP (liveB qn qf)), e.ok := fun e he => h.all e (List.mem_filter.1 he).1
  have OK : Hid (∀ e ∈ l.filter (keepP (liveB qn qf)), e.ok) := ALL
  have B0 : Hid ((w.alloc (.cells #[.slice qo qn qc] 49)).heap[w.heap.size]? = some (.cells #[.slice qo qn qc] 49 (0, 0))) := heap_alloc_new w _
  have G0 : Hid (Gw w (w.alloc (.cells #[.slice qo qn qc] 49))) := (Gw.refl w).alloc _ _
  have QK : Hid (KS w qo qn qf) := hq
  have SL : Hid (∀ (W : World) (eo : Option Addr) (ec : Nat) (bx : Nat), EL W eo l → l.length ≤ ec → (eo = none → l.length = 0 ∧ ec = 0) → Gw w W → W.cell? ⟨bx, 0, none⟩ = some (.slice qo qn qc) → bx < W.heap.size → Calls Try.prog 25 #[.slice eo l.length ec, .func (.func 23) #[] #[.pointer (some ⟨bx, 0, none⟩)]] W fun e w' => (∃ bo oc, e = .returned (.slice bo (l.filter (keepP (liveB qn qf))).length oc) ∧ EO w' W.heap.size (.slice bo (l.filter (keepP (liveB qn qf))).length oc) (l.filter (keepP (liveB qn qf)))) ∧ Gw W w') := fun W eo ec bx h1 h2 h3 gg hb hx => M.out.sift eo ec l _ _ _ hl h2 h3 W h1 (fn_sifts bx qo qn qc qf (by omega) W hb hx (QK.out.gw gg))
  have ol : (l.filter (keepP (liveB qn qf))).length ≤ 2000000 := Nat.le_trans (List.length_filter_le _ _) hl
  generalize l.filter (keepP (liveB qn qf)) = o at RS SL OK ol
  clear MC h hq le0 z0 one ALL
  obtain ⟨ii, hii, hz, hs', hby⟩ := info_parts info_e
  go_enter Try.func7, Try.ntmps7
  go_wp2_with fail
  obtain ⟨bx, hbx⟩ : ∃ bx, w.heap.size = bx := ⟨_, rfl⟩
  rw [hbx] at B0 ⊢
  clear hbx
  generalize w.alloc (.cells #[.slice qo qn qc] 49) = w0 at B0 G0 ⊢
  have BX : Hid (∀ W, Gw w0 W → W.cell? ⟨bx, 0, none⟩ = some (.slice qo qn qc) ∧ bx < W.heap.size) := by
    have bl : bx < w0.heap.size := (Array.getElem?_eq_some_iff.1 B0.out).1
    have c0 : w0.cell? ⟨bx, 0, none⟩ = some (.slice qo qn qc) := by have := B0.out; simp [World.cell?, this]
    exact fun W gg => ⟨(gg.cell _ _ bl).trans c0, Nat.lt_of_lt_of_le bl gg.size⟩
  clear B0
  refine Calls.mono (M.out.shown w0) ?_
  rintro e w1 ⟨rfl, g1⟩
  have G1 : Hid (Gw w0 w1) := g1
  clear g1
  go_wp2_with fail
  refine Calls.mono (CO.out w1 (G0.out.trans G1.out)) ?_
  rintro e w2 ⟨⟨ob, oc, rfl, ex, _⟩, g2⟩
  have X2 : Hid (EX w2 (some ⟨ob, 0, none⟩) [l]) := ex
  have G2 : Hid (Gw w0 w2) := G1.out.trans g2
  have ROW : Hid (∃ eo ec, EL w2 eo l ∧ l.length ≤ ec ∧ (eo = none → l.length = 0 ∧ ec = 0) ∧ ∀ W, Gw w2 W → W.cell? ⟨ob, 0, none⟩ = some (.slice eo l.length ec) ∧ ob < W.heap.size) := by
    obtain ⟨b, off, e, hb, hc⟩ := ex.ev.cells (by simp)
    cases e
    obtain ⟨eo, ec, p1, p2, p3, p4⟩ := hc 0 (by simp)
    exact ⟨eo, ec, p3, p2, p4, fun W gg => ⟨(gg.cell _ _ hb).trans p1, Nat.lt_of_lt_of_le hb gg.size⟩⟩
  clear ex g2 CO
  obtain ⟨eo, ec, el, lec, nil, row⟩ := ROW.out
  have EL2 : Hid (EL w2 eo l) := el
  have NIL : Hid (eo = none → l.length = 0 ∧ ec = 0) := nil
  have RW : Hid (∀ W, Gw w2 W → W.cell? ⟨ob, 0, none⟩ = some (.slice eo l.length ec) ∧ ob < W.heap.size) := row
  obtain ⟨r1, r2⟩ := row w2 (Gw.refl _)
  clear ROW el nil row
  have hmf : ∀ (fn : Fn) (first cap : Array Value) (w : World), (Instr.makeFunc fn first cap).run Try.prog w = .ok (.func fn first cap) w := fun _ _ _ _ => rfl
  go_wp2_with fail
  refine Calls.mono (SL.out w2 eo ec bx EL2.out lec NIL.out (G0.out.trans G2.out) (BX.out _ G2.out).1 (BX.out _ G2.out).2) ?_
  rintro e w3 ⟨⟨bo, ac, rfl, eo3⟩, g3⟩
  have E3 : Hid (EO w3 w2.heap.size (.slice bo o.length ac) o) := eo3
  have G23 : Hid (Gw w2 w3) := g3
  have G3 : Hid (Gw w0 w3) := G2.out.trans g3
  clear eo3 g3 r1 r2
  obtain ⟨b3, bl3⟩ := BX.out _ G3.out
  go_wp2_with fail
  refine Calls.mono (RS.out w3 (G0.out.trans G3.out)) ?_
  rintro e w4 ⟨⟨wb, wc, rfl, eo4⟩, g4⟩
  have W4 : Hid (EL w4 (some ⟨wb, 0, none⟩) o) := eo_el eo4 OK.out
  have G34 : Hid (Gw w3 w4) := g4
  have G24 : Hid (Gw w2 w4) := G23.out.trans g4
  have G4 : Hid (Gw w0 w4) := G3.out.trans g4
  have E4 : Hid (EO w4 w2.heap.size (.slice bo o.length ac) o) := eo_gw E3.out g4
  have WBN : Hid (∀ b, bo = some ⟨b, 0, none⟩ → b ≠ wb) := fun b hb => by
    have h1 := (World.ownsRow.lt E3.out b (by rw [hb]; rfl)).2
    have h2 := (World.ownsRow.lt eo4 wb rfl).1
    omega
  clear eo4 g4 b3 bl3 RS E3
  have S1 : Hid (Calls Try.prog 13 #[.slice bo o.length ac, .slice (some ⟨wb, 0, none⟩) o.length wc] w4 fun e w' => e = .returned (.bool true) ∧ Gw w4 w') := same13 bo (some ⟨wb, 0, none⟩) ac wc o (by omega) w4 (eo_el E4.out OK.out) W4.out
  have S2 : Hid (∀ W bo bc, EL W (some ⟨wb, 0, none⟩) o → EL W bo o → Calls Try.prog 13 #[.slice bo o.length bc, .slice (some ⟨wb, 0, none⟩) o.length wc] W fun e w' => e = .returned (.bool true) ∧ Gw W w') := fun W bo bc gg hh => same13 bo (some ⟨wb, 0, none⟩) bc wc o (by omega) W hh gg
  obtain ⟨n, hn⟩ : ∃ n, o.length = n := ⟨_, rfl⟩
  have NL : Hid (o.length = n) := hn
  rw [hn] at S1 S2 E4 ol SL ⊢
  clear hn
  go_wp2_with fail
  refine Calls.mono S1.out ?_
  rintro e w5 ⟨rfl, g5⟩
  have G25 : Hid (Gw w2 w5) := G24.out.trans g5
  have G5 : Hid (Gw w0 w5) := G4.out.trans g5
  have E5 : Hid (EO w5 w2.heap.size (.slice bo n ac) o) := eo_gw E4.out g5
  have G45 : Hid (Gw w4 w5) := g5
  clear g5 S1 E4
  go_wp2_with fail
  refine Calls.mono (AW.out w5 ob oc (G0.out.trans G5.out) (X2.out.gw G25.out)) ?_
  rintro e w6 ⟨rfl, g6⟩
  have G26 : Hid (Gw w2 w6) := G25.out.trans g6
  have G46 : Hid (Gw w4 w6) := G45.out.trans g6
  have E6 : Hid (EO w6 w2.heap.size (.slice bo n ac) (turned0 o 0)) := eo_gw E5.out g6
  have W6 : Hid (EL w6 (some ⟨wb, 0, none⟩) o) := W4.out.gw G46.out
  clear g6 E5 G25 G45 G5 W4 G46 G24 G34 G23 G3 G4
  go_wp2_with fail
  go_loopg [10] n (fun gg s7 wr => ∃ i : Nat, s7 = .int .i64 (i : Int) ∧ i ≤ n ∧ n - i ≤ gg ∧ Aside (EO wr w2.heap.size (.slice bo n ac) (turned0 o i)) ∧ Aside (EL wr (some ⟨wb, 0, none⟩) o) ∧ Aside (Gw w2 wr))
  case atStart => exact ⟨0, rfl, Nat.zero_le _, by omega, (show Aside _ from E6.out), (show Aside _ from W6.out), (show Aside _ from G26.out)⟩
  case round =>
    clear E6 G26 W6
    obtain ⟨i, rfl, a1, a2, E, EW, G⟩ := hrel
    by_cases ilt : i < n
    · have ilt' : (i : Int) < (n : Int) := by omega
      have TL : (turned0 o i).length = n := by rw [turned0_len (by rw [NL.out]; omega), NL.out]
      obtain ⟨b, rfl, hb1, hb2, hfz, hcs⟩ := eo_form E.out TL (by omega)
      obtain ⟨c0', c1', c2'⟩ := hcs i ilt
      have f0 := hfz (i * 3)
      have f1 := hfz (i * 3 + 1)
      have f2 := hfz (i * 3 + 2)
      have E7 : Aside (EO (put3 wr b (i * 3) e90) w2.heap.size (.slice (some ⟨b, 0, none⟩) n ac) (turned0 o (i + 1))) := by
        rw [← turned0_next (by rw [NL.out]; exact ilt)]
        exact eo_put E.out TL (by rw [TL]; exact ilt) e90
      have G7 : Aside (Gw w2 (put3 wr b (i * 3) e90)) := ((G.out.setCell hb1 _).setCell hb1 _).setCell hb1 _
      have EW7 : Aside (EL (put3 wr b (i * 3) e90) (some ⟨wb, 0, none⟩) o) := by
        have nb : wb ≠ b := fun q => WBN.out b rfl q.symm
        obtain ⟨_, _, e, hb, _⟩ := EW.out.cells (by rw [NL.out]; omega)
        cases e
        refine EW.out.keep (by unfold put3; simpa using hb) ?_
        unfold put3
        rw [Go.Deep.blk_setCell_other _ _ _ _ nb, Go.Deep.blk_setCell_other _ _ _ _ nb, Go.Deep.blk_setCell_other _ _ _ _ nb]
      clear hcs hfz TL
      go_wp2_with fail
      go_roundg (n - (i + 1))
      case measure => omega
      case rel => exact ⟨i + 1, by go_num, by omega, Nat.le_refl _, E7, EW7, G7⟩
    · have ei : i = n := by omega
      subst ei
      have TL : Aside ((turned0 o i).length = i) := by
        show _ = _
        rw [turned0_len (by rw [NL.out]; omega), NL.out]
      have EOW : Aside (wr.ownsRow w2.heap.size 32 3 (.slice bo i ac) i ((turned0 o i).flatMap ent3)) := by
        have := E.out
        unfold EO at this
        rw [TL.out] at this
        exact this
      have wz := G.out.size
      go_wp2_with (at_builtin; refine wpList_append_own _ rfl _ _ 25 rfl w2.heap.size 32 ii (.agg #[.int .u64 0, .int .u64 0, .bool false]) 3 24 Try.underlying25 hii hz hs' hby rfl (by decide) _ i _ rfl (EOW.out.alloc _) ⟨wr.heap.size, 0, none⟩ 1 1 (ent3 e80) rfl rfl (new_ent wr e80) (ent3_one _) (by simp only [maxLen]; omega) (by omega) (by simp; omega) ?_)
      intro v' w7 r1 r2 r3
      obtain ⟨b7, c7, rfl, hb7, _, _⟩ := own_slice r1 (by simpa using r3)
      have G27 : Hid (Gw w2 w7) := (G.out.alloc _ _).grown r2 (fun q hq => (World.ownsRow.lt EOW.out q hq).1)
      have E7 : Hid (EO w7 w2.heap.size (.slice (some ⟨b7, 0, none⟩) (i + 1) c7) (turned0 o i ++ [e80])) := eo_more (by rw [TL.out]; exact r1)
      have EW7 : Hid (EL w7 (some ⟨wb, 0, none⟩) o) := by
        by_cases i0 : i = 0
        · have on : o = [] := List.eq_nil_of_length_eq_zero (by rw [NL.out]; exact i0)
          rw [on]
          exact ⟨fun h0 => by simp at h0, fun j hj => by simp at hj⟩
        · obtain ⟨_, _, e, hb, _⟩ := EW.out.cells (by rw [NL.out]; omega)
          cases e
          have kp : w7.heap[wb]? = wr.heap[wb]? := (r2.block wb (by simp; omega) (fun e => by
            cases bo with
            | none => cases e
            | some ad =>
              obtain ⟨b, eb, _⟩ := eo_form E.out TL.out (by omega)
              rw [eb] at e
              have e' : wb = b := by simpa [Value.ownBlock] using e
              exact WBN.out b eb e'.symm)).trans (heap_alloc_old wr _ hb)
          refine EW.out.keep ?_ kp
          rw [Array.getElem?_eq_getElem hb] at kp
          exact (Array.getElem?_eq_some_iff.1 kp).1
      clear r1 r2 r3 E EOW G hb7 EW
      obtain ⟨r1, r2⟩ := RW.out w7 G27.out
      go_wp2_with fail
      refine Calls.mono (SL.out w7 eo ec bx (EL2.out.gw G27.out) lec NIL.out ((G0.out.trans G2.out).trans G27.out) (BX.out _ (G2.out.trans G27.out)).1 (BX.out _ (G2.out.trans G27.out)).2) ?_
      rintro e w8 ⟨⟨bo8, c8, rfl, eo8⟩, g8⟩
      have E8 : Hid (EL w8 bo8 o) := by
        have e' := NL.out
        subst e'
        exact eo_el eo8 OK.out
      have G78 : Hid (Gw w7 w8) := g8
      clear eo8 g8 r1 r2
      go_wp2_with fail
      refine Calls.mono (S2.out w8 bo8 c8 (EW7.out.gw G78.out) E8.out) ?_
      rintro e w9 ⟨rfl, g9⟩
      have G79 : Hid (Gw w7 w9) := G78.out.trans g9
      clear g9 G78 E8
      go_wp2_with fail
      refine Calls.mono (AW.out w9 ob oc ((G0.out.trans G2.out).trans (G27.out.trans G79.out)) (X2.out.gw (G27.out.trans G79.out))) ?_
      rintro e w10 ⟨rfl, g10⟩
      have G710 : Hid (Gw w7 w10) := G79.out.trans g10
      obtain ⟨b, eb, hb1, hb2, hfz, hcs⟩ := eo_form (eo_gw E7.out G710.out) (by rw [List.length_append, TL.out]; rfl) (by omega)
      cases eb
      obtain ⟨c0', _, _⟩ := hcs i (by omega)
      have ke : ((turned0 o i ++ [e80]).getD i ent0).k = 8 := by
        rw [List.getD_eq_getElem?_getD, List.getElem?_append_right (by rw [TL.out]; exact Nat.le_refl _), TL.out, Nat.sub_self]
        rfl
      rw [ke] at c0'
      clear hcs hfz ke g10
      go_wp2_with fail
      go_ret
      exact ⟨rfl, ((G0.out.trans G2.out).trans G27.out).trans G710.out⟩
end Go.Proofs.Ytnkcnfpbbdlifaa
