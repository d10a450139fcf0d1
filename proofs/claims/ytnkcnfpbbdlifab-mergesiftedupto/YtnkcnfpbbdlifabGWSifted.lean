/- MergeSifted: the walk. -/
import Derived.Test.YtnkcnfpbbdlifabGWGroups
import Derived.Test.YtnkcnfpbbdlifabPGo
import Derived.Test.YtnkcnfpbbdlifabPEr
namespace Go.Proofs.Ytnkcnfpbbdlifab
open Go.RowKit
set_option linter.unusedVariables false

theorem MergeC.siftL (MC : MergeC) (x : Gst) (K : FuncId) (cap : Array Value) (p : Int → Bool) (hn : x.l.length ≤ 2000000) (w : World) (h : x.ok w) (hf : FnB K cap p w) :
    Calls Try.prog 11 #[x.v, .func (.func K) #[] cap] w fun e w' => (∃ r : Gst, e = .returned r.v ∧ r.ok w' ∧ r.l = x.l.filter (keepP p)) ∧ Gw w w' := by
  refine (MC.sift x.ao x.cap x.l K cap p hn h.le h.nil w h.el hf).mono fun e w' ⟨⟨bo, oc, a1, a2⟩, g⟩ => ⟨⟨⟨bo, oc, x.l.filter (keepP p)⟩, a1, ?_, rfl⟩, g⟩
  exact eo_ok a2 fun e he => h.el.all e (List.mem_filter.1 he).1
theorem fn_sifted1 (bx : Nat) (qo : Option Addr) (qn qc : Nat) (qf : Nat → Int) (hqn : qn ≤ 4000000) (w : World) (hb : w.cell? ⟨bx, 0, none⟩ = some (.slice qo qn qc)) (hl : bx < w.heap.size) (hq : KS w qo qn qf) : FnB 9 #[.pointer (some ⟨bx, 0, none⟩)] (liveB qn qf) w := by
  refine ⟨fun args W => rfl, fun W gg q q0 q1 => ?_⟩
  have c0 := (gg.cell _ _ hl).trans hb
  have LV : Hid (Calls Try.prog 10 #[.slice qo qn qc, .int .u64 q] W fun e w' => e = .returned (.bool (liveB qn qf q)) ∧ w' = W) := rlive13 qo qn qc qf q hqn W (hq.gw gg)
  show Calls Try.prog 9 #[.int .u64 q, .pointer (some ⟨bx, 0, none⟩)] W _
  clear hb hl hq gg
  go_enter Try.func9, Try.ntmps9
  go_wp2_with fail
  refine Calls.mono LV.out ?_
  rintro e w1 ⟨rfl, e1⟩
  have e2 := e1.symm
  subst e2
  go_wp2_with fail
  go_ret
  exact ⟨rfl, Gw.refl _⟩
theorem fn_sifted2 (w : World) : FnB 12 #[] (fun _ => true) w := by
  refine ⟨fun args W => rfl, fun W gg q q0 q1 => ?_⟩
  show Calls Try.prog 12 #[.int .u64 q] W _
  go_enter Try.func12, Try.ntmps12
  go_wp2_with fail
  go_ret
  exact ⟨rfl, Gw.refl _⟩
theorem fn_sifted3 (w : World) : FnB 13 #[] (fun _ => false) w := by
  refine ⟨fun args W => rfl, fun W gg q q0 q1 => ?_⟩
  show Calls Try.prog 13 #[.int .u64 q] W _
  go_enter Try.func13, Try.ntmps13
  go_wp2_with fail
  go_ret
  exact ⟨rfl, Gw.refl _⟩
theorem keep_all (l : List Ent) : l.filter (keepP fun _ => true) = l := List.filter_eq_self.2 fun e _ => by simp [keepP]
theorem keep_twice (p : Int → Bool) (l : List Ent) : (l.filter (keepP p)).filter (keepP p) = l.filter (keepP p) := by
  rw [List.filter_filter]
  congr 1
  funext e
  simp
theorem keep_none_g (l : List Ent) : ∀ e ∈ l.filter (keepP fun _ => false), e.g = false := fun e he => by
  have := (List.mem_filter.1 he).2
  simpa [keepP] using this
theorem lv_keep (l : List Ent) : ∀ i, i ≤ l.length → lv (fun i => (l.getD i ent0).g) i = (((l.take i).filter (keepP fun _ => false)).length : Nat)
  | 0, _ => by simp [lv]
  | i + 1, h => by
    have ih := lv_keep l i (by omega)
    have hi : i < l.length := by omega
    have e : l.take (i + 1) = l.take i ++ [l.getD i ent0] := by
      rw [List.take_add_one, List.getElem?_eq_getElem hi, List.getD_eq_getElem?_getD, List.getElem?_eq_getElem hi]; rfl
    rw [e, List.filter_append, List.length_append, List.filter_cons, List.filter_nil]
    have s : lv (fun i => (l.getD i ent0).g) (i + 1) = lv (fun i => (l.getD i ent0).g) i + (if (l.getD i ent0).g then 0 else 1) := rfl
    rw [s, ih]
    generalize l.getD i ent0 = x
    obtain ⟨xk, xv, xg⟩ := x
    cases xg with
    | true => simp [keepP]
    | false => simp [keepP]
theorem apart_of {la lb : List Ent} (h : ∀ j, j < lb.length → look Ent.k (kAt lb j) la = none) : ∀ k, look Ent.k k la = none ∨ look Ent.k k lb = none := fun k => by
  cases e : look Ent.k k lb with
  | none => exact .inr rfl
  | some x =>
    have hx := List.mem_of_find?_eq_some e
    obtain ⟨j, hj, ej⟩ := List.mem_iff_getElem.1 hx
    have ek := look_key e
    have := h j hj
    have eg : lb.getD j ent0 = x := by simp [List.getD, hj, ej]
    unfold kAt at this
    rw [eg, ek] at this
    exact .inl this
set_option maxRecDepth 10000 in
set_option maxHeartbeats 8000000 in
theorem sifted_walk (MC : MergeC) (a0 : Option Addr) (ca : Nat) (la : List Ent) (ha : la.length ≤ ca) (za : a0 = none → la.length = 0 ∧ ca = 0) (b0 : Option Addr) (cb : Nat) (lb : List Ent) (hb : lb.length ≤ cb) (zb : b0 = none → lb.length = 0 ∧ cb = 0) (qo : Option Addr) (qn qc : Nat) (qf : Nat → Int) (hqn : qn ≤ 2000000) (hn : la.length + lb.length ≤ 1000000) (w : World) (ea : EL w a0 la) (eb : EL w b0 lb) (hq : KS w qo qn qf) :
    Calls Try.prog 4 #[.slice a0 la.length ca, .slice b0 lb.length cb, .slice qo qn qc] w fun e w' => e = .returned (.bool true) ∧ Gw w w' := by
  have M : Hid MergeC := MC
  have HA : Hid ((Gst.mk a0 ca la).ok w) := ⟨ea, ha, za⟩
  have HB : Hid ((Gst.mk b0 cb lb).ok w) := ⟨eb, hb, zb⟩
  have QK : Hid (KS w qo qn qf) := hq
  have z2 : ∀ x y : Gst, sizes [x.l, y.l] = x.l.length + y.l.length := fun x y => by simp [sizes]
  have E2 : Hid (∀ (x y : Gst) (W : World), x.l.length + y.l.length ≤ 2000000 → x.ok W → y.ok W → Calls Try.prog 7 #[.slice (some ⟨W.heap.size, 0, none⟩) 2 2] (W.alloc (.cells #[x.v, y.v] 22)) fun e w' => (∃ r : Gst, e = .returned r.v ∧ r.ok w' ∧ Mg Ent.k [x.l, y.l] r.l) ∧ Gw W w') := fun x y W h h1 h2 => M.out.rows [x, y] (by simp) (by show sizes [x.l, y.l] ≤ _; rw [z2]; exact h) W (fun r hr => by
    rcases List.mem_cons.1 hr with rfl | q
    · exact h1
    · rw [List.mem_singleton.1 q]; exact h2)
  have RI : Hid (∀ W, Gw w W → Calls Try.prog 6 #[.slice (some ⟨W.heap.size, 0, none⟩) 2 2] (W.alloc (.cells #[.slice a0 la.length ca, .slice b0 lb.length cb] 22)) fun e w' => (∃ q : Bool, e = .returned (.bool q) ∧ (q = true → Rise Ent.k la ∧ Rise Ent.k lb)) ∧ Gw W w') := fun W gg => by
    have ev := ev_rows (w := W) [⟨a0, ca, la⟩, ⟨b0, cb, lb⟩] (fun r hr => by
      rcases List.mem_cons.1 hr with rfl | q
      · exact HA.out.gw gg
      · rw [List.mem_singleton.1 q]; exact HB.out.gw gg)
    have := rising13 (some ⟨W.heap.size, 0, none⟩) 2 [la, lb] (by simp) (fun i hi => by
      have hi' : i < 2 := hi
      match i, hi' with
      | 0, _ => show la.length ≤ _; omega
      | 1, _ => show lb.length ≤ _; omega) _ ev
    refine this.mono fun e w' ⟨⟨q, q1, q2⟩, g⟩ => ⟨⟨q, q1, fun ht => ?_⟩, ((Gw.refl W).alloc _ _).trans g⟩
    have := q2.1 ht
    exact ⟨this _ (by simp), this _ (by simp)⟩
  have SM : Hid (∀ (x y : Gst) (W : World), x.l.length ≤ 2000000 → x.ok W → y.ok W → x.l = y.l → Calls Try.prog 8 #[x.v, y.v] W fun e w' => e = .returned (.bool true) ∧ Gw W w') := fun x y W h h1 h2 e => by
    obtain ⟨bo, bc, l⟩ := x
    obtain ⟨co, cc, l'⟩ := y
    have e' : l = l' := e
    subst e'
    exact same13 bo co bc cc l (by show l.length ≤ _; have : l.length ≤ 2000000 := h; omega) W h1.el h2.el
  have LV3 : Hid (∀ W, Gw w W → Calls Try.prog 14 #[.slice a0 la.length ca] W fun e w' => e = .returned (.int .i64 (((la.filter (keepP fun _ => false)).length : Nat) : Int)) ∧ Gw W w') := fun W gg => by
    have := rlive3_any a0 la.length ca _ _ _ (by omega) W (HA.out.gw gg).el
    have e := lv_keep la la.length (Nat.le_refl _)
    rw [List.take_length] at e
    rw [e] at this
    exact this
  have OFa : Hid (∀ W, Gw w W → Calls Try.prog 16 #[.slice a0 la.length ca] W fun e w' => (∃ b cap, e = .returned (.slice (some ⟨b, 0, none⟩) la.length cap) ∧ KS w' (some ⟨b, 0, none⟩) la.length (kAt la)) ∧ Gw W w') := fun W gg => (rof3_any a0 la.length ca _ _ _ (by omega) W (HA.out.gw gg).el).mono fun e w' ⟨⟨b, cap, q1, _, q3⟩, g⟩ => ⟨⟨b, cap, q1, ks_of_own q3 fun t ht => (ea.ok ht).1⟩, g⟩
  have B0 : Hid ((w.alloc (.cells #[.slice qo qn qc] 29)).heap[w.heap.size]? = some (.cells #[.slice qo qn qc] 29 (0, 0))) := heap_alloc_new w _
  have G0 : Hid (Gw w (w.alloc (.cells #[.slice qo qn qc] 29))) := (Gw.refl w).alloc _ _
  clear MC ea eb hq ha hb za zb z2
  go_enter Try.func4, Try.ntmps4
  go_wp2_with fail
  obtain ⟨bx, hbx⟩ : ∃ bx, w.heap.size = bx := ⟨_, rfl⟩
  rw [hbx] at B0 ⊢
  clear hbx
  generalize w.alloc (.cells #[.slice qo qn qc] 29) = w0 at B0 G0 ⊢
  have FN : Hid (∀ W, Gw w0 W → FnB 9 #[.pointer (some ⟨bx, 0, none⟩)] (liveB qn qf) W) := by
    have bl : bx < w0.heap.size := (Array.getElem?_eq_some_iff.1 B0.out).1
    have c0 : w0.cell? ⟨bx, 0, none⟩ = some (.slice qo qn qc) := by have := B0.out; simp [World.cell?, this]
    exact fun W gg => fn_sifted1 bx qo qn qc qf (by omega) W ((gg.cell _ _ bl).trans c0) (Nat.lt_of_lt_of_le bl gg.size) (QK.out.gw (G0.out.trans gg))
  clear B0
  obtain ⟨kp, hkp⟩ : ∃ kp, liveB qn qf = kp := ⟨_, rfl⟩
  rw [hkp] at FN
  clear hkp
  refine Calls.mono (M.out.shown w0) ?_
  rintro e w1 ⟨rfl, g1⟩
  have G1 : Hid (Gw w0 w1) := g1
  clear g1
  have hmf : ∀ (fn : Fn) (first cap : Array Value) (w : World), (Instr.makeFunc fn first cap).run Try.prog w = .ok (.func fn first cap) w := fun _ _ _ _ => rfl
  have X := M.out.siftL ⟨a0, ca, la⟩ _ _ _ (by show la.length ≤ _; omega) w1 (HA.out.gw (G0.out.trans G1.out)) (FN.out w1 G1.out)
  dsimp only [Gst.v] at X
  have XH := (show Hid _ from X)
  clear X
  go_wp2_with fail
  refine Calls.mono XH.out ?_
  rintro e w2 ⟨⟨⟨s0, s1, ls⟩, rfl, k2, els⟩, g2⟩
  clear XH
  have els' : ls = la.filter (keepP kp) := els
  have KS2 : Hid ((Gst.mk s0 s1 ls).ok w2) := k2
  have LS : Hid (ls = la.filter (keepP kp)) := els'
  have lsl : ls.length ≤ la.length := by rw [els']; exact List.length_filter_le _ _
  have G2 : Hid (Gw w0 w2) := G1.out.trans g2
  clear k2 els els' g2
  have X := M.out.siftL ⟨a0, ca, la⟩ _ #[] _ (by show la.length ≤ _; omega) w2 (HA.out.gw (G0.out.trans G2.out)) (fn_sifted2 w2)
  dsimp only [Gst.v] at X
  have XH := (show Hid _ from X)
  clear X
  go_wp2_with fail
  refine Calls.mono XH.out ?_
  rintro e w3 ⟨⟨⟨t0, t1, lt⟩, rfl, k3, elt⟩, g3⟩
  clear XH
  have elt' : lt = la := elt.trans (keep_all la)
  subst elt'
  have KT3 : Hid ((Gst.mk t0 t1 lt).ok w3) := k3
  have G23 : Hid (Gw w2 w3) := g3
  have G3 : Hid (Gw w0 w3) := G2.out.trans g3
  clear k3 elt g3
  have X := M.out.siftL ⟨a0, ca, lt⟩ _ #[] _ (by show lt.length ≤ _; omega) w3 (HA.out.gw (G0.out.trans G3.out)) (fn_sifted3 w3)
  dsimp only [Gst.v] at X
  have XH := (show Hid _ from X)
  clear X
  go_wp2_with fail
  refine Calls.mono XH.out ?_
  rintro e w4 ⟨⟨⟨n0, n1, lnn⟩, rfl, k4, eln⟩, g4⟩
  clear XH
  have eln' : lnn = lt.filter (keepP fun _ => false) := eln
  have KN4 : Hid ((Gst.mk n0 n1 lnn).ok w4) := k4
  have NG : Hid (∀ e ∈ lnn, e.g = false) := by rw [eln']; exact keep_none_g lt
  have G24 : Hid (Gw w2 w4) := G23.out.trans g4
  have G34 : Hid (Gw w3 w4) := g4
  have G4 : Hid (Gw w0 w4) := G3.out.trans g4
  rw [← eln'] at LV3
  have lnl : lnn.length ≤ lt.length := by rw [eln']; exact List.length_filter_le _ _
  clear k4 eln eln' g4
  have X := M.out.siftL ⟨s0, s1, ls⟩ _ _ _ (by show ls.length ≤ _; omega) w4 (KS2.out.gw G24.out) (FN.out w4 G4.out)
  dsimp only [Gst.v] at X
  have XH := (show Hid _ from X)
  clear X
  go_wp2_with fail
  refine Calls.mono XH.out ?_
  rintro e w5 ⟨⟨⟨u0, u1, lu⟩, rfl, k5, elu⟩, g5⟩
  clear XH
  have elu' : lu = ls := by
    have q : lu = ls.filter (keepP kp) := elu
    rw [q, LS.out, keep_twice]
  subst elu'
  have G45 : Hid (Gw w4 w5) := g5
  have G5 : Hid (Gw w0 w5) := G4.out.trans g5
  have K5 : Hid ((Gst.mk u0 u1 lu).ok w5) := k5
  clear k5 elu g5
  have X := SM.out ⟨u0, u1, lu⟩ ⟨s0, s1, lu⟩ w5 (by show lu.length ≤ _; omega) K5.out (KS2.out.gw (G24.out.trans G45.out)) rfl
  dsimp only [Gst.v] at X
  have XH := (show Hid _ from X)
  clear X
  go_wp2_with fail
  refine Calls.mono XH.out ?_
  rintro e w6 ⟨rfl, g6⟩
  clear XH
  have G46 : Hid (Gw w4 w6) := G45.out.trans g6
  have G6 : Hid (Gw w0 w6) := G5.out.trans g6
  clear g6
  have X := SM.out ⟨t0, t1, lt⟩ ⟨a0, ca, lt⟩ w6 (by show lt.length ≤ _; omega) (KT3.out.gw (G34.out.trans G46.out)) (HA.out.gw (G0.out.trans G6.out)) rfl
  dsimp only [Gst.v] at X
  have XH := (show Hid _ from X)
  clear X
  go_wp2_with fail
  refine Calls.mono XH.out ?_
  rintro e w7 ⟨rfl, g7⟩
  clear XH
  have G47 : Hid (Gw w4 w7) := G46.out.trans g7
  have G7 : Hid (Gw w0 w7) := G6.out.trans g7
  clear g7 G46 G45 G6 G5
  go_wp2_with fail
  refine Calls.mono (LV3.out w7 (G0.out.trans G7.out)) ?_
  rintro e w8 ⟨rfl, g8⟩
  have G48 : Hid (Gw w4 w8) := G47.out.trans g8
  have G8 : Hid (Gw w0 w8) := G7.out.trans g8
  clear g8 G47 G7 LV3
  obtain ⟨nn, hnn⟩ : ∃ x, lnn.length = x := ⟨_, rfl⟩
  have NNL : Hid (lnn.length = nn) := hnn
  rw [hnn] at lnl ⊢
  clear hnn
  go_wp2_with fail
  go_loopg [12] nn (fun gg s12 wr => ∃ i : Nat, s12 = .int .i64 (i : Int) ∧ i ≤ nn ∧ nn - i ≤ gg ∧ wr = w8)
  case atStart => exact ⟨0, rfl, Nat.zero_le _, by omega, rfl⟩
  case round => as_aux_lemma =>
    obtain ⟨i, rfl, a1, a2, rfl⟩ := hrel
    by_cases ilt : i < nn
    · have ilt' : (i : Int) < (nn : Int) := by omega
      have hi : i < lnn.length := by rw [NNL.out]; exact ilt
      obtain ⟨nb, noff, en, hnb, hnc⟩ := (KN4.out.gw G48.out).el.cells (by show 0 < lnn.length; omega)
      have en' : n0 = some ⟨nb, noff, none⟩ := en
      subst en'
      obtain ⟨_, _, c2⟩ := hnc i hi
      have eg : (lnn.getD i ent0).g = false := by
        have e : lnn.getD i ent0 = lnn[i] := by simp [List.getD, hi]
        rw [e]
        exact NG.out _ (List.getElem_mem hi)
      have c2' : wr.cell? ⟨nb, noff + i * 3 + 2, none⟩ = some (.bool false) := by rw [← eg]; exact c2
      clear hnc c2 eg en
      go_wp2_with fail
      go_roundg (nn - (i + 1))
      case measure => omega
      case rel => exact ⟨i + 1, by go_num, by omega, Nat.le_refl _, rfl⟩
    · clear KN4 NG
      go_wp2_with fail
      refine Calls.mono (RI.out wr (G0.out.trans G8.out)) ?_
      rintro e w9 ⟨⟨q, rfl, hq⟩, g9⟩
      have G89 : Hid (Gw wr w9) := g9
      have G9 : Hid (Gw w0 w9) := G8.out.trans g9
      clear g9 RI
      cases q with
      | false =>
        go_wp2_with fail
        go_ret
        exact ⟨rfl, G0.out.trans G9.out⟩
      | true =>
        have RA : Hid (Rise Ent.k lt) := (hq rfl).1
        have RB : Hid (Rise Ent.k lb) := (hq rfl).2
        clear hq
        obtain ⟨nb, hnb⟩ : ∃ x, lb.length = x := ⟨_, rfl⟩
        have NB : Hid (lb.length = nb) := hnb
        have HB9 : Hid (EL w9 b0 lb) := (HB.out.gw (G0.out.trans G9.out)).el
        have G29 : Hid (Gw w2 w9) := (G24.out.trans G48.out).trans G89.out
        clear G24 G48 G89 G34 G23 KT3 K5
        rw [hnb]
        go_wp2_with fail
        go_loopg [13] nb (fun gg s13 wr => ∃ i : Nat, s13 = .int .i64 (i : Int) ∧ i ≤ nb ∧ nb - i ≤ gg ∧ Aside (∀ j, j < i → look Ent.k (kAt lb j) lt = none) ∧ Aside (Gw w9 wr))
        case atStart => exact ⟨0, rfl, Nat.zero_le _, by omega, (show Aside _ from fun j hj => by omega), (show Aside _ from Gw.refl w9)⟩
        case round => as_aux_lemma =>
          obtain ⟨i, rfl, b1, b2, UN, G⟩ := hrel
          obtain ⟨wT, hwT⟩ : ∃ wx, wx = wr := ⟨_, rfl⟩
          subst hwT
          by_cases jlt : i < nb
          · have jlt' : (i : Int) < (nb : Int) := by omega
            have hi : i < lb.length := by rw [NB.out]; exact jlt
            obtain ⟨bb, boff, eb, hbb, hbc⟩ := HB9.out.cells (by omega)
            subst eb
            obtain ⟨d0, _, _⟩ := hbc i hi
            have xb := (HB9.out.ok hi).1
            obtain ⟨xk, hxk⟩ : ∃ x, (lb.getD i ent0).k = x := ⟨_, rfl⟩
            have XK : Aside (kAt lb i = xk) := hxk
            have d0' : w9.cell? ⟨bb, boff + i * 3, none⟩ = some (.int .u64 xk) := by rw [← hxk]; exact d0
            rw [hxk] at xb
            have RKa : Hid (∀ (W : World) (b cap : Nat), KS W (some ⟨b, 0, none⟩) lt.length (kAt lt) → Calls Try.prog 15 #[.slice (some ⟨b, 0, none⟩) lt.length cap, .int .u64 xk] W fun e w' => (∃ (m : Int) (is : Bool), e = .returned (.tuple #[.int .i64 m, .bool is]) ∧ (is = true ↔ look Ent.k xk lt ≠ none)) ∧ Gw W w') := fun W b cap hk => (rrank13 (some ⟨b, 0, none⟩) lt.length cap (kAt lt) xk (by omega) W hk).mono fun e w' ⟨⟨m, is, q1, q2⟩, g⟩ => by
              obtain ⟨k, _, _, _, q4⟩ := rank_look RA.out q2
              exact ⟨⟨m, is, q1, q4⟩, g⟩
            have HW : Hid (∀ w', Gw wT w' → Gw wT w' ∧ w'.cell? ⟨bb, boff + i * 3, none⟩ = some (.int .u64 xk)) := fun w' g => ⟨g, ((G.out.trans g).cell _ _ hbb).trans d0'⟩
            have GT : Hid (∀ W, Gw wT W → Gw w W) := fun W gg => ((G0.out.trans G9.out).trans G.out).trans gg
            have GT9 : Hid (∀ W, Gw wT W → Gw w9 W) := fun W gg => G.out.trans gg
            clear hbc d0 d0' hxk
            go_upto_region 20 with fail
            go_cut [14, 15] (fun a b wx => ∃ (m : Int) (is : Bool), a = .int .i64 m ∧ b = .bool is ∧ Aside (is = true ↔ look Ent.k xk lt ≠ none) ∧ Aside (Gw w9 wx))
            case first => as_aux_lemma =>
              go_region_held3 (fun w' => Gw wT w' ∧ w'.cell? ⟨bb, boff + i * 3, none⟩ = some (.int .u64 xk))
                ((refine HW.out _ ?_; (repeat (first | exact Gw.refl _ | exact And.left (by assumption) | exact Hid.out (by assumption) | refine Gw.drew ?_ | refine Gw.drewN ?_ _)); done))
                (first | (go_at_call 16; refine (OFa.out _ (GT.out _ (by repeat (first | exact Gw.refl _ | exact And.left (by assumption) | exact Hid.out (by assumption) | refine Gw.drew ?_ | refine Gw.drewN ?_ _)))).mono ?_; rintro ex u5 ⟨⟨kb, kcp, rfl, ks⟩, g5⟩; have G5 : Hid (Gw wT u5) := Gw.trans (by repeat (first | exact Gw.refl _ | exact And.left (by assumption) | exact Hid.out (by assumption) | refine Gw.drew ?_ | refine Gw.drewN ?_ _)) g5; have K5 : Hid (KS u5 (some ⟨kb, 0, none⟩) lt.length (kAt lt)) := ks; clear ks g5) | (go_at_call 15; refine (RKa.out _ _ _ (KS.gw (Hid.out (by assumption)) (by repeat (first | exact Gw.refl _ | refine Gw.drew ?_ | refine Gw.drewN ?_ _)))).mono ?_; rintro ex u6 ⟨⟨m6, is6, rfl, hr2⟩, g6⟩; have G6 : Hid (Gw wT u6) := Gw.trans (by repeat (first | exact Gw.refl _ | exact And.left (by assumption) | exact Hid.out (by assumption) | refine Gw.drew ?_ | refine Gw.drewN ?_ _)) g6; have R6 : Hid (is6 = true ↔ look Ent.k xk lt ≠ none) := hr2; clear g6 hr2))
              all_goals go_wp2_with fail
              all_goals go_meet
              all_goals (case rel => exact ⟨m6, is6, rfl, rfl, (show Aside _ from R6.out), (show Aside _ from GT9.out _ (by repeat (first | exact Gw.refl _ | exact And.left (by assumption) | exact Hid.out (by assumption) | refine Gw.drew ?_ | refine Gw.drewN ?_ _)))⟩)
            case rest => as_aux_lemma =>
              obtain ⟨m6, is6, rfl, rfl, IS, G6⟩ := hcut
              clear RKa HW GT GT9
              cases is6 with
              | true =>
                go_wp2_with fail
                go_ret
                exact ⟨rfl, (G0.out.trans G9.out).trans G6.out⟩
              | false =>
                have UN' : Aside (∀ j, j < i + 1 → look Ent.k (kAt lb j) lt = none) := fun j hj => by
                  by_cases e : j = i
                  · rw [e, XK.out]
                    cases hk : look Ent.k xk lt with
                    | none => rfl
                    | some y =>
                      have := IS.out.2 (by rw [hk]; simp)
                      cases this
                  · exact UN.out j (by omega)
                go_wp2_with fail
                go_roundg (nb - (i + 1))
                case measure => omega
                case rel => exact ⟨i + 1, by go_num, by omega, Nat.le_refl _, UN', G6⟩
          · have ei : i = nb := by omega
            have AP : Hid (∀ k, look Ent.k k lt = none ∨ look Ent.k k lb = none) := apart_of fun j hj => UN.out j (by rw [ei, ← NB.out]; exact hj)
            have GA : Hid (Gw w0 wT) := G9.out.trans G.out
            have G2A : Hid (Gw w2 wT) := G29.out.trans G.out
            clear UN
            have X := E2.out ⟨a0, ca, lt⟩ ⟨b0, cb, lb⟩ wT (by show lt.length + lb.length ≤ _; omega) (HA.out.gw (G0.out.trans GA.out)) (HB.out.gw (G0.out.trans GA.out))
            dsimp only [Gst.v] at X; rw [NB.out] at X
            have XH := (show Hid _ from X)
            clear X
            go_wp2_with fail
            refine Calls.mono XH.out ?_
            rintro e wA ⟨⟨⟨m0, m1, lm⟩, rfl, kA, mA⟩, gA⟩
            clear XH
            have MM : Hid (Mg Ent.k [lt, lb] lm) := mA
            have GAA : Hid (Gw w0 wA) := GA.out.trans gA
            have G2B : Hid (Gw w2 wA) := G2A.out.trans gA
            have lml : lm.length ≤ 1000000 := by have := mA.few; simp [sizes] at this; omega
            have X := M.out.siftL ⟨m0, m1, lm⟩ _ _ _ (by show lm.length ≤ _; omega) wA kA (FN.out wA GAA.out)
            dsimp only [Gst.v] at X
            have XH := (show Hid _ from X)
            clear X
            go_wp2_with fail
            refine Calls.mono XH.out ?_
            rintro e wB ⟨⟨⟨p0, p1, lp⟩, rfl, kB, elp⟩, gB⟩
            clear XH
            have LP : Hid (lp = lm.filter (keepP kp)) := elp
            have KB : Hid ((Gst.mk p0 p1 lp).ok wB) := kB
            have GB : Hid (Gw w0 wB) := GAA.out.trans gB
            have G2C : Hid (Gw w2 wB) := G2B.out.trans gB
            clear kA mA gA kB elp gB
            have X := M.out.siftL ⟨b0, cb, lb⟩ _ _ _ (by show lb.length ≤ _; omega) wB (HB.out.gw (G0.out.trans GB.out)) (FN.out wB GB.out)
            dsimp only [Gst.v] at X; rw [NB.out] at X
            have XH := (show Hid _ from X)
            clear X
            go_wp2_with fail
            refine Calls.mono XH.out ?_
            rintro e wC ⟨⟨⟨r0, r1, lr⟩, rfl, kC, elr⟩, gC⟩
            clear XH
            have elr' : lr = lb.filter (keepP kp) := elr
            have lrl : lr.length ≤ lb.length := by rw [elr']; exact List.length_filter_le _ _
            have ELR : Hid (lr = lb.filter (keepP kp)) := elr'
            clear elr elr'
            have X := E2.out ⟨s0, s1, lu⟩ ⟨r0, r1, lr⟩ wC (by show lu.length + lr.length ≤ _; omega) (KS2.out.gw (G2C.out.trans gC)) kC
            dsimp only [Gst.v] at X
            have XH := (show Hid _ from X)
            clear X
            go_wp2_with fail
            refine Calls.mono XH.out ?_
            rintro e wD ⟨⟨⟨v0, v1, lv'⟩, rfl, kD, mD⟩, gD⟩
            clear XH
            have EQ0 : lp = lv' := by
              have m' : Mg Ent.k [lt.filter (keepP kp), lb.filter (keepP kp)] lv' := by
                rw [← LS.out, ← ELR.out]
                exact mD
              rw [LP.out]
              exact Mg.sift RA.out RB.out (keepP kp) AP.out MM.out m'
            have EQ : Hid (lp = lv') := EQ0
            clear EQ0
            have lpl : lp.length ≤ 1000000 := by rw [LP.out]; exact Nat.le_trans (List.length_filter_le _ _) lml
            have X := SM.out ⟨p0, p1, lp⟩ ⟨v0, v1, lv'⟩ wD (by show lp.length ≤ _; omega) (KB.out.gw (gC.trans gD)) kD EQ.out
            dsimp only [Gst.v] at X
            have XH := (show Hid _ from X)
            clear X
            go_wp2_with fail
            refine Calls.mono XH.out ?_
            rintro e wE ⟨rfl, gE⟩
            clear XH
            go_wp2_with fail
            go_ret
            exact ⟨rfl, (G0.out.trans GB.out).trans ((gC.trans gD).trans gE)⟩
end Go.Proofs.Ytnkcnfpbbdlifab
