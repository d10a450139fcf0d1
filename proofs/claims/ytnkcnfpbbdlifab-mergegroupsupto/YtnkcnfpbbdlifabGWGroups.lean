/- MergeGroups: the walk. -/
import Derived.Test.YtnkcnfpbbdlifabGC
namespace Go.Proofs.Ytnkcnfpbbdlifab
open Go.RowKit
set_option linter.unusedVariables false

/-- A list that lies in memory: where, how much room, what. -/
structure Gst where
  ao : Option Addr
  cap : Nat
  l : List Ent
def Gst.v (r : Gst) : Value := .slice r.ao r.l.length r.cap
structure Gst.ok (r : Gst) (w : World) : Prop where
  el : EL w r.ao r.l
  le : r.l.length ≤ r.cap
  nil : r.ao = none → r.l.length = 0 ∧ r.cap = 0
theorem Gst.ok.gw {r : Gst} {w w' : World} (h : r.ok w) (g : Gw w w') : r.ok w' := ⟨h.el.gw g, h.le, h.nil⟩
theorem gst_none (w : World) (a : Option Addr) (e : a ≠ none) : (Gst.mk a 0 []).ok w := ⟨⟨fun h => by simp at h, fun i hi => by simp at hi⟩, Nat.le_refl _, fun q => absurd q e⟩
theorem eo_ok {w : World} {base : Nat} {bo : Option Addr} {oc : Nat} {o : List Ent} (h : EO w base (.slice bo o.length oc) o) (ok : ∀ e ∈ o, e.ok) : (Gst.mk bo oc o).ok w := by
  refine ⟨eo_el h ok, ?_, ?_⟩
  · rcases h.2 with ⟨e, z⟩ | ⟨b, cap, cur, e, hb, hh, r⟩
    · show o.length ≤ oc; omega
    · injection e with e1 e2 e3
      show o.length ≤ oc
      rw [e3]
      exact r.1
  · intro q
    rcases h.2 with ⟨e, z⟩ | ⟨b, cap, cur, e, hb, hh, r⟩
    · injection e with e1 e2 e3
      exact ⟨z, e3⟩
    · injection e with e1 e2 e3
      have q' : bo = none := q
      rw [q'] at e1
      cases e1
theorem ev_rows {w : World} (R : List Gst) (h : ∀ r ∈ R, r.ok w) : EV (w.alloc (.cells (R.map Gst.v).toArray 22)) (some ⟨w.heap.size, 0, none⟩) (R.map Gst.l) := by
  have g : Gw w (w.alloc (.cells (R.map Gst.v).toArray 22)) := (Gw.refl w).alloc _ _
  refine ⟨fun h0 => ⟨w.heap.size, 0, rfl, by simp, fun i hi => ?_⟩⟩
  have hi' : i < R.length := by simpa using hi
  have e : (R.map Gst.l).getD i [] = R[i].l := by simp [List.getD, hi']
  have o := h R[i] (List.getElem_mem hi')
  rw [e]
  refine ⟨R[i].ao, R[i].cap, ?_, o.le, o.el.gw g, o.nil⟩
  have hb := heap_alloc_new w (.cells (R.map Gst.v).toArray 22)
  rw [Nat.zero_add]
  simp only [World.cell?, hb]
  simp [hi', Gst.v]
theorem MergeC.rows (MC : MergeC) (R : List Gst) (hR : R.length ≤ 9) (hs : sizes (R.map Gst.l) ≤ 2000000) (w : World) (h : ∀ r ∈ R, r.ok w) :
    Calls Try.prog 7 #[.slice (some ⟨w.heap.size, 0, none⟩) R.length R.length] (w.alloc (.cells (R.map Gst.v).toArray 22)) fun e w' => (∃ r : Gst, e = .returned r.v ∧ r.ok w' ∧ Mg Ent.k (R.map Gst.l) r.l) ∧ Gw w w' := by
  have ev := ev_rows R h
  have g : Gw w (w.alloc (.cells (R.map Gst.v).toArray 22)) := (Gw.refl w).alloc _ _
  have ln : (R.map Gst.l).length = R.length := by simp
  have each : ∀ i, i < (R.map Gst.l).length → ((R.map Gst.l).getD i []).length ≤ 2000000 := fun i hi => by
    have e : (R.map Gst.l).getD i [] = (R.map Gst.l)[i] := by simp only [List.getD, List.getElem?_eq_getElem hi, Option.getD_some]
    rw [e]
    have : ∀ (L : List (List Ent)) (l : List Ent), l ∈ L → l.length ≤ sizes L := by
      intro L
      induction L with
      | nil => intro l hl; cases hl
      | cons a L ih =>
        intro l hl
        rw [sizes_cons]
        rcases List.mem_cons.1 hl with rfl | q
        · omega
        · have := ih l q; omega
    exact Nat.le_trans (this _ _ (List.getElem_mem hi)) hs
  have := MC.entries (some ⟨w.heap.size, 0, none⟩) R.length (R.map Gst.l) (by omega) each hs (by omega) (fun q => by cases q) _ ev
  rw [ln] at this
  refine this.mono fun e w' ⟨⟨bo, oc, o, a1, a2, a3⟩, b⟩ => ⟨⟨⟨bo, oc, o⟩, a1, eo_ok a2 (a3.oks ev.oks), a3⟩, g.trans b⟩
set_option maxRecDepth 10000 in
set_option maxHeartbeats 8000000 in
theorem groups_walk (MC : MergeC) (a b c : Gst) (hn : a.l.length + b.l.length + c.l.length ≤ 1000000) (w : World) (ha : a.ok w) (hb : b.ok w) (hc : c.ok w) :
    Calls Try.prog 3 #[a.v, b.v, c.v] w fun e w' => e = .returned (.bool true) ∧ Gw w w' := by
  have M : Hid MergeC := MC
  have HA : Hid (a.ok w) := ha
  have HB : Hid (b.ok w) := hb
  have HC : Hid (c.ok w) := hc
  have z1 : ∀ x : Gst, sizes [x.l] = x.l.length := fun x => by simp [sizes]
  have z2 : ∀ x y : Gst, sizes [x.l, y.l] = x.l.length + y.l.length := fun x y => by simp [sizes]
  have z3 : ∀ x y z : Gst, sizes [x.l, y.l, z.l] = x.l.length + (y.l.length + z.l.length) := fun x y z => by simp [sizes]
  have E1 : Hid (∀ (x : Gst) (W : World), x.l.length ≤ 2000000 → x.ok W → Calls Try.prog 7 #[.slice (some ⟨W.heap.size, 0, none⟩) 1 1] (W.alloc (.cells #[x.v] 22)) fun e w' => (∃ r : Gst, e = .returned r.v ∧ r.ok w' ∧ Mg Ent.k [x.l] r.l) ∧ Gw W w') := fun x W h h1 => M.out.rows [x] (by simp) (by show sizes [x.l] ≤ _; rw [z1]; exact h) W (fun r hr => by rw [List.mem_singleton.1 hr]; exact h1)
  have E2 : Hid (∀ (x y : Gst) (W : World), x.l.length + y.l.length ≤ 2000000 → x.ok W → y.ok W → Calls Try.prog 7 #[.slice (some ⟨W.heap.size, 0, none⟩) 2 2] (W.alloc (.cells #[x.v, y.v] 22)) fun e w' => (∃ r : Gst, e = .returned r.v ∧ r.ok w' ∧ Mg Ent.k [x.l, y.l] r.l) ∧ Gw W w') := fun x y W h h1 h2 => M.out.rows [x, y] (by simp) (by show sizes [x.l, y.l] ≤ _; rw [z2]; exact h) W (fun r hr => by
    rcases List.mem_cons.1 hr with rfl | q
    · exact h1
    · rw [List.mem_singleton.1 q]; exact h2)
  have E3 : Hid (∀ (x y z : Gst) (W : World), x.l.length + y.l.length + z.l.length ≤ 2000000 → x.ok W → y.ok W → z.ok W → Calls Try.prog 7 #[.slice (some ⟨W.heap.size, 0, none⟩) 3 3] (W.alloc (.cells #[x.v, y.v, z.v] 22)) fun e w' => (∃ r : Gst, e = .returned r.v ∧ r.ok w' ∧ Mg Ent.k [x.l, y.l, z.l] r.l) ∧ Gw W w') := fun x y z W h h1 h2 h3 => M.out.rows [x, y, z] (by simp) (by show sizes [x.l, y.l, z.l] ≤ _; rw [z3]; omega) W (fun r hr => by
    rcases List.mem_cons.1 hr with rfl | q
    · exact h1
    · rcases List.mem_cons.1 q with rfl | q
      · exact h2
      · rw [List.mem_singleton.1 q]; exact h3)
  have RI : Hid (∀ W, Gw w W → Calls Try.prog 6 #[.slice (some ⟨W.heap.size, 0, none⟩) 3 3] (W.alloc (.cells #[a.v, b.v, c.v] 22)) fun e w' => (∃ q : Bool, e = .returned (.bool q) ∧ (q = true → Rise Ent.k a.l ∧ Rise Ent.k b.l ∧ Rise Ent.k c.l)) ∧ Gw W w') := fun W gg => by
    have ev := ev_rows (w := W) [a, b, c] (fun r hr => by
      rcases List.mem_cons.1 hr with rfl | q
      · exact HA.out.gw gg
      · rcases List.mem_cons.1 q with rfl | q
        · exact HB.out.gw gg
        · rw [List.mem_singleton.1 q]; exact HC.out.gw gg)
    have := rising13 (some ⟨W.heap.size, 0, none⟩) 3 [a.l, b.l, c.l] (by simp) (fun i hi => by
      have hi' : i < 3 := hi
      match i, hi' with
      | 0, _ => show a.l.length ≤ _; omega
      | 1, _ => show b.l.length ≤ _; omega
      | 2, _ => show c.l.length ≤ _; omega) _ ev
    refine this.mono fun e w' ⟨⟨q, q1, q2⟩, g⟩ => ⟨⟨q, q1, fun ht => ?_⟩, ((Gw.refl W).alloc _ _).trans g⟩
    have := q2.1 ht
    exact ⟨this _ (by simp), this _ (by simp), this _ (by simp)⟩
  have SM : Hid (∀ (x y : Gst) (W : World), x.l.length ≤ 2000000 → x.ok W → y.ok W → x.l = y.l → Calls Try.prog 8 #[x.v, y.v] W fun e w' => e = .returned (.bool true) ∧ Gw W w') := fun x y W h h1 h2 e => by
    obtain ⟨bo, bc, l⟩ := x
    obtain ⟨co, cc, l'⟩ := y
    have e' : l = l' := e
    subst e'
    exact same13 bo co bc cc l (by show l.length ≤ _; have : l.length ≤ 2000000 := h; omega) W h1.el h2.el
  clear MC ha hb hc z1 z2 z3
  obtain ⟨a0, ca, la⟩ := a
  obtain ⟨b0, cb, lb⟩ := b
  obtain ⟨c0, cc, lc⟩ := c
  have hn' : la.length + lb.length + lc.length ≤ 1000000 := hn
  clear hn
  dsimp only [Gst.v] at RI ⊢
  go_enter Try.func3, Try.ntmps3
  go_wp2_with fail
  refine Calls.mono (M.out.shown w) ?_
  rintro e w1 ⟨rfl, g1⟩
  have G1 : Hid (Gw w w1) := g1
  clear g1
  go_wp2_with fail
  refine Calls.mono (RI.out w1 G1.out) ?_
  rintro e w2 ⟨⟨q, rfl, hq⟩, g2⟩
  have G2 : Hid (Gw w w2) := G1.out.trans g2
  clear g2 RI
  cases q with
  | false =>
    go_wp2_with fail
    go_ret
    exact ⟨rfl, G2.out⟩
  | true =>
    obtain ⟨ra, rb, rc⟩ := hq rfl
    have RA : Hid (Rise Ent.k la) := ra
    have RB : Hid (Rise Ent.k lb) := rb
    have RC : Hid (Rise Ent.k lc) := rc
    clear ra rb rc hq
    have X1 := E3.out ⟨a0, ca, la⟩ ⟨b0, cb, lb⟩ ⟨c0, cc, lc⟩ w2 (by show la.length + lb.length + lc.length ≤ _; omega) (HA.out.gw G2.out) (HB.out.gw G2.out) (HC.out.gw G2.out)
    dsimp only [Gst.v] at X1
    have X1H := (show Hid _ from X1)
    clear X1
    go_wp2_with fail
    refine Calls.mono X1H.out ?_
    rintro e w3 ⟨⟨⟨d0, d1, o⟩, rfl, k1, m1⟩, g3⟩
    have KO : Hid ((Gst.mk d0 d1 o).ok w3) := k1
    have MO : Hid (Mg Ent.k [la, lb, lc] o) := m1
    have G3 : Hid (Gw w w3) := G2.out.trans g3
    have ol : o.length ≤ 1000000 := by have := m1.few; simp [sizes] at this; omega
    clear k1 m1 g3 X1H
    have X2 := E2.out ⟨a0, ca, la⟩ ⟨b0, cb, lb⟩ w3 (by show la.length + lb.length ≤ _; omega) (HA.out.gw G3.out) (HB.out.gw G3.out)
    dsimp only [Gst.v] at X2
    have X2H := (show Hid _ from X2)
    clear X2
    go_wp2_with fail
    refine Calls.mono X2H.out ?_
    rintro e w4 ⟨⟨⟨p0, p1, ab⟩, rfl, k2, m2⟩, g4⟩
    have MAB : Hid (Mg Ent.k [la, lb] ab) := m2
    have G4 : Hid (Gw w w4) := G3.out.trans g4
    have G34 : Hid (Gw w3 w4) := g4
    have abl : ab.length ≤ la.length + lb.length := by have := m2.few; simp [sizes] at this; omega
    have X3 := E2.out ⟨p0, p1, ab⟩ ⟨c0, cc, lc⟩ w4 (by show ab.length + lc.length ≤ _; omega) k2 (HC.out.gw G4.out)
    dsimp only [Gst.v] at X3
    have X3H := (show Hid _ from X3)
    clear X3 k2 m2 g4 X2H
    go_wp2_with fail
    refine Calls.mono X3H.out ?_
    rintro e w5 ⟨⟨⟨s0, s1, o2⟩, rfl, k3, m3⟩, g5⟩
    have e2 : o = o2 := Mg.left RA.out RB.out RC.out MO.out MAB.out m3
    subst e2
    have KL : Hid ((Gst.mk s0 s1 o).ok w5) := k3
    have G5 : Hid (Gw w w5) := G4.out.trans g5
    have G35 : Hid (Gw w3 w5) := G34.out.trans g5
    clear k3 m3 g5 X3H G34
    have X4 := E2.out ⟨b0, cb, lb⟩ ⟨c0, cc, lc⟩ w5 (by show lb.length + lc.length ≤ _; omega) (HB.out.gw G5.out) (HC.out.gw G5.out)
    dsimp only [Gst.v] at X4
    have X4H := (show Hid _ from X4)
    clear X4
    go_wp2_with fail
    refine Calls.mono X4H.out ?_
    rintro e w6 ⟨⟨⟨q0, q1, bc⟩, rfl, k4, m4⟩, g6⟩
    have MBC : Hid (Mg Ent.k [lb, lc] bc) := m4
    have G6 : Hid (Gw w w6) := G5.out.trans g6
    have G56 : Hid (Gw w5 w6) := g6
    have bcl : bc.length ≤ lb.length + lc.length := by have := m4.few; simp [sizes] at this; omega
    have X5 := E2.out ⟨a0, ca, la⟩ ⟨q0, q1, bc⟩ w6 (by show la.length + bc.length ≤ _; omega) (HA.out.gw G6.out) k4
    dsimp only [Gst.v] at X5
    have X5H := (show Hid _ from X5)
    clear X5 k4 m4 g6 X4H
    go_wp2_with fail
    refine Calls.mono X5H.out ?_
    rintro e w7 ⟨⟨⟨t0, t1, o3⟩, rfl, k5, m5⟩, g7⟩
    have e3 : o = o3 := Mg.right RA.out RB.out RC.out MO.out MBC.out m5
    subst e3
    have KR : Hid ((Gst.mk t0 t1 o).ok w7) := k5
    have G7 : Hid (Gw w w7) := G6.out.trans g7
    have G57 : Hid (Gw w5 w7) := G56.out.trans g7
    clear k5 m5 g7 X5H G56
    have S1 := SM.out ⟨d0, d1, o⟩ ⟨s0, s1, o⟩ w7 (by show o.length ≤ _; omega) (KO.out.gw (G35.out.trans G57.out)) (KL.out.gw G57.out) rfl
    dsimp only [Gst.v] at S1
    have S1H := (show Hid _ from S1)
    clear S1
    go_wp2_with fail
    refine Calls.mono S1H.out ?_
    rintro e w8 ⟨rfl, g8⟩
    have G8 : Hid (Gw w w8) := G7.out.trans g8
    have S2 := SM.out ⟨d0, d1, o⟩ ⟨t0, t1, o⟩ w8 (by show o.length ≤ _; omega) (KO.out.gw ((G35.out.trans G57.out).trans g8)) (KR.out.gw g8) rfl
    dsimp only [Gst.v] at S2
    have S2H := (show Hid _ from S2)
    clear S2 S1H g8
    go_wp2_with fail
    refine Calls.mono S2H.out ?_
    rintro e w9 ⟨rfl, g9⟩
    have G9 : Hid (Gw w w9) := G8.out.trans g9
    have X6 := E1.out ⟨a0, ca, la⟩ w9 (by show la.length ≤ _; omega) (HA.out.gw G9.out)
    dsimp only [Gst.v] at X6
    have X6H := (show Hid _ from X6)
    clear X6 S2H g9
    go_wp2_with fail
    refine Calls.mono X6H.out ?_
    rintro e w10 ⟨⟨⟨u0, u1, o4⟩, rfl, k6, m6⟩, g10⟩
    have e4 : o4 = la := Mg.single RA.out m6
    subst e4
    have G10 : Hid (Gw w w10) := G9.out.trans g10
    have S3 := SM.out ⟨u0, u1, o4⟩ ⟨a0, ca, o4⟩ w10 (by show o4.length ≤ _; omega) k6 (HA.out.gw G10.out) rfl
    dsimp only [Gst.v] at S3
    have S3H := (show Hid _ from S3)
    clear S3 k6 m6 g10 X6H
    go_wp2_with fail
    refine Calls.mono S3H.out ?_
    rintro e w11 ⟨rfl, g11⟩
    have G11 : Hid (Gw w w11) := G10.out.trans g11
    have X7 := E2.out ⟨a0, ca, o4⟩ ⟨a0, ca, o4⟩ w11 (by show o4.length + o4.length ≤ _; omega) (HA.out.gw G11.out) (HA.out.gw G11.out)
    dsimp only [Gst.v] at X7
    have X7H := (show Hid _ from X7)
    clear X7 S3H g11
    go_wp2_with fail
    refine Calls.mono X7H.out ?_
    rintro e w12 ⟨⟨⟨v0, v1, o5⟩, rfl, k7, m7⟩, g12⟩
    have e5 : o5 = o4 := Mg.twice RA.out m7
    subst e5
    have G12 : Hid (Gw w w12) := G11.out.trans g12
    have S4 := SM.out ⟨v0, v1, o5⟩ ⟨a0, ca, o5⟩ w12 (by show o5.length ≤ _; omega) k7 (HA.out.gw G12.out) rfl
    dsimp only [Gst.v] at S4
    have S4H := (show Hid _ from S4)
    clear S4 k7 m7 g12 X7H
    go_wp2_with fail
    refine Calls.mono S4H.out ?_
    rintro e w13 ⟨rfl, g13⟩
    have G13 : Hid (Gw w w13) := G12.out.trans g13
    have G14 : Hid (Gw w (w13.alloc (.cells #[] 36))) := G13.out.alloc _ _
    have X8 := E3.out ⟨a0, ca, o5⟩ ⟨some ⟨w13.heap.size, 0, none⟩, 0, []⟩ ⟨b0, cb, lb⟩ (w13.alloc (.cells #[] 36)) (by show o5.length + 0 + lb.length ≤ _; omega) (HA.out.gw G14.out) (gst_none _ _ (by simp)) (HB.out.gw G14.out)
    dsimp only [Gst.v, List.length_nil] at X8
    rw [show (w13.alloc (.cells #[] 36)).heap.size = w13.heap.size + 1 by simp] at X8
    have X8H := (show Hid _ from X8)
    clear X8 S4H g13
    go_wp2_with fail
    generalize w13.alloc (.cells #[] 36) = w14 at X8H G14 ⊢
    refine Calls.mono X8H.out ?_
    rintro e w15 ⟨⟨⟨y0, y1, o6⟩, rfl, k8, m8⟩, g15⟩
    have M8 : Hid (Mg Ent.k [o5, [], lb] o6) := m8
    have K8 : Hid ((Gst.mk y0 y1 o6).ok w15) := k8
    have o6l : o6.length ≤ o5.length + lb.length := by have := m8.few; simp [sizes] at this; omega
    have G16 : Hid (Gw w (w15.alloc (.cells #[] 36))) := (G14.out.trans g15).alloc _ _
    have G156 : Hid (Gw w15 (w15.alloc (.cells #[] 36))) := (Gw.refl w15).alloc _ _
    have X9 := E3.out ⟨some ⟨w15.heap.size, 0, none⟩, 0, []⟩ ⟨a0, ca, o5⟩ ⟨b0, cb, lb⟩ (w15.alloc (.cells #[] 36)) (by show 0 + o5.length + lb.length ≤ _; omega) (gst_none _ _ (by simp)) (HA.out.gw G16.out) (HB.out.gw G16.out)
    dsimp only [Gst.v, List.length_nil] at X9
    rw [show (w15.alloc (.cells #[] 36)).heap.size = w15.heap.size + 1 by simp] at X9
    have X9H := (show Hid _ from X9)
    clear X9 X8H k8 m8 g15
    go_wp2_with fail
    generalize w15.alloc (.cells #[] 36) = w16 at X9H G16 G156 ⊢
    refine Calls.mono X9H.out ?_
    rintro e w17 ⟨⟨⟨z0, z1, o7⟩, rfl, k9, m9⟩, g17⟩
    have e7 : o6 = o7 := Mg.empty RA.out RB.out M8.out m9
    subst e7
    have G17 : Hid (Gw w w17) := G16.out.trans g17
    have S5 := SM.out ⟨y0, y1, o6⟩ ⟨z0, z1, o6⟩ w17 (by show o6.length ≤ _; omega) (K8.out.gw (G156.out.trans g17)) k9 rfl
    dsimp only [Gst.v] at S5
    have S5H := (show Hid _ from S5)
    clear S5 X9H k9 m9 g17
    go_wp2_with fail
    refine Calls.mono S5H.out ?_
    rintro e w18 ⟨rfl, g18⟩
    go_wp2_with fail
    go_ret
    exact ⟨rfl, G17.out.trans g18⟩
theorem groups13_walk (MC : MergeC) (a0 : Option Addr) (ca : Nat) (la : List Ent) (ha : la.length ≤ ca) (za : a0 = none → la.length = 0 ∧ ca = 0) (b0 : Option Addr) (cb : Nat) (lb : List Ent) (hb : lb.length ≤ cb) (zb : b0 = none → lb.length = 0 ∧ cb = 0) (c0 : Option Addr) (cc : Nat) (lc : List Ent) (hc : lc.length ≤ cc) (zc : c0 = none → lc.length = 0 ∧ cc = 0) (hn : la.length + lb.length + lc.length ≤ 1000000) (w : World) (ea : EL w a0 la) (eb : EL w b0 lb) (ec : EL w c0 lc) :
    Calls Try.prog 3 #[.slice a0 la.length ca, .slice b0 lb.length cb, .slice c0 lc.length cc] w fun e w' => e = .returned (.bool true) ∧ Gw w w' :=
  groups_walk MC ⟨a0, ca, la⟩ ⟨b0, cb, lb⟩ ⟨c0, cc, lc⟩ hn w ⟨ea, ha, za⟩ ⟨eb, hb, zb⟩ ⟨ec, hc, zc⟩
end Go.Proofs.Ytnkcnfpbbdlifab
