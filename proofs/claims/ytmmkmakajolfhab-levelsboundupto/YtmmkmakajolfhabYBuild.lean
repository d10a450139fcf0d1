/- Package levels: the function that Build hands to climb. -/
import Derived.Test.YtmmkmakajolfhabYCover
import Derived.Test.YtmmkmakajolfhabYClimb
import Derived.Test.YtmmkmakajolfhabYDefer
namespace Go.Proofs.Ytmmkmakajolfhab
open Go.RowKit
set_option linter.unusedVariables false

/-- A variable of one cell that a function literal has caught. -/
def Box (w : World) (b : Nat) (v : Value) (t : TypeId) : Prop := w.heap[b]? = some (.cells #[v] t (0, 0))
theorem Box.lt {w : World} {b : Nat} {v : Value} {t : TypeId} (h : Box w b v t) : b < w.heap.size := (Array.getElem?_eq_some_iff.1 h).1
theorem Box.gw {w w' : World} {b : Nat} {v : Value} {t : TypeId} (h : Box w b v t) (g : Gw w w') : Box w' b v t := (g.below.block b h.lt).trans h
theorem Box.cell {w : World} {b : Nat} {v : Value} {t : TypeId} (h : Box w b v t) : w.cell? ⟨b, 0, none⟩ = some v := by unfold Box at h; simp [World.cell?, h]
theorem Box.fz {w : World} {b : Nat} {v : Value} {t : TypeId} (h : Box w b v t) : w.frozen? ⟨b, 0, none⟩ = false := by unfold Box at h; simp [World.frozen?, h]
theorem Box.new (w : World) (v : Value) (t : TypeId) : Box (w.alloc (.cells #[v] t)) w.heap.size v t := heap_alloc_new w _
theorem Box.set {w : World} {b : Nat} {v : Value} {t : TypeId} (h : Box w b v t) (u : Value) : Box (w.setCell ⟨b, 0, none⟩ u) b u t := by
  unfold Box at *
  simp [World.setCell, Array.getElem?_modify, h]
theorem Box.other {w : World} {b : Nat} {v : Value} {t : TypeId} (h : Box w b v t) (a : Addr) (u : Value) (e : b ≠ a.block) : Box (w.setCell a u) b v t := (Go.Deep.blk_setCell_other _ _ _ _ e).trans h

/-- Levels of a call's own, one more. -/
theorem OwnV.more {W w w' : World} {o : Obj} {B : Nat} {v v' vl : Value} {L : List (List Sg)} {lv : List Sg} {vals : List Value} (h0 : OwnV W B v L vals) (g : Gw W w) (hs : SR w W.heap.size vl lv) (hB : B ≤ W.heap.size) (r1 : w'.ownsRow B 34 1 v' (L.length + 1) (vals ++ [vl])) (r2 : (w.alloc o).grownBy w' v.ownBlock) (r4 : v'.ownBlock = v.ownBlock ∨ v'.ownBlock = some (w.heap.size + 1)) : OwnV w' B v' (L ++ [lv]) (vals ++ [vl]) := by
  have vn := h0.len
  have h := h0.gw g
  have keep : ∀ q, q < w.heap.size → v.ownBlock ≠ some q → w'.heap[q]? = w.heap[q]? := fun q hq hn => (r2.block q (by simp; omega) (fun e => hn e.symm)).trans (heap_alloc_old w o hq)
  have oldq : ∀ i, i < L.length → ∀ q, (vals.getD i nilS).ownBlock = some q → q < W.heap.size := fun i hi q hq => (sr_lt (h0.rows i hi) q hq).2
  have vq : ∀ q, v.ownBlock = some q → q < W.heap.size := fun q hq => (h0.outer.lt q hq).2
  have lvq : ∀ q, vl.ownBlock = some q → W.heap.size ≤ q ∧ q < w.heap.size := fun q hq => sr_lt hs q hq
  have gl : ∀ i, i < L.length → (vals ++ [vl]).getD i nilS = vals.getD i nilS ∧ (L ++ [lv]).getD i [] = L.getD i [] := fun i hi => by
    constructor
    · simp [List.getD, List.getElem?_append_left (show i < vals.length by omega)]
    · simp [List.getD, List.getElem?_append_left hi]
  have gr : (vals ++ [vl]).getD L.length nilS = vl ∧ (L ++ [lv]).getD L.length [] = lv := by
    constructor
    · rw [← vn]; simp [List.getD]
    · simp [List.getD]
  refine ⟨by rw [List.length_append]; exact r1, fun i hi => ?_, fun i hi q hq => ?_⟩
  · by_cases e : i < L.length
    · rw [(gl i e).1, (gl i e).2]
      exact sr_keep (h.rows i e) fun q hq => keep q (Nat.lt_of_lt_of_le (oldq i e q hq) g.size) (fun hv => (h0.apart i e q hq).1 hv)
    · have ei : i = L.length := by rw [List.length_append] at hi; simp at hi; omega
      subst ei
      rw [gr.1, gr.2]
      have := sr_keep hs fun q hq => keep q (lvq q hq).2 (fun hv => by have := vq q hv; have := lvq q hq; omega)
      refine ⟨this.1, ?_⟩
      rcases this.2 with q | ⟨b, cap, cur, e1, e2, e3⟩
      · exact .inl q
      · exact .inr ⟨b, cap, cur, e1, Nat.le_trans hB e2, e3⟩
  · by_cases e : i < L.length
    · rw [(gl i e).1] at hq
      have q1 := oldq i e q hq
      have ap := h0.apart i e q hq
      refine ⟨fun hv => ?_, fun j hj hjq => ?_⟩
      · rcases r4 with r | r
        · exact ap.1 (by rw [← r]; exact hv)
        · rw [r] at hv; have : w.heap.size + 1 = q := by simpa using hv
          have := g.size; omega
      · by_cases e2 : j < L.length
        · rw [(gl j e2).1] at hjq; exact ap.2 j e2 hjq
        · have ej : j = L.length := by rw [List.length_append] at hj; simp at hj; omega
          subst ej
          rw [gr.1] at hjq
          have := lvq q hjq; omega
    · have ei : i = L.length := by rw [List.length_append] at hi; simp at hi; omega
      subst ei
      rw [gr.1] at hq
      have q1 := lvq q hq
      refine ⟨fun hv => ?_, fun j hj hjq => ?_⟩
      · rcases r4 with r | r
        · rw [r] at hv; have := vq q hv; omega
        · rw [r] at hv; have : w.heap.size + 1 = q := by simpa using hv
          omega
      · by_cases e2 : j < L.length
        · rw [(gl j e2).1] at hjq; have := oldq j e2 q hjq; omega
        · rw [List.length_append] at hj; simp at hj; omega

/-- What is so whenever Build's function is called. -/
structure BI (w0 : World) (bp bl be B : Nat) (eps : Int) (f : Nat → Int) (n : Nat) (W : World) (lo : Option Addr) (lc : Nat) (L : List (List Sg)) (vals : List Value) : Prop where
  gw : Gw w0 W
  sz : B ≤ W.heap.size
  ep : Box W bp (.int .i64 eps) 3
  lx : Box W bl (.slice lo L.length lc) 24
  er : Box W be (.int .i64 0) 25
  own : OwnV W B (.slice lo L.length lc) L vals
  ok : Lok L
  le : L.length ≤ lc
  few : L.length ≤ n
theorem BI.mono {w0 : World} {bp bl be B : Nat} {eps : Int} {f : Nat → Int} {n : Nat} {W W' : World} {lo : Option Addr} {lc : Nat} {L : List (List Sg)} {vals : List Value} (h : BI w0 bp bl be B eps f n W lo lc L vals) (g : Gw W W') : BI w0 bp bl be B eps f n W' lo lc L vals :=
  ⟨h.gw.trans g, Nat.le_trans h.sz g.size, h.ep.gw g, h.lx.gw g, h.er.gw g, h.own.gw g, h.ok, h.le, h.few⟩
/-- One level more: the row of levels has grown, the variable has been written. -/
theorem BI.more {w0 : World} {bp bl be B : Nat} {eps : Int} {f : Nat → Int} {n : Nat} {W w w' : World} {oc : Array Value} {ot : TypeId} {lo : Option Addr} {lc : Nat} {L : List (List Sg)} {vals : List Value} {vl : Value} {lv : List Sg} {b8 cap8 : Nat} (h : BI w0 bp bl be B eps f n W lo lc L vals) (g : Gw W w) (hs : SR w W.heap.size vl lv) (hok : ∀ j, j < lv.length → (lv.getD j sg0).ok)
    (r1 : w'.ownsRow B 34 1 (.slice (some ⟨b8, 0, none⟩) (L.length + 1) cap8) (L.length + 1) (vals ++ [vl])) (r2 : (w.alloc (.cells oc ot)).grownBy w' (Value.slice lo L.length lc).ownBlock) (r4 : (Value.slice (some ⟨b8, 0, none⟩) (L.length + 1) cap8).ownBlock = (Value.slice lo L.length lc).ownBlock ∨ (Value.slice (some ⟨b8, 0, none⟩) (L.length + 1) cap8).ownBlock = some (w.heap.size + 1))
    (n1 : bl ≠ bp) (n2 : bl ≠ be) (b1 : bl < B) (b2 : bp < B) (b3 : be < B) (hb : w0.heap.size ≤ bl) (hB : w0.heap.size ≤ B) (hc : L.length + 1 ≤ cap8) (hf : L.length + 1 ≤ n) :
    BI w0 bp bl be B eps f n (w'.setCell ⟨bl, 0, none⟩ (.slice (some ⟨b8, 0, none⟩) (L.length + 1) cap8)) (some ⟨b8, 0, none⟩) cap8 (L ++ [lv]) (vals ++ [vl]) := by
  have ln : (L ++ [lv]).length = L.length + 1 := by simp
  have ow : ∀ q, (Value.slice lo L.length lc).ownBlock = some q → B ≤ q := fun q hq => (h.own.outer.lt q hq).1
  have keep : ∀ q, q < w.heap.size → q < B → w'.heap[q]? = w.heap[q]? := fun q hq hn => (r2.block q (by simp; omega) (fun e => by have := ow q e.symm; omega)).trans (heap_alloc_old w _ hq)
  have bx : ∀ {q : Nat} {v : Value} {t : TypeId}, Box W q v t → q < B → Box w' q v t := fun hx hq => (keep _ (hx.gw g).lt hq).trans (hx.gw g)
  have gw' : Gw w0 w' := ((h.gw.trans g).alloc _ _).grown r2 (fun q hq => Nat.le_trans hB (ow q hq))
  refine ⟨gw'.setCell hb _, ?_, Box.other (bx h.ep b2) _ _ (fun e => n1 e.symm), ?_, Box.other (bx h.er b3) _ _ (fun e => n2 e.symm), ?_, ?_, by rw [ln]; exact hc, by rw [ln]; exact hf⟩
  · have := r2.size; have := g.size; have := h.sz; simp at *; omega
  · rw [ln]; exact (bx h.lx b1).set _
  · have := OwnV.more h.own g hs h.sz r1 r2 r4
    rw [ln]
    exact this.keep fun q hq _ => Go.Deep.blk_setCell_other _ _ _ _ (by show q ≠ bl; omega)
  · intro i hi j hj
    by_cases e : i < L.length
    · rw [show (L ++ [lv]).getD i [] = L.getD i [] by simp [List.getD, List.getElem?_append_left e]] at hj ⊢
      exact h.ok i e j hj
    · have ei : i = L.length := by omega
      subst ei
      rw [show (L ++ [lv]).getD L.length [] = lv by simp [List.getD]] at hj ⊢
      exact hok j hj
/-- What the levels built so far lack. -/
def Rest (eps : Int) (f : Nat → Int) (n : Nat) (L : List (List Sg)) (g : Nat → Int) (m : Nat) : Prop := ∀ rr, (if L ≠ [] ∧ m = 1 then rr = [] else BuildR eps g m rr) → BuildR eps f n (L ++ rr)

theorem Rest.next {eps : Int} {f : Nat → Int} {n : Nat} {L : List (List Sg)} {g : Nat → Int} {m : Nat} {lv : List Sg} (h : Rest eps f n L g m) (c : ¬ (L ≠ [] ∧ m = 1)) (m0 : 0 < m) (l : LvlAt eps g m 0 lv) : Rest eps f n (L ++ [lv]) (fst8 lv) lv.length := fun rr hr => by
  rw [List.append_assoc]
  refine h ([lv] ++ rr) ?_
  rw [if_neg c]
  refine ⟨m0, l, ?_⟩
  by_cases e : lv.length = 1
  · rw [if_pos e]; rw [if_pos ⟨by simp, e⟩] at hr; exact hr
  · rw [if_neg e]; rw [if_neg (fun q => e q.2)] at hr; exact hr
theorem Rest.done {eps : Int} {f : Nat → Int} {n : Nat} {L : List (List Sg)} {g : Nat → Int} {m : Nat} (h : Rest eps f n L g m) (c : m = 0 ∨ (L ≠ [] ∧ m = 1)) : BuildR eps f n L := by
  have := h [] (by
    rcases c with rfl | c
    · rw [if_neg (fun q => by have := q.2; omega)]; exact rfl
    · rw [if_pos c])
  rwa [List.append_nil] at this

/-- Before each call of Build's function. -/
def BIn (w0 : World) (bp bl be B : Nat) (eps : Int) (f : Nat → Int) (n : Nat) (r : Nat) (W : World) (bo : Option Addr) (m c : Nat) (g : Nat → Int) : Prop :=
  ∃ lo lc L vals, BI w0 bp bl be B eps f n W lo lc L vals ∧ KS W bo m g ∧ Up g m ∧ m ≤ 2000000 ∧ m ≤ c ∧ Rest eps f n L g m ∧ (if L = [] then m + 1 else m) ≤ r ∧ L.length + r ≤ n + 1
/-- Behind the last. -/
def BOut (w0 : World) (bp bl be B : Nat) (eps : Int) (f : Nat → Int) (n : Nat) (W : World) : Prop := ∃ lo lc L vals, BI w0 bp bl be B eps f n W lo lc L vals ∧ BuildR eps f n L

set_option maxRecDepth 10000 in
set_option maxHeartbeats 4000000 in
theorem over_build (C : CutC) (M : ModelC) (w0 : World) (bp bl be B : Nat) (eps : Int) (f : Nat → Int) (n : Nat) (hn : n ≤ 2000000) (k2 : 2 ≤ eps) (k3 : eps ≤ 64) (n1 : bl ≠ bp) (n2 : bl ≠ be) (b1 : bl < B) (b2 : bp < B) (b3 : be < B) (hb : w0.heap.size ≤ bl) (hB : w0.heap.size ≤ B) :
    OverC 23 (fun v => #[v, .pointer (some ⟨bl, 0, none⟩), .pointer (some ⟨bp, 0, none⟩)]) (BIn w0 bp bl be B eps f n) (BOut w0 bp bl be B eps f n) (fun _ _ => False) := by
  rintro r W bo m c g ⟨lo, lc, L, vals, hBI, hK, hU, m1, mc, hR, hr1, hr2⟩
  have HB : Aside (BI w0 bp bl be B eps f n W lo lc L vals) := hBI
  have HK : Aside (KS W bo m g) := hK
  have UP : Aside (Up g m) := hU
  have RS : Aside (Rest eps f n L g m) := hR
  have CV : Hid _ := fun (m0 : 0 < m) (W : World) (k : KS W bo m g) => cover_any C M eps k2 k3 bo m c g m0 m1 mc UP.out W k
  have cl := hBI.lx.cell
  have fl := hBI.lx.fz
  have ll := hBI.lx.lt
  have cp := hBI.ep.cell
  have lp := hBI.ep.lt
  have R1 : Aside ((if L = [] then m + 1 else m) ≤ r ∧ L.length + r ≤ n + 1) := ⟨hr1, hr2⟩
  have NIL : Aside (L = [] ↔ L.length = 0) := (List.length_eq_zero_iff).symm
  clear hBI hK hU hR hr1 hr2 C M
  obtain ⟨ln, hln⟩ : ∃ ln, L.length = ln := ⟨_, rfl⟩
  have LN : Aside (L.length = ln) := hln
  rw [hln] at cl
  clear hln
  by_cases m0 : m = 0
  · have BR : Aside (BOut w0 bp bl be B eps f n W) := ⟨lo, lc, L, vals, HB.out, RS.out.done (.inl m0)⟩
    subst m0
    clear CV
    go_enter Try.func23, Try.ntmps23
    go_wp2_with fail
    go_ret
    exact .inl ⟨none, 0, rfl, BR.out⟩
  · have t0 : ((m : Int) == 0) = false := by simp; omega
    have m0' : 0 < m := by omega
    by_cases c1 : m = 1 ∧ 0 < ln
    · have BR : Aside (BOut w0 bp bl be B eps f n W) := ⟨lo, lc, L, vals, HB.out, RS.out.done (.inr ⟨fun q => by have := NIL.out.1 q; rw [LN.out] at this; omega, c1.1⟩)⟩
      have t1 : ((m : Int) == 1) = true := by simp; omega
      have t2 : decide ((0 : Int) < (ln : Int)) = true := by simp; omega
      have t3 : 0 < ln := c1.2
      clear CV c1 m0
      go_enter Try.func23, Try.ntmps23
      go_wp2_with fail
      go_ret
      exact .inl ⟨none, 0, rfl, BR.out⟩
    · have NC : Aside (¬ (L ≠ [] ∧ m = 1)) := fun q => c1 ⟨q.2, Nat.pos_of_ne_zero (fun e => q.1 (NIL.out.2 (by rw [LN.out]; exact e)))⟩
      obtain ⟨jj, hjj, jz, js, jby⟩ := info_parts info_sgs
      have TT : (((m : Int) == 1) = true ∧ ¬ 0 < ln) ∨ ((m : Int) == 1) = false := by
        by_cases e : m = 1
        · exact .inl ⟨by simp; omega, by omega⟩
        · exact .inr (by simp; omega)
      have wz := HB.out.gw.size
      clear c1 m0
      rcases TT with ⟨t1, t2⟩ | t1
      all_goals go_enter Try.func23, Try.ntmps23
      all_goals go_wp2_with fail
      all_goals refine (CV.out m0' _ HK.out).mono ?_
      all_goals rintro e w2 ⟨⟨b, lv, rfl, hlv, hS, hok⟩, g2⟩
      all_goals have LVL : Aside (LvlAt eps g m 0 lv) := hlv
      all_goals have SV : Aside (SR w2 W.heap.size (.slice (some ⟨b, 0, none⟩) lv.length lv.length) lv) := hS
      all_goals have OK : Aside (∀ j, j < lv.length → (lv.getD j sg0).ok) := hok
      all_goals have G2 : Aside (Gw W w2) := g2
      all_goals have cl2 : w2.cell? ⟨bl, 0, none⟩ = some (.slice lo ln lc) := (g2.cell _ _ ll).trans cl
      all_goals have ll2 : bl < w2.heap.size := Nat.lt_of_lt_of_le ll g2.size
      all_goals have OW : Aside (OwnV w2 B (.slice lo L.length lc) L vals) := HB.out.own.gw g2
      all_goals have OR : Aside (w2.ownsRow B 34 1 (.slice lo ln lc) ln vals) := by have := OW.out.outer; rw [LN.out] at this; exact this
      all_goals have ln1 : ln ≤ n := by have := HB.out.few; rw [LN.out] at this; exact this
      all_goals have sz2 : B ≤ w2.heap.size := Nat.le_trans HB.out.sz g2.size
      all_goals obtain ⟨vn, hvn⟩ : ∃ vn, lv.length = vn := ⟨_, rfl⟩
      all_goals have VN : Aside (lv.length = vn) := hvn
      all_goals rw [hvn]
      all_goals clear hlv hS hok g2 hvn cl ll cp lp fl
      all_goals go_wp2_with (at_builtin; refine wpList_append_own_at _ rfl _ _ 24 rfl B 34 jj (.slice none 0 0) 1 24 Try.underlying24 hjj jz js jby rfl (by decide) _ ln _ rfl (OR.out.alloc _) ⟨w2.heap.size, 0, none⟩ 1 1 [(.slice (some ⟨b, 0, none⟩) vn vn)] rfl rfl (new_val w2 (.slice (some ⟨b, 0, none⟩) vn vn) 34) (fun u hu => by simp at hu; subst hu; rfl) (by simp only [maxLen]; omega) (by omega) (by simp; omega) ?_)
      all_goals intro v' w7 r1 r2 r3 r4
      all_goals obtain ⟨b8, cap8, rfl, hb8, hc8, _⟩ := own_slice r1 r3
      all_goals have FW := LVL.out.few k2 m0' m1 HK.out.bd UP.out
      all_goals have lvn := LVL.out.len m1 HK.out.bd
      all_goals have lv0 : 0 < vn := by rw [← VN.out]; exact List.length_pos_iff.2 (LVL.out.some m0')
      all_goals have ow : ∀ q, (Value.slice lo ln lc).ownBlock = some q → B ≤ q := fun q hq => (OR.out.lt q hq).1
      all_goals rw [VN.out] at FW lvn
      all_goals
        have rk : vn < r := by
          have R2 := R1.out.1
          by_cases e : L = []
          · rw [if_pos e] at R2; omega
          · rw [if_neg e] at R2
            have mm : m ≠ 1 := fun q => NC.out ⟨e, q⟩
            by_cases x : vn = 1
            · omega
            · have := div_less (e := eps.toNat) (by omega) (FW.2 x)
              have := FW.1
              omega
      all_goals have rn := R1.out.2
      all_goals rw [LN.out] at rn
      all_goals
        have B8 : Aside (BI w0 bp bl be B eps f n (w7.setCell ⟨bl, 0, none⟩ (.slice (some ⟨b8, 0, none⟩) (ln + 1) cap8)) (some ⟨b8, 0, none⟩) cap8 (L ++ [lv]) (vals ++ [.slice (some ⟨b, 0, none⟩) vn vn])) := by
          have := BI.more (cap8 := cap8) (b8 := b8) (w' := w7) HB.out G2.out SV.out OK.out (by rw [LN.out, VN.out]; exact r1) (by rw [LN.out]; exact r2) (by rw [LN.out]; exact r4) n1 n2 b1 b2 b3 hb hB (by rw [LN.out]; exact hc8) (by rw [LN.out]; omega)
          rw [LN.out, VN.out] at this
          exact this
      all_goals have bW : W.heap.size ≤ b ∧ b < w2.heap.size := sr_lt SV.out b rfl
      all_goals
        have G8 : Aside (GS (w7.setCell ⟨bl, 0, none⟩ (.slice (some ⟨b8, 0, none⟩) (ln + 1) cap8)) (some ⟨b, 0, none⟩) lv) := by
          refine gs_blocks (sr_gs SV.out OK.out) ?_ ?_
          · refine (Go.Deep.blk_setCell_other _ _ _ _ (by show b ≠ bl; have := HB.out.lx.lt; omega)).trans ?_
            refine (r2.block b (by simp; omega) (fun e => ?_)).trans (heap_alloc_old w2 _ bW.2)
            have := (HB.out.own.outer.lt b (by rw [LN.out]; exact e.symm)).2
            omega
          · have := r2.size; simp at this ⊢; omega
      all_goals have NX : Aside (Rest eps f n (L ++ [lv]) (fst8 lv) lv.length) := RS.out.next NC.out m0' LVL.out
      all_goals have UN : Aside (Up (fst8 lv) lv.length) := (fst8_up UP.out (LVL.out.tiles m1 HK.out.bd) (LVL.out.keys m1 HK.out.bd)).1
      all_goals
        have cl7 : w7.cell? ⟨bl, 0, none⟩ = some (.slice lo ln lc) := by
          have e : w7.heap[bl]? = w2.heap[bl]? := (r2.block bl (by simp; omega) (fun e => by have := ow bl e.symm; omega)).trans (heap_alloc_old w2 _ ll2)
          exact (World.cell?_of_block (a := ⟨bl, 0, none⟩) e).trans cl2
      all_goals
        have fl7 : w7.frozen? ⟨bl, 0, none⟩ = false := by
          have e : w7.heap[bl]? = w2.heap[bl]? := (r2.block bl (by simp; omega) (fun e => by have := ow bl e.symm; omega)).trans (heap_alloc_old w2 _ ll2)
          exact (World.frozen?_of_block (a := ⟨bl, 0, none⟩) e).trans (HB.out.lx.gw G2.out).fz
      all_goals have ll7 : bl < w7.heap.size := by have := r2.size; simp at this; omega
      all_goals clear r1 r2 r3 r4 hb8 ow FW cl2 ll2 OW OR SV G2 OK
      all_goals go_wp2_with fail
      all_goals go_ret
      all_goals exact .inr (.inl ⟨some ⟨b, 0, none⟩, vn, lv, lv.length, by rw [VN.out]; rfl, by rw [VN.out]; exact lv0, by rw [VN.out]; omega, G8.out, by rw [VN.out]; exact rk, fun b9 w9 g9 k9 => ⟨_, _, _, _, B8.out.mono g9, k9, UN.out, by rw [VN.out]; omega, Nat.le_refl _, NX.out, by rw [if_neg (by simp)]; exact Nat.le_refl _, by rw [List.length_append, LN.out, VN.out]; simp; omega⟩⟩)

end Go.Proofs.Ytmmkmakajolfhab
