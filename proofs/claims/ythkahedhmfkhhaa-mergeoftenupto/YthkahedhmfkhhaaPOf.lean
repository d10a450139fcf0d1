/- MergeOften: lists that count how often they are begun, and whether they are left. -/
import Derived.Test.YthkahedhmfkhhaaPFam
import Derived.Test.YthkahedhmfkhhaaPEl
namespace Go.Proofs.Ythkahedhmfkhhaa
open Go.RowKit Go.Shelf
set_option linter.unusedVariables false

attribute [local go_sem] Oper.semAt_some

/-- Where all lies: the boxes of begun, open and l, the two rows, the boxes of i. -/
structure OfP where
  bbx : Nat
  obx : Nat
  lbx : Nat
  bb : Nat
  ob : Nat
  n : Nat
  ao : Option Addr
  c : Nat
  L : List (Lst Ent)
  ib : Nat → Nat
def rdO (p : OfP) (q : Nat) : Prop := q = p.bbx ∨ q = p.obx ∨ q = p.lbx ∨ (∃ j, j < p.n ∧ q = p.ib j) ∨ (∃ a : Addr, p.ao = some a ∧ 0 < p.n ∧ q = a.block) ∨ (∃ s ∈ p.L, s.l ≠ [] ∧ q = s.b)
def wrO (p : OfP) (q : Nat) : Prop := q = p.bb ∨ q = p.ob
structure OfD (p : OfP) : Prop where
  ln : p.L.length = p.n
  no : ∀ q, rdO p q → ¬ wrO p q
  ne : p.bb ≠ p.ob
/-- .. with fb, fo in the two rows. -/
structure OfG (p : OfP) (fb fo : Nat → Int) (W : World) : Prop where
  b : W.heap[p.bbx]? = some (.cells #[.slice (some ⟨p.bb, 0, none⟩) p.n p.n] 52 (0, 0))
  o : W.heap[p.obx]? = some (.cells #[.slice (some ⟨p.ob, 0, none⟩) p.n p.n] 52 (0, 0))
  l : W.heap[p.lbx]? = some (.cells #[.slice p.ao p.n p.c] 22 (0, 0))
  ix : ∀ j, j < p.n → W.heap[p.ib j]? = some (.cells #[.int .i64 (j : Int)] 3 (0, 0))
  lv : LV W p.ao p.L
  el : ∀ s ∈ p.L, s.l ≠ [] → s.b < W.heap.size ∧ ElE W s
  rb : W.rowIs p.bb 3 p.n (fun j => .int .i64 (fb j))
  ro : W.rowIs p.ob 3 p.n (fun j => .int .i64 (fo j))
section
variable {p : OfP} {fb fo : Nat → Int} {W W' : World}
theorem LV.stay {α : Type} {W W' : World} {ao : Option Addr} {L : List (Lst α)} (h : LV W ao L) (z : W.heap.size ≤ W'.heap.size) (k : ∀ a, ao = some a → 0 < L.length → W'.heap[a.block]? = W.heap[a.block]?) : LV W' ao L :=
  ⟨fun h0 => by
    obtain ⟨b, off, e, hb, hc⟩ := h.cells h0
    refine ⟨b, off, e, Nat.lt_of_lt_of_le hb z, fun i hi => ?_⟩
    obtain ⟨bo, sc, q1, q2⟩ := hc i hi
    exact ⟨bo, sc, (World.cell?_of_block (a := ⟨b, off + i, none⟩) (show W'.heap[b]? = W.heap[b]? from k ⟨b, off, none⟩ e h0)).trans q1, q2⟩⟩
theorem OfG.lt (h : OfG p fb fo W) (d : OfD p) : ∀ q, rdO p q ∨ wrO p q → q < W.heap.size := by
  intro q hq
  rcases hq with (e | e | e | ⟨j, hj, e⟩ | ⟨a, ea, h0, e⟩ | ⟨s, hs, ne, e⟩) | (e | e)
  · rw [e]; exact blkl h.b
  · rw [e]; exact blkl h.o
  · rw [e]; exact blkl h.l
  · rw [e]; exact blkl (h.ix j hj)
  · obtain ⟨b, off, e1, hb, _⟩ := h.lv.cells (by rw [d.ln]; exact h0)
    rw [ea] at e1
    cases e1
    rw [e]; exact hb
  · rw [e]; exact (h.el s hs ne).1
  · rw [e]; exact h.rb.lt
  · rw [e]; exact h.ro.lt
theorem OfG.keep (h : OfG p fb fo W) (d : OfD p) (z : W.heap.size ≤ W'.heap.size) (k : ∀ q, rdO p q ∨ wrO p q → W'.heap[q]? = W.heap[q]?) : OfG p fb fo W' :=
  ⟨(k _ (.inl (.inl rfl))).trans h.b, (k _ (.inl (.inr (.inl rfl)))).trans h.o, (k _ (.inl (.inr (.inr (.inl rfl))))).trans h.l, fun j hj => (k _ (.inl (.inr (.inr (.inr (.inl ⟨j, hj, rfl⟩)))))).trans (h.ix j hj), h.lv.stay z (fun a ea h0 => k _ (.inl (.inr (.inr (.inr (.inr (.inl ⟨a, ea, by rw [d.ln] at h0; exact h0, rfl⟩))))))),
    fun s hs ne => ⟨Nat.lt_of_lt_of_le (h.el s hs ne).1 z, (h.el s hs ne).2.keep (k _ (.inl (.inr (.inr (.inr (.inr (.inr ⟨s, hs, ne, rfl⟩)))))))⟩, h.rb.of_block (k _ (.inr (.inl rfl))), h.ro.of_block (k _ (.inr (.inr rfl)))⟩
theorem OfG.setb (h : OfG p fb fo W) (d : OfD p) (i : Nat) (v : Int) : OfG p (fun j => if j = i then v else fb j) fo (W.setCell ⟨p.bb, i, none⟩ (.int .i64 v)) := by
  have k : ∀ q, rdO p q ∨ q = p.ob → (W.setCell ⟨p.bb, i, none⟩ (.int .i64 v)).heap[q]? = W.heap[q]? := fun q hq => Go.Deep.blk_setCell_other _ _ _ _ (fun e => by
    have e' : q = p.bb := e
    rcases hq with x | x
    · exact d.no q x (.inl e')
    · exact d.ne (e'.symm.trans x))
  have z : W.heap.size ≤ (W.setCell ⟨p.bb, i, none⟩ (.int .i64 v)).heap.size := by simp [World.setCell]
  exact ⟨(k _ (.inl (.inl rfl))).trans h.b, (k _ (.inl (.inr (.inl rfl)))).trans h.o, (k _ (.inl (.inr (.inr (.inl rfl))))).trans h.l, fun j hj => (k _ (.inl (.inr (.inr (.inr (.inl ⟨j, hj, rfl⟩)))))).trans (h.ix j hj), h.lv.stay z (fun a ea h0 => k _ (.inl (.inr (.inr (.inr (.inr (.inl ⟨a, ea, by rw [d.ln] at h0; exact h0, rfl⟩))))))),
    fun s hs ne => ⟨Nat.lt_of_lt_of_le (h.el s hs ne).1 z, (h.el s hs ne).2.keep (k _ (.inl (.inr (.inr (.inr (.inr (.inr ⟨s, hs, ne, rfl⟩)))))))⟩, (h.rb.set i (.int .i64 v)).congr (fun j _ => by by_cases e : j = i <;> simp [e]), h.ro.of_block (k _ (.inr rfl))⟩
theorem OfG.seto (h : OfG p fb fo W) (d : OfD p) (i : Nat) (v : Int) : OfG p fb (fun j => if j = i then v else fo j) (W.setCell ⟨p.ob, i, none⟩ (.int .i64 v)) := by
  have k : ∀ q, rdO p q ∨ q = p.bb → (W.setCell ⟨p.ob, i, none⟩ (.int .i64 v)).heap[q]? = W.heap[q]? := fun q hq => Go.Deep.blk_setCell_other _ _ _ _ (fun e => by
    have e' : q = p.ob := e
    rcases hq with x | x
    · exact d.no q x (.inr e')
    · exact d.ne (x.symm.trans e'))
  have z : W.heap.size ≤ (W.setCell ⟨p.ob, i, none⟩ (.int .i64 v)).heap.size := by simp [World.setCell]
  exact ⟨(k _ (.inl (.inl rfl))).trans h.b, (k _ (.inl (.inr (.inl rfl)))).trans h.o, (k _ (.inl (.inr (.inr (.inl rfl))))).trans h.l, fun j hj => (k _ (.inl (.inr (.inr (.inr (.inl ⟨j, hj, rfl⟩)))))).trans (h.ix j hj), h.lv.stay z (fun a ea h0 => k _ (.inl (.inr (.inr (.inr (.inr (.inl ⟨a, ea, by rw [d.ln] at h0; exact h0, rfl⟩))))))),
    fun s hs ne => ⟨Nat.lt_of_lt_of_le (h.el s hs ne).1 z, (h.el s hs ne).2.keep (k _ (.inl (.inr (.inr (.inr (.inr (.inr ⟨s, hs, ne, rfl⟩)))))))⟩, h.rb.of_block (k _ (.inr rfl)), (h.ro.set i (.int .i64 v)).congr (fun j _ => by by_cases e : j = i <;> simp [e])⟩
theorem OfG.congr {fb' fo' : Nat → Int} (h : OfG p fb fo W) (e1 : ∀ j, fb j = fb' j) (e2 : ∀ j, fo j = fo' j) : OfG p fb' fo' W := by
  have a : fb = fb' := funext e1
  have b : fo = fo' := funext e2
  rw [← a, ← b]; exact h
end
/-- i lists were gone through. -/
def OfS (p : OfP) (i : Nat) (W : World) : Prop := OfG p (fun j => if j < i then 1 else 0) (fun _ => 0) W
set_option maxRecDepth 100000 in
set_option maxHeartbeats 4000000 in
theorem often1 (p : OfP) (d : OfD p) (i : Nat) (hi : i < p.n) (hil : i < p.L.length) (hl : p.L[i].l.length ≤ 4000000) :
    SeqO Fence.wide 2 Try.prog 16 #[.pointer (some ⟨p.bbx, 0, none⟩), .pointer (some ⟨p.ib i, 0, none⟩), .pointer (some ⟨p.obx, 0, none⟩), .pointer (some ⟨p.lbx, 0, none⟩)] (fun x : Ent => #[encE x]) p.L[i].l (rdO p) (wrO p) (OfS p i) (OfS p (i + 1)) := by
  intro l M J Jx W hA hRM hJ hJx hY h0
  obtain ⟨s, hs⟩ : ∃ s, p.L[i] = s := ⟨_, rfl⟩
  have SM : Hid (s ∈ p.L) := by rw [← hs]; exact List.getElem_mem hil
  have SI : Hid (p.L[i] = s) := hs
  rw [hs] at hl hY ⊢
  have DD : Hid (OfD p) := d
  -- the state within
  have KP : Hid (∀ (O : Nat → Prop) (W1 W' : World), W.heap.size ≤ W1.heap.size → OfG p (fun j => if j < i + 1 then 1 else 0) (fun j => if j = i then 1 else 0) W1 → Gx (fun q => (q < W.heap.size ∧ M q) ∨ (W.heap.size ≤ q ∧ O q)) W1 W' → OfG p (fun j => if j < i + 1 then 1 else 0) (fun j => if j = i then 1 else 0) W') := fun O W1 W' hz h g => h.keep DD.out g.size fun q hq => g.block q (h.lt DD.out q hq) (fun e => by
    have := hRM q hq
    rcases e with ⟨_, y⟩ | ⟨y, _⟩
    · exact this.2 y
    · omega)
  have HY : Hid _ := hY
  obtain ⟨m, hm⟩ : ∃ m, s.l.length = m := ⟨_, rfl⟩
  have LN : Aside (s.l.length = m) := hm
  rw [hm] at hl
  have A2 := (OfG.seto (hA.setb d i 1) d i 1).congr (fb' := fun j => if j < i + 1 then 1 else 0) (fo' := fun j => if j = i then 1 else 0) (fun j => by by_cases e : j = i <;> by_cases e' : j < i <;> simp [e, e'] <;> omega) (fun j => rfl)
  have J2 : J [] (fun _ => False) ((W.setCell ⟨p.bb, i, none⟩ (.int .i64 1)).setCell ⟨p.ob, i, none⟩ (.int .i64 1)) := hJ _ _ _ _ h0 (Ko.gx (S := wrO p) (((Gx.refl _ W).set (.inl (.inl rfl)) _ _).set (.inl (.inr rfl)) _ _) (fun q hq => ⟨.inr hq, fun e => e⟩))
  have z2 : W.heap.size ≤ ((W.setCell ⟨p.bb, i, none⟩ (.int .i64 1)).setCell ⟨p.ob, i, none⟩ (.int .i64 1)).heap.size := by simp [World.setCell]
  have OUT : Hid (∀ (W1 : World) (pre : List Ent) (O : Nat → Prop), (∀ q, O q → W.heap.size ≤ q) → OfG p (fun j => if j < i + 1 then 1 else 0) (fun j => if j = i then 1 else 0) W1 → OfS p (i + 1) (W1.setCell ⟨p.ob, i, none⟩ (.int .i64 0)) ∧ (J pre O W1 → J pre O (W1.setCell ⟨p.ob, i, none⟩ (.int .i64 0))) ∧ (Jx pre O W1 → Jx pre O (W1.setCell ⟨p.ob, i, none⟩ (.int .i64 0)))) := fun W1 pre O hO h => by
    have ko : Ko W.heap.size (wrO p) O W1 (W1.setCell ⟨p.ob, i, none⟩ (.int .i64 0)) := Ko.gx (S := fun q => q = p.ob) (Gx.set (S := fun q => q = p.ob) (q := p.ob) (Gx.refl _ W1) (.inl rfl) _ _) (fun q hq => ⟨.inr (.inr hq), fun e => by
      have := hO q e
      have := (hRM q (.inr (.inr hq))).1
      omega⟩)
    exact ⟨(h.seto DD.out i 0).congr (fun j => rfl) (fun j => by by_cases e : j = i <;> simp [e]), fun j => hJ _ _ _ _ j ko, fun j => hJx _ _ _ _ j ko⟩
  have b0 := blkc (o := 0) hA.b rfl
  have o0 := blkc (o := 0) hA.o rfl
  have i0 := blkc (o := 0) (hA.ix i hi) rfl
  have rb0 := hA.rb.cell hi
  have rbf := hA.rb.frozen i
  have i1 : (W.setCell ⟨p.bb, i, none⟩ (.int .i64 1)).cell? ⟨p.ib i, 0, none⟩ = some (.int .i64 (i : Int)) := blkc ((hA.setb d i 1).ix i hi) rfl
  have o1 : (W.setCell ⟨p.bb, i, none⟩ (.int .i64 1)).cell? ⟨p.obx, 0, none⟩ = some (.slice (some ⟨p.ob, 0, none⟩) p.n p.n) := blkc (hA.setb d i 1).o rfl
  have ro1 := (hA.setb d i 1).ro.cell hi
  have rof := (hA.setb d i 1).ro.frozen i
  have hi' : (i : Int) < (p.n : Int) := by omega
  rw [if_neg (Nat.lt_irrefl i)] at rb0
  have CL : Hid (∀ W1, OfG p (fun j => if j < i + 1 then 1 else 0) (fun j => if j = i then 1 else 0) W1 → (W1.cell? ⟨p.lbx, 0, none⟩ = some (.slice p.ao p.n p.c) ∧ W1.cell? ⟨p.ib i, 0, none⟩ = some (.int .i64 (i : Int)) ∧ W1.cell? ⟨p.obx, 0, none⟩ = some (.slice (some ⟨p.ob, 0, none⟩) p.n p.n) ∧ W1.cell? ⟨p.ob, i, none⟩ = some (.int .i64 1) ∧ W1.frozen? ⟨p.ob, i, none⟩ = false) ∧ ∃ lb lo bo sc, p.ao = some ⟨lb, lo, none⟩ ∧ W1.cell? ⟨lb, lo + i, none⟩ = some (.slice bo m sc) ∧ ∀ k x, s.l[k]? = some x → ∃ eb eo, bo = some ⟨eb, eo, none⟩ ∧ W1.cell? ⟨eb, eo + k * 3, none⟩ = some (.int .u64 x.k) ∧ W1.cell? ⟨eb, eo + k * 3 + 1, none⟩ = some (.int .u64 x.v) ∧ W1.cell? ⟨eb, eo + k * 3 + 2, none⟩ = some (.bool x.g)) := fun W1 h => by
    refine ⟨⟨blkc h.l rfl, blkc (h.ix i hi) rfl, blkc h.o rfl, by have := h.ro.cell hi; simpa using this, h.ro.frozen i⟩, ?_⟩
    obtain ⟨lb, lo, e, _, hc⟩ := h.lv.cells (by omega)
    obtain ⟨bo, sc, q1, q2⟩ := hc i hil
    rw [SI.out, LN.out] at q1
    rw [SI.out, LN.out] at q2
    refine ⟨lb, lo, bo, sc, e, q1, fun k x hx => ?_⟩
    have ne : s.l ≠ [] := fun e => by rw [e] at hx; simp at hx
    have m0 : 0 < m := by rw [← LN.out]; exact List.length_pos_iff.2 ne
    exact ⟨_, _, (q2 m0).1, (h.el s SM.out ne).2 k x hx⟩
  obtain ⟨W2, hW2⟩ : ∃ W2, (W.setCell ⟨p.bb, i, none⟩ (.int .i64 1)).setCell ⟨p.ob, i, none⟩ (.int .i64 1) = W2 := ⟨_, rfl⟩
  rw [hW2] at A2 J2 z2
  have A2H : Hid _ := A2
  have J2H : Hid (J [] (fun _ => False) W2) := J2
  have NS : Hid (∀ q, ¬ rdO p q ∨ ¬ wrO p q) := fun q => (Classical.em (rdO p q)).elim (fun x => .inr (DD.out.no q x)) (fun x => .inl x)
  have ne1 : p.ib i ≠ p.bb := fun e => DD.out.no (p.ib i) (.inr (.inr (.inr (.inl ⟨i, hi, rfl⟩)))) (.inl e)
  have ne2 : p.obx ≠ p.bb := fun e => DD.out.no p.obx (.inr (.inl rfl)) (.inl e)
  have w1 : IntKind.i64.wrap ((0 : Int) + 1) = 1 := by decide
  have w2 : IntKind.i64.wrap ((1 : Int) - 1) = 0 := by decide
  clear hm hA h0 hY hJ hJx hRM A2 J2 d hs
  obtain ⟨bbx, obx, lbx, bb, ob, n, ao, c, LL, ib⟩ := p
  have b0' : W.cell? ⟨bbx, 0, none⟩ = some (.slice (some ⟨bb, 0, none⟩) n n) := b0
  have o0' : W.cell? ⟨obx, 0, none⟩ = some (.slice (some ⟨ob, 0, none⟩) n n) := o0
  have i0' : W.cell? ⟨ib i, 0, none⟩ = some (.int .i64 (i : Int)) := i0
  have rb0' : W.cell? ⟨bb, i, none⟩ = some (.int .i64 0) := rb0
  have rbf' : W.frozen? ⟨bb, i, none⟩ = false := rbf
  have o1' : (W.setCell ⟨bb, i, none⟩ (.int .i64 1)).cell? ⟨obx, 0, none⟩ = some (.slice (some ⟨ob, 0, none⟩) n n) := o1
  have i1' : (W.setCell ⟨bb, i, none⟩ (.int .i64 1)).cell? ⟨ib i, 0, none⟩ = some (.int .i64 (i : Int)) := i1
  have ro1' : (W.setCell ⟨bb, i, none⟩ (.int .i64 1)).cell? ⟨ob, i, none⟩ = some (.int .i64 0) := ro1
  have rof' : (W.setCell ⟨bb, i, none⟩ (.int .i64 1)).frozen? ⟨ob, i, none⟩ = false := rof
  have hi2 : (i : Int) < (n : Int) := hi'
  have hi3 : i < n := hi
  have hW2' : (W.setCell ⟨bb, i, none⟩ (.int .i64 1)).setCell ⟨ob, i, none⟩ (.int .i64 1) = W2 := hW2
  clear b0 o0 i0 rb0 rbf o1 i1 ro1 rof hi' hW2 ne1 ne2 NS
  dsimp only at CL OUT ⊢
  obtain ⟨Wb, hWb⟩ : ∃ Wb, W.setCell ⟨bb, i, none⟩ (.int .i64 1) = Wb := ⟨_, rfl⟩
  rw [hWb] at o1' i1' ro1' rof' hW2'
  have hro : Fence.wide.round = none := rfl
  refine callsIn_of_wp Try.func16 rfl trivial ?_ hro
  simp only [Try.ntmps16, List.size_toArray, List.length_cons, List.length_nil, Nat.reduceAdd, Nat.reduceSub, Array.replicate_succ, Array.replicate_zero, List.push_toArray, List.append_toArray, List.nil_append, List.cons_append]
  gi_wp2
  gi_loopw [6] (fun i' wr => ∃ k : Nat, k ≤ m ∧ i' = .int .i64 k ∧ (∃ O, J (s.l.take k) O wr ∧ ∀ q, O q → W.heap.size ≤ q) ∧ OfG ⟨bbx, obx, lbx, bb, ob, n, ao, c, LL, ib⟩ (fun j => if j < i + 1 then 1 else 0) (fun j => if j = i then 1 else 0) wr ∧ W.heap.size ≤ wr.heap.size)
    (fun i' _ => m - (intOf i').toNat)
  case atStart => exact ⟨0, Nat.zero_le _, rfl, ⟨_, J2H.out, fun q e => e.elim⟩, A2H.out, z2⟩
  case round =>
    clear A2H J2H b0' o0' i0' rb0' rbf' o1' i1' ro1' rof' hW2' hWb z2
    obtain ⟨k, hk, rfl, ⟨O, hJ, hO⟩, hL, hz⟩ := hrel
    obtain ⟨⟨c1, c2, c3, c4, c5⟩, lb, lo, bo, sc, eao, c6, c7⟩ := CL.out wr hL
    subst eao
    have HJ : Hid (J (s.l.take k) O wr) := hJ
    have HL : Hid _ := hL
    have HO : Hid (∀ q, O q → W.heap.size ≤ q) := hO
    by_cases hlt : k < m
    · have hlt' : (k : Int) < (m : Int) := by omega
      have kl : k < s.l.length := by rw [LN.out]; exact hlt
      have TK : Hid (s.l.take (k + 1) = s.l.take k ++ [s.l[k]]) := by show _ = _; rw [List.take_add_one, List.getElem?_eq_getElem kl]; rfl
      have yy := HY.out (s.l.take k) s.l[k] O wr HJ.out hz (by rw [← TK.out]; exact List.take_prefix _ _)
      obtain ⟨eb, eo, ebo, d0, d1, d2⟩ := c7 k s.l[k] (List.getElem?_eq_getElem kl)
      obtain ⟨x, hx⟩ : ∃ x, s.l[k] = x := ⟨_, rfl⟩
      rw [hx] at yy d0 d1 d2 TK
      subst ebo
      clear hJ hL kl hx c7 hO
      obtain ⟨xk, xv, xg⟩ := x
      simp only [encE] at yy
      dsimp only at d0 d1 d2
      obtain ⟨fn, tmps, assign, body, hy, hR⟩ := yy
      have HRR : Hid _ := hR
      clear hR
      gi_wp2
      refine RoundIn.mono HRR.out ?_
      rintro e W3 ⟨O', o1, g3, (⟨rfl, hJ3⟩ | ⟨rfl, hJx3⟩)⟩
      · have L3 := KP.out O wr W3 hz HL.out g3
        have JJ : Hid _ := hJ3
        have z3 := g3.size
        have O3 : ∀ q, O' q → W.heap.size ≤ q := fun q hq => ((o1 q hq).1).elim (HO.out q) (fun x => Nat.le_trans hz x)
        clear hJ3 g3 o1 c1 c2 c3 c4 c5 c6 d0 d1 d2
        gi_wp2
        go_roundw
        case rel => exact ⟨k + 1, by omega, by simp, ⟨O', by rw [TK.out]; exact JJ.out, O3⟩, L3, Nat.le_trans hz z3⟩
        case measure => simp [intOf]; omega
      · have L3 := KP.out O wr W3 hz HL.out g3
        have O3 : ∀ q, O' q → W.heap.size ≤ q := fun q hq => ((o1 q hq).1).elim (HO.out q) (fun x => Nat.le_trans hz x)
        have z3 := g3.size
        obtain ⟨⟨_, e2, e3, e4, e5⟩, _⟩ := CL.out W3 L3
        obtain ⟨q1, _, q3⟩ := OUT.out W3 (s.l.take k ++ [⟨xk, xv, xg⟩]) O' O3 L3
        have FIN : Hid (OfS ⟨bbx, obx, lbx, bb, ob, n, some ⟨lb, lo, none⟩, c, LL, ib⟩ (i + 1) (W3.setCell ⟨ob, i, none⟩ (.int .i64 0)) ∧ Jx (s.l.take k ++ [⟨xk, xv, xg⟩]) O' (W3.setCell ⟨ob, i, none⟩ (.int .i64 0)) ∧ W.heap.size ≤ (W3.setCell ⟨ob, i, none⟩ (.int .i64 0)).heap.size) := ⟨q1, q3 hJx3, by have : W.heap.size ≤ W3.heap.size := Nat.le_trans hz z3; simpa [World.setCell] using this⟩
        clear hJx3 g3 o1 q1 q3 L3 c1 c2 c3 c4 c5 c6 d0 d1 d2
        gi_wp2
        go_end0
        exact ⟨⟨_, rfl⟩, FIN.out.1, FIN.out.2.2, .inr ⟨_, O', by rw [← TK.out]; exact List.take_prefix _ _, FIN.out.2.1⟩⟩
    · have ek : k = m := by omega
      have hlt' : ¬ ((k : Int) < (m : Int)) := by omega
      obtain ⟨q1, q2, _⟩ := OUT.out wr (s.l.take k) O hO hL
      have FIN : Hid (OfS ⟨bbx, obx, lbx, bb, ob, n, some ⟨lb, lo, none⟩, c, LL, ib⟩ (i + 1) (wr.setCell ⟨ob, i, none⟩ (.int .i64 0)) ∧ J s.l O (wr.setCell ⟨ob, i, none⟩ (.int .i64 0)) ∧ W.heap.size ≤ (wr.setCell ⟨ob, i, none⟩ (.int .i64 0)).heap.size) := by
        refine ⟨q1, ?_, by simpa [World.setCell] using hz⟩
        have := q2 hJ
        rw [List.take_of_length_le (by rw [LN.out]; omega)] at this
        exact this
      clear hJ q1 q2 c7
      gi_wp2
      go_end0
      exact ⟨⟨_, rfl⟩, FIN.out.1, FIN.out.2.2, .inl ⟨O, FIN.out.2.1⟩⟩
end Go.Proofs.Ythkahedhmfkhhaa
