/- Layer 13's statements' own: copied, asWere. -/
import Derived.Test.YthkahedhmfkhhaaGLaw
namespace Go.Proofs.Ythkahedhmfkhhaa
open Go.RowKit
set_option linter.unusedVariables false

def e77 : Ent := ⟨77, 77, false⟩
theorem flat_len : ∀ l : List Ent, (l.flatMap ent3).length = l.length * 3 := by
  intro l
  induction l with
  | nil => rfl
  | cons s l ih => rw [List.flatMap_cons, List.length_append, ih, List.length_cons]; show 3 + l.length * 3 = _; omega
theorem flat_ones (l : List Ent) : ∀ u ∈ l.flatMap ent3, u.oneCell' = true := by
  intro u hu
  obtain ⟨e, _, h⟩ := List.mem_flatMap.1 hu
  exact ent3_one e u h
theorem el_news {w : World} {ao : Option Addr} {l : List Ent} (h : EL w ao l) : ∀ ad, ao = some ad → ∀ j u, (l.flatMap ent3)[j]? = some u → w.cell? (ad.add j) = some u := by
  intro ad e j u hu
  have hj : j < l.length * 3 := by
    have := (List.getElem?_eq_some_iff.1 hu).1
    rwa [flat_len] at this
  obtain ⟨b, off, e', _, hc⟩ := h.cells (by omega)
  rw [e] at e'
  cases e'
  rw [Addr.add_lit]
  have hi : j / 3 < l.length := by omega
  obtain ⟨c0, c1, c2⟩ := hc (j / 3) hi
  have fe := flat_e l (j / 3) hi (j % 3) (by omega)
  rw [show j / 3 * 3 + j % 3 = j by omega, hu] at fe
  have hr : j % 3 = 0 ∨ j % 3 = 1 ∨ j % 3 = 2 := by omega
  rcases hr with r | r | r
  · rw [r] at fe
    rw [show off + j = off + j / 3 * 3 by omega]
    exact c0.trans fe.symm
  · rw [r] at fe
    rw [show off + j = off + j / 3 * 3 + 1 by omega]
    exact c1.trans fe.symm
  · rw [r] at fe
    rw [show off + j = off + j / 3 * 3 + 2 by omega]
    exact c2.trans fe.symm
theorem getD_app {l : List Ent} {e : Ent} {i : Nat} (hi : i < l.length) : (l ++ [e]).getD i ent0 = l.getD i ent0 := by
  rw [List.getD_eq_getElem?_getD, List.getElem?_append_left hi, ← List.getD_eq_getElem?_getD]
theorem EL.front {w : World} {ao : Option Addr} {l : List Ent} {e : Ent} (h : EL w ao (l ++ [e])) : EL w ao l := by
  have hl : (l ++ [e]).length = l.length + 1 := by simp
  refine ⟨fun h0 => ?_, fun i hi => ?_⟩
  · obtain ⟨b, off, q, hb, hc⟩ := h.cells (by omega)
    refine ⟨b, off, q, hb, fun i hi => ?_⟩
    have := hc i (by omega)
    rw [getD_app hi] at this
    exact this
  · have := h.bd i (by omega)
    rw [getD_app hi] at this
    exact this
theorem EL.keep {w w' : World} {rb : Nat} {l : List Ent} (h : EL w (some ⟨rb, 0, none⟩) l) (hb : rb < w'.heap.size) (k : w'.heap[rb]? = w.heap[rb]?) : EL w' (some ⟨rb, 0, none⟩) l :=
  ⟨fun h0 => by
    obtain ⟨b, off, e, _, hc⟩ := h.cells h0
    cases e
    refine ⟨rb, 0, rfl, hb, fun i hi => ?_⟩
    have := hc i hi
    simp only [World.cell?] at this ⊢
    rw [k]
    exact this, h.bd⟩
/-- Rows with a mark behind each, of a call's own. -/
structure CI (w : World) (ob : Nat) (vals : List Value) (L : List (List Ent)) : Prop where
  len : vals.length = L.length
  row : ∀ i, i < L.length → ∃ rb rc, vals[i]? = some (.slice (some ⟨rb, 0, none⟩) (L.getD i []).length rc) ∧ (L.getD i []).length + 1 ≤ rc ∧ rb ≠ ob ∧ rb < w.heap.size ∧ EL w (some ⟨rb, 0, none⟩) (L.getD i [] ++ [e77])
theorem CI.gw {w w' : World} {ob : Nat} {vals : List Value} {L : List (List Ent)} (h : CI w ob vals L) (g : Gw w w') : CI w' ob vals L :=
  ⟨h.len, fun i hi => by
    obtain ⟨rb, rc, h1, h0, h2, h3, h4⟩ := h.row i hi
    exact ⟨rb, rc, h1, h0, h2, Nat.lt_of_lt_of_le h3 g.size, h4.gw g⟩⟩
theorem CI.more {w w8 : World} {o : Obj} {ob ob' : Nat} {vals : List Value} {L : List (List Ent)} {l : List Ent} {rb rc : Nat} (h : CI w ob vals L) (r2 : (w.alloc o).grownBy w8 (some ob)) (o8 : ob' = ob ∨ w.heap.size ≤ ob') (rn : rb ≠ ob) (rl : rb < w.heap.size) (hc : l.length + 1 ≤ rc) (ks : EL w (some ⟨rb, 0, none⟩) (l ++ [e77])) : CI w8 ob' (vals ++ [.slice (some ⟨rb, 0, none⟩) l.length rc]) (L ++ [l]) := by
  have kp : ∀ q, q < w.heap.size → q ≠ ob → w8.heap[q]? = w.heap[q]? := fun q hq hn => (r2.block q (by simp; omega) (fun e => hn (by cases e; rfl))).trans (heap_alloc_old w _ hq)
  have lt8 : ∀ q, q < w.heap.size → q ≠ ob → q < w8.heap.size := fun q hq hn => by
    have e := kp q hq hn
    rw [Array.getElem?_eq_getElem hq] at e
    exact (Array.getElem?_eq_some_iff.1 e).1
  refine ⟨by rw [List.length_append, List.length_append, h.len]; rfl, fun i hi => ?_⟩
  by_cases e : i < L.length
  · obtain ⟨b, c, h1, h0, h2, h3, h4⟩ := h.row i e
    have eg : (L ++ [l]).getD i [] = L.getD i [] := by
      rw [List.getD_eq_getElem?_getD, List.getElem?_append_left e, ← List.getD_eq_getElem?_getD]
    rw [eg]
    refine ⟨b, c, by rw [List.getElem?_append_left (by rw [h.len]; exact e)]; exact h1, h0, ?_, lt8 b h3 h2, h4.keep (lt8 b h3 h2) (kp b h3 h2)⟩
    rcases o8 with q | q
    · rw [q]; exact h2
    · omega
  · have ei : i = L.length := by
      rw [List.length_append] at hi
      simp at hi
      omega
    subst ei
    have eg : (L ++ [l]).getD L.length [] = l := by simp [List.getD]
    rw [eg]
    refine ⟨rb, rc, by rw [← h.len]; simp, hc, ?_, lt8 rb rl rn, ks.keep (lt8 rb rl rn) (kp rb rl rn)⟩
    rcases o8 with q | q
    · rw [q]; exact rn
    · omega
/-- Lists with a mark behind each. -/
structure EX (w : World) (ao : Option Addr) (L : List (List Ent)) : Prop where
  cells : 0 < L.length → ∃ b off, ao = some ⟨b, off, none⟩ ∧ b < w.heap.size ∧ ∀ i, i < L.length → ∃ bo c, w.cell? ⟨b, off + i, none⟩ = some (.slice bo (L.getD i []).length c) ∧ (L.getD i []).length + 1 ≤ c ∧ EL w bo (L.getD i [] ++ [e77])
theorem EX.gw {w w' : World} {ao : Option Addr} {L : List (List Ent)} (h : EX w ao L) (g : Gw w w') : EX w' ao L :=
  ⟨fun h0 => by
    obtain ⟨b, off, e, hb, hc⟩ := h.cells h0
    refine ⟨b, off, e, Nat.lt_of_lt_of_le hb g.size, fun i hi => ?_⟩
    obtain ⟨bo, c, h1, h2, h3⟩ := hc i hi
    exact ⟨bo, c, (g.cell _ _ hb).trans h1, h2, h3.gw g⟩⟩
theorem EX.ev {w : World} {ao : Option Addr} {L : List (List Ent)} (h : EX w ao L) : EV w ao L :=
  ⟨fun h0 => by
    obtain ⟨b, off, e, hb, hc⟩ := h.cells h0
    refine ⟨b, off, e, hb, fun i hi => ?_⟩
    obtain ⟨bo, c, h1, h2, h3⟩ := hc i hi
    refine ⟨bo, c, h1, by omega, h3.front, fun q => ?_⟩
    obtain ⟨_, _, q', _⟩ := h3.cells (by simp)
    rw [q] at q'
    cases q'⟩
theorem CI.ex {w : World} {base ob n oc : Nat} {vals : List Value} {L : List (List Ent)} (h : CI w ob vals L) (o : w.ownsRow base 24 1 (.slice (some ⟨ob, 0, none⟩) n oc) n vals) (hn : L.length = n) : EX w (some ⟨ob, 0, none⟩) L :=
  ⟨fun h0 => ⟨ob, 0, rfl, (o.lt ob rfl).2, fun i hi => by
    obtain ⟨rb, rc, h1, h0, _, _, h4⟩ := h.row i hi
    refine ⟨some ⟨rb, 0, none⟩, rc, ?_, h0, h4⟩
    rw [Nat.zero_add, World.ownsRow.cellAt o i (by omega)]
    exact h1⟩⟩
theorem info_es13 : (Try.prog.info? 24).map (fun i => (i.zero, i.size, i.bytes)) = some (some (.slice none 0 0), 1, 24) := by kernel_rfl
theorem orow13' {w w' : World} {base e size n : Nat} {v : Value} {xs : List Value} (h : w.ownsRow base e size v n xs) (g : Gw w w') : w'.ownsRow base e size v n xs := by
  refine ⟨h.1, ?_⟩
  rcases h.2 with q | ⟨b, cap, cur, rfl, hb, hh, r⟩
  · exact .inl q
  · exact .inr ⟨b, cap, cur, rfl, hb, (g.below.block b (Array.getElem?_eq_some_iff.1 hh).1).trans hh, r⟩
theorem new_v13' (w : World) (x : Value) (t : TypeId) : ∀ j u, [x][j]? = some u → (w.alloc (.cells #[x] t)).cell? ((⟨w.heap.size, 0, none⟩ : Addr).add j) = some u := by
  intro j u hu
  cases j with
  | zero =>
    simp only [List.getElem?_cons_zero, Option.some.injEq] at hu
    subst hu
    simp [Addr.add, go_sem]
  | succ j => simp at hu
end Go.Proofs.Ythkahedhmfkhhaa
