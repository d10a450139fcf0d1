/- MergeGroups: the walk. -/
import Derived.Test.YtnkcnfpbbdlifaaGC
namespace Go.Proofs.Ytnkcnfpbbdlifaa
open Go.RowKit
set_option linter.unusedVariables false

/-- A list that lies in memory: where, how much room, what. -/
structure Gst where
  ao : Option Addr
  cap : Nat
  l : List Ent
def Gst.v (r : Gst) : Value := .slice r.ao r.l.length r.cap
structure Gst.ok (r : Gst) (w : World) : Prop where
  el : EL w r.ao r.l
  le : r.l.length ≤ r.cap
  nil : r.ao = none → r.l.length = 0 ∧ r.cap = 0
theorem Gst.ok.gw {r : Gst} {w w' : World} (h : r.ok w) (g : Gw w w') : r.ok w' := ⟨h.el.gw g, h.le, h.nil⟩
theorem gst_none (w : World) (a : Option Addr) (e : a ≠ none) : (Gst.mk a 0 []).ok w := ⟨⟨fun h => by simp at h, fun i hi => by simp at hi⟩, Nat.le_refl _, fun q => absurd q e⟩
theorem eo_ok {w : World} {base : Nat} {bo : Option Addr} {oc : Nat} {o : List Ent} (h : EO w base (.slice bo o.length oc) o) (ok : ∀ e ∈ o, e.ok) : (Gst.mk bo oc o).ok w := by
  refine ⟨eo_el h ok, ?_, ?_⟩
  · rcases h.2 with ⟨e, z⟩ | ⟨b, cap, cur, e, hb, hh, r⟩
    · show o.length ≤ oc; omega
    · injection e with e1 e2 e3
      show o.length ≤ oc
      rw [e3]
      exact r.1
  · intro q
    rcases h.2 with ⟨e, z⟩ | ⟨b, cap, cur, e, hb, hh, r⟩
    · injection e with e1 e2 e3
      exact ⟨z, e3⟩
    · injection e with e1 e2 e3
      have q' : bo = none := q
      rw [q'] at e1
      cases e1
theorem ev_rows {w : World} (R : List Gst) (h : ∀ r ∈ R, r.ok w) : EV (w.alloc (.cells (R.map Gst.v).toArray 25)) (some ⟨w.heap.size, 0, none⟩) (R.map Gst.l) := by
  have g : Gw w (w.alloc (.cells (R.map Gst.v).toArray 25)) := (Gw.refl w).alloc _ _
  refine ⟨fun h0 => ⟨w.heap.size, 0, rfl, by simp, fun i hi => ?_⟩⟩
  have hi' : i < R.length := by simpa using hi
  have e : (R.map Gst.l).getD i [] = R[i].l := by simp [List.getD, hi']
  have o := h R[i] (List.getElem_mem hi')
  rw [e]
  refine ⟨R[i].ao, R[i].cap, ?_, o.le, o.el.gw g, o.nil⟩
  have hb := heap_alloc_new w (.cells (R.map Gst.v).toArray 25)
  rw [Nat.zero_add]
  simp only [World.cell?, hb]
  simp [hi', Gst.v]
theorem MergeC.rows (MC : MergeC) (R : List Gst) (hR : R.length ≤ 9) (hs : sizes (R.map Gst.l) ≤ 2000000) (w : World) (h : ∀ r ∈ R, r.ok w) :
    Calls Try.prog 12 #[.slice (some ⟨w.heap.size, 0, none⟩) R.length R.length] (w.alloc (.cells (R.map Gst.v).toArray 25)) fun e w' => (∃ r : Gst, e = .returned r.v ∧ r.ok w' ∧ Mg Ent.k (R.map Gst.l) r.l) ∧ Gw w w' := by
  have ev := ev_rows R h
  have g : Gw w (w.alloc (.cells (R.map Gst.v).toArray 25)) := (Gw.refl w).alloc _ _
  have ln : (R.map Gst.l).length = R.length := by simp
  have each : ∀ i, i < (R.map Gst.l).length → ((R.map Gst.l).getD i []).length ≤ 2000000 := fun i hi => by
    have e : (R.map Gst.l).getD i [] = (R.map Gst.l)[i] := by simp only [List.getD, List.getElem?_eq_getElem hi, Option.getD_some]
    rw [e]
    have : ∀ (L : List (List Ent)) (l : List Ent), l ∈ L → l.length ≤ sizes L := by
      intro L
      induction L with
      | nil => intro l hl; cases hl
      | cons a L ih =>
        intro l hl
        rw [sizes_cons]
        rcases List.mem_cons.1 hl with rfl | q
        · omega
        · have := ih l q; omega
    exact Nat.le_trans (this _ _ (List.getElem_mem hi)) hs
  have := MC.entries (some ⟨w.heap.size, 0, none⟩) R.length (R.map Gst.l) (by omega) each hs (by omega) (fun q => by cases q) _ ev
  rw [ln] at this
  refine this.mono fun e w' ⟨⟨bo, oc, o, a1, a2, a3⟩, b⟩ => ⟨⟨⟨bo, oc, o⟩, a1, eo_ok a2 (a3.oks ev.oks), a3⟩, g.trans b⟩
end Go.Proofs.Ytnkcnfpbbdlifaa
