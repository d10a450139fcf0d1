/- JudgePlays: what is the statement's own beside the two. -/
import Derived.Test.YtkojcjfjmlompaaS3PJ
namespace Go.Proofs.Ytkojcjfjmlompaa
open Go.RowKit
set_option linter.unusedVariables false
theorem fm_set2 : ∀ (l : Ps) (i : Nat) (k v : Int) (p : Int × Int), l[i]? = some p → (l.set i (k, v)).flatMap pc2 = ((l.flatMap pc2).set (i * 2) (.int .u64 k)).set (i * 2 + 1) (.int .u64 v) := by
  intro l
  induction l with
  | nil => intro i k v p h; simp at h
  | cons x l ih =>
    intro i k v p h
    cases i with
    | zero => simp [pc2]
    | succ i =>
      rw [List.set_cons_succ, List.flatMap_cons, List.flatMap_cons, ih i k v p (by simpa using h)]
      rw [List.set_append_right _ _ (by show 2 ≤ _; omega), List.set_append_right _ _ (by show 2 ≤ _; omega)]
      have e1 : (i + 1) * 2 - (pc2 x).length = i * 2 := by show (i + 1) * 2 - 2 = _; omega
      have e2 : (i + 1) * 2 + 1 - (pc2 x).length = i * 2 + 1 := by show (i + 1) * 2 + 1 - 2 = _; omega
      rw [e1, e2]
theorem RowG.put {w : World} {base g n cap : Nat} {L : Ps} (h : RowG 44 2 pc2 w base g n cap L) (i : Nat) (p : Int × Int) (hp : L[i]? = some p) (k v : Int) : RowG 44 2 pc2 ((w.setCell ⟨g, i * 2, none⟩ (.int .u64 k)).setCell ⟨g, i * 2 + 1, none⟩ (.int .u64 v)) base g n cap (L.set i (k, v)) :=
  ⟨by rw [List.length_set]; exact h.len, by rw [fm_set2 L i k v p hp]; exact own_setc (own_setc h.row _ _) _ _⟩
theorem RowG.two {w : World} {base g n cap : Nat} {L : Ps} (h : RowG 44 2 pc2 w base g n cap L) (i : Nat) (p : Int × Int) (hp : L[i]? = some p) : w.cell? ⟨g, i * 2, none⟩ = some (.int .u64 p.1) ∧ w.cell? ⟨g, i * 2 + 1, none⟩ = some (.int .u64 p.2) := by
  obtain ⟨b, off, e, _, hc⟩ := (h.ls pc2_len).cells (Nat.lt_of_le_of_lt (Nat.zero_le _) (List.getElem?_eq_some_iff.1 hp).1)
  cases e
  have h0 := hc i p hp 0 _ rfl
  have h1 := hc i p hp 1 _ rfl
  simp only [Nat.zero_add, Nat.add_zero] at h0 h1
  exact ⟨h0, h1⟩
theorem gx_put {w wr : World} {g : Nat} (a b : Nat) (u v : Value) (h : Gx (fun q => q = g) w wr) : Gx (fun q => q = g) w ((wr.setCell ⟨g, a, none⟩ u).setCell ⟨g, b, none⟩ v) := (h.set (.inl rfl) _ _).set (.inl rfl) _ _
structure MY (HJ : World → Nat → (Nat → Prop) → Int → Ps → Prop) (w W : World) (p j : Nat) (Sp Sj : Nat → Prop) (most : Int) (lp lj : Ps) (bA : Nat) (B : Array Value) (g m cap : Nat) (L : Ps) : Prop where
  pj : PJ HJ w W p j Sp Sj most lp lj
  box : W.heap[bA]? = some (.cells B 36 (0, 0))
  row : RowG 44 2 pc2 W (bA + 1) g m cap L
  far : ∀ q, Sp q ∨ Sj q → q ≠ bA ∧ q ≠ g
  lo : w.heap.size ≤ bA
theorem MY.same {HJ : World → Nat → (Nat → Prop) → Int → Ps → Prop} (C : JudgeC HJ) {w W w' : World} {p j : Nat} {Sp Sj : Nat → Prop} {most : Int} {lp lj : Ps} {bA : Nat} {B : Array Value} {g m cap : Nat} {L : Ps} (h : MY HJ w W p j Sp Sj most lp lj bA B g m cap L) (k : Gw W w') : ∃ Sj', MY HJ w w' p j Sp Sj' most lp lj bA B g m cap L := by
  obtain ⟨Sj', h1, h2⟩ := h.pj.same C k
  exact ⟨Sj', h1, (k.below.block _ (blkl h.box)).trans h.box, h.row.gw k, fun q hq => h.far q (hq.imp id (h2 q)), h.lo⟩
theorem MY.jud {HJ : World → Nat → (Nat → Prop) → Int → Ps → Prop} {w W w' : World} {p j : Nat} {Sp Sj Sp' Sj' : Nat → Prop} {most : Int} {lp lj lj' : Ps} {bA : Nat} {B : Array Value} {g m cap : Nat} {L : Ps} (h : MY HJ w W p j Sp Sj most lp lj bA B g m cap L) (k : PJ HJ w w' p j Sp' Sj' most lp lj') (x : Gx Sj W w') (s1 : ∀ q, Sp' q → Sp q) (s2 : ∀ q, Sj' q → Sj q ∨ W.heap.size ≤ q) : MY HJ w w' p j Sp' Sj' most lp lj' bA B g m cap L :=
  ⟨k, (x.block _ (blkl h.box) (fun q => (h.far _ (.inr q)).1 rfl)).trans h.box, h.row.keep (x.block _ h.row.lt.2 (fun q => (h.far _ (.inr q)).2 rfl)), fun q hq => by
    rcases hq with a | a
    · exact h.far q (.inl (s1 q a))
    · rcases s2 q a with b | b
      · exact h.far q (.inr b)
      · have z1 := blkl h.box; have z2 := h.row.lt.2; exact ⟨by omega, by omega⟩, h.lo⟩
theorem MY.doc {HJ : World → Nat → (Nat → Prop) → Int → Ps → Prop} {w W w' : World} {p j : Nat} {Sp Sj Sp' Sj' : Nat → Prop} {most : Int} {lp lj lp' : Ps} {bA : Nat} {B : Array Value} {g m cap : Nat} {L : Ps} (h : MY HJ w W p j Sp Sj most lp lj bA B g m cap L) (k : PJ HJ w w' p j Sp' Sj' most lp' lj) (x : Gx Sp W w') (s1 : ∀ q, Sj' q → Sj q) (s2 : ∀ q, Sp' q → Sp q ∨ W.heap.size ≤ q) : MY HJ w w' p j Sp' Sj' most lp' lj bA B g m cap L :=
  ⟨k, (x.block _ (blkl h.box) (fun q => (h.far _ (.inl q)).1 rfl)).trans h.box, h.row.keep (x.block _ h.row.lt.2 (fun q => (h.far _ (.inl q)).2 rfl)), fun q hq => by
    rcases hq with a | a
    · rcases s2 q a with b | b
      · exact h.far q (.inl b)
      · have z1 := blkl h.box; have z2 := h.row.lt.2; exact ⟨by omega, by omega⟩
    · exact h.far q (.inr (s1 q a)), h.lo⟩
/-- A pair of one's own list written over. -/
theorem MY.put {HJ : World → Nat → (Nat → Prop) → Int → Ps → Prop} (C : JudgeC HJ) {w W : World} {p j : Nat} {Sp Sj : Nat → Prop} {most : Int} {lp lj : Ps} {bA : Nat} {B : Array Value} {g m cap : Nat} {L : Ps} (h : MY HJ w W p j Sp Sj most lp lj bA B g m cap L) (i : Nat) (x : Int × Int) (hx : L[i]? = some x) (k v : Int) : ∃ Sj' L', MY HJ w ((W.setCell ⟨g, i * 2, none⟩ (.int .u64 k)).setCell ⟨g, i * 2 + 1, none⟩ (.int .u64 v)) p j Sp Sj' most lp lj bA B g m cap L' := by
  have gx := gx_put (i * 2) (i * 2 + 1) (.int .u64 k) (.int .u64 v) (Gx.refl (fun q => q = g) W)
  have gl := h.row.lt
  have lo := h.lo
  obtain ⟨Sj', h1, h2⟩ := h.pj.gx C gx (fun q hq => by subst hq; exact ⟨fun a => (h.far _ (.inl a)).2 rfl, fun a => (h.far _ (.inr a)).2 rfl, by omega⟩)
  exact ⟨Sj', _, h1, (gx.block _ (blkl h.box) (by show bA ≠ g; omega)).trans h.box, h.row.put i x hx k v, fun q hq => h.far q (hq.imp id (h2 q)), h.lo⟩
end Go.Proofs.Ytkojcjfjmlompaa
