/- Some pairs of Fits in memory, each the program's and the document's, that share no block. -/
import Derived.Test.YtocahgiabeifeaaHPair
import Derived.Test.YtocahgiabeifeaaR4Clone
namespace Go.Proofs.Ytocahgiabeifeaa
open Go.RowKit
set_option linter.unusedVariables false

/-- A pair: both have the same keys; T: the blocks that they are made of. -/
def PairOK (HF : World → Nat → (Nat → Prop) → Int → Nat → (Nat → Int) → Prop) (w : World) (pa pb : Nat) (T : Nat → Prop) : Prop :=
  ∃ (SA SB : Nat → Prop) (e : Int) (m : Nat) (f : Nat → Int), HF w pa SA e m f ∧ RFit w pb SB e m f ∧ m ≤ 400 ∧ (∀ q, T q ↔ SA q ∨ SB q) ∧ (∀ q, SA q → SB q → False)

theorem RFit.lt' {w : World} {p : Nat} {S : Nat → Prop} {e : Int} {n : Nat} {f : Nat → Int} (h : RFit w p S e n f) : ∀ q, S q → q < w.heap.size := by
  obtain ⟨v, a, b, c, d, R, hS⟩ := h
  exact fun q hq => R.in q ((hS q).1 hq)
theorem RFit.keep' {w w' : World} {p : Nat} {S : Nat → Prop} {e : Int} {n : Nat} {f : Nat → Int} (h : RFit w p S e n f) (k : ∀ q, S q → w'.heap[q]? = w.heap[q]?) : RFit w' p S e n f := by
  obtain ⟨v, a, b, c, d, R, hS⟩ := h
  exact ⟨v, a, b, c, d, R.keep fun q hq => k q ((hS q).2 hq), hS⟩

theorem PairOK.lt {HF : World → Nat → (Nat → Prop) → Int → Nat → (Nat → Int) → Prop} (H : HullC HF) {w : World} {pa pb : Nat} {T : Nat → Prop} (h : PairOK HF w pa pb T) : ∀ q, T q → q < w.heap.size := by
  obtain ⟨SA, SB, e, m, f, h1, h2, h3, h4, h5⟩ := h
  intro q hq
  rcases (h4 q).1 hq with r | r
  · exact H.lt h1 q r
  · exact h2.lt' q r
theorem PairOK.keep {HF : World → Nat → (Nat → Prop) → Int → Nat → (Nat → Int) → Prop} (H : HullC HF) {w w' : World} {pa pb : Nat} {T : Nat → Prop} (h : PairOK HF w pa pb T) (k : ∀ q, T q → w'.heap[q]? = w.heap[q]?) : PairOK HF w' pa pb T := by
  obtain ⟨SA, SB, e, m, f, h1, h2, h3, h4, h5⟩ := h
  exact ⟨SA, SB, e, m, f, H.keep h1 fun q hq => k q ((h4 q).2 (.inl hq)), h2.keep' fun q hq => k q ((h4 q).2 (.inr hq)), h3, h4, h5⟩

/-- The cells of the pairs. -/
def pcs (PA PB : Nat → Nat) : Nat → List Value
  | 0 => []
  | k + 1 => pcs PA PB k ++ [.pointer (some ⟨PA k, 0, none⟩), .pointer (some ⟨PB k, 0, none⟩)]
theorem pcs_len (PA PB : Nat → Nat) (L : Nat) : (pcs PA PB L).length = L * 2 := by
  induction L with
  | zero => rfl
  | succ L ih => simp [pcs, ih]; omega
theorem pcs_get (PA PB : Nat → Nat) {k L : Nat} (hk : k < L) : (pcs PA PB L)[k * 2]? = some (.pointer (some ⟨PA k, 0, none⟩)) ∧ (pcs PA PB L)[k * 2 + 1]? = some (.pointer (some ⟨PB k, 0, none⟩)) := by
  induction L with
  | zero => omega
  | succ L ih =>
    have l := pcs_len PA PB L
    by_cases e : k = L
    · subst e
      constructor
      · rw [pcs, List.getElem?_append_right (by omega), l]; simp
      · rw [pcs, List.getElem?_append_right (by omega), l]; simp
    · obtain ⟨h1, h2⟩ := ih (by omega)
      constructor
      · rw [pcs, List.getElem?_append_left (by omega)]; exact h1
      · rw [pcs, List.getElem?_append_left (by omega)]; exact h2
theorem pcs_congr {PA PB PA' PB' : Nat → Nat} {L : Nat} (e : ∀ k, k < L → PA k = PA' k ∧ PB k = PB' k) : pcs PA PB L = pcs PA' PB' L := by
  induction L with
  | zero => rfl
  | succ L ih =>
    obtain ⟨e1, e2⟩ := e L (by omega)
    rw [pcs, pcs, ih (fun k hk => e k (by omega)), e1, e2]

/-- One of them replaced. -/
def nput {α : Type} (f : Nat → α) (k : Nat) (x : α) (i : Nat) : α := if i = k then x else f i
theorem nput_at {α : Type} (f : Nat → α) (k : Nat) (x : α) : nput f k x k = x := if_pos rfl
theorem nput_ne {α : Type} {f : Nat → α} {k : Nat} {x : α} {i : Nat} (h : i ≠ k) : nput f k x i = f i := if_neg h

theorem pcs_set (PA PB : Nat → Nat) {k L : Nat} (hk : k < L) (a b : Nat) : ((pcs PA PB L).set (k * 2) (.pointer (some ⟨a, 0, none⟩))).set (k * 2 + 1) (.pointer (some ⟨b, 0, none⟩)) = pcs (nput PA k a) (nput PB k b) L := by
  induction L with
  | zero => omega
  | succ L ih =>
    have l := pcs_len PA PB L
    by_cases e : k = L
    · subst e
      rw [pcs, pcs, nput_at, nput_at, List.set_append_right _ _ (by omega), List.set_append_right _ _ (by omega), l, pcs_congr (PA' := nput PA k a) (PB' := nput PB k b) (fun j hj => ⟨(nput_ne (by omega)).symm, (nput_ne (by omega)).symm⟩)]
      simp
    · rw [pcs, pcs, nput_ne (by omega), nput_ne (by omega), List.set_append_left _ _ (by omega), List.set_append_left _ _ (by simp; omega), ih (by omega)]

/-- All the pairs: their row, and that they share nothing. -/
structure AL (HF : World → Nat → (Nat → Prop) → Int → Nat → (Nat → Int) → Prop) (B : Nat) (w : World) (g cap L : Nat) (PA PB : Nat → Nat) (T : Nat → Nat → Prop) : Prop where
  own : w.ownsRow B 28 2 (.slice (some ⟨g, 0, none⟩) L cap) L (pcs PA PB L)
  ok : ∀ k, k < L → PairOK HF w (PA k) (PB k) (T k)
  lo : ∀ k, k < L → ∀ q, T k q → B ≤ q
  dis : ∀ j k, j < L → k < L → j ≠ k → ∀ q, T j q → T k q → False
  row : ∀ k, k < L → ¬ T k g
  l4 : L ≤ 4

theorem row_keep2 {w w' : World} {base e size n g cap : Nat} {xs : List Value} (own : w.ownsRow base e size (.slice (some ⟨g, 0, none⟩) n cap) n xs) (k : w'.heap[g]? = w.heap[g]?) : w'.ownsRow base e size (.slice (some ⟨g, 0, none⟩) n cap) n xs :=
  keep_own own fun q hq => by cases hq; exact k

theorem AL.gw {HF : World → Nat → (Nat → Prop) → Int → Nat → (Nat → Int) → Prop} (H : HullC HF) {B : Nat} {w w' : World} {g cap L : Nat} {PA PB : Nat → Nat} {T : Nat → Nat → Prop} (h : AL HF B w g cap L PA PB T) (G : Gw w w') : AL HF B w' g cap L PA PB T :=
  ⟨row_keep2 h.own (G.below.block g (h.own.lt g rfl).2), fun k hk => (h.ok k hk).keep H fun q hq => G.below.block q ((h.ok k hk).lt H q hq), h.lo, h.dis, h.row, h.l4⟩

theorem AL.cells {HF : World → Nat → (Nat → Prop) → Int → Nat → (Nat → Int) → Prop} {B : Nat} {w : World} {g cap L : Nat} {PA PB : Nat → Nat} {T : Nat → Nat → Prop} (h : AL HF B w g cap L PA PB T) {k : Nat} (hk : k < L) :
    w.cell? ⟨g, k * 2, none⟩ = some (.pointer (some ⟨PA k, 0, none⟩)) ∧ w.cell? ⟨g, k * 2 + 1, none⟩ = some (.pointer (some ⟨PB k, 0, none⟩)) := by
  have C := h.own.cells (g := g) rfl
  have c0 := C (k * 2) _ (pcs_get PA PB hk).1
  have c1 := C (k * 2 + 1) _ (pcs_get PA PB hk).2
  rw [Addr.add_lit] at c0 c1
  exact ⟨by simpa using c0, by simpa using c1⟩

/-- One pair has changed, in its own blocks and new ones. -/
theorem AL.step {HF : World → Nat → (Nat → Prop) → Int → Nat → (Nat → Int) → Prop} (H : HullC HF) {B : Nat} {w w' : World} {g cap L : Nat} {PA PB : Nat → Nat} {T : Nat → Nat → Prop} (h : AL HF B w g cap L PA PB T) {k : Nat} (hk : k < L) {T' : Nat → Prop} (G : Gs (T k) w w') (hB : B ≤ w.heap.size) (P : PairOK HF w' (PA k) (PB k) T') (hT : ∀ q, T' q → T k q ∨ w.heap.size ≤ q) :
    AL HF B w' g cap L PA PB (nput T k T') := by
  have gl := (h.own.lt g rfl).2
  refine ⟨row_keep2 h.own (G.block g gl (h.row k hk)), fun j hj => ?_, fun j hj q hq => ?_, fun i j hi hj hij q h1 h2 => ?_, fun j hj hq => ?_, h.l4⟩
  · by_cases e : j = k
    · subst e; rw [nput_at]; exact P
    · rw [nput_ne e]
      exact (h.ok j hj).keep H fun q hq => G.block q ((h.ok j hj).lt H q hq) (fun r => h.dis j k hj hk e q hq r)
  · by_cases e : j = k
    · subst e; rw [nput_at] at hq
      rcases hT q hq with r | r
      · exact h.lo j hj q r
      · omega
    · rw [nput_ne e] at hq; exact h.lo j hj q hq
  · by_cases e1 : i = k
    · have e2 : j ≠ k := fun r => hij (by omega)
      subst e1
      rw [nput_at] at h1
      rw [nput_ne e2] at h2
      rcases hT q h1 with r | r
      · exact h.dis i j hi hj hij q r h2
      · have := (h.ok j hj).lt H q h2; omega
    · by_cases e2 : j = k
      · subst e2
        rw [nput_at] at h2
        rw [nput_ne e1] at h1
        rcases hT q h2 with r | r
        · exact h.dis i j hi hj hij q h1 r
        · have := (h.ok i hi).lt H q h1; omega
      · rw [nput_ne e1] at h1
        rw [nput_ne e2] at h2
        exact h.dis i j hi hj hij q h1 h2
  · by_cases e : j = k
    · subst e; rw [nput_at] at hq
      rcases hT g hq with r | r
      · exact h.row j hj r
      · omega
    · rw [nput_ne e] at hq; exact h.row j hj hq

theorem own_put {w : World} {base g cap L : Nat} {PA PB : Nat → Nat} (own : w.ownsRow base 28 2 (.slice (some ⟨g, 0, none⟩) L cap) L (pcs PA PB L)) {k : Nat} (hk : k < L) (a b : Nat) :
    ((w.setCell ⟨g, k * 2, none⟩ (.pointer (some ⟨a, 0, none⟩))).setCell ⟨g, k * 2 + 1, none⟩ (.pointer (some ⟨b, 0, none⟩))).ownsRow base 28 2 (.slice (some ⟨g, 0, none⟩) L cap) L (pcs (nput PA k a) (nput PB k b) L) := by
  refine ⟨pcs_len _ _ _, ?_⟩
  rcases own.2 with ⟨q, _⟩ | ⟨g', cap', cur, ev, hb, hh, hnc, hcm, hsz, htk⟩
  · cases q
  · cases ev
    refine .inr ⟨g, cap, (cur.setIfInBounds (k * 2) (.pointer (some ⟨a, 0, none⟩))).setIfInBounds (k * 2 + 1) (.pointer (some ⟨b, 0, none⟩)), rfl, hb, ?_, hnc, hcm, by simpa using hsz, ?_⟩
    · simp [World.setCell, Array.getElem?_modify, hh]
    · rw [← pcs_set PA PB hk a b, ← htk]
      simp [List.take_set]

/-- One pair is put in the place of another. -/
theorem AL.put {HF : World → Nat → (Nat → Prop) → Int → Nat → (Nat → Int) → Prop} (H : HullC HF) {B : Nat} {w : World} {g cap L : Nat} {PA PB : Nat → Nat} {T : Nat → Nat → Prop} (h : AL HF B w g cap L PA PB T) {k : Nat} (hk : k < L) {pa pb : Nat} {T' : Nat → Prop} (P : PairOK HF w pa pb T') (hl : ∀ q, T' q → B ≤ q) (hg : ¬ T' g) (hd : ∀ j, j < L → ∀ q, T j q → T' q → False) :
    AL HF B ((w.setCell ⟨g, k * 2, none⟩ (.pointer (some ⟨pa, 0, none⟩))).setCell ⟨g, k * 2 + 1, none⟩ (.pointer (some ⟨pb, 0, none⟩))) g cap L (nput PA k pa) (nput PB k pb) (nput T k T') := by
  have far : ∀ q, q ≠ g → ((w.setCell ⟨g, k * 2, none⟩ (.pointer (some ⟨pa, 0, none⟩))).setCell ⟨g, k * 2 + 1, none⟩ (.pointer (some ⟨pb, 0, none⟩))).heap[q]? = w.heap[q]? := fun q hq => by
    rw [Go.Deep.blk_setCell_other _ _ _ _ hq, Go.Deep.blk_setCell_other _ _ _ _ hq]
  refine ⟨own_put h.own hk pa pb, fun j hj => ?_, fun j hj q hq => ?_, fun i j hi hj hij q h1 h2 => ?_, fun j hj hq => ?_, h.l4⟩
  · by_cases e : j = k
    · subst e; rw [nput_at, nput_at, nput_at]
      exact P.keep H fun q hq => far q (fun r => hg (by rw [← r]; exact hq))
    · rw [nput_ne e, nput_ne e, nput_ne e]
      exact (h.ok j hj).keep H fun q hq => far q (fun r => h.row j hj (by rw [← r]; exact hq))
  · by_cases e : j = k
    · subst e; rw [nput_at] at hq; exact hl q hq
    · rw [nput_ne e] at hq; exact h.lo j hj q hq
  · by_cases e1 : i = k
    · have e2 : j ≠ k := fun r => hij (by omega)
      subst e1
      rw [nput_at] at h1
      rw [nput_ne e2] at h2
      exact hd j hj q h2 h1
    · by_cases e2 : j = k
      · subst e2
        rw [nput_at] at h2
        rw [nput_ne e1] at h1
        exact hd i hi q h1 h2
      · rw [nput_ne e1] at h1
        rw [nput_ne e2] at h2
        exact h.dis i j hi hj hij q h1 h2
  · by_cases e : j = k
    · subst e; rw [nput_at] at hq; exact hg hq
    · rw [nput_ne e] at hq; exact h.row j hj hq

/-- One more pair behind them. -/
theorem AL.app {HF : World → Nat → (Nat → Prop) → Int → Nat → (Nat → Int) → Prop} (H : HullC HF) {B : Nat} {w w' : World} {g cap L g' cap' : Nat} {PA PB : Nat → Nat} {T : Nat → Nat → Prop} (h : AL HF B w g cap L PA PB T) (hL : L < 4) {pa pb : Nat} {T' : Nat → Prop} (P : PairOK HF w pa pb T') (hl : ∀ q, T' q → B ≤ q) (hg : ¬ T' g) (hd : ∀ j, j < L → ∀ q, T j q → T' q → False)
    (own : w'.ownsRow B 28 2 (.slice (some ⟨g', 0, none⟩) (L + 1) cap') (L + 1) (pcs PA PB L ++ [.pointer (some ⟨pa, 0, none⟩), .pointer (some ⟨pb, 0, none⟩)])) (hgr : w.grownBy w' (some g)) (hg' : g' = g ∨ w.heap.size ≤ g') :
    AL HF B w' g' cap' (L + 1) (nput PA L pa) (nput PB L pb) (nput T L T') := by
  have E : pcs PA PB L ++ [.pointer (some ⟨pa, 0, none⟩), .pointer (some ⟨pb, 0, none⟩)] = pcs (nput PA L pa) (nput PB L pb) (L + 1) := by
    rw [pcs, nput_at, nput_at, pcs_congr (PA' := nput PA L pa) (PB' := nput PB L pb) (fun j hj => ⟨(nput_ne (by omega)).symm, (nput_ne (by omega)).symm⟩)]
  have ng : ∀ j, j < L + 1 → ¬ nput T L T' j g' := by
    intro j hj hq
    rcases hg' with rfl | r
    · by_cases e : j = L
      · subst e; rw [nput_at] at hq; exact hg hq
      · rw [nput_ne e] at hq; exact h.row j (by omega) hq
    · by_cases e : j = L
      · subst e; rw [nput_at] at hq; have := P.lt H _ hq; omega
      · rw [nput_ne e] at hq; have := (h.ok j (by omega)).lt H _ hq; omega
  refine ⟨by rw [← E]; exact own, fun j hj => ?_, fun j hj q hq => ?_, fun i j hi hj hij q h1 h2 => ?_, ng, by omega⟩
  · by_cases e : j = L
    · subst e; rw [nput_at, nput_at, nput_at]
      exact P.keep H fun q hq => hgr.block q (P.lt H q hq) (fun r => hg (by cases r; exact hq))
    · rw [nput_ne e, nput_ne e, nput_ne e]
      exact (h.ok j (by omega)).keep H fun q hq => hgr.block q ((h.ok j (by omega)).lt H q hq) (fun r => h.row j (by omega) (by cases r; exact hq))
  · by_cases e : j = L
    · subst e; rw [nput_at] at hq; exact hl q hq
    · rw [nput_ne e] at hq; exact h.lo j (by omega) q hq
  · by_cases e1 : i = L
    · have e2 : j ≠ L := fun r => hij (by omega)
      subst e1
      rw [nput_at] at h1
      rw [nput_ne e2] at h2
      exact hd j (by omega) q h2 h1
    · by_cases e2 : j = L
      · subst e2
        rw [nput_at] at h2
        rw [nput_ne e1] at h1
        exact hd i (by omega) q h1 h2
      · rw [nput_ne e1] at h1
        rw [nput_ne e2] at h2
        exact h.dis i j (by omega) (by omega) hij q h1 h2

end Go.Proofs.Ytocahgiabeifeaa
