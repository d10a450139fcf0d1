/- What comes in, opened: lists of texts. -/
import Derived.Test.YthkahedhmfkhhaaGOpen
import Derived.Test.YthkahedhmfkhhaaPEn
namespace Go.Proofs.Ythkahedhmfkhhaa
open Go.ChangeShapes Go.WideShapes Go.ChangeAt Go.RowKit Go.Joins
set_option linter.unusedVariables false

theorem heft_listsS {H : Type} {α : Type} : ∀ (es : List (DataW H)) (L : List (List α)), es.length = L.length → (∀ i, i < L.length → 1 + (L.getD i []).length ≤ Rows.uptoBulk (es.getD i .nil)) → L.length + sizes L ≤ Rows.uptoBulkAll es
  | [], [], _, _ => by simp [Rows.uptoBulkAll, sizes]
  | [], _ :: _, e, _ => by simp at e
  | _ :: _, [], e, _ => by simp at e
  | x :: r, l :: L, e, h => by
    have ih := heft_listsS r L (by simpa using e) fun i hi => by simpa using h (i + 1) (by simpa using hi)
    have h0 : 1 + l.length ≤ Rows.uptoBulk x := h 0 (by simp)
    simp only [Rows.uptoBulkAll, List.length_cons, sizes_cons]
    omega
/-- A list of texts. -/
structure SL (w : World) (ao : Option Addr) (l : List ByteArray) : Prop where
  cells : 0 < l.length → ∃ b off, ao = some ⟨b, off, none⟩ ∧ b < w.heap.size ∧ ∀ i x, l[i]? = some x → w.cell? ⟨b, off + i, none⟩ = some (.string x)
theorem cells_s13 : Try.prog.cellsOf 9 = 1 := by kernel_rfl
theorem cells_ss13 : Try.prog.cellsOf 44 = 1 := by kernel_rfl
set_option maxRecDepth 10000 in
theorem open_slist {H : Type} {enc : TypeId × Value → H} {W : World} {fuel : Nat} {cs : List Value} {y : DataW H × List MemPlace} (hf : DataW.trod enc Try.prog W 0 (fun _ => true) true fuel 44 cs = some y) :
    ∃ (ao : Option Addr) (c : Nat) (l : List ByteArray), cs = [.slice ao l.length c] ∧ SL W ao l ∧ l.length ≤ c ∧ (ao = none → l.length = 0 ∧ c = 0) ∧ 1 + l.length ≤ Rows.uptoBulk y.1 ∧ ∀ x ∈ l, x.size ≤ maxLen := by
  rcases Go.Deep.open_slice Try.underlying44 hf with ⟨rfl, rfl⟩ | ⟨a, n, c, m, fu, D, Pl, rfl, _, hl, hmx, hm, rfl, hel⟩
  · exact ⟨none, 0, [], rfl, ⟨fun h0 => by simp at h0⟩, Nat.le_refl _, fun _ => ⟨rfl, rfl⟩, by simp [Rows.uptoBulk], fun x hx => by simp at hx⟩
  · simp only [if_true] at hm
    subst hm
    have each : ∀ i, i < n → ∃ e : ByteArray, W.cell? (a.add i) = some (.string e) ∧ e.size ≤ maxLen := by
      intro i hi
      obtain ⟨cs', h1, h2⟩ := hel i (by omega)
      rw [cells_s13, Nat.mul_one] at h1
      obtain ⟨_, hlen, hcc⟩ := World.cells?_some h1
      obtain ⟨s, rfl, _, hs⟩ := DataW.trod_string Try.underlying9 h2
      have c0 := hcc 0 (by omega)
      rw [Go.Deep.add_add] at c0
      exact ⟨s, by simpa using c0, hs⟩
    have inh : Inhabited ByteArray := ⟨ByteArray.mk #[]⟩
    obtain ⟨q, hq⟩ := Go.Deep.choose_lt each
    have ln : ((List.range n).map q).length = n := by simp
    refine ⟨some a, _, (List.range n).map q, by rw [ln], ⟨fun h0 => ?_⟩, by rw [ln]; exact hl, (fun e => by cases e), ?_, fun x hx => ?_⟩
    · rw [ln] at h0
      have c0 := (hq 0 h0).1
      have e0 : a.add 0 = a := by simp [Addr.add]
      rw [e0] at c0
      have ea := spot_none13 c0
      refine ⟨a.block, a.off, by rw [← ea], World.block_lt_of_cell? _ _ c0, fun i x hx => ?_⟩
      have hi : i < n := by have := (List.getElem?_eq_some_iff.1 hx).1; simpa using this
      have ex : q i = x := by simpa [hi] using hx
      have a1 := (hq i hi).1
      rw [ea, Addr.add_lit, ex] at a1
      exact a1
    · have := heft_many ((List.range n).map D)
      rw [ln]
      simp only [Rows.uptoBulk]
      simp at this
      omega
    · obtain ⟨i, hi, rfl⟩ := List.mem_map.1 hx
      exact (hq i (List.mem_range.1 hi)).2
set_option maxRecDepth 10000 in
theorem open_slists {H : Type} {enc : TypeId × Value → H} {W : World} {ao : Option Addr} {n c : Nat} {d : DataW H} {p : List MemPlace} (h : DataW.Trod enc Try.prog W 0 (fun _ => true) true 37 (.slice ao n c) d p) :
    ∃ L : List (Lst ByteArray), L.length = n ∧ LV W ao L ∧ (∀ s ∈ L, s.l ≠ [] → s.b < W.heap.size ∧ s.l.length ≤ s.c ∧ El1 encS W s) ∧ n + sizes (L.map Lst.l) ≤ Rows.uptoBulk d ∧ ∀ s ∈ L, ∀ x ∈ s.l, x.size ≤ maxLen := by
  obtain ⟨fuel, hf⟩ := h
  rcases Go.Deep.open_slice Try.underlying37 hf with ⟨hcs, hx⟩ | ⟨a, n', c', m, fu, D, Pl, hcs, _, hl, hmx, hm, hx, hel⟩
  · simp [Value.cells] at hcs
    obtain ⟨rfl, rfl, rfl⟩ := hcs
    exact ⟨[], rfl, ⟨fun h0 => by simp at h0⟩, fun s hs => by simp at hs, by simp [sizes], fun s hs => by simp at hs⟩
  · simp [Value.cells] at hcs
    obtain ⟨rfl, rfl, rfl⟩ := hcs
    simp only [Prod.mk.injEq] at hx
    simp only [if_true] at hm
    subst hm
    obtain ⟨L, h1, h2⟩ := lists_ex (Q := fun i (s : Lst ByteArray) => (∃ bo c, W.cell? (a.add i) = some (.slice bo s.l.length c) ∧ (0 < s.l.length → bo = some ⟨s.b, s.off, none⟩ ∧ c = s.c)) ∧ (s.l ≠ [] → s.b < W.heap.size ∧ s.l.length ≤ s.c ∧ El1 encS W s) ∧ 1 + s.l.length ≤ Rows.uptoBulk (D i) ∧ ∀ x ∈ s.l, x.size ≤ maxLen) n (fun i hi => by
      obtain ⟨cs', h1, h2⟩ := hel i (by omega)
      rw [cells_ss13, Nat.mul_one] at h1
      obtain ⟨bo, c', l, rfl, k1, k2, k3, k4, k5⟩ := open_slist h2
      obtain ⟨_, _, hcc⟩ := World.cells?_some h1
      have c0 := hcc 0 (by omega)
      rw [Go.Deep.add_add] at c0
      have c0' : W.cell? (a.add i) = some (.slice bo l.length c') := by simpa using c0
      rcases Nat.eq_zero_or_pos l.length with y | y
      · exact ⟨⟨0, 0, 0, l⟩, ⟨bo, c', c0', fun x => by dsimp only at x; omega⟩, fun ne => absurd (List.length_eq_zero_iff.1 y) ne, k4, k5⟩
      · obtain ⟨eb, eo, rfl, el, ec⟩ := k1.cells y
        exact ⟨⟨eb, eo, c', l⟩, ⟨_, c', c0', fun _ => ⟨rfl, rfl⟩⟩, fun _ => ⟨el, k2, fun k x hx => ec k x hx⟩, k4, k5⟩)
    refine ⟨L, h1, ⟨fun h0 => ?_⟩, fun s hs => ?_, ?_, fun s hs => ?_⟩
    · obtain ⟨bo, c0, q1, q2⟩ := (h2 0 h0).1
      have e0 : a.add 0 = a := by simp [Addr.add]
      rw [e0] at q1
      have ea := spot_none13 q1
      refine ⟨a.block, a.off, by rw [← ea], World.block_lt_of_cell? _ _ q1, fun i hi => ?_⟩
      have := (h2 i hi).1
      rw [ea, Addr.add_lit] at this
      exact this
    · obtain ⟨i, hi, rfl⟩ := List.mem_iff_getElem.1 hs
      exact (h2 i hi).2.1
    · have := heft_listsS ((List.range n).map D) (L.map Lst.l) (by simp [h1]) fun i hi => by
        have hi' : i < L.length := by simpa using hi
        have hi2 : i < n := by omega
        rw [show ((List.range n).map D).getD i .nil = D i by simp [List.getD, hi2]]
        have e : (L.map Lst.l).getD i [] = L[i].l := by simp [List.getD, hi']
        rw [e]
        exact (h2 i hi').2.2.1
      rw [hx.1]
      simp only [Rows.uptoBulk]
      rw [List.length_map, h1] at this
      omega
    · obtain ⟨i, hi, rfl⟩ := List.mem_iff_getElem.1 hs
      exact (h2 i hi).2.2.2
end Go.Proofs.Ythkahedhmfkhhaa
