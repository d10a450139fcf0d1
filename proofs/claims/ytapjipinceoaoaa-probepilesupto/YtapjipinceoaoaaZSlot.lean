/- What is descended in the statements of layer 9, and writes down what it was asked for. -/
import Derived.Test.YtapjipinceoaoaaZAsk
import Derived.Test.YtapjipinceoaoaaZMem
import Derived.Test.YtapjipinceoaoaaR4Add
namespace Go.Proofs.Ytapjipinceoaoaa
open Go.RowKit
set_option linter.unusedVariables false

def pr2 (p : Int × Int) : List Value := [.int .i64 p.1, .int .i64 p.2]
theorem info_p2 : (Try.prog.info? 54).map (fun i => (i.zero, i.size, i.bytes)) = some (some (.agg #[.int .i64 0, .int .i64 0]), 2, 16) := by kernel_rfl
theorem pr2_one (s : Int × Int) : ∀ u ∈ pr2 s, u.oneCell' = true := by
  intro u hu
  simp only [pr2, List.mem_cons, List.not_mem_nil, or_false] at hu
  rcases hu with rfl | rfl <;> rfl
theorem pflat_one (l : List (Int × Int)) (s : Int × Int) : (l ++ [s]).flatMap pr2 = l.flatMap pr2 ++ pr2 s := by simp
theorem pflat_len : ∀ l : List (Int × Int), (l.flatMap pr2).length = l.length * 2 := by
  intro l
  induction l with
  | nil => rfl
  | cons s l ih => rw [List.flatMap_cons, List.length_append, ih, List.length_cons]; show 2 + l.length * 2 = _; omega
theorem pflat_get : ∀ (l : List (Int × Int)) (i : Nat), i < l.length → ∀ j, j < 2 → (l.flatMap pr2)[i * 2 + j]? = (pr2 (l.getD i (0, 0)))[j]? := by
  intro l
  induction l with
  | nil => intro i hi; simp at hi
  | cons s l ih =>
    intro i hi j hj
    rw [List.flatMap_cons]
    cases i with
    | zero =>
      rw [Nat.zero_mul, Nat.zero_add, List.getElem?_append_left (by show j < 2; exact hj)]
      rfl
    | succ i =>
      have e : (i + 1) * 2 + j = i * 2 + j + 2 := by omega
      rw [e, List.getElem?_append_right (by show 2 ≤ _; omega), show i * 2 + j + 2 - (pr2 s).length = i * 2 + j by show i * 2 + j + 2 - 2 = _; omega]
      exact ih i (by simpa using hi) j hj
/-- A row of pairs. -/
def AR (w : World) (v : Value) (l : List (Int × Int)) : Prop := w.ownsRow 0 54 2 v l.length (l.flatMap pr2)
theorem ar_keep {w w' : World} {v : Value} {l : List (Int × Int)} (h : AR w v l) (k : ∀ q, v.ownBlock = some q → w'.heap[q]? = w.heap[q]?) : AR w' v l := by
  refine ⟨h.1, ?_⟩
  rcases h.2 with q | ⟨g, cap, cur, rfl, hb, hh, r⟩
  · exact .inl q
  · exact .inr ⟨g, cap, cur, rfl, hb, (k g rfl).trans hh, r⟩
theorem ar_lt {w : World} {v : Value} {l : List (Int × Int)} (h : AR w v l) : ∀ q, v.ownBlock = some q → q < w.heap.size := fun q hq => (World.ownsRow.lt h q hq).2
theorem ar_nil (w : World) : AR w (.slice none 0 0) [] := World.ownsRow_nil _ _ _ _
/-- Pairs in memory. -/
structure PS (w : World) (ao : Option Addr) (l : List (Int × Int)) : Prop where
  cells : 0 < l.length → ∃ b, ao = some ⟨b, 0, none⟩ ∧ b < w.heap.size ∧ ∀ i, i < l.length → w.cell? ⟨b, i * 2, none⟩ = some (.int .i64 (l.getD i (0, 0)).1) ∧ w.cell? ⟨b, i * 2 + 1, none⟩ = some (.int .i64 (l.getD i (0, 0)).2)
theorem PS.gw {w w' : World} {ao : Option Addr} {l : List (Int × Int)} (h : PS w ao l) (g : Gw w w') : PS w' ao l :=
  ⟨fun h0 => by
    obtain ⟨b, e, hb, hc⟩ := h.cells h0
    exact ⟨b, e, Nat.lt_of_lt_of_le hb g.size, fun i hi => ⟨(g.cell _ _ hb).trans (hc i hi).1, (g.cell _ _ hb).trans (hc i hi).2⟩⟩⟩
theorem ar_form {w : World} {v : Value} {l : List (Int × Int)} (h : AR w v l) : ∃ ao c, v = .slice ao l.length c ∧ l.length ≤ c ∧ PS w ao l := by
  rcases h.2 with ⟨e, z⟩ | ⟨g, cap, cur, e, hb, hh, hc, r⟩
  · have : l = [] := List.eq_nil_of_length_eq_zero z
    subst this
    exact ⟨none, 0, e, Nat.le_refl _, ⟨fun h0 => by simp at h0⟩⟩
  · subst e
    refine ⟨some ⟨g, 0, none⟩, cap, rfl, hc, ⟨fun _ => ⟨g, rfl, (Array.getElem?_eq_some_iff.1 hh).1, fun i hi => ?_⟩⟩⟩
    have c : ∀ j, j < 2 → w.cell? ⟨g, i * 2 + j, none⟩ = (pr2 (l.getD i (0, 0)))[j]? := fun j hj => by
      have := World.ownsRow.cellAt h (i * 2 + j) (by omega)
      rw [this]
      exact pflat_get l i hi j hj
    exact ⟨c 0 (by decide), c 1 (by decide)⟩

/-- The block of a slots. -/
def slV (ko : Option Addr) (n kc : Nat) (eps : Int) (lo : Option Addr) (ln lc : Nat) (va vb : Value) (wr : Bool) : Obj := .cells #[.slice ko n kc, .int .i64 eps, .slice lo ln lc, va, vb, .bool wr] 52 (0, 0)
/-- A slots at block p, made of the blocks S. -/
structure SL (w : World) (p : Nat) (S : Nat → Prop) (ko : Option Addr) (n kc : Nat) (eps : Int) (lo : Option Addr) (ln lc : Nat) (A B : List (Int × Int)) (wr : Bool) : Prop where
  blk : ∃ va vb, w.heap[p]? = some (slV ko n kc eps lo ln lc va vb wr) ∧ AR w va A ∧ AR w vb B ∧ va.ownBlock ≠ some p ∧ vb.ownBlock ≠ some p ∧ (∀ q, va.ownBlock = some q → vb.ownBlock ≠ some q) ∧ ∀ q, S q ↔ q = p ∨ va.ownBlock = some q ∨ vb.ownBlock = some q
theorem SL.lt {w : World} {p : Nat} {S : Nat → Prop} {ko : Option Addr} {n kc : Nat} {eps : Int} {lo : Option Addr} {ln lc : Nat} {A B : List (Int × Int)} {wr : Bool} (h : SL w p S ko n kc eps lo ln lc A B wr) : ∀ q, S q → q < w.heap.size := by
  obtain ⟨va, vb, h1, h2, h3, _, _, _, h4⟩ := h.blk
  intro q hq
  rcases (h4 q).1 hq with rfl | e | e
  · exact (Array.getElem?_eq_some_iff.1 h1).1
  · exact ar_lt h2 q e
  · exact ar_lt h3 q e
theorem SL.keep {w w' : World} {p : Nat} {S : Nat → Prop} {ko : Option Addr} {n kc : Nat} {eps : Int} {lo : Option Addr} {ln lc : Nat} {A B : List (Int × Int)} {wr : Bool} (h : SL w p S ko n kc eps lo ln lc A B wr) (k : ∀ q, S q → w'.heap[q]? = w.heap[q]?) : SL w' p S ko n kc eps lo ln lc A B wr := by
  obtain ⟨va, vb, h1, h2, h3, h5, h6, h7, h4⟩ := h.blk
  exact ⟨va, vb, (k p ((h4 p).2 (.inl rfl))).trans h1, ar_keep h2 fun q hq => k q ((h4 q).2 (.inr (.inl hq))), ar_keep h3 fun q hq => k q ((h4 q).2 (.inr (.inr hq))), h5, h6, h7, h4⟩
theorem SL.gw {w w' : World} {p : Nat} {S : Nat → Prop} {ko : Option Addr} {n kc : Nat} {eps : Int} {lo : Option Addr} {ln lc : Nat} {A B : List (Int × Int)} {wr : Bool} (h : SL w p S ko n kc eps lo ln lc A B wr) (g : Gw w w') : SL w' p S ko n kc eps lo ln lc A B wr := h.keep fun q hq => g.below.block q (h.lt q hq)
theorem SL.self {w : World} {p : Nat} {S : Nat → Prop} {ko : Option Addr} {n kc : Nat} {eps : Int} {lo : Option Addr} {ln lc : Nat} {A B : List (Int × Int)} {wr : Bool} (h : SL w p S ko n kc eps lo ln lc A B wr) : S p := by
  obtain ⟨va, vb, _, _, _, _, _, _, h4⟩ := h.blk
  exact (h4 p).2 (.inl rfl)
/-- A new one. -/
theorem sl_new (w : World) (ko : Option Addr) (n kc : Nat) (eps : Int) (lo : Option Addr) (ln lc : Nat) : SL (w.alloc (slV ko n kc eps lo ln lc (.slice none 0 0) (.slice none 0 0) false)) w.heap.size (fun q => q = w.heap.size) ko n kc eps lo ln lc [] [] false :=
  ⟨⟨.slice none 0 0, .slice none 0 0, heap_alloc_new w _, ar_nil _, ar_nil _, by simp [Value.ownBlock], by simp [Value.ownBlock], by simp [Value.ownBlock], fun q => by simp [Value.ownBlock]⟩⟩

theorem slv_cells {w : World} {p : Nat} {ko : Option Addr} {n kc : Nat} {eps : Int} {lo : Option Addr} {ln lc : Nat} {va vb : Value} {wr : Bool} (h : w.heap[p]? = some (slV ko n kc eps lo ln lc va vb wr)) : w.cell? ⟨p, 0, none⟩ = some (.slice ko n kc) ∧ w.cell? ⟨p, 1, none⟩ = some (.int .i64 eps) ∧ w.cell? ⟨p, 2, none⟩ = some (.slice lo ln lc) ∧ w.cell? ⟨p, 3, none⟩ = some va ∧ w.cell? ⟨p, 4, none⟩ = some vb ∧ w.cell? ⟨p, 5, none⟩ = some (.bool wr) := by
  unfold slV at h
  simp [World.cell?, h]
theorem slv_fz {w : World} {p : Nat} {ko : Option Addr} {n kc : Nat} {eps : Int} {lo : Option Addr} {ln lc : Nat} {va vb : Value} {wr : Bool} (h : w.heap[p]? = some (slV ko n kc eps lo ln lc va vb wr)) (o : Nat) : w.frozen? ⟨p, o, none⟩ = false := by
  unfold slV at h
  simp [World.frozen?, h]

theorem sl_eps {w : World} {p : Nat} {S : Nat → Prop} {ko : Option Addr} {n kc : Nat} {eps : Int} {lo : Option Addr} {ln lc : Nat} {A B : List (Int × Int)} {wr : Bool} (h : SL w p S ko n kc eps lo ln lc A B wr) :
    Calls Try.prog 113 #[.pointer (some ⟨p, 0, none⟩)] w fun e w' => e = .returned (.int .i64 eps) ∧ w' = w := by
  obtain ⟨va, vb, h1, _⟩ := h.blk
  have c1 := (slv_cells h1).2.1
  go_enter Try.func113, Try.ntmps113
  go_wp2_with fail
  go_ret
  exact ⟨rfl, rfl⟩
theorem sl_height {w : World} {p : Nat} {S : Nat → Prop} {ko : Option Addr} {n kc : Nat} {eps : Int} {lo : Option Addr} {ln lc : Nat} {A B : List (Int × Int)} {wr : Bool} (h : SL w p S ko n kc eps lo ln lc A B wr) :
    Calls Try.prog 114 #[.pointer (some ⟨p, 0, none⟩)] w fun e w' => e = .returned (.int .i64 (ln : Int)) ∧ w' = w := by
  obtain ⟨va, vb, h1, _⟩ := h.blk
  have c1 := (slv_cells h1).2.2.1
  go_enter Try.func114, Try.ntmps114
  go_wp2_with fail
  go_ret
  exact ⟨rfl, rfl⟩

end Go.Proofs.Ytapjipinceoaoaa
