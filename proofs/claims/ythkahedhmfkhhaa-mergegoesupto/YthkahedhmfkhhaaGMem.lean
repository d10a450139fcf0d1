/- Lists of lists of numbers in memory, rows of ints of a call's own, places. -/
import Derived.Test.YthkahedhmfkhhaaGPlain
import Derived.Test.YthkahedhmfkhhaaE3Mem
namespace Go.Proofs.Ythkahedhmfkhhaa
open Go.RowKit
set_option linter.unusedVariables false

/-- Lists of numbers. -/
structure KV (w : World) (ao : Option Addr) (K : List (List Int)) : Prop where
  cells : 0 < K.length → ∃ b off, ao = some ⟨b, off, none⟩ ∧ b < w.heap.size ∧ ∀ i, i < K.length → ∃ bo c, w.cell? ⟨b, off + i, none⟩ = some (.slice bo (K.getD i []).length c) ∧ KS w bo (K.getD i []).length (fun j => (K.getD i []).getD j 0)
theorem KV.gw {w w' : World} {ao : Option Addr} {K : List (List Int)} (h : KV w ao K) (g : Gw w w') : KV w' ao K :=
  ⟨fun h0 => by
    obtain ⟨b, off, e, hb, hc⟩ := h.cells h0
    refine ⟨b, off, e, Nat.lt_of_lt_of_le hb g.size, fun i hi => ?_⟩
    obtain ⟨bo, c, h1, h2⟩ := hc i hi
    exact ⟨bo, c, (g.cell _ _ hb).trans h1, h2.gw g⟩⟩
/-- A row of ints of a call's own. -/
def AT (w : World) (b n : Nat) (a : Nat → Nat) : Prop := ∃ cur, w.heap[b]? = some (.cells cur 3 (0, 0)) ∧ cur.size = n ∧ ∀ i, i < n → cur[i]? = some (.int .i64 ((a i : Nat) : Int))
theorem AT.lt {w : World} {b n : Nat} {a : Nat → Nat} (h : AT w b n a) : b < w.heap.size := by
  obtain ⟨cur, h1, _⟩ := h
  exact (Array.getElem?_eq_some_iff.1 h1).1
theorem AT.keep {w w' : World} {b n : Nat} {a : Nat → Nat} (h : AT w b n a) (k : w'.heap[b]? = w.heap[b]?) : AT w' b n a := by
  obtain ⟨cur, h1, h2⟩ := h
  exact ⟨cur, k.trans h1, h2⟩
theorem AT.gw {w w' : World} {b n : Nat} {a : Nat → Nat} (h : AT w b n a) (g : Gw w w') : AT w' b n a := h.keep (g.below.block b h.lt)
theorem AT.cell {w : World} {b n : Nat} {a : Nat → Nat} (h : AT w b n a) {i : Nat} (hi : i < n) : w.cell? ⟨b, i, none⟩ = some (.int .i64 ((a i : Nat) : Int)) := by
  obtain ⟨cur, h1, _, h3⟩ := h
  simp [World.cell?, h1, h3 i hi]
theorem AT.frozen {w : World} {b n : Nat} {a : Nat → Nat} (h : AT w b n a) (i : Nat) : w.frozen? ⟨b, i, none⟩ = false := by
  obtain ⟨cur, h1, _, _⟩ := h
  simp [World.frozen?, h1]
theorem AT.set {w : World} {b n : Nat} {a a' : Nat → Nat} (h : AT w b n a) {i : Nat} (hi : i < n) (e : ∀ j, j < n → a' j = if j = i then a' i else a j) : AT (w.setCell ⟨b, i, none⟩ (.int .i64 ((a' i : Nat) : Int))) b n a' := by
  obtain ⟨cur, h1, h2, h3⟩ := h
  refine ⟨cur.setIfInBounds i (.int .i64 ((a' i : Nat) : Int)), ?_, by simpa using h2, fun j hj => ?_⟩
  · simp [World.setCell, Array.getElem?_modify, h1]
  · by_cases q : j = i
    · subst q
      simp [h2, hj]
    · have := e j hj
      rw [if_neg q] at this
      rw [this, Array.getElem?_setIfInBounds_ne (Ne.symm q)]
      exact h3 j hj
theorem AT.congr {w : World} {b n : Nat} {a a' : Nat → Nat} (h : AT w b n a) (e : ∀ j, j < n → a j = a' j) : AT w b n a' := by
  obtain ⟨cur, h1, h2, h3⟩ := h
  exact ⟨cur, h1, h2, fun i hi => by rw [← e i hi]; exact h3 i hi⟩
theorem info_i13 : (Try.prog.info? 3).map (fun i => (i.zero, i.size, i.bytes)) = some (some (.int .i64 0), 1, 8) := by kernel_rfl
theorem made_i13 (m : Nat) (z : Int) (hz : z = (m : Int)) (hm : m ≤ 281474976710) (w : World) :
    (Instr.makeSlice 52 (.int .i64 z) (.int .i64 z)).run Try.prog w = .ok (.slice (some ⟨w.heap.size, 0, none⟩) m m) (w.alloc (.cells (madeCells #[.int .i64 0] m) 3)) := by
  obtain ⟨i, hi, hz', hs, hb⟩ := info_parts info_i13
  subst hz
  exact run_make_row (P := Try.prog) 52 3 i (.int .i64 0) Try.underlying52 hi hz' hs rfl .i64 .i64 m (by rw [hb]; omega) (by omega) w
theorem at_made (w : World) (m : Nat) : AT (w.alloc (.cells (madeCells #[.int .i64 0] m) 3)) w.heap.size m (fun _ => 0) := by
  refine ⟨_, heap_alloc_new w _, by simp [madeCells], fun i hi => ?_⟩
  simp [madeCells, hi, Nat.mod_one]

/-- Places in memory. -/
def pl2 (p : Nat × Nat) : List Value := [.int .i64 (p.1 : Int), .int .i64 (p.2 : Int)]
theorem pl2_one (s : Nat × Nat) : ∀ u ∈ pl2 s, u.oneCell' = true := by
  intro u hu
  simp only [pl2, List.mem_cons, List.not_mem_nil, or_false] at hu
  rcases hu with rfl | rfl <;> rfl
theorem info_p13 : (Try.prog.info? 50).map (fun i => (i.zero, i.size, i.bytes)) = some (some (.agg #[.int .i64 0, .int .i64 0]), 2, 16) := by kernel_rfl
def PL (w : World) (base : Nat) (v : Value) (P : List (Nat × Nat)) : Prop := w.ownsRow base 50 2 v P.length (P.flatMap pl2)
theorem pl_gw {w w' : World} {base : Nat} {v : Value} {P : List (Nat × Nat)} (h : PL w base v P) (g : Gw w w') : PL w' base v P := by
  refine ⟨h.1, ?_⟩
  rcases h.2 with q | ⟨b, cap, cur, rfl, hb, hh, r⟩
  · exact .inl q
  · exact .inr ⟨b, cap, cur, rfl, hb, (g.below.block b (Array.getElem?_eq_some_iff.1 hh).1).trans hh, r⟩
theorem pl_keep {w w' : World} {base : Nat} {v : Value} {P : List (Nat × Nat)} (h : PL w base v P) (k : ∀ q, v.ownBlock = some q → w'.heap[q]? = w.heap[q]?) : PL w' base v P := by
  refine ⟨h.1, ?_⟩
  rcases h.2 with q | ⟨b, cap, cur, rfl, hb, hh, r⟩
  · exact .inl q
  · exact .inr ⟨b, cap, cur, rfl, hb, (k b rfl).trans hh, r⟩
theorem new_pl (w : World) (p : Nat × Nat) : ∀ j u, (pl2 p)[j]? = some u → (w.alloc (.cells #[.int .i64 (p.1 : Int), .int .i64 (p.2 : Int)] 50)).cell? ((⟨w.heap.size, 0, none⟩ : Addr).add j) = some u := by
  intro j u hu
  match j, hu with
  | 0, hu =>
    simp [pl2] at hu
    subst hu
    simp [Addr.add, go_sem]
  | 1, hu =>
    simp [pl2] at hu
    subst hu
    simp [Addr.add, go_sem]
  | j + 2, hu => simp [pl2] at hu
theorem flat_pl : ∀ (l : List (Nat × Nat)) (i : Nat), i < l.length → ∀ j, j < 2 → (l.flatMap pl2)[i * 2 + j]? = (pl2 (l.getD i (0, 0)))[j]? := by
  intro l
  induction l with
  | nil => intro i hi; simp at hi
  | cons s l ih =>
    intro i hi j hj
    rw [List.flatMap_cons]
    cases i with
    | zero =>
      rw [Nat.zero_mul, Nat.zero_add, List.getElem?_append_left (by show j < 2; exact hj)]
      rfl
    | succ i =>
      have e : (i + 1) * 2 + j = i * 2 + j + 2 := by omega
      rw [e, List.getElem?_append_right (by show 2 ≤ _; omega), show i * 2 + j + 2 - (pl2 s).length = i * 2 + j by show i * 2 + j + 2 - 2 = _; omega]
      exact ih i (by simpa using hi) j hj
theorem pl_cells {w : World} {base b cap : Nat} {P : List (Nat × Nat)} (h : PL w base (.slice (some ⟨b, 0, none⟩) P.length cap) P) {i : Nat} (hi : i < P.length) : w.cell? ⟨b, i * 2, none⟩ = some (.int .i64 ((P.getD i (0, 0)).1 : Int)) ∧ w.cell? ⟨b, i * 2 + 1, none⟩ = some (.int .i64 ((P.getD i (0, 0)).2 : Int)) := by
  have c : ∀ j, j < 2 → w.cell? ⟨b, i * 2 + j, none⟩ = (pl2 (P.getD i (0, 0)))[j]? := fun j hj => by
    have := World.ownsRow.cellAt h (i * 2 + j) (by omega)
    rw [this]
    exact flat_pl P i hi j hj
  exact ⟨c 0 (by decide), c 1 (by decide)⟩
end Go.Proofs.Ythkahedhmfkhhaa
