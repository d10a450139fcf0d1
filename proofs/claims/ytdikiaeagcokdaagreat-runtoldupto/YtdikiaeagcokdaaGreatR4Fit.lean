/- The document's own Fit in memory: New, Count, Least, Most. -/
import Derived.Test.YtdikiaeagcokdaaGreatR4
namespace Go.Proofs.YtdikiaeagcokdaaGreat
open Go.RowKit
set_option linter.unusedVariables false

/-- A variable of two cells that may be written. -/
def Bx (w : World) (b : Nat) (t : TypeId) (u v : Value) : Prop := w.heap[b]? = some (.cells #[u, v] t (0, 0))
theorem Bx.lt {w : World} {b : Nat} {t : TypeId} {u v : Value} (h : Bx w b t u v) : b < w.heap.size := (Array.getElem?_eq_some_iff.1 h).1
theorem Bx.c0 {w : World} {b : Nat} {t : TypeId} {u v : Value} (h : Bx w b t u v) : w.cell? ⟨b, 0, none⟩ = some u := by unfold Bx at h; simp [World.cell?, h]
theorem Bx.c1 {w : World} {b : Nat} {t : TypeId} {u v : Value} (h : Bx w b t u v) : w.cell? ⟨b, 1, none⟩ = some v := by unfold Bx at h; simp [World.cell?, h]
theorem Bx.fz {w : World} {b : Nat} {t : TypeId} {u v : Value} (h : Bx w b t u v) (o : Nat) : w.frozen? ⟨b, o, none⟩ = false := by unfold Bx at h; simp [World.frozen?, h]
theorem Bx.gw {w w' : World} {b : Nat} {t : TypeId} {u v : Value} (h : Bx w b t u v) (g : Gw w w') : Bx w' b t u v := (g.below.block b h.lt).trans h
theorem Bx.new (w : World) (t : TypeId) (u v : Value) : Bx (w.alloc (.cells #[u, v] t)) w.heap.size t u v := heap_alloc_new w _
theorem Bx.set {w : World} {b : Nat} {t : TypeId} {u v : Value} (h : Bx w b t u v) (u' v' : Value) : Bx ((w.setCell ⟨b, 0, none⟩ u').setCell ⟨b, 1, none⟩ v') b t u' v' := by
  unfold Bx at h ⊢
  simp [World.setCell, Array.getElem?_modify, h]
theorem Bx.far {w : World} {b : Nat} {t : TypeId} {u v : Value} (h : Bx w b t u v) {q o : Nat} (x : Value) (hq : b ≠ q) : Bx (w.setCell ⟨q, o, none⟩ x) b t u v := (Go.Deep.blk_setCell_other _ _ _ _ hq).trans h
theorem Bx.alloc {w : World} {b : Nat} {t : TypeId} {u v : Value} (h : Bx w b t u v) (o : Obj) : Bx (w.alloc o) b t u v := (heap_alloc_old w o h.lt).trans h
theorem Bx.at {w : World} {b b' : Nat} {t : TypeId} {u v : Value} (h : Bx w b t u v) (e : b = b') : Bx w b' t u v := e ▸ h

/-- The document's Fit: its block, its list of keys, both slopes. -/
structure RF (w : World) (p : Nat) (v : Value) (e : Int) (n : Nat) (f : Nat → Int) (a b c d : Int) : Prop where
  blk : w.heap[p]? = some (.cells #[.int .i64 (e + 1), v, .int .u64 a, .int .u64 b, .int .u64 c, .int .u64 d] 141 (0, 0))
  own : w.ownsRow 0 24 1 v n ((List.range n).map fun i => Value.int .u64 (f i))
  ne : ∀ q, v.ownBlock = some q → q ≠ p
  up : Up f n
  bd : ∀ i, i < n → 0 ≤ f i ∧ f i < 18446744073709551616
  low : LowOn e f (Prs n) a b
  top : TopOn e f (Prs n) c d
  fit : FitsOn e f (Prs n)
  e1 : 1 ≤ e ∧ e ≤ 63
  wd : (a < 18446744073709551616 ∧ b < 18446744073709551616) ∧ (0 ≤ c ∧ c < 18446744073709551616) ∧ (0 ≤ d ∧ d < 18446744073709551616)

theorem RF.lt {w : World} {p : Nat} {v : Value} {e : Int} {n : Nat} {f : Nat → Int} {a b c d : Int} (h : RF w p v e n f a b c d) : p < w.heap.size := (Array.getElem?_eq_some_iff.1 h.blk).1
theorem RF.cells {w : World} {p : Nat} {v : Value} {e : Int} {n : Nat} {f : Nat → Int} {a b c d : Int} (h : RF w p v e n f a b c d) :
    w.cell? ⟨p, 0, none⟩ = some (.int .i64 (e + 1)) ∧ w.cell? ⟨p, 1, none⟩ = some v ∧ w.cell? ⟨p, 2, none⟩ = some (.int .u64 a) ∧ w.cell? ⟨p, 3, none⟩ = some (.int .u64 b) ∧ w.cell? ⟨p, 4, none⟩ = some (.int .u64 c) ∧ w.cell? ⟨p, 5, none⟩ = some (.int .u64 d) := by
  have := h.blk
  refine ⟨?_, ?_, ?_, ?_, ?_, ?_⟩ <;> simp [World.cell?, this]
theorem RF.frozen {w : World} {p : Nat} {v : Value} {e : Int} {n : Nat} {f : Nat → Int} {a b c d : Int} (h : RF w p v e n f a b c d) (o : Nat) : w.frozen? ⟨p, o, none⟩ = false := by
  have := h.blk
  simp [World.frozen?, this]

/-- The blocks that it is made of. -/
def rfp (p : Nat) (v : Value) (q : Nat) : Prop := q = p ∨ v.ownBlock = some q
theorem RF.in {w : World} {p : Nat} {v : Value} {e : Int} {n : Nat} {f : Nat → Int} {a b c d : Int} (h : RF w p v e n f a b c d) (q : Nat) (hq : rfp p v q) : q < w.heap.size := by
  rcases hq with rfl | hq
  · exact h.lt
  · exact (h.own.lt q hq).2
theorem RF.keep {w w' : World} {p : Nat} {v : Value} {e : Int} {n : Nat} {f : Nat → Int} {a b c d : Int} (h : RF w p v e n f a b c d) (k : ∀ q, rfp p v q → w'.heap[q]? = w.heap[q]?) : RF w' p v e n f a b c d := by
  refine ⟨(k p (.inl rfl)).trans h.blk, ⟨h.own.1, ?_⟩, h.ne, h.up, h.bd, h.low, h.top, h.fit, h.e1, h.wd⟩
  rcases h.own.2 with q | ⟨g, cap, cur, rfl, hb, hh, r⟩
  · exact .inl q
  · exact .inr ⟨g, cap, cur, rfl, hb, (k g (.inr rfl)).trans hh, r⟩
theorem RF.gw {w w' : World} {p : Nat} {v : Value} {e : Int} {n : Nat} {f : Nat → Int} {a b c d : Int} (h : RF w p v e n f a b c d) (g : Gw w w') : RF w' p v e n f a b c d :=
  h.keep fun q hq => g.below.block q (h.in q hq)

/-- The list of keys, as it is read. -/
theorem RF.ks {w : World} {p : Nat} {v : Value} {e : Int} {n : Nat} {f : Nat → Int} {a b c d : Int} (h : RF w p v e n f a b c d) : ∃ ao cap, v = .slice ao n cap ∧ KS w ao n f := by
  have ho := h.own
  rcases h.own.2 with ⟨rfl, rfl⟩ | ⟨g, cap, cur, rfl, _⟩
  · exact ⟨none, 0, rfl, ⟨fun q => by omega, h.bd⟩⟩
  · exact ⟨_, cap, rfl, ⟨fun q => ⟨g, 0, rfl, (ho.lt g rfl).2, fun i hi => by rw [Nat.zero_add, ho.cellAt i (by omega)]; simp [hi]⟩, h.bd⟩⟩

theorem rnew_bad (eps : Int) (h : ¬ (2 ≤ eps ∧ eps ≤ 64)) (w : World) :
    Calls Tryz.prog 81 #[.int .i64 eps] w fun e w' => e = .returned (.tuple #[.pointer none, .int .i64 1]) ∧ Gw w w' := by
  by_cases h1 : eps < 2
  · go_enter Tryz.func81, Tryz.ntmps81
    go_wp2_with fail
    go_ret2
    exact ⟨rfl, Gw.refl w⟩
  · have h2 : 64 < eps := by omega
    go_enter Tryz.func81, Tryz.ntmps81
    go_wp2_with fail
    go_ret2
    exact ⟨rfl, Gw.refl w⟩
theorem rnew_ok (eps : Int) (h1 : 2 ≤ eps) (h2 : eps ≤ 64) (w : World) :
    Calls Tryz.prog 81 #[.int .i64 eps] w fun e w' => (∃ p, e = .returned (.tuple #[.pointer (some ⟨p, 0, none⟩), .int .i64 0]) ∧ w.heap.size ≤ p ∧ RF w' p (.slice none 0 0) (eps - 1) 0 (fun _ => 0) 0 1 1 0) ∧ Gw w w' := by
  have h3 : ¬ eps < 2 := by omega
  have h4 : ¬ 64 < eps := by omega
  go_enter Tryz.func81, Tryz.ntmps81
  go_wp2_with fail
  go_ret2
  refine ⟨⟨w.heap.size, rfl, Nat.le_refl _, ⟨?_, World.ownsRow_nil _ _ _ _, (fun q hq => by cases hq), (fun j hj => by omega), (fun i hi => by omega), low_zero _ _ (by decide), top_none _ _ (by decide), (fun i j i' j' s => by have := s.2; omega), by omega, by omega⟩⟩, (Gw.refl w).alloc _ _⟩
  rw [heap_alloc_new, show eps - 1 + 1 = eps by omega]

theorem rleast_any {w : World} {p : Nat} {v : Value} {e : Int} {n : Nat} {f : Nat → Int} {a b c d : Int} (h : RF w p v e n f a b c d) :
    Calls Tryz.prog 102 #[.pointer (some ⟨p, 0, none⟩)] w fun e w' => e = .returned (.agg #[.int .u64 a, .int .u64 b]) ∧ Gw w w' := by
  obtain ⟨_, _, c2, c3, _⟩ := h.cells
  have hl := h.lt
  clear h
  go_enter Tryz.func102, Tryz.ntmps102
  go_wp2_with fail
  refine bodyPost_ret (v := .agg #[.int .u64 a, .int .u64 b]) (by simp [results, Tryz.results102, go_sem]) rfl ⟨rfl, (Gw.refl w).alloc _ _⟩

end Go.Proofs.YtdikiaeagcokdaaGreat
