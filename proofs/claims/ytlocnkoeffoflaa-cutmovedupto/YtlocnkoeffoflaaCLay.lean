/- lay: a point more, and those that it can't touch any more gone. -/
import Derived.Test.YtlocnkoeffoflaaCTouch2
import Derived.Test.YtlocnkoeffoflaaR4All
import Derived.Deep.AppendLies
import Derived.Deep.RegionLaw
namespace Go.Proofs.Ytlocnkoeffoflaa
open Go.RowKit
set_option linter.unusedVariables false

/-- A block that may be written. -/
def Blk (w : World) (p : Nat) (B : Array Value) (t : TypeId) : Prop := w.heap[p]? = some (.cells B t (0, 0))
theorem Blk.lt {w : World} {p : Nat} {B : Array Value} {t : TypeId} (h : Blk w p B t) : p < w.heap.size := (Array.getElem?_eq_some_iff.1 h).1
theorem Blk.cell {w : World} {p : Nat} {B : Array Value} {t : TypeId} (h : Blk w p B t) {o : Nat} {v : Value} (hv : B[o]? = some v) : w.cell? ⟨p, o, none⟩ = some v := by unfold Blk at h; simp [World.cell?, h, hv]
theorem Blk.fz {w : World} {p : Nat} {B : Array Value} {t : TypeId} (h : Blk w p B t) (o : Nat) : w.frozen? ⟨p, o, none⟩ = false := by unfold Blk at h; simp [World.frozen?, h]
theorem Blk.gw {w w' : World} {p : Nat} {B : Array Value} {t : TypeId} (h : Blk w p B t) (g : Gw w w') : Blk w' p B t := (g.below.block p h.lt).trans h
theorem Blk.set {w : World} {p : Nat} {B : Array Value} {t : TypeId} (h : Blk w p B t) (o : Nat) (v : Value) : Blk (w.setCell ⟨p, o, none⟩ v) p (B.setIfInBounds o v) t := by
  unfold Blk at h ⊢
  simp [World.setCell, Array.getElem?_modify, h]
theorem Blk.far {w : World} {p : Nat} {B : Array Value} {t : TypeId} (h : Blk w p B t) {q : Nat} (o : Nat) (v : Value) (hq : p ≠ q) : Blk (w.setCell ⟨q, o, none⟩ v) p B t := (Go.Deep.blk_setCell_other _ _ _ _ hq).trans h

/-- The cells of a chain's points. -/
def pcells (f : Nat → Int) (c : Nat → Nat) (h : Int) : Nat → List Value
  | 0 => []
  | m + 1 => pcells f c h m ++ [.int .u64 (f (c m)), .int .i64 ((c m : Int) + h)]
theorem pcells_len (f : Nat → Int) (c : Nat → Nat) (h : Int) (m : Nat) : (pcells f c h m).length = m * 2 := by
  induction m with
  | zero => rfl
  | succ m ih => simp [pcells, ih]; omega
theorem pcells_take (f : Nat → Int) (c : Nat → Nat) (h : Int) {k m : Nat} (hk : k ≤ m) : (pcells f c h m).take (k * 2) = pcells f c h k := by
  induction m with
  | zero => have : k = 0 := by omega
            subst this; rfl
  | succ m ih =>
    by_cases e : k = m + 1
    · subst e
      rw [← pcells_len f c h (m + 1)]
      exact List.take_length
    · have := ih (by omega)
      rw [pcells, List.take_append_of_le_length (by rw [pcells_len]; omega)]
      exact this
theorem pcells_get (f : Nat → Int) (c : Nat → Nat) (h : Int) {i m : Nat} (hi : i < m) : (pcells f c h m)[i * 2]? = some (.int .u64 (f (c i))) ∧ (pcells f c h m)[i * 2 + 1]? = some (.int .i64 ((c i : Int) + h)) := by
  induction m with
  | zero => omega
  | succ m ih =>
    by_cases e : i = m
    · subst e
      have l := pcells_len f c h i
      constructor
      · rw [pcells, List.getElem?_append_right (by omega), l]; simp
      · rw [pcells, List.getElem?_append_right (by omega), l]; simp
    · obtain ⟨h1, h2⟩ := ih (by omega)
      have l := pcells_len f c h m
      constructor
      · rw [pcells, List.getElem?_append_left (by omega)]; exact h1
      · rw [pcells, List.getElem?_append_left (by omega)]; exact h2
theorem pcells_congr {f f' : Nat → Int} {c c' : Nat → Nat} (h : Int) {m : Nat} (e : ∀ i, i < m → f (c i) = f' (c' i) ∧ c i = c' i) : pcells f c h m = pcells f' c' h m := by
  induction m with
  | zero => rfl
  | succ m ih =>
    obtain ⟨e1, e2⟩ := e m (by omega)
    rw [pcells, pcells, ih (fun i hi => e i (by omega)), e1, e2]

theorem ps_own {w : World} {base g m cap : Nat} {f : Nat → Int} {c : Nat → Nat} {h : Int} (own : w.ownsRow base 64 2 (.slice (some ⟨g, 0, none⟩) m cap) m (pcells f c h m)) : PS w g m (fun i => f (c i)) (fun i => (c i : Int) + h) := by
  have C := own.cells (g := g) rfl
  refine ⟨(own.lt g rfl).2, fun i hi => ?_, fun i hi => ?_⟩
  · have := C (i * 2) _ (pcells_get f c h hi).1
    rw [Addr.add_lit] at this
    simpa using this
  · have := C (i * 2 + 1) _ (pcells_get f c h hi).2
    rw [Addr.add_lit] at this
    simpa using this

/-- A shorter piece of an own row. -/
theorem own_cut {w : World} {base g m cap k : Nat} {f : Nat → Int} {c : Nat → Nat} {h : Int} (own : w.ownsRow base 64 2 (.slice (some ⟨g, 0, none⟩) m cap) m (pcells f c h m)) (hk : k ≤ m) : w.ownsRow base 64 2 (.slice (some ⟨g, 0, none⟩) k cap) k (pcells f c h k) := by
  refine ⟨pcells_len f c h k, ?_⟩
  rcases own.2 with ⟨q, _⟩ | ⟨g', cap', cur, ev, hb, hh, hnc, hcm, hsz, htk⟩
  · cases q
  · cases ev
    refine .inr ⟨g, cap, cur, rfl, hb, hh, by omega, hcm, hsz, ?_⟩
    rw [← pcells_take f c h hk, ← htk, List.take_take]
    congr 1
    omega
theorem own_cap {w : World} {base g m cap : Nat} {xs : List Value} (own : w.ownsRow base 64 2 (.slice (some ⟨g, 0, none⟩) m cap) m xs) : m ≤ cap := by
  rcases own.2 with ⟨q, _⟩ | ⟨g', cap', cur, ev, hb, hh, hnc, _⟩
  · cases q
  · cases ev; exact hnc
/-- An own row stays where its block does. -/
theorem own_keep {w w' : World} {base e size n : Nat} {v : Value} {xs : List Value} (own : w.ownsRow base e size v n xs) (k : ∀ q, v.ownBlock = some q → w'.heap[q]? = w.heap[q]?) : w'.ownsRow base e size v n xs := by
  refine ⟨own.1, ?_⟩
  rcases own.2 with q | ⟨g, cap, cur, rfl, hb, hh, r⟩
  · exact .inl q
  · exact .inr ⟨g, cap, cur, rfl, hb, (k g rfl).trans hh, r⟩

theorem info_pt : (Try.prog.info? 64).map (fun i => (i.zero, i.size, i.bytes)) = some (some (.agg #[.int .u64 0, .int .i64 0]), 2, 16) := by kernel_rfl

/-- Ahead of the append. -/
structure Mid (w wc : World) (p o : Nat) (B : Array Value) (T : TypeId) (v : Value) (m : Nat) (xs : List Value) (x y : Int) : Prop where
  blk : Blk wc p B T
  bo : B[o + 1]? = some v
  own : wc.ownsRow 0 64 2 v m xs
  ne : v.ownBlock ≠ some p
  bx : Bx wc w.heap.size 64 (.int .u64 x) (.int .i64 y)
  ml : m ≤ 4000000
theorem Mid.own1 {w wc : World} {p o : Nat} {B : Array Value} {T : TypeId} {v : Value} {m : Nat} {xs : List Value} {x y : Int} (M : Mid w wc p o B T v m xs x y) : (wc.drew.alloc (.cells #[.int .u64 x, .int .i64 y] 64)).ownsRow 0 64 2 v m xs :=
  own_keep M.own fun q hq => heap_alloc_old wc.drew _ (M.own.lt q hq).2
theorem Mid.news {w wc : World} {p o : Nat} {B : Array Value} {T : TypeId} {v : Value} {m : Nat} {xs : List Value} {x y : Int} (M : Mid w wc p o B T v m xs x y) : ∀ j u, [Value.int .u64 x, .int .i64 y][j]? = some u → (wc.drew.alloc (.cells #[.int .u64 x, .int .i64 y] 64)).cell? ((⟨wc.heap.size, 0, none⟩ : Addr).add j) = some u := by
  have hb : (wc.drew.alloc (.cells #[.int .u64 x, .int .i64 y] 64)).heap[wc.heap.size]? = some (.cells #[.int .u64 x, .int .i64 y] 64 (0, 0)) := heap_alloc_new wc.drew _
  exact World.news_of_block hb
theorem Mid.after {w wc w7 : World} {p o : Nat} {B : Array Value} {T : TypeId} {v : Value} {m : Nat} {xs : List Value} {x y : Int} (M : Mid w wc p o B T v m xs x y) (g : (wc.drew.alloc (.cells #[.int .u64 x, .int .i64 y] 64)).grownBy w7 v.ownBlock) : Blk w7 p B T := by
  have l := M.blk.lt
  refine (g.block p (by simp; omega) (fun q => M.ne q.symm)).trans ?_
  exact (heap_alloc_old wc.drew _ l).trans M.blk
theorem Mid.gs {w wc w7 : World} {p o : Nat} {B : Array Value} {T : TypeId} {v v0 : Value} {m : Nat} {xs : List Value} {x y : Int} (M : Mid w wc p o B T v m xs x y) (G : Gs (fun q => q = p ∨ v0.ownBlock = some q) w wc) (hv : v.ownBlock = v0.ownBlock) (g : (wc.drew.alloc (.cells #[.int .u64 x, .int .i64 y] 64)).grownBy w7 v.ownBlock) (u : Value) : Gs (fun q => q = p ∨ v0.ownBlock = some q) w (w7.setCell ⟨p, o + 1, none⟩ u) := by
  refine Gs.set ?_ (.inl rfl) _ _
  have G1 : Gs (fun q => q = p ∨ v0.ownBlock = some q) w (wc.drew.alloc (.cells #[.int .u64 x, .int .i64 y] 64)) :=
    ⟨G.os, G.tape, G.output, by have := G.size; simp; omega, fun q hq hs => (heap_alloc_old wc.drew _ (show q < wc.heap.size by have := G.size; omega)).trans (G.block q hq hs)⟩
  exact G1.grown g (fun k hk => .inr (by rw [← hv]; exact hk))

end Go.Proofs.Ytlocnkoeffoflaa
