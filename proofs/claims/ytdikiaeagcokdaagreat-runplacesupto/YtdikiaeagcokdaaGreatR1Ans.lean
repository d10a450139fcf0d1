/- Layer 11's statements' answers: a run is asked, and the document's. -/
import Derived.Test.YtdikiaeagcokdaaGreatPRd
import Derived.StillTailTactics
namespace Go.Proofs.YtdikiaeagcokdaaGreat
open Go.RowKit
set_option linter.unusedVariables false
attribute [local go_sem] run_store_float f64bits

/-- Boxes of a call's own, as they were laid. -/
structure Bxs (W0 : World) (l : List (Nat × Array Value × TypeId)) (W : World) : Prop where
  gw0 : Gw W0 W
  lie : ∀ x ∈ l, W.heap[x.1]? = some (.cells x.2.1 x.2.2 (0, 0))
theorem Bxs.nil {W0 W : World} (g : Gw W0 W) : Bxs W0 [] W := ⟨g, fun x h => by cases h⟩
theorem Bxs.gw {W0 W W' : World} {l : List (Nat × Array Value × TypeId)} (h : Bxs W0 l W) (g : Gw W W') : Bxs W0 l W' :=
  ⟨h.gw0.trans g, fun x hx => (g.below.block x.1 (Array.getElem?_eq_some_iff.1 (h.lie x hx)).1).trans (h.lie x hx)⟩
theorem Bxs.add {W0 W : World} {l : List (Nat × Array Value × TypeId)} (h : Bxs W0 l W) (c : Array Value) (t : TypeId) : Bxs W0 ((W.heap.size, c, t) :: l) (W.alloc (.cells c t)) :=
  ⟨h.gw0.alloc _ _, fun x hx => by
    rcases List.mem_cons.1 hx with rfl | hx
    · exact heap_alloc_new W _
    · exact (h.gw ((Gw.refl W).alloc c t)).lie x hx⟩
theorem Bxs.cell {W0 W : World} {l : List (Nat × Array Value × TypeId)} (h : Bxs W0 l W) {b : Nat} {c : Array Value} {t : TypeId} (m : (b, c, t) ∈ l) {i : Nat} {v : Value} (hv : c[i]? = some v) : W.cell? ⟨b, i, none⟩ = some v := by
  have := h.lie _ m
  simp [World.cell?, this, hv]
theorem Ready.up {eps : Int} {f : Nat → Int} {n : Nat} {L : List (List Sg)} (h : Ready eps f n L) : Up f n := by
  by_cases c : L.length = 0
  · have := h.z.1 c
    subst this
    exact fun j hj => by omega
  · exact (h.lv.lvl 0 (by omega)).up
theorem getV_form (k v : Nat → Int) (g : Nat → Bool) (n : Nat) (q : Int) : ∃ a b c t, getV k v g n q = (.agg #[.int .u64 a, .int .u64 b, .bool c], t) := by
  unfold getV
  by_cases h : cntb k q n < n ∧ k (cntb k q n) = q
  · rw [if_pos h]; exact ⟨_, _, _, _, rfl⟩
  · rw [if_neg h]; exact ⟨_, _, _, _, rfl⟩
theorem atV_form (k v : Nat → Int) (g : Nat → Bool) (n : Nat) (i : Int) : ∃ a b c t, atV k v g n i = (.agg #[.int .u64 a, .int .u64 b, .bool c], t) := by
  unfold atV
  by_cases h : 0 ≤ i ∧ i < n
  · rw [if_pos h]; exact ⟨_, _, _, _, rfl⟩
  · rw [if_neg h]; exact ⟨_, _, _, _, rfl⟩

end Go.Proofs.YtdikiaeagcokdaaGreat
