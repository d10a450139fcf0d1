/- A row of numbers that is put in order: where two change places. -/
import Derived.Test.YtkojcjfjmlompaaPMem
import Derived.Sort.LotA
import Derived.Sort.LotB
import Derived.Sort.LotC
import Derived.Sort.LotD3
namespace Go.Proofs.Ytkojcjfjmlompaa
open Go.RowKit
set_option linter.unusedVariables false

/-- The numbers d lie in block k from its first cell on. -/
def UR (w : World) (k : Nat) (d : Array Int) : Prop := ∃ cur ty, w.heap[k]? = some (.cells cur ty (0, 0)) ∧ d.size ≤ cur.size ∧ ∀ i, i < d.size → cur[i]? = some (.int .u64 d[i]!)
theorem UR.lt {w : World} {k : Nat} {d : Array Int} (h : UR w k d) : k < w.heap.size := by
  obtain ⟨cur, ty, h1, _⟩ := h
  exact blkl h1
theorem UR.keep {w w' : World} {k : Nat} {d : Array Int} (h : UR w k d) (e : w'.heap[k]? = w.heap[k]?) : UR w' k d := by
  obtain ⟨cur, ty, h1, h2⟩ := h
  exact ⟨cur, ty, e.trans h1, h2⟩
theorem UR.gw {w w' : World} {k : Nat} {d : Array Int} (h : UR w k d) (g : Gw w w') : UR w' k d := h.keep (g.below.block k h.lt)
theorem UR.gx {w w' : World} {k : Nat} {d : Array Int} {S : Nat → Prop} (h : UR w k d) (g : Gx S w w') (no : ¬ S k) : UR w' k d := h.keep (g.block k h.lt no)
theorem UR.cell {w : World} {k : Nat} {d : Array Int} (h : UR w k d) {i : Nat} (hi : i < d.size) : w.cell? ⟨k, i, none⟩ = some (.int .u64 d[i]!) := by
  obtain ⟨cur, ty, h1, _, h3⟩ := h
  exact blkc h1 (h3 i hi)
theorem UR.frozen {w : World} {k : Nat} {d : Array Int} (h : UR w k d) (i : Nat) : w.frozen? ⟨k, i, none⟩ = false := by
  obtain ⟨cur, ty, h1, _⟩ := h
  exact blkf h1
theorem UR.set {w : World} {k i : Nat} {d : Array Int} (h : UR w k d) (hi : i < d.size) (x : Int) : UR (w.setCell ⟨k, i, none⟩ (.int .u64 x)) k (d.setIfInBounds i x) := by
  obtain ⟨cur, ty, h1, h2, h3⟩ := h
  refine ⟨cur.setIfInBounds i (.int .u64 x), ty, by simp [World.setCell, Array.getElem?_modify, h1], by simpa using h2, fun j hj => ?_⟩
  have hj' : j < d.size := by simpa using hj
  by_cases q : j = i
  · subst q
    rw [Array.getElem?_setIfInBounds_self_of_lt (by omega)]
    simp [hj']
  · rw [Array.getElem?_setIfInBounds_ne (Ne.symm q), h3 j hj']
    simp [hj', Ne.symm q]
/-- Two change places. -/
theorem UR.swp {w : World} {k i j : Nat} {d : Array Int} (h : UR w k d) (hi : i < d.size) (hj : j < d.size) {x y : Int} (hx : d[i]! = x) (hy : d[j]! = y) :
    ∃ W1 W2, w.setCell ⟨k, i, none⟩ (.int .u64 y) = W1 ∧ W1.setCell ⟨k, j, none⟩ (.int .u64 x) = W2 ∧ UR W2 k (Sort.swp d i j) ∧ (∀ o, W1.frozen? ⟨k, o, none⟩ = false) ∧ W1.cell? ⟨k, j, none⟩ = some (.int .u64 y) ∧ Gx (fun q => q = k) w W2 := by
  have h1 := h.set hi y
  have h2 := h1.set (i := j) (by simpa using hj) x
  refine ⟨_, _, rfl, rfl, ?_, fun o => h1.frozen o, ?_, ((Gx.refl (fun q => q = k) w).set (q := k) (.inl rfl) i _).set (q := k) (.inl rfl) j _⟩
  · unfold Sort.swp
    rw [hx, hy]
    exact h2
  · rw [h1.cell (by simpa using hj)]
    by_cases q : i = j
    · subst q; simp [hj]
    · have : (d.setIfInBounds i y)[j]! = d[j]! := by simp [hj, q]
      rw [this, hy]
def ltI (x y : Int) : Bool := decide (x < y)
theorem swoI : Sort.SWO ltI where
  irrefl x := by simp [ltI]
  trans x y z h1 h2 := by simp only [ltI, decide_eq_true_eq] at *; omega
  ntrans x y z h1 h2 := by simp only [ltI, decide_eq_false_iff_not] at *; omega
/-- What a call that puts part of the row in another order leaves. -/
def Srt (w w' : World) (k a b : Nat) (d : Array Int) (e : Ending) : Prop := e = .returned (.tuple #[]) ∧ ∃ d', UR w' k d' ∧ Sort.PermIn a b d d' ∧ Gx (fun q => q = k) w w'
end Go.Proofs.Ytkojcjfjmlompaa
