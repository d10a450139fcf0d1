/- Rows of entries of a call's own: an entry stored; where they lie. -/
import Derived.Test.YthkahedhmfkhhaaGEnt
namespace Go.Proofs.Ythkahedhmfkhhaa
open Go.RowKit
set_option linter.unusedVariables false

/-- An entry stored into a row, cell by cell. -/
theorem flat_set : ∀ (l : List Ent) (k : Nat) (s : Ent), k < l.length → (((l.flatMap ent3).set (k * 3) (.int .u64 s.k)).set (k * 3 + 1) (.int .u64 s.v)).set (k * 3 + 2) (.bool s.g) = (l.set k s).flatMap ent3 := by
  intro l
  induction l with
  | nil => intro k s hk; simp at hk
  | cons t l ih =>
    intro k s hk
    cases k with
    | zero => simp [ent3]
    | succ k =>
      have := ih k s (by simpa using hk)
      rw [List.set_cons_succ, List.flatMap_cons, List.flatMap_cons, ← this]
      have e : ∀ r, (k + 1) * 3 + r = k * 3 + r + 3 := fun r => by omega
      have e0 : (k + 1) * 3 = k * 3 + 3 := by omega
      rw [e 1, e 2, e0]
      simp [ent3]
def put3 (w : World) (g o : Nat) (s : Ent) : World := ((w.setCell ⟨g, o, none⟩ (.int .u64 s.k)).setCell ⟨g, o + 1, none⟩ (.int .u64 s.v)).setCell ⟨g, o + 2, none⟩ (.bool s.g)
theorem eo_put {w : World} {base g cap k n : Nat} {l : List Ent} (h : EO w base (.slice (some ⟨g, 0, none⟩) n cap) l) (hn : l.length = n) (hk : k < l.length) (s : Ent) : EO (put3 w g (k * 3) s) base (.slice (some ⟨g, 0, none⟩) n cap) (l.set k s) := by
  subst hn
  have h' : w.ownsRow base 32 3 (.slice (some ⟨g, 0, none⟩) l.length cap) l.length (l.flatMap ent3) := h
  have r := (((h'.stored (k * 3) (.int .u64 s.k)).1.stored (k * 3 + 1) (.int .u64 s.v)).1.stored (k * 3 + 2) (.bool s.g)).1
  rw [flat_set l k s hk] at r
  show World.ownsRow _ _ _ _ _ _ _
  rw [List.length_set]
  exact r
theorem eo_form {w : World} {base : Nat} {bo : Option Addr} {n c : Nat} {l : List Ent} (h : EO w base (.slice bo n c) l) (hn : l.length = n) (h0 : 0 < n) : ∃ b, bo = some ⟨b, 0, none⟩ ∧ base ≤ b ∧ b < w.heap.size ∧ (∀ i, w.frozen? ⟨b, i, none⟩ = false) ∧ ∀ i, i < n → w.cell? ⟨b, i * 3, none⟩ = some (.int .u64 (l.getD i ent0).k) ∧ w.cell? ⟨b, i * 3 + 1, none⟩ = some (.int .u64 (l.getD i ent0).v) ∧ w.cell? ⟨b, i * 3 + 2, none⟩ = some (.bool (l.getD i ent0).g) := by
  subst hn
  rcases h.2 with ⟨_, z⟩ | ⟨b, cap, cur, e, hb, hh, r⟩
  · omega
  · injection e with e1 e2 e3
    subst e1 e3
    have c' : ∀ i, i < l.length → ∀ j, j < 3 → w.cell? ⟨b, i * 3 + j, none⟩ = (ent3 (l.getD i ent0))[j]? := fun i hi j hj => by
      have := World.ownsRow.cellAt h (i * 3 + j) (by omega)
      rw [this]
      exact flat_e l i hi j hj
    exact ⟨b, rfl, hb, (Array.getElem?_eq_some_iff.1 hh).1, fun i => by simp [World.frozen?, hh], fun i hi => ⟨c' i hi 0 (by decide), c' i hi 1 (by decide), c' i hi 2 (by decide)⟩⟩
end Go.Proofs.Ythkahedhmfkhhaa
