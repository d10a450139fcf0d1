/- What the statements of layer 13 ask of package merge. -/
import Derived.Test.YtnkcnfpbbdlifabGCopy
import Derived.Test.YtnkcnfpbbdlifabGRef2
namespace Go.Proofs.Ytnkcnfpbbdlifab
open Go.RowKit
set_option linter.unusedVariables false

/-- What a function that is handed in does: it tells by its argument alone. -/
structure FnB (K : FuncId) (cap : Array Value) (p : Int → Bool) (w : World) : Prop where
  enter : ∀ (args : Array Value) (W : World), (callFunc K args).run Try.prog W = .ok (.enter K args) W
  tells : ∀ W, Gw w W → ∀ q : Int, 0 ≤ q → q < 18446744073709551616 → Calls Try.prog K (#[.int .u64 q] ++ cap) W fun e w' => e = .returned (.bool (p q)) ∧ Gw W w'
theorem FnB.gw {K : FuncId} {cap : Array Value} {p : Int → Bool} {w w' : World} (h : FnB K cap p w) (g : Gw w w') : FnB K cap p w' := ⟨h.enter, fun W gg => h.tells W (g.trans gg)⟩
/-- What stays. -/
def keepP (p : Int → Bool) (e : Ent) : Bool := !e.g || p e.k
structure MergeC : Prop where
  sift : ∀ (ao : Option Addr) (c : Nat) (l : List Ent) (K : FuncId) (cap : Array Value) (p : Int → Bool), l.length ≤ 2000000 → l.length ≤ c → (ao = none → l.length = 0 ∧ c = 0) → ∀ w : World, EL w ao l → FnB K cap p w → Calls Try.prog 11 #[.slice ao l.length c, .func (.func K) #[] cap] w fun e w' => (∃ bo oc, e = .returned (.slice bo (l.filter (keepP p)).length oc) ∧ EO w' w.heap.size (.slice bo (l.filter (keepP p)).length oc) (l.filter (keepP p))) ∧ Gw w w'
  entries : ∀ (ao : Option Addr) (c : Nat) (L : List (List Ent)), L.length ≤ 2000000 → (∀ i, i < L.length → (L.getD i []).length ≤ 2000000) → sizes L ≤ 2000000 → L.length ≤ c → (ao = none → L.length = 0 ∧ c = 0) → ∀ w : World, EV w ao L → Calls Try.prog 7 #[.slice ao L.length c] w fun e w' => (∃ bo oc o, e = .returned (.slice bo o.length oc) ∧ EO w' w.heap.size (.slice bo o.length oc) o ∧ Mg Ent.k L o) ∧ Gw w w'
  shown : ∀ w : World, Calls Try.prog 5 #[] w fun e w' => e = .returned (.bool true) ∧ Gw w w'
theorem Mg.oks {L : List (List Ent)} {o : List Ent} (h : Mg Ent.k L o) (ok : ∀ l ∈ L, ∀ e ∈ l, e.ok) : ∀ e ∈ o, e.ok := by
  induction h using Mg.ind with
  | done _ => intro e he; cases he
  | @step ls x out e r ih =>
    obtain ⟨a, l, b, el, _, _⟩ := least_some e
    intro y hy
    rcases List.mem_cons.1 hy with rfl | q
    · exact ok (y :: l) (by rw [el]; simp) y (List.mem_cons_self ..)
    · refine ih (fun l' hl' z hz => ?_) y q
      obtain ⟨l0, hl0, rfl⟩ := List.mem_map.1 hl'
      exact ok l0 hl0 z (pass_mem hz)
theorem EV.oks {w : World} {ao : Option Addr} {L : List (List Ent)} (h : EV w ao L) : ∀ l ∈ L, ∀ e ∈ l, e.ok := by
  intro l hl
  obtain ⟨i, hi, rfl⟩ := List.mem_iff_getElem.1 hl
  obtain ⟨_, _, _, _, hc⟩ := h.cells (by omega)
  obtain ⟨bo, c, _, _, h3, _⟩ := hc i hi
  have e : L.getD i [] = L[i] := by simp [List.getD, hi]
  rw [e] at h3
  exact h3.all
theorem rows_le {L : List (List Ent)} {i : Nat} (hi : i < L.length) : (L.getD i []).length ≤ sizes L := by
  have e : L.getD i [] = L[i] := by simp [List.getD, hi]
  rw [e]
  have : ∀ (L : List (List Ent)) (l : List Ent), l ∈ L → l.length ≤ sizes L := by
    intro L
    induction L with
    | nil => intro l hl; cases hl
    | cons a L ih =>
      intro l hl
      rw [sizes_cons]
      rcases List.mem_cons.1 hl with rfl | q
      · omega
      · have := ih l q; omega
  exact this _ _ (List.getElem_mem hi)
/-- An entry stored into a row, cell by cell. -/
theorem flat_set : ∀ (l : List Ent) (k : Nat) (s : Ent), k < l.length → (((l.flatMap ent3).set (k * 3) (.int .u64 s.k)).set (k * 3 + 1) (.int .u64 s.v)).set (k * 3 + 2) (.bool s.g) = (l.set k s).flatMap ent3 := by
  intro l
  induction l with
  | nil => intro k s hk; simp at hk
  | cons t l ih =>
    intro k s hk
    cases k with
    | zero => simp [ent3]
    | succ k =>
      have := ih k s (by simpa using hk)
      rw [List.set_cons_succ, List.flatMap_cons, List.flatMap_cons, ← this]
      have e : ∀ r, (k + 1) * 3 + r = k * 3 + r + 3 := fun r => by omega
      have e0 : (k + 1) * 3 = k * 3 + 3 := by omega
      rw [e 1, e 2, e0]
      simp [ent3]
def put3 (w : World) (g o : Nat) (s : Ent) : World := ((w.setCell ⟨g, o, none⟩ (.int .u64 s.k)).setCell ⟨g, o + 1, none⟩ (.int .u64 s.v)).setCell ⟨g, o + 2, none⟩ (.bool s.g)
theorem eo_put {w : World} {base g cap k n : Nat} {l : List Ent} (h : EO w base (.slice (some ⟨g, 0, none⟩) n cap) l) (hn : l.length = n) (hk : k < l.length) (s : Ent) : EO (put3 w g (k * 3) s) base (.slice (some ⟨g, 0, none⟩) n cap) (l.set k s) := by
  subst hn
  have h' : w.ownsRow base 36 3 (.slice (some ⟨g, 0, none⟩) l.length cap) l.length (l.flatMap ent3) := h
  have r := (((h'.stored (k * 3) (.int .u64 s.k)).1.stored (k * 3 + 1) (.int .u64 s.v)).1.stored (k * 3 + 2) (.bool s.g)).1
  rw [flat_set l k s hk] at r
  show World.ownsRow _ _ _ _ _ _ _
  rw [List.length_set]
  exact r
theorem eo_form {w : World} {base : Nat} {bo : Option Addr} {n c : Nat} {l : List Ent} (h : EO w base (.slice bo n c) l) (hn : l.length = n) (h0 : 0 < n) : ∃ b, bo = some ⟨b, 0, none⟩ ∧ base ≤ b ∧ b < w.heap.size ∧ (∀ i, w.frozen? ⟨b, i, none⟩ = false) ∧ ∀ i, i < n → w.cell? ⟨b, i * 3, none⟩ = some (.int .u64 (l.getD i ent0).k) ∧ w.cell? ⟨b, i * 3 + 1, none⟩ = some (.int .u64 (l.getD i ent0).v) ∧ w.cell? ⟨b, i * 3 + 2, none⟩ = some (.bool (l.getD i ent0).g) := by
  subst hn
  rcases h.2 with ⟨_, z⟩ | ⟨b, cap, cur, e, hb, hh, r⟩
  · omega
  · injection e with e1 e2 e3
    subst e1 e3
    have c' : ∀ i, i < l.length → ∀ j, j < 3 → w.cell? ⟨b, i * 3 + j, none⟩ = (ent3 (l.getD i ent0))[j]? := fun i hi j hj => by
      have := World.ownsRow.cellAt h (i * 3 + j) (by omega)
      rw [this]
      exact flat_e l i hi j hj
    exact ⟨b, rfl, hb, (Array.getElem?_eq_some_iff.1 hh).1, fun i => by simp [World.frozen?, hh], fun i hi => ⟨c' i hi 0 (by decide), c' i hi 1 (by decide), c' i hi 2 (by decide)⟩⟩
end Go.Proofs.Ytnkcnfpbbdlifab
