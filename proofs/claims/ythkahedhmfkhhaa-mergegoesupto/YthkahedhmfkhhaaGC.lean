/- What the statements of layer 13 ask of package merge. -/
import Derived.Test.YthkahedhmfkhhaaGCopy
import Derived.Test.YthkahedhmfkhhaaGRef2
import Derived.Test.YthkahedhmfkhhaaGEo
namespace Go.Proofs.Ythkahedhmfkhhaa
open Go.RowKit
set_option linter.unusedVariables false

/-- What a function that is handed in does: it tells by its argument alone. -/
structure FnB (K : FuncId) (cap : Array Value) (p : Int → Bool) (w : World) : Prop where
  enter : ∀ (args : Array Value) (W : World), (callFunc K args).run Try.prog W = .ok (.enter K args) W
  tells : ∀ W, Gw w W → ∀ q : Int, 0 ≤ q → q < 18446744073709551616 → Calls Try.prog K (#[.int .u64 q] ++ cap) W fun e w' => e = .returned (.bool (p q)) ∧ Gw W w'
theorem FnB.gw {K : FuncId} {cap : Array Value} {p : Int → Bool} {w w' : World} (h : FnB K cap p w) (g : Gw w w') : FnB K cap p w' := ⟨h.enter, fun W gg => h.tells W (g.trans gg)⟩
/-- What stays. -/
def keepP (p : Int → Bool) (e : Ent) : Bool := !e.g || p e.k
structure MergeC : Prop where
  sift : ∀ (ao : Option Addr) (c : Nat) (l : List Ent) (K : FuncId) (cap : Array Value) (p : Int → Bool), l.length ≤ 2000000 → l.length ≤ c → (ao = none → l.length = 0 ∧ c = 0) → ∀ w : World, EL w ao l → FnB K cap p w → Calls Try.prog 18 #[.slice ao l.length c, .func (.func K) #[] cap] w fun e w' => (∃ bo oc, e = .returned (.slice bo (l.filter (keepP p)).length oc) ∧ EO w' w.heap.size (.slice bo (l.filter (keepP p)).length oc) (l.filter (keepP p))) ∧ Gw w w'
  entries : ∀ (ao : Option Addr) (c : Nat) (L : List (List Ent)), L.length ≤ 2000000 → (∀ i, i < L.length → (L.getD i []).length ≤ 2000000) → sizes L ≤ 2000000 → L.length ≤ c → (ao = none → L.length = 0 ∧ c = 0) → ∀ w : World, EV w ao L → Calls Try.prog 17 #[.slice ao L.length c] w fun e w' => (∃ bo oc o, e = .returned (.slice bo o.length oc) ∧ EO w' w.heap.size (.slice bo o.length oc) o ∧ Mg Ent.k L o) ∧ Gw w w'
  shown : ∀ w : World, Calls Try.prog 6 #[] w fun e w' => e = .returned (.bool true) ∧ Gw w w'
theorem Mg.oks {L : List (List Ent)} {o : List Ent} (h : Mg Ent.k L o) (ok : ∀ l ∈ L, ∀ e ∈ l, e.ok) : ∀ e ∈ o, e.ok := by
  induction h using Mg.ind with
  | done _ => intro e he; cases he
  | @step ls x out e r ih =>
    obtain ⟨a, l, b, el, _, _⟩ := least_some e
    intro y hy
    rcases List.mem_cons.1 hy with rfl | q
    · exact ok (y :: l) (by rw [el]; simp) y (List.mem_cons_self ..)
    · refine ih (fun l' hl' z hz => ?_) y q
      obtain ⟨l0, hl0, rfl⟩ := List.mem_map.1 hl'
      exact ok l0 hl0 z (pass_mem hz)
theorem EV.oks {w : World} {ao : Option Addr} {L : List (List Ent)} (h : EV w ao L) : ∀ l ∈ L, ∀ e ∈ l, e.ok := by
  intro l hl
  obtain ⟨i, hi, rfl⟩ := List.mem_iff_getElem.1 hl
  obtain ⟨_, _, _, _, hc⟩ := h.cells (by omega)
  obtain ⟨bo, c, _, _, h3, _⟩ := hc i hi
  have e : L.getD i [] = L[i] := by simp [List.getD, hi]
  rw [e] at h3
  exact h3.all
theorem rows_le {L : List (List Ent)} {i : Nat} (hi : i < L.length) : (L.getD i []).length ≤ sizes L := by
  have e : L.getD i [] = L[i] := by simp [List.getD, hi]
  rw [e]
  have : ∀ (L : List (List Ent)) (l : List Ent), l ∈ L → l.length ≤ sizes L := by
    intro L
    induction L with
    | nil => intro l hl; cases hl
    | cons a L ih =>
      intro l hl
      rw [sizes_cons]
      rcases List.mem_cons.1 hl with rfl | q
      · omega
      · have := ih l q; omega
  exact this _ _ (List.getElem_mem hi)
end Go.Proofs.Ythkahedhmfkhhaa
