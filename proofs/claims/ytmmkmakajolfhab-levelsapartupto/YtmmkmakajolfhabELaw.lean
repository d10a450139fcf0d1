/- What the statements of layer 6 ask of package cut, as one structure; lists of ints alike; the examples; which keys are right. -/
import Derived.Test.YtmmkmakajolfhabERef
import Derived.Deep.CondSized
namespace Go.Proofs.Ytmmkmakajolfhab
open Go.RowKit
set_option linter.unusedVariables false

/-- Package cut. -/
structure CutC : Prop where
  ends : ∀ (eps : Int) (ao : Option Addr) (n cp : Nat) (f : Nat → Int), -9223372036854775808 ≤ eps → eps < 9223372036854775808 → n ≤ 2000000 → n ≤ cp → ∀ w : World, KS w ao n f → Calls Try.prog 38 #[.slice ao n cp, .int .i64 eps] w fun ex w' => EndsOut w.heap.size w' ex eps f n ∧ Gw w w'

theorem row_le {w : World} {base e size n cap : Nat} {ao : Option Addr} {xs : List Value} (h : w.ownsRow base e size (.slice ao n cap) n xs) : n ≤ cap := by
  by_cases k : Value.slice ao n cap = .slice none 0 0
  · cases k; exact Nat.le_refl _
  · obtain ⟨g, cap', e, _, h1, _⟩ := own_slice h k
    cases e
    exact h1

/-- A list of ints in memory. -/
structure LS (w : World) (ao : Option Addr) (l : List Nat) : Prop where
  cells : 0 < l.length → ∃ b off, ao = some ⟨b, off, none⟩ ∧ b < w.heap.size ∧ ∀ i, i < l.length → w.cell? ⟨b, off + i, none⟩ = some (.int .i64 ((l.getD i 0 : Nat) : Int))
theorem LS.gw {w w' : World} {ao : Option Addr} {l : List Nat} (h : LS w ao l) (g : Gw w w') : LS w' ao l :=
  ⟨fun h0 => by
    obtain ⟨b, off, e, hb, hc⟩ := h.cells h0
    exact ⟨b, off, e, Nat.lt_of_lt_of_le hb g.size, fun i hi => (g.cell b (off + i) hb).trans (hc i hi)⟩⟩
theorem ir_ls {w : World} {base : Nat} {v : Value} {l : List Nat} (h : IR w base v l) : ∃ ao cap, v = .slice ao l.length cap ∧ LS w ao l := by
  obtain ⟨ao, cap, e, h1, h2⟩ := ir_slice h
  refine ⟨ao, cap, e, ⟨fun h0 => ?_⟩⟩
  cases ao with
  | none => rw [(h1 rfl).1] at h0; simp at h0
  | some ad =>
    obtain ⟨g, e', hb, hg, hc⟩ := h2 ad rfl
    exact ⟨g, 0, by rw [e'], hg, fun i hi => by rw [Nat.zero_add]; exact hc i hi⟩

theorem list_get_eq {l m : List Nat} (hl : l.length = m.length) (h : ∀ i, i < l.length → l.getD i 0 = m.getD i 0) : l = m := by
  apply List.ext_getElem hl
  intro i h1 h2
  have := h i h1
  simpa [List.getD, h1, h2] using this


/-- What 'right' answers. -/
def RightOut (ex : Ending) (P : Prop) : Prop := ∃ r : Bool, ex = .returned (.tuple #[.bool r, .bool true]) ∧ (r = true ↔ P)
theorem RightOut.no {P : Prop} (h : ¬ P) : RightOut (.returned (.tuple #[.bool false, .bool true])) P := ⟨false, rfl, ⟨fun q => by simp at q, fun q => absurd q h⟩⟩
theorem RightOut.yes {P : Prop} (h : P) : RightOut (.returned (.tuple #[.bool true, .bool true])) P := ⟨true, rfl, ⟨fun _ => h, fun _ => rfl⟩⟩


end Go.Proofs.Ytmmkmakajolfhab
