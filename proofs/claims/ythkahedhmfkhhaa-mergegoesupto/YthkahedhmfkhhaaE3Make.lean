/- Of, the document's Of, and the statements' own copy with a mark behind it. -/
import Derived.Test.YthkahedhmfkhhaaE3Mem
import Derived.Test.YthkahedhmfkhhaaKPlain
import Derived.Deep.LoopGhost
import Derived.Deep.QuietTactic
import Derived.BigQuiet
import Derived.OwnWalk
namespace Go.Proofs.Ythkahedhmfkhhaa
open Go.RowKit
set_option linter.unusedVariables false


/-- The keys of a row that was appended to. -/
theorem ks_of_own {w : World} {base g n cap : Nat} {f : Nat → Int} (h : w.ownsRow base 30 1 (.slice (some ⟨g, 0, none⟩) n cap) n ((List.range n).map fun i => Value.int .u64 (f i))) (bd : ∀ i, i < n → 0 ≤ f i ∧ f i < 18446744073709551616) : KS w (some ⟨g, 0, none⟩) n f :=
  ⟨fun h0 => ⟨g, 0, rfl, (h.lt g rfl).2, fun i hi => by rw [Nat.zero_add, h.cellAt i (by omega)]; simp [hi]⟩, bd⟩

theorem own_some {w : World} {base e n : Nat} {v : Value} {xs : List Value} (h : w.ownsRow base e 1 v n xs) (hv : ¬ v = .slice none 0 0) : ∃ g cap, v = .slice (some ⟨g, 0, none⟩) n cap ∧ base ≤ g := by
  rcases h.2 with ⟨e, _⟩ | ⟨g, cap, cur, rfl, hg, _⟩
  · exact absurd e hv
  · exact ⟨g, cap, rfl, hg⟩

theorem new_one3 (w : World) (x : Int) : ∀ j u, [Value.int .u64 x][j]? = some u → (w.alloc (.cells #[.int .u64 x] 30)).cell? ((⟨w.heap.size, 0, none⟩ : Addr).add j) = some u := by
  intro j u hu
  cases j with
  | zero =>
    simp only [List.getElem?_cons_zero, Option.some.injEq] at hu
    subst hu
    simp [Addr.add, go_sem]
  | succ j => simp at hu


end Go.Proofs.Ythkahedhmfkhhaa
