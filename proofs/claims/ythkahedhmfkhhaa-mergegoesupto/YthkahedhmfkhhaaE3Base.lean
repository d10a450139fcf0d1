/- Lists of entries in memory. -/
import Derived.Test.YthkahedhmfkhhaaHBase
import Derived.Test.YthkahedhmfkhhaaHGrow
namespace Go.Proofs.Ythkahedhmfkhhaa
open Go.RowKit
set_option linter.unusedVariables false

/-- A list of n entries: three cells an entry. -/
structure ES (w : World) (ao : Option Addr) (n : Nat) (k v : Nat → Int) (g : Nat → Bool) : Prop where
  cells : 0 < n → ∃ b off, ao = some ⟨b, off, none⟩ ∧ b < w.heap.size ∧ ∀ i, i < n → w.cell? ⟨b, off + i * 3, none⟩ = some (.int .u64 (k i)) ∧ w.cell? ⟨b, off + i * 3 + 1, none⟩ = some (.int .u64 (v i)) ∧ w.cell? ⟨b, off + i * 3 + 2, none⟩ = some (.bool (g i))
  bd : ∀ i, i < n → (0 ≤ k i ∧ k i < 18446744073709551616) ∧ (0 ≤ v i ∧ v i < 18446744073709551616)

theorem ES.gw {w w' : World} {ao : Option Addr} {n : Nat} {k v : Nat → Int} {g : Nat → Bool} (h : ES w ao n k v g) (gg : Gw w w') : ES w' ao n k v g :=
  ⟨fun hn => by
    obtain ⟨b, off, e, hb, hc⟩ := h.cells hn
    exact ⟨b, off, e, Nat.lt_of_lt_of_le hb gg.size, fun i hi => ⟨(gg.cell _ _ hb).trans (hc i hi).1, (gg.cell _ _ hb).trans (hc i hi).2.1, (gg.cell _ _ hb).trans (hc i hi).2.2⟩⟩, h.bd⟩

end Go.Proofs.Ythkahedhmfkhhaa
