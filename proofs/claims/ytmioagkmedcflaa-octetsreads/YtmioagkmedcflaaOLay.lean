/- Numbers laid behind one another. -/
import Derived.Test.YtmioagkmedcflaaOShown
namespace Go.Proofs.Ytmioagkmedcflaa
open Go.RowKit
set_option linter.unusedVariables false

/-- The bytes of numbers, one behind the other. -/
def layF (f : Nat → Int) (j : Nat) : Int := byt (f (j / 8)) (7 - j % 8)
theorem layF_bd (f : Nat → Int) (j : Nat) : 0 ≤ layF f j ∧ layF f j < 256 := byt_bd _ _
theorem layF_num (f : Nat → Int) (i : Nat) (h0 : 0 ≤ f i) (h1 : f i < 18446744073709551616) : numR (fun j => layF f (8 * i + j)) 0 8 = f i := by
  rw [numR_congr (g := fun j => byt (f i) (7 - j)) (o' := 0) (fun j hj => by
    show byt (f ((8 * i + (0 + j)) / 8)) (7 - (8 * i + (0 + j)) % 8) = byt (f i) (7 - (0 + j))
    rw [show (8 * i + (0 + j)) / 8 = i by omega, show (8 * i + (0 + j)) % 8 = 0 + j by omega]), numR_eight h0 h1]
theorem layF_cat (f : Nat → Int) (i : Nat) : ∀ j, j < 8 * i + 8 → cat (layF f) (8 * i) (fun j => byt (f i) (7 - j)) j = layF f j := by
  intro j hj
  unfold cat
  by_cases c : j < 8 * i
  · rw [if_pos c]
  · rw [if_neg c]
    unfold layF
    rw [show j / 8 = i by omega, show j % 8 = j - 8 * i by omega]
theorem BS.part {w : World} {ao : Option Addr} {n k : Nat} {f : Nat → Int} (h : BS w ao n f) (hk : k ≤ n) : BS w ao k f :=
  ⟨fun h0 => by
    obtain ⟨b, off, e, hb, hc⟩ := h.cells (by omega)
    exact ⟨b, off, e, hb, fun i hi => hc i (by omega)⟩, fun i hi => h.bd i (by omega)⟩
theorem layF_next (f : Nat → Int) (i : Nat) : (fun j => layF f (8 * i + (8 + j))) = fun j => layF f (8 * (i + 1) + j) := by
  funext j
  congr 1
  omega

end Go.Proofs.Ytmioagkmedcflaa
