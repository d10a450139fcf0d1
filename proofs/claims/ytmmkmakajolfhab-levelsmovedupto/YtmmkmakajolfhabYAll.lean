/- What the statements of layer 8 ask of package levels. -/
import Derived.Test.YtmmkmakajolfhabYLevels
import Derived.Test.YtmmkmakajolfhabXM5
import Derived.Test.YtmmkmakajolfhabXCutC
namespace Go.Proofs.Ytmmkmakajolfhab
open Go.RowKit
set_option linter.unusedVariables false

theorem buildown : BuildOwn := buildown_of cutc modelc
theorem levelsc : LevelsC where
  height n eps n0 n1 e0 e1 w := (xmaxh_any n eps n0 n1 e0 e1 w).mono fun ex w' h => ⟨h.1, by rw [h.2]; exact Gw.refl _⟩
  check eps ao n cp f lo lc L e0 e1 hn hcp hS hl w hk hv := xcheck8_any modelc eps ao n cp f lo lc L e0 e1 hn hcp hS w hk hv
  build eps ao n cp f e0 e1 hn hcp w hk := (buildown eps ao n cp f e0 e1 hn hcp w hk).mono fun ex w' h => by
    obtain ⟨⟨lo, lc, L, err, vals, h1, h2, h3, h4, h5⟩, g⟩ := h
    exact ⟨⟨lo, lc, L, err, h1, h2, (h4.vsf h5).vs, h3⟩, g⟩

end Go.Proofs.Ytmmkmakajolfhab
