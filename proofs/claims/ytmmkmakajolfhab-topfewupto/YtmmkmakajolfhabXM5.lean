/- Package model, whole; and the document's Of of layer 5. -/
import Derived.Test.YtmmkmakajolfhabPSt
import Derived.Test.YtmmkmakajolfhabPXm
import Derived.Test.YtmmkmakajolfhabXM4
import Derived.Test.YtmmkmakajolfhabXOf
import Derived.Test.YtmmkmakajolfhabXClimb
import Derived.Test.YtmmkmakajolfhabCFit
namespace Go.Proofs.Ytmmkmakajolfhab
open Go.RowKit
set_option linter.unusedVariables false

theorem lineof : LineOfC := fun eps ao n cp f p0 p1 hn w h => xof_any climb_any hullc eps ao n cp f p0 p1 hn w h

theorem modelc : ModelC where
  check k sl ic fr te h w := xcheck_any k sl ic fr te h.s1 h.i1 w
  guess k sl ic fr te q h q0 q1 w := xguess_any k sl ic fr te q h.k0 h.k1 h.s1 h.i1 q0 q1 w
  off k sl ic fr te ao n cp f h hn hcp w K := xoff_any k sl ic fr te h.k0 h.k1 h.s1 h.i1 h.f0 h.f1 h.t0 h.t1 ao n cp f (by omega) w K
  of eps fr ao n cp f p0 p1 q0 q1 hn hcp w K := xof7_any lineof eps fr ao n cp f p0 p1 q0 q1 hn w K

end Go.Proofs.Ytmmkmakajolfhab
