/- Package line and the document's own do what the statements of layer 5 ask of them. -/
import Derived.Test.YtncnoaofdflbmaaLC
import Derived.Test.YtncnoaofdflbmaaXOf
import Derived.Test.YtncnoaofdflbmaaXClimb
import Derived.Test.YtncnoaofdflbmaaCFit
import Derived.Test.YtncnoaofdflbmaaL5Down
namespace Go.Proofs.Ytncnoaofdflbmaa

theorem linec : LineC where
  of eps ao n cp f p0 p1 hn w h := xof_any climb_any hullc eps ao n cp f p0 p1 hn w h
  tell a b c d a0 a1 b0 b1 c0 c1 d0 d1 w := xat_any climb_any a b c d a0 a1 b0 b1 c0 c1 d0 d1 w
  fits a b c eps ao n cp f a0 a1 b0 b1 c0 c1 p0 p1 hn w h := xfits_any climb_any a b c eps ao n cp f a0 a1 b0 b1 c0 c1 p0 p1 hn w h

theorem down : DownC := down_any
theorem docc : DocC where
  of eps ao n cp f p0 p1 hn w h := of5_any down eps ao n cp f p0 p1 hn w h
  tell a b c d a0 a1 b0 b1 c0 c1 d0 d1 w := at5_any down a b c d a0 a1 b0 b1 c0 c1 d0 d1 w
  fits a b c eps ao n cp f a0 a1 b0 b1 c0 c1 p0 p1 hn w h := fits5_any down a b c eps ao n cp f a0 a1 b0 b1 c0 c1 p0 p1 hn w h

end Go.Proofs.Ytncnoaofdflbmaa
