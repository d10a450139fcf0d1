/- Package line and the document's own do what the statements of layer 5 ask of them. -/
import Derived.Test.YtncnoaofdflbmabLC
import Derived.Test.YtncnoaofdflbmabXOf
import Derived.Test.YtncnoaofdflbmabXClimb
import Derived.Test.YtncnoaofdflbmabCFit
import Derived.Test.YtncnoaofdflbmabL5Down
namespace Go.Proofs.Ytncnoaofdflbmab

theorem linec : LineC where
  of eps ao n cp f p0 p1 hn w h := xof_any climb_any hullc eps ao n cp f p0 p1 hn w h
  tell a b c d a0 a1 b0 b1 c0 c1 d0 d1 w := xat_any climb_any a b c d a0 a1 b0 b1 c0 c1 d0 d1 w
  fits a b c eps ao n cp f a0 a1 b0 b1 c0 c1 p0 p1 hn w h := xfits_any climb_any a b c eps ao n cp f a0 a1 b0 b1 c0 c1 p0 p1 hn w h

theorem down : DownC := down_any
theorem docc : DocC where
  of eps ao n cp f p0 p1 hn w h := of5_any down eps ao n cp f p0 p1 hn w h

end Go.Proofs.Ytncnoaofdflbmab
