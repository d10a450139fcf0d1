/- Package script: all that is asked of it. -/
import Derived.Test.YtocnmdabilaccaaDoorS2Parse
import Derived.Test.YtocnmdabilaccaaDoorS2Print
import Derived.Test.YtocnmdabilaccaaDoorS2Op
import Derived.Test.YtocnmdabilaccaaDoorS2Tell
import Derived.Test.YtocnmdabilaccaaDoorS1Law
namespace Go.Proofs.YtocnmdabilaccaaDoor
theorem scriptc : ScriptC := ⟨fun t w h => parse_any t w h, fun ao cp L w hl hn h T => print_any ao cp L w hl hn h T, fun c bo cp w hn h => op_any c bo cp w hn h, fun kind okey oval code is key value num ao cp l w hl h c0 c1 k0 k1 v0 v1 n0 n1 T => tell_any kind okey oval code is key value num ao cp l w hl h c0 c1 k0 k1 v0 v1 n0 n1 T⟩
end Go.Proofs.YtocnmdabilaccaaDoor
