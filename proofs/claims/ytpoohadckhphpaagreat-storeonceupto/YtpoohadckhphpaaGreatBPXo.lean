/- Package model: Of, over what package line tells. -/
import Derived.Deep.RegionWith
import Derived.Test.YtpoohadckhphpaaGreatBPCl
import Derived.Test.YtpoohadckhphpaaGreatBWDiv
import Derived.Test.YtpoohadckhphpaaGreatBXBase
set_option linter.unusedVariables false
namespace Go.Proofs.YtpoohadckhphpaaGreat
open Go.RowKit
attribute [local go_sem] run_store_float
end Go.Proofs.YtpoohadckhphpaaGreat
namespace Go.Proofs.YtpoohadckhphpaaGreat
open Go.RowKit
theorem modelc:ModelC where
 check k sl ic fr te h w:=xcheck_any k sl ic fr te h.s1 h.i1 w
 guess k sl ic fr te q h q0 q1 w:=xguess_any k sl ic fr te q h.k0 h.k1 h.s1 h.i1 q0 q1 w
 off k sl ic fr te ao n cp f h hn hcp w K:=xoff_any k sl ic fr te h.k0 h.k1 h.s1 h.i1 h.f0 h.f1 h.t0 h.t1 ao n cp f (by omega) w K
end Go.Proofs.YtpoohadckhphpaaGreat
