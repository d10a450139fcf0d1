/- The document's At, over what its 'down' does. -/
import Derived.Deep.CondSized
import Derived.Deep.DeepCutAuto
import Derived.Deep.RegionWith
import Derived.Test.YtcboobmfnmgldaaGreatBPBs
set_option linter.unusedVariables false
open Go.Proofs.Tryz
namespace Go.Proofs.YtcboobmfnmgldaaGreat
open Go.RowKit
def aeT:Prop:=∀ (a b c d:Int),0<=a->a<18446744073709551616->0<b->b<18446744073709551616->0<=d->d<18446744073709551616->∀ w:World,
  Calls prog 133 #[.agg #[By a,By b,AI c],By d] w fun ex w'=>ex=.returned (.tuple #[AI (if 2305843009213693952<a*d/b then 0 else a*d/b),.bool (!decide (2305843009213693952<a*d/b))])/\Gw w w'
end Go.Proofs.YtcboobmfnmgldaaGreat
