/- What comes in, opened: a list of keys. -/
import Derived.Deep.Slices
import Derived.Deep.Strs
import Derived.OpenShut
import Derived.ProofKit
import Derived.SizedLaws
import Derived.Test.YtpoohadckhphpaaGreatBPBs
set_option linter.unusedVariables false
namespace Go.Proofs.YtpoohadckhphpaaGreat
open Go.ChangeShapes Go.WideShapes Go.ChangeAt Go.RowKit
theorem spot_none {w:World} {a:Addr} {v:Value} (h:w.cell? a=some v):a=⟨a.block,a.off,none⟩:=by
 obtain ⟨b,o,s⟩:=a;cases s with
 | none=>rfl
 | some s=>unfold World.cell? at h;split at h<;>simp at h
end Go.Proofs.YtpoohadckhphpaaGreat
