/- ScriptBack, ScriptAgain: the walks. -/
import Derived.Test.YtocnmdabilaccabDoorS1Shown
namespace Go.Proofs.YtocnmdabilaccabDoor
open Go.RowKit
set_option linter.unusedVariables false

theorem cd_nums {L : List Cd} (h : chk L = 0) : ∀ c ∈ L, c.nums.length ≤ 2000000 := fun c hc => by
  have h1 := chk_ok h c hc
  have h2 := takes_bd c.word
  omega
end Go.Proofs.YtocnmdabilaccabDoor
