/- Layer 13's statements' own: same, rising, copied, asWere. -/
import Derived.Test.YtkofbjdgidaieaaGEnt
import Derived.Test.YtkofbjdgidaieaaHStep
import Derived.Test.YtkofbjdgidaieaaHRise
import Derived.Test.YtkofbjdgidaieaaE3Make
import Derived.Test.YtkofbjdgidaieaaHGrow
import Derived.Laws.StructEq
import Derived.Deep.QuietTactic
import Derived.BigQuiet
namespace Go.Proofs.Ytkofbjdgidaieaa
open Go.RowKit
set_option linter.unusedVariables false

theorem rise_up {l : List Ent} : Rise Ent.k l ↔ Up (fun i => (l.getD i ent0).k) l.length := by
  constructor
  · intro h i hi
    have := (List.pairwise_iff_getElem.1 h) i (i + 1) (by omega) hi (by omega)
    have e1 : l.getD i ent0 = l[i] := by simp [List.getD, show i < l.length by omega]
    have e2 : l.getD (i + 1) ent0 = l[i + 1] := by simp [List.getD, hi]
    show (l.getD i ent0).k < (l.getD (i + 1) ent0).k
    rw [e1, e2]
    exact this
  · intro u
    refine List.pairwise_iff_getElem.2 fun i j hi hj hij => ?_
    have this : (l.getD i ent0).k < (l.getD j ent0).k := u.lt hij hj
    have e1 : l.getD i ent0 = l[i] := by simp [List.getD, hi]
    have e2 : l.getD j ent0 = l[j] := by simp [List.getD, hj]
    rw [e1, e2] at this
    exact this
end Go.Proofs.Ytkofbjdgidaieaa
