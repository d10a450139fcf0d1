import Derived.Test.YtaemofgeciklkaaGreatEGLaw
import Derived.Test.YtaemofgeciklkaaGreatEGRef2
set_option linter.unusedVariables false
namespace Go.Proofs.YtaemofgeciklkaaGreat
open Go.RowKit
def aW (p:Int->Bool) (e:ah):Bool:=!e.g||p e.k
variable {L:List (List ah)}
theorem Mg.oks {o:List ah} (h:Mg ah.k L o) (ok:∀ l∈L,∀ e∈l,e.ok):∀ e∈o,e.ok:=by
 induction h using Mg.ind with
 | done _=>intro e he;cases he
 | @step ls x out e r ih =>
  obtain ⟨a,l,b,el,_,_⟩:=yF e;intro y hy;rcases qaf.1 hy with rfl | q
  ·exact ok (y::l) (by rw [el];simp) y (qat ..)
  ·refine ih (fun l' dw z hz=>?_) y q
   obtain ⟨l0,PG,rfl⟩:=qaA.1 dw;exact ok l0 PG z (Qu hz)
theorem EV.oks {w:World} {ao:Option Addr} (h:EV w ao L):∀ l∈L,∀ e∈l,e.ok:=by
 intro l hl;obtain ⟨i,hi,rfl⟩:=List.mem_iff_getElem.1 hl;obtain ⟨_,_,_,_,hc⟩:=h.cells ω;obtain ⟨bo,c,_,_,h3,_⟩:=hc i hi;have e:L.getD i []=L[i]:=by simp [List.getD,hi]
 rw [e] at h3;exact h3.all
theorem Rg {i:Nat} (hi:i<L.length):(L.getD i []).length<=aN L:=by
 have e:L.getD i []=L[i]:=by simp [List.getD,hi]
 rw [e];have:∀ (L:List (List ah)) (l:List ah),l∈L->l.length<=aN L:=by
  intro L;induction L with
  | nil=>intro l hl;cases hl
  | cons a L ih =>
   intro l hl;rw [jb];rcases qaf.1 hl with rfl | q
   ·omega
   ·have:=ih l q;omega
 exact this _ _ (qaz hi)
