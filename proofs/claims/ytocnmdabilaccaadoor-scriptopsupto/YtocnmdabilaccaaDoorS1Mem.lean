/- Texts as the walk meets them. -/
import Derived.Test.YtocnmdabilaccaaDoorHBase
import Derived.Test.YtocnmdabilaccaaDoorS1Plain
import Derived.Laws.Concat
import Derived.Laws.IdiomStrings
import Derived.Laws.DeepStrings4
namespace Go.Proofs.YtocnmdabilaccaaDoor
open Go.RowKit
set_option linter.unusedVariables false

/-- A text of these bytes. -/
def Bs (l : List UInt8) : ByteArray := ByteArray.mk l.toArray
theorem Bs_mk (l : List UInt8) : ByteArray.mk l.toArray = Bs l := rfl
attribute [go_sem] Bs_mk
theorem Bs_size (l : List UInt8) : (Bs l).size = l.length := by simp [Bs, ByteArray.size]
attribute [go_sem] Bs_size
theorem Bs_app (x y : List UInt8) : Bs x ++ Bs y = Bs (x ++ y) := ByteArray.mk_append_mk x y
attribute [go_sem] Bs_app
theorem Bs_list (l : List UInt8) : (Bs l).toList = l := ByteArray.toList_mk l
attribute [go_sem] Bs_list
theorem Bs_cut (l : List UInt8) (a b : Nat) : (Bs l).extract a b = Bs ((l.drop a).take (b - a)) := ByteArray.extract_mk l a b
attribute [go_sem] Bs_cut
theorem Bs_get (l : List UInt8) (i : Nat) (h : i < (Bs l).size) (h' : i < l.length) : (Bs l)[i]'h = l[i]'h' := by
  simp [Bs, ByteArray.getElem_eq_getElem_data]
theorem Bs_inj {x y : List UInt8} (h : Bs x = Bs y) : x = y := by
  have := congrArg ByteArray.toList h
  rwa [Bs_list, Bs_list] at this
theorem Bs_all (s : ByteArray) : ∃ l, s = Bs l := by
  obtain ⟨⟨l⟩⟩ := s
  exact ⟨l, rfl⟩
end Go.Proofs.YtocnmdabilaccaaDoor
