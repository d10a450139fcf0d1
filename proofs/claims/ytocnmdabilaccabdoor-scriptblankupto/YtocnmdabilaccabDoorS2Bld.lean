/- A strings.Builder of a call's own, over what walks keep. -/
import Derived.Test.YtocnmdabilaccabDoorShelf
import Derived.Test.YtocnmdabilaccabDoorS1Byte
import Derived.Test.YtocnmdabilaccabDoorS1Cmd
namespace Go.Proofs.YtocnmdabilaccabDoor
open Go.RowKit
set_option linter.unusedVariables false

theorem Gw.low {w a b : World} {B : Nat} (h : Gw w a) (k : Below B a b) (e : w.heap.size ≤ B) : Gw w b := ⟨h.below.trans (k.mono e)⟩
/-- A builder that holds these bytes. -/
def BB (w : World) (base b : Nat) (S : List UInt8) : Prop := Lib.IsBuilder 55 5 base b (bcs S) w
theorem bld_at_gw {T e : TypeId} {B b : Nat} {p : Value} {bs : List Value} {w w' : World} (h : Lib.BuilderAt T e B b p bs w) (g : Gw w w') : Lib.BuilderAt T e B b p bs w' := by
  obtain ⟨h1, v, h2, h3, h4⟩ := h
  exact ⟨h1, v, (g.below.block b (blkl h2)).trans h2, own_gw h3 g, h4⟩
theorem BB.gw {w w' : World} {base b : Nat} {S : List UInt8} (h : BB w base b S) (g : Gw w w') : BB w' base b S := by
  rcases h with h | h
  · exact .inl (bld_at_gw h g)
  · exact .inr (bld_at_gw h g)
theorem BB.new (w : World) : BB (w.alloc (.cells #[.pointer none, .slice none 0 0] 55)) w.heap.size w.heap.size [] :=
  .inl ⟨Nat.le_refl _, _, heap_alloc_new w _, World.ownsRow_nil _ _ _ _, by simp [Value.ownBlock]⟩
theorem bcs_bytes (l : List UInt8) : Lib.byteCells l = bcs l := rfl
theorem write_any (base b : Nat) (S t : List UInt8) (w : World) (h : BB w base b S) (hl : S.length + t.length ≤ 140737488355328) (hb : base ≤ w.heap.size) :
    Calls Tryd.prog 16 #[.pointer (some ⟨b, 0, none⟩), .string (Bs t)] w fun e w' => e = .returned (.tuple #[.int .i64 (t.length : Int), .nilIface]) ∧ BB w' base b (S ++ t) ∧ Below base w w' := by
  have c : Calls Tryd.prog 16 #[.pointer (some ⟨b, 0, none⟩), .string (Bs t)] w _ := Any.Builder_WriteString { Tryd.lays156 with } Tryd.Builder_Extra_156 base b (bcs S) (Bs t) w h (by rw [Bs_size]; simpa [bcs] using hl) hb
  refine c.mono ?_
  rintro e w' ⟨rfl, h1, h2⟩
  refine ⟨by rw [Bs_size], ?_, h2⟩
  have e2 : bcs (S ++ t) = bcs S ++ Lib.strCells (Bs t) := by rw [bcs_str]; simp [bcs]
  show Lib.IsBuilder _ _ _ _ (bcs (S ++ t)) _
  rw [e2]
  exact .inr h1
theorem string_any (base b : Nat) (S : List UInt8) (w : World) (h : BB w base b S) (hb : base ≤ w.heap.size) :
    Calls Tryd.prog 19 #[.pointer (some ⟨b, 0, none⟩)] w fun e w' => e = .returned (.string (Bs S)) ∧ Below base w w' :=
  Tryd.Builder_String_any base b S w h hb
theorem len_any (base b : Nat) (S : List UInt8) (w : World) (h : BB w base b S) :
    Calls Tryd.prog 18 #[.pointer (some ⟨b, 0, none⟩)] w fun e w' => e = .returned (.int .i64 (S.length : Int)) ∧ w' = w := by
  have c := Tryd.Builder_Len base b (bcs S) w h
  have : (bcs S).length = S.length := by simp [bcs]
  rw [this] at c
  exact c
end Go.Proofs.YtocnmdabilaccabDoor
