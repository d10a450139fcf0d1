/- How far keys rise: package keys' generic function at keys (over layer 4's words). Package line's Fits, over what its 'climb' does. -/
import Derived.Test.YtdikiaeagcokdaaGreatPBs
import Derived.Deep.LoopGhost
import Derived.Deep.QuietTactic
import Derived.BigQuiet
import Derived.Test.YtdikiaeagcokdaaGreatXBase
import Derived.Test.YtdikiaeagcokdaaGreatPLn
import Derived.Test.YtdikiaeagcokdaaGreatPY1
namespace Go.Proofs.YtdikiaeagcokdaaGreat
open Go.RowKit Go.Shelf
set_option linter.unusedVariables false

attribute [local go_sem] Oper.semAt_some

set_option maxHeartbeats 1000000 in
theorem xstretch_any (ao : Option Addr) (n c : Nat) (f : Nat → Int) (hn : n < 4611686018427387904) (w : World) (h : KS w ao n f) :
    Calls Tryz.prog 114 #[.slice ao n c] w fun e w' => (∃ r : Bool, e = .returned (.bool r) ∧ (r = true ↔ 0 < n ∧ Up f n)) ∧ Gw w w' := by
  have R : Hid _ := fun w h => rising_any ao n c f hn w h
  have H : Hid (KS w ao n f) := h
  clear h
  by_cases h0 : 0 < n
  · have t0 : decide (0 < (n : Int)) = true := by simp; omega
    have t1 : (0 : Int) < (n : Int) := by omega
    go_enter Tryz.func114, Tryz.ntmps114
    go_wp2_with fail
    refine (R.out _ H.out).mono ?_
    rintro e w1 ⟨⟨r, rfl, hr⟩, g1⟩
    have HR : Hid (r = true ↔ Up f n) := hr
    clear hr
    go_wp2_with fail
    go_ret
    exact ⟨⟨r, rfl, by rw [HR.out]; exact ⟨fun q => ⟨h0, q⟩, fun q => q.2⟩⟩, g1⟩
  · have e0 : n = 0 := by omega
    subst e0
    go_enter Tryz.func114, Tryz.ntmps114
    go_wp2_with fail
    go_ret
    exact ⟨⟨false, rfl, by simp⟩, Gw.refl w⟩

/-- A key that the line is near to. -/
def NearAt (e : Int) (f : Nat → Int) (a b c : Int) (i : Nat) : Prop := ¬ AtBad a b c (f i - f 0) ∧ (i : Int) - e ≤ a * (f i - f 0) / b + c ∧ a * (f i - f 0) / b + c ≤ (i : Int) + e

/-- The variables of the walk. -/
structure FVars (w : World) (N M : Nat) (a b c e : Int) (z : Bool) (W : World) : Prop where
  gw : Gw w W
  bl : W.heap[N]? = some (.cells #[.int .u64 a, .int .u64 b, .int .i64 c] 124 (0, 0))
  br : W.heap[N + 1]? = some (.cells #[.bool z] 4 (0, 0))
  be : W.heap[M]? = some (.cells #[.int .i64 e] 3 (0, 0))
  bs : M + 1 < W.heap.size
theorem FVars.grown {w W W' : World} {N M : Nat} {a b c e : Int} {z : Bool} (h : FVars w N M a b c e z W) {row : Option Nat} (g : W.grownBy W' row) (hr : ∀ r, row = some r → M < r) (hN : w.heap.size = N) (hM : N + 1 < M) : FVars w N M a b c e z W' :=
  ⟨h.gw.grown g (fun k hk => by have := hr k hk; omega), (g.block _ (lt_of_blk h.bl) (fun q => by have := hr _ q.symm; omega)).trans h.bl, (g.block _ (lt_of_blk h.br) (fun q => by have := hr _ q.symm; omega)).trans h.br, (g.block _ (lt_of_blk h.be) (fun q => by have := hr _ q.symm; omega)).trans h.be, Nat.lt_of_lt_of_le h.bs g.size⟩
theorem FVars.go {w W W' : World} {N M : Nat} {a b c e : Int} {z : Bool} (h : FVars w N M a b c e z W) (g : Gw W W') : FVars w N M a b c e z W' :=
  ⟨h.gw.trans g, (g.below.block _ (lt_of_blk h.bl)).trans h.bl, (g.below.block _ (lt_of_blk h.br)).trans h.br, (g.below.block _ (lt_of_blk h.be)).trans h.be, Nat.lt_of_lt_of_le h.bs g.size⟩
theorem FVars.set {w W : World} {N M : Nat} {a b c e : Int} {z : Bool} (h : FVars w N M a b c e z W) (hN : w.heap.size = N) (hM : N + 1 < M) (z' : Bool) : FVars w N M a b c e z' (W.setCell ⟨N + 1, 0, none⟩ (.bool z')) :=
  ⟨h.gw.setCell (by simp; omega) _, (Go.Deep.blk_setCell_other _ _ _ _ (by simp)).trans h.bl, by have := h.br; simp [World.setCell, Array.getElem?_modify, this], (Go.Deep.blk_setCell_other _ _ _ _ (by simp; omega)).trans h.be, by have := h.bs; simpa [World.setCell] using this⟩


end Go.Proofs.YtdikiaeagcokdaaGreat
