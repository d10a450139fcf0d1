/- What comes in, opened: a list of keys. What the statements of layer 5 ask of package line and of the document's own, as two structures; and their example. -/
import Derived.Test.YtncnoaofdflbmabHBase
import Derived.ProofKit
import Derived.OpenShut
import Derived.Deep.Slices
import Derived.Deep.Strs
import Derived.SizedLaws
import Derived.Test.YtncnoaofdflbmabL5Of
import Derived.Test.YtncnoaofdflbmabHC
namespace Go.Proofs.Ytncnoaofdflbmab
open Go.ChangeShapes Go.WideShapes Go.ChangeAt Go.RowKit
set_option linter.unusedVariables false

theorem spot_none {w : World} {a : Addr} {v : Value} (h : w.cell? a = some v) : a = ⟨a.block, a.off, none⟩ := by
  obtain ⟨b, o, s⟩ := a
  cases s with
  | none => rfl
  | some s => unfold World.cell? at h; split at h <;> simp at h

theorem u64_wf {x : Int} (h : (Lit.int .u64 x).wf = true) : 0 ≤ x ∧ x < 18446744073709551616 := by
  simp [Lit.wf, IntKind.min, IntKind.max, IntKind.signed, IntKind.bits] at h
  exact ⟨by omega, by omega⟩

theorem cells_k : Try.prog.cellsOf 24 = 1 := by kernel_rfl

theorem open_keys {H : Type} {enc : TypeId × Value → H} {W : World} {ao : Option Addr} {n c : Nat} {d : DataW H} {p : List MemPlace} (h : DataW.Trod enc Try.prog W 0 (fun _ => true) true 22 (.slice ao n c) d p) :
    ∃ f, KS W ao n f ∧ (ao = none → n = 0 ∧ c = 0) ∧ n ≤ c ∧ ((d = .nil ∧ n = 0) ∨ ∃ es sp, d = .slice es sp ∧ es.length + sp.length = c) := by
  obtain ⟨fuel, hf⟩ := h
  rcases open_ints Try.underlying22 Try.underlying24 cells_k hf with ⟨hcs, hx⟩ | ⟨a, len', cap', zs, hcs, _, hl, hmx, hz, hx, hcell, hwz⟩
  · simp [Value.cells] at hcs
    obtain ⟨rfl, rfl, rfl⟩ := hcs
    simp only [Prod.mk.injEq] at hx
    exact ⟨fun _ => 0, ⟨fun h0 => by omega, fun i hi => by omega⟩, fun _ => ⟨rfl, rfl⟩, Nat.le_refl _, .inl ⟨hx.1, rfl⟩⟩
  · simp [Value.cells] at hcs
    obtain ⟨rfl, rfl, rfl⟩ := hcs
    simp only [Prod.mk.injEq] at hx
    simp only [if_true] at hz
    refine ⟨fun i => zs.getD i 0, ⟨fun h0 => ?_, fun i hi => ?_⟩, (fun e => by cases e), hl, .inr ⟨_, _, hx.1, by simp [lits]; omega⟩⟩
    · have c0 := hcell 0 (by omega)
      have e0 : a.add 0 = a := by simp [Addr.add]
      rw [e0] at c0
      have ea := spot_none c0
      refine ⟨a.block, a.off, by rw [← ea], World.block_lt_of_cell? _ _ c0, fun i hi => ?_⟩
      have := hcell i (by omega)
      rw [ea, Addr.add_lit] at this
      exact this
    · have hi' : i < zs.length := by omega
      have := u64_wf (hwz zs[i] (List.getElem_mem hi'))
      simpa [List.getD, hi'] using this

end Go.Proofs.Ytncnoaofdflbmab

namespace Go.Proofs.Ytncnoaofdflbmab
open Go.RowKit
set_option linter.unusedVariables false

/-- Package line. -/
structure LineC : Prop where
  of : ∀ (eps : Int) (ao : Option Addr) (n cp : Nat) (f : Nat → Int), -9223372036854775808 ≤ eps → eps < 9223372036854775808 → n ≤ 2000000 → ∀ w : World, KS w ao n f → Calls Try.prog 5 #[.slice ao n cp, .int .i64 eps] w fun ex w' => OfOut ex eps f n ∧ Gw w w'
  tell : ∀ (a b c d : Int), 0 ≤ a → a < 18446744073709551616 → 0 ≤ b → b < 18446744073709551616 → -9223372036854775808 ≤ c → c < 9223372036854775808 → 0 ≤ d → d < 18446744073709551616 → ∀ w : World, Calls Try.prog 9 #[.agg #[.int .u64 a, .int .u64 b, .int .i64 c], .int .u64 d] w fun ex w' => (∃ r err : Int, ex = .returned (.tuple #[.int .i64 r, .int .i64 err]) ∧ AtR a b c d r err) ∧ Gw w w'
  fits : ∀ (a b c eps : Int) (ao : Option Addr) (n cp : Nat) (f : Nat → Int), 0 ≤ a → a < 18446744073709551616 → 0 ≤ b → b < 18446744073709551616 → -9223372036854775808 ≤ c → c < 9223372036854775808 → -9223372036854775808 ≤ eps → eps < 9223372036854775808 → n * 8 ≤ 140737488351232 → ∀ w : World, KS w ao n f → Calls Try.prog 7 #[.agg #[.int .u64 a, .int .u64 b, .int .i64 c], .slice ao n cp, .int .i64 eps] w fun ex w' => Tells ex (FitR eps f n a b c) ∧ Gw w w'

/-- The document's own. -/
structure DocC : Prop where
  of : ∀ (eps : Int) (ao : Option Addr) (n cp : Nat) (f : Nat → Int), -9223372036854775808 ≤ eps → eps < 9223372036854775808 → n ≤ 2000000 → ∀ w : World, KS w ao n f → Calls Try.prog 6 #[.slice ao n cp, .int .i64 eps] w fun ex w' => OfOut ex eps f n ∧ Gw w w'

theorem lin_base : BaseR 1 lin 5 1 20 1 := by
  refine ⟨fun i hi => ?_, 4, by decide, by decide⟩
  have := lin_diff 0 i
  omega
theorem lin_of : OfR 2 lin 5 1 20 1 0 := .inr (.inr (.inr ⟨by omega, ⟨by decide, lin_up 5⟩, lin_fits 5, lin_low, lin_base, rfl⟩))
theorem lin_fit : FitR 2 lin 5 1 20 1 := by
  refine ⟨by omega, by decide, lin_up 5, fun i hi => ?_⟩
  have := lin_diff 0 i
  refine ⟨fun q => ?_, by omega, by omega⟩
  rcases q with q | q | q | q <;> omega
theorem ks_lin (w : World) : KS (w.alloc (.cells #[.int .u64 10, .int .u64 20, .int .u64 30, .int .u64 40, .int .u64 50] 24)) (some ⟨w.heap.size, 0, none⟩) 5 lin := by
  refine ⟨fun _ => ⟨w.heap.size, 0, rfl, by simp, fun i hi => ?_⟩, fun i hi => by unfold lin; omega⟩
  match i, hi with
  | 0, _ => simp [go_sem, lin]
  | 1, _ => simp [go_sem, lin]
  | 2, _ => simp [go_sem, lin]
  | 3, _ => simp [go_sem, lin]
  | 4, _ => simp [go_sem, lin]

set_option maxRecDepth 10000 in
set_option maxHeartbeats 4000000 in
theorem xshown (LL : LineC) (w : World) : Calls Try.prog 4 #[] w fun e w' => e = .returned (.bool true) ∧ Gw w w' := by
  have O : Hid (∀ w : World, Calls Try.prog 5 #[.slice (some ⟨w.heap.size, 0, none⟩) 5 5, .int .i64 2] (w.alloc (.cells #[.int .u64 10, .int .u64 20, .int .u64 30, .int .u64 40, .int .u64 50] 24)) fun ex w' => ex = .returned (.tuple #[.agg #[.int .u64 1, .int .u64 20, .int .i64 1], .int .i64 0]) ∧ Gw w w') := fun w => by
    refine (LL.of 2 _ 5 5 lin (by decide) (by decide) (by decide) _ (ks_lin w)).mono ?_
    rintro e w' ⟨⟨a, b, c, err, rfl, h, _⟩, g⟩
    obtain ⟨⟨rfl, rfl, rfl⟩, rfl⟩ := h.one lin_of
    exact ⟨rfl, ((Gw.refl w).alloc _ _).trans g⟩
  have A : Hid (∀ w : World, Calls Try.prog 9 #[.agg #[.int .u64 1, .int .u64 20, .int .i64 1], .int .u64 40] w fun ex w' => ex = .returned (.tuple #[.int .i64 3, .int .i64 0]) ∧ Gw w w') := fun w => by
    refine (LL.tell 1 20 1 40 (by decide) (by decide) (by decide) (by decide) (by decide) (by decide) (by decide) (by decide) w).mono ?_
    rintro e w' ⟨⟨r, err, rfl, h⟩, g⟩
    have k : AtR 1 20 1 40 3 0 := .inr ⟨fun q => by rcases q with q | q | q | q <;> omega, by decide, rfl⟩
    obtain ⟨rfl, rfl⟩ := h.one k
    exact ⟨rfl, g⟩
  have F : Hid (∀ w : World, Calls Try.prog 7 #[.agg #[.int .u64 1, .int .u64 20, .int .i64 1], .slice (some ⟨w.heap.size, 0, none⟩) 5 5, .int .i64 2] (w.alloc (.cells #[.int .u64 10, .int .u64 20, .int .u64 30, .int .u64 40, .int .u64 50] 24)) fun ex w' => ex = .returned (.bool true) ∧ Gw w w') := fun w => by
    refine (LL.fits 1 20 1 2 _ 5 5 lin (by decide) (by decide) (by decide) (by decide) (by decide) (by decide) (by decide) (by decide) (by decide) _ (ks_lin w)).mono ?_
    rintro e w' ⟨⟨r, rfl, h⟩, g⟩
    obtain rfl := h.2 lin_fit
    exact ⟨rfl, ((Gw.refl w).alloc _ _).trans g⟩
  clear LL
  go_enter Try.func4, Try.ntmps4
  go_wp2_with fail
  refine (O.out _).mono ?_
  rintro e w1 ⟨rfl, g1⟩
  have G1 : Hid (Gw w w1) := g1
  clear g1
  go_wp2_with fail
  refine (A.out _).mono ?_
  rintro e w2 ⟨rfl, g2⟩
  have G2 : Hid (Gw (w1.alloc (.cells #[.int .u64 1, .int .u64 20, .int .i64 1] 26)) w2) := g2
  clear g2
  go_wp2_with fail
  refine (F.out _).mono ?_
  rintro e w3 ⟨rfl, g3⟩
  have G3 : Hid (Gw (w1.alloc (.cells #[.int .u64 1, .int .u64 20, .int .i64 1] 26)) w3) := G2.out.trans g3
  have L1 : Aside (Ln w3 w1.heap.size 1 20 1) := Ln.gw (heap_alloc_new w1 _) G3.out
  have c0 := L1.out.c0
  have c1 := L1.out.c1
  have c2 := L1.out.c2
  have G : Hid (Gw w w3) := (G1.out.alloc _ _).trans G3.out
  clear g3 G3 G2 G1
  go_wp2_with fail
  go_ret
  exact ⟨rfl, G.out⟩

end Go.Proofs.Ytncnoaofdflbmab
