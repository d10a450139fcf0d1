/- A region that draws its order and whose callees only make new memory is walked once, in the order of the text. -/
import Derived.Test.YtnnlffogfaiaeaaBase
import Derived.Deep.QuietTactic
import Derived.BigQuiet
namespace Go.Proofs.Ytnnlffogfaiaeaa
open Go.RowKit

/-- A world that has grown out of W. -/
def GW (W : World) : Type := { w' : World // Gb W w' }
theorem GW.cell {W : World} {b o : Nat} {v : Value} (h : W.cell? ⟨b, o, none⟩ = some v) (hb : b < W.heap.size) : ∀ g : GW W, g.1.cell? ⟨b, o, none⟩ = some v :=
  fun g => (g.2.cell b o hb).trans h

theorem GW.some (W : World) : Nonempty (GW W) := ⟨⟨W, Gb.refl W⟩⟩

theorem wp_region_grow {P : Program} {id : Nat} {Q : Exit → Act → World → Prop} {a : Act} {w : World} {l : List Oper} (hm : P.follows .mixedOrders = true) (hB : Region.lexB .any l.toArray = true)
    (h : wpQuiet P l.toArray (fun w' => ∃ g : GW w, w' = g.1) (fun a' => ∀ w', (∃ g : GW w, w' = g.1) → Q .normal a' w') l a) : (Code.region id l.toArray true).wp P Q a w :=
  wp_region_quiet (C := fun w' => ∃ g : GW w, w' = g.1) hm hB ⟨⟨_, (Gb.refl w).drew⟩, rfl⟩ (by simpa using h)

/-- A callee's contract, met in such a world. -/
theorem grow_of {P : Program} {f : FuncId} {args : Array Value} {W : World} {g : GW W} {v : Value}
    (h : Calls P f args g.1 fun e w' => e = .returned v ∧ Gb g.1 w') : Calls P f args g.1 fun e w'' => e = .returned v ∧ ∃ g' : GW W, w'' = g'.1 :=
  h.mono fun _ _ ⟨he, hm⟩ => ⟨he, ⟨_, g.2.trans hm⟩, rfl⟩
theorem grow_ofk {P : Program} {f : FuncId} {args : Array Value} {W : World} {g : GW W} {v : Value} {k : Nat}
    (h : Calls P f args g.1 fun e w' => e = .returned v ∧ Gk k g.1 w') : Calls P f args g.1 fun e w'' => e = .returned v ∧ ∃ g' : GW W, w'' = g'.1 :=
  grow_of (h.mono fun _ _ ⟨he, hm⟩ => ⟨he, hm.gb⟩)

theorem H2.drew {w : World} {b : Nat} {u v : Value} (h : H2 w b u v) : H2 w.drew b u v := ⟨h.lt, h.c0, h.c1⟩
theorem H2.set {w : World} {b : Nat} {u v u' v' : Value} (h : H2 w b u v) : H2 ((w.setCell ⟨b, 0, none⟩ u').setCell ⟨b, 1, none⟩ v') b u' v' := by
  refine ⟨by simpa [World.setCell] using h.lt, ?_, ?_⟩ <;> simp [go_sem, h.c0, h.c1]

/-! The calls of package wide, what comes in and what comes out under names of the caller's. -/
theorem add_z (h1 l1 h2 l2 x y z : Int) (e1 : h1 = hiv x) (e2 : l1 = lov x) (e3 : h2 = hiv y) (e4 : l2 = lov y) (ez : x + y = z) (w : World) :
    Calls Try.prog 14 #[.agg #[.int .i64 h1, .int .u64 l1], .agg #[.int .i64 h2, .int .u64 l2]] w fun e w' => e = .returned (.agg #[.int .i64 (hiv (z)), .int .u64 (lov (z))]) ∧ Gk 3 w w' := by
  subst e1 e2 e3 e4 ez; exact add_any x y w
theorem sub_z (h1 l1 h2 l2 x y z : Int) (e1 : h1 = hiv x) (e2 : l1 = lov x) (e3 : h2 = hiv y) (e4 : l2 = lov y) (ez : x - y = z) (w : World) :
    Calls Try.prog 16 #[.agg #[.int .i64 h1, .int .u64 l1], .agg #[.int .i64 h2, .int .u64 l2]] w fun e w' => e = .returned (.agg #[.int .i64 (hiv (z)), .int .u64 (lov (z))]) ∧ Gk 3 w w' := by
  subst e1 e2 e3 e4 ez; exact sub_any x y w
theorem neg_z (h1 l1 x z : Int) (e1 : h1 = hiv x) (e2 : l1 = lov x) (ez : -x = z) (w : World) :
    Calls Try.prog 18 #[.agg #[.int .i64 h1, .int .u64 l1]] w fun e w' => e = .returned (.agg #[.int .i64 (hiv (z)), .int .u64 (lov (z))]) ∧ Gk 5 w w' := by
  subst e1 e2 ez; exact neg_any x w
theorem times_z (a b z : Int) (h0 : -9223372036854775808 ≤ a) (h1 : a < 9223372036854775808) (b0 : 0 ≤ b) (b1 : b < 18446744073709551616) (ez : a * b = z) (w : World) :
    Calls Try.prog 12 #[.int .i64 a, .int .u64 b] w fun e w' => e = .returned (.agg #[.int .i64 (hiv (z)), .int .u64 (lov (z))]) ∧ Gk 1 w w' := by
  subst ez; exact times_any a b h0 h1 b0 b1 w
theorem of_z (n : Int) (h0 : -9223372036854775808 ≤ n) (h1 : n < 9223372036854775808) (w : World) :
    Calls Try.prog 10 #[.int .i64 n] w fun e w' => e = .returned (.agg #[.int .i64 (hiv (n)), .int .u64 (lov (n))]) ∧ Gk 1 w w' := of_any n h0 h1 w
theorem cmp_z (h1 l1 h2 l2 x y z : Int) (e1 : h1 = hiv x) (e2 : l1 = lov x) (e3 : h2 = hiv y) (e4 : l2 = lov y) (ez : cmpi (sv x) (sv y) = z) (w : World) :
    Calls Try.prog 20 #[.agg #[.int .i64 h1, .int .u64 l1], .agg #[.int .i64 h2, .int .u64 l2]] w fun e w' => e = .returned (.int .i64 z) ∧ Gk 2 w w' := by
  subst e1 e2 e3 e4 ez; exact cmp_any x y w
theorem hiv_zero : hiv 0 = 0 := by decide +kernel
theorem lov_zero : lov 0 = 0 := by decide +kernel

end Go.Proofs.Ytnnlffogfaiaeaa
