/- The document's own sums, differences and comparisons. -/
import Derived.Test.YtncnoaofdflbmabNRef
import Derived.Deep.DrawnRows
namespace Go.Proofs.Ytncnoaofdflbmab
open Go.RowKit
set_option linter.unusedVariables false

attribute [local go_sem] frozen?_alloc_cells frozen?_new

theorem below_dg (x : Int) : 32768 ≤ dg x 7 ↔ sv x < 0 := by rw [sv_eq]; unfold dg; omega

set_option maxRecDepth 10000 in
theorem below_any (x : Int) (w : World) :
    Calls Try.prog 44 #[.agg #[.int .i64 (dg (x) 0), .int .i64 (dg (x) 1), .int .i64 (dg (x) 2), .int .i64 (dg (x) 3), .int .i64 (dg (x) 4), .int .i64 (dg (x) 5), .int .i64 (dg (x) 6), .int .i64 (dg (x) 7)]] w fun e w' => e = .returned (.bool (decide (32768 ≤ dg x 7))) ∧ Gk 1 w w' := by
  go_enter Try.func44, Try.ntmps44
  go_wp2
  go_ret
  exact ⟨rfl, (Gb.refl _).alloc _ _, by simp⟩

/-- A variable of eight digits. -/
structure H8 (w : World) (b : Nat) (x : Int) : Prop where
  lt : b < w.heap.size
  c : ∀ k, k < 8 → w.cell? ⟨b, k, none⟩ = some (.int .i64 (dg x k))
theorem H8.gb {w w' : World} {b : Nat} {x : Int} (h : H8 w b x) (g : Gb w w') : H8 w' b x :=
  ⟨Nat.lt_of_lt_of_le h.lt g.size, fun k hk => (g.cell b k h.lt).trans (h.c k hk)⟩
theorem H8.alloc {w : World} {b : Nat} {x : Int} (h : H8 w b x) (c : Array Value) (t : TypeId) : H8 (w.alloc (.cells c t)) b x :=
  h.gb ((Gb.refl w).alloc c t)
theorem lt8 (k : Nat) (h : k < 8) : k = 0 ∨ k = 1 ∨ k = 2 ∨ k = 3 ∨ k = 4 ∨ k = 5 ∨ k = 6 ∨ k = 7 := by omega
theorem H8.new (w : World) (x : Int) (t : TypeId) : H8 (w.alloc (.cells #[.int .i64 (dg x 0), .int .i64 (dg x 1), .int .i64 (dg x 2), .int .i64 (dg x 3), .int .i64 (dg x 4), .int .i64 (dg x 5), .int .i64 (dg x 6), .int .i64 (dg x 7)] t)) w.heap.size x :=
  ⟨by simp, fun k hk => by rcases lt8 k hk with rfl | rfl | rfl | rfl | rfl | rfl | rfl | rfl <;> simp [go_sem]⟩

/-- The digits from k on are the same: so is what they make. -/
def same (x y : Int) (k : Nat) : Prop := ∀ j, k ≤ j → j < 8 → dg x j = dg y j
theorem cmp_lt (x y : Int) (k : Nat) (hk : k < 8) (h : same x y (k + 1)) (hb : (sv x < 0 ↔ sv y < 0)) (hl : dg x k < dg y k) : sv x < sv y := by
  have s7 := h 7; have s6 := h 6; have s5 := h 5; have s4 := h 4; have s3 := h 3; have s2 := h 2; have s1 := h 1
  rw [sv_eq, sv_eq] at *
  rcases lt8 k hk with rfl | rfl | rfl | rfl | rfl | rfl | rfl | rfl <;> simp at * <;> unfold dg at * <;> omega
theorem cmp_eq (x y : Int) (h : same x y 0) : sv x = sv y := by
  have s7 := h 7; have s6 := h 6; have s5 := h 5; have s4 := h 4; have s3 := h 3; have s2 := h 2; have s1 := h 1; have s0 := h 0
  rw [sv_eq, sv_eq]
  simp at *
  unfold dg at *; omega

end Go.Proofs.Ytncnoaofdflbmab
