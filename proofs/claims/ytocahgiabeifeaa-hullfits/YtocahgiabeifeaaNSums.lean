/- The document's own sums, differences and comparisons. -/
import Derived.Test.YtocahgiabeifeaaNRef
import Derived.Deep.DrawnRows
namespace Go.Proofs.Ytocahgiabeifeaa
open Go.RowKit
set_option linter.unusedVariables false

attribute [local go_sem] frozen?_alloc_cells frozen?_new

set_option maxRecDepth 10000 in
set_option maxHeartbeats 4000000 in
theorem rsub_any (x y : Int) (w : World) :
    Calls Try.prog 35 #[.agg #[.int .i64 (hiv (x)), .int .u64 (lov (x))], .agg #[.int .i64 (hiv (y)), .int .u64 (lov (y))]] w fun e w' => e = .returned (.agg #[.int .i64 (hiv (x + -y)), .int .u64 (lov (x + -y))]) ∧ Gb w w' := by
  have HK : Hid (∀ w', Gb ((w.alloc (.cells #[.int .i64 (hiv x), .int .u64 (lov x)] 74)).alloc (.cells #[.int .i64 (hiv y), .int .u64 (lov y)] 74)) w' → Gb ((w.alloc (.cells #[.int .i64 (hiv x), .int .u64 (lov x)] 74)).alloc (.cells #[.int .i64 (hiv y), .int .u64 (lov y)] 74)) w' ∧ w'.cell? ⟨w.heap.size, 0, none⟩ = some (.int .i64 (hiv x)) ∧ w'.cell? ⟨w.heap.size, 1, none⟩ = some (.int .u64 (lov x)) ∧ w'.cell? ⟨w.heap.size + 1, 0, none⟩ = some (.int .i64 (hiv y)) ∧ w'.cell? ⟨w.heap.size + 1, 1, none⟩ = some (.int .u64 (lov y))) := by
    intro w' g
    refine ⟨g, ?_, ?_, ?_, ?_⟩
    all_goals (rw [g.cell _ _ (by first | (simp; done) | (simp; omega))]; simp [go_sem])
  have hR : ((w.alloc (.cells #[.int .i64 (hiv x), .int .u64 (lov x)] 74)).alloc (.cells #[.int .i64 (hiv y), .int .u64 (lov y)] 74)).heap.size ≤ w.heap.size + 1 + 1 := by simp
  go_enter Try.func35, Try.ntmps35
  go_wp2_with fail
  go_region_held3 (fun w' => Gb ((w.alloc (.cells #[.int .i64 (hiv x), .int .u64 (lov x)] 74)).alloc (.cells #[.int .i64 (hiv y), .int .u64 (lov y)] 74)) w' ∧ w'.cell? ⟨w.heap.size, 0, none⟩ = some (.int .i64 (hiv x)) ∧ w'.cell? ⟨w.heap.size, 1, none⟩ = some (.int .u64 (lov x)) ∧ w'.cell? ⟨w.heap.size + 1, 0, none⟩ = some (.int .i64 (hiv y)) ∧ w'.cell? ⟨w.heap.size + 1, 1, none⟩ = some (.int .u64 (lov y))) ((refine HK.out _ ?_; (repeat (first | exact Gb.refl _ | exact And.left (by assumption) | refine Gb.drew ?_ | refine Gb.setCell ?_ hR _ | refine Gb.trans ?_ (Gk.gb (by assumption)) | refine Gb.alloc ?_ _ _)); done))
    (first
      | (go_at_call 44; refine (rof_any _ _).mono ?_; rintro e w4 ⟨rfl, g4⟩; obtain ⟨k4, f4, _⟩ := g4.facts; have h4 : w.heap.size + 1 + 1 < w4.heap.size := (by have h9 := g4.gb.size; first | omega | (simp at h9; omega)))
      | (go_at_call 45; refine (plus_any _ _ _).mono ?_; rintro e w4 ⟨rfl, g4⟩; obtain ⟨k4, f4, _⟩ := g4.facts; have h4 : w.heap.size + 1 + 1 < w4.heap.size := (by have h9 := g4.gb.size; first | omega | (simp at h9; omega)))
      | (go_at_call 46; refine (less_any _ _).mono ?_; rintro e w4 ⟨rfl, g4⟩; obtain ⟨k4, f4, _⟩ := g4.facts; have h4 : w.heap.size + 1 + 1 < w4.heap.size := (by have h9 := g4.gb.size; first | omega | (simp at h9; omega)))
      | (go_at_call 47; refine (told_any _ _).mono ?_; rintro e w4 ⟨rfl, g4⟩; obtain ⟨k4, f4, _⟩ := g4.facts; have h4 : w.heap.size + 1 + 1 < w4.heap.size := (by have h9 := g4.gb.size; first | omega | (simp at h9; omega))))
  go_wp2
  have G : Gb w _ := Gb.trans (b := ((w.alloc (.cells #[.int .i64 (hiv x), .int .u64 (lov x)] 74)).alloc (.cells #[.int .i64 (hiv y), .int .u64 (lov y)] 74))) (by repeat (first | exact Gb.refl _ | refine Gb.alloc ?_ _ _)) (And.left (by assumption))
  refine bodyPost_ret (v := .agg #[.int .i64 (hiv (x + -y)), .int .u64 (lov (x + -y))]) (by simp [results, Try.results35, go_sem, *]) rfl ⟨rfl, G⟩

theorem below_dg (x : Int) : 32768 ≤ dg x 7 ↔ sv x < 0 := by rw [sv_eq]; unfold dg; omega

set_option maxRecDepth 10000 in
theorem below_any (x : Int) (w : World) :
    Calls Try.prog 50 #[.agg #[.int .i64 (dg (x) 0), .int .i64 (dg (x) 1), .int .i64 (dg (x) 2), .int .i64 (dg (x) 3), .int .i64 (dg (x) 4), .int .i64 (dg (x) 5), .int .i64 (dg (x) 6), .int .i64 (dg (x) 7)]] w fun e w' => e = .returned (.bool (decide (32768 ≤ dg x 7))) ∧ Gk 1 w w' := by
  go_enter Try.func50, Try.ntmps50
  go_wp2
  go_ret
  exact ⟨rfl, (Gb.refl _).alloc _ _, by simp⟩

/-- A variable of eight digits. -/
structure H8 (w : World) (b : Nat) (x : Int) : Prop where
  lt : b < w.heap.size
  c : ∀ k, k < 8 → w.cell? ⟨b, k, none⟩ = some (.int .i64 (dg x k))
theorem H8.gb {w w' : World} {b : Nat} {x : Int} (h : H8 w b x) (g : Gb w w') : H8 w' b x :=
  ⟨Nat.lt_of_lt_of_le h.lt g.size, fun k hk => (g.cell b k h.lt).trans (h.c k hk)⟩
theorem H8.alloc {w : World} {b : Nat} {x : Int} (h : H8 w b x) (c : Array Value) (t : TypeId) : H8 (w.alloc (.cells c t)) b x :=
  h.gb ((Gb.refl w).alloc c t)
theorem lt8 (k : Nat) (h : k < 8) : k = 0 ∨ k = 1 ∨ k = 2 ∨ k = 3 ∨ k = 4 ∨ k = 5 ∨ k = 6 ∨ k = 7 := by omega
theorem H8.new (w : World) (x : Int) (t : TypeId) : H8 (w.alloc (.cells #[.int .i64 (dg x 0), .int .i64 (dg x 1), .int .i64 (dg x 2), .int .i64 (dg x 3), .int .i64 (dg x 4), .int .i64 (dg x 5), .int .i64 (dg x 6), .int .i64 (dg x 7)] t)) w.heap.size x :=
  ⟨by simp, fun k hk => by rcases lt8 k hk with rfl | rfl | rfl | rfl | rfl | rfl | rfl | rfl <;> simp [go_sem]⟩

/-- The digits from k on are the same: so is what they make. -/
def same (x y : Int) (k : Nat) : Prop := ∀ j, k ≤ j → j < 8 → dg x j = dg y j
theorem cmp_lt (x y : Int) (k : Nat) (hk : k < 8) (h : same x y (k + 1)) (hb : (sv x < 0 ↔ sv y < 0)) (hl : dg x k < dg y k) : sv x < sv y := by
  have s7 := h 7; have s6 := h 6; have s5 := h 5; have s4 := h 4; have s3 := h 3; have s2 := h 2; have s1 := h 1
  rw [sv_eq, sv_eq] at *
  rcases lt8 k hk with rfl | rfl | rfl | rfl | rfl | rfl | rfl | rfl <;> simp at * <;> unfold dg at * <;> omega
theorem cmp_eq (x y : Int) (h : same x y 0) : sv x = sv y := by
  have s7 := h 7; have s6 := h 6; have s5 := h 5; have s4 := h 4; have s3 := h 3; have s2 := h 2; have s1 := h 1; have s0 := h 0
  rw [sv_eq, sv_eq]
  simp at *
  unfold dg at *; omega

end Go.Proofs.Ytocahgiabeifeaa
