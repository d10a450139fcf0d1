/- The document's own sum. -/
import Derived.Test.YtncnoaofdflbmabNSums
import Derived.Deep.DrawnRows
namespace Go.Proofs.Ytncnoaofdflbmab
open Go.RowKit
set_option linter.unusedVariables false

attribute [local go_sem] frozen?_alloc_cells frozen?_new

set_option maxRecDepth 10000 in
set_option maxHeartbeats 4000000 in
theorem radd_any (x y : Int) (w : World) :
    Calls Try.prog 30 #[.agg #[.int .i64 (hiv (x)), .int .u64 (lov (x))], .agg #[.int .i64 (hiv (y)), .int .u64 (lov (y))]] w fun e w' => e = .returned (.agg #[.int .i64 (hiv (x + y)), .int .u64 (lov (x + y))]) ∧ Gb w w' := by
  have HK : Hid (∀ w', Gb ((w.alloc (.cells #[.int .i64 (hiv x), .int .u64 (lov x)] 69)).alloc (.cells #[.int .i64 (hiv y), .int .u64 (lov y)] 69)) w' → Gb ((w.alloc (.cells #[.int .i64 (hiv x), .int .u64 (lov x)] 69)).alloc (.cells #[.int .i64 (hiv y), .int .u64 (lov y)] 69)) w' ∧ w'.cell? ⟨w.heap.size, 0, none⟩ = some (.int .i64 (hiv x)) ∧ w'.cell? ⟨w.heap.size, 1, none⟩ = some (.int .u64 (lov x)) ∧ w'.cell? ⟨w.heap.size + 1, 0, none⟩ = some (.int .i64 (hiv y)) ∧ w'.cell? ⟨w.heap.size + 1, 1, none⟩ = some (.int .u64 (lov y))) := by
    intro w' g
    refine ⟨g, ?_, ?_, ?_, ?_⟩
    all_goals (rw [g.cell _ _ (by first | (simp; done) | (simp; omega))]; simp [go_sem])
  have hR : ((w.alloc (.cells #[.int .i64 (hiv x), .int .u64 (lov x)] 69)).alloc (.cells #[.int .i64 (hiv y), .int .u64 (lov y)] 69)).heap.size ≤ w.heap.size + 1 + 1 := by simp
  go_enter Try.func30, Try.ntmps30
  go_wp2_with fail
  go_region_held3 (fun w' => Gb ((w.alloc (.cells #[.int .i64 (hiv x), .int .u64 (lov x)] 69)).alloc (.cells #[.int .i64 (hiv y), .int .u64 (lov y)] 69)) w' ∧ w'.cell? ⟨w.heap.size, 0, none⟩ = some (.int .i64 (hiv x)) ∧ w'.cell? ⟨w.heap.size, 1, none⟩ = some (.int .u64 (lov x)) ∧ w'.cell? ⟨w.heap.size + 1, 0, none⟩ = some (.int .i64 (hiv y)) ∧ w'.cell? ⟨w.heap.size + 1, 1, none⟩ = some (.int .u64 (lov y))) ((refine HK.out _ ?_; (repeat (first | exact Gb.refl _ | exact And.left (by assumption) | refine Gb.drew ?_ | refine Gb.setCell ?_ hR _ | refine Gb.trans ?_ (Gk.gb (by assumption)) | refine Gb.alloc ?_ _ _)); done))
    (first
      | (go_at_call 43; refine (rof_any _ _).mono ?_; rintro e w4 ⟨rfl, g4⟩; obtain ⟨k4, f4, _⟩ := g4.facts; have h4 : w.heap.size + 1 + 1 < w4.heap.size := (by have h9 := g4.gb.size; first | omega | (simp at h9; omega)))
      | (go_at_call 47; refine (plus_any _ _ _).mono ?_; rintro e w4 ⟨rfl, g4⟩; obtain ⟨k4, f4, _⟩ := g4.facts; have h4 : w.heap.size + 1 + 1 < w4.heap.size := (by have h9 := g4.gb.size; first | omega | (simp at h9; omega)))
      | (go_at_call 45; refine (less_any _ _).mono ?_; rintro e w4 ⟨rfl, g4⟩; obtain ⟨k4, f4, _⟩ := g4.facts; have h4 : w.heap.size + 1 + 1 < w4.heap.size := (by have h9 := g4.gb.size; first | omega | (simp at h9; omega)))
      | (go_at_call 46; refine (told_any _ _).mono ?_; rintro e w4 ⟨rfl, g4⟩; obtain ⟨k4, f4, _⟩ := g4.facts; have h4 : w.heap.size + 1 + 1 < w4.heap.size := (by have h9 := g4.gb.size; first | omega | (simp at h9; omega))))
  go_wp2
  have G : Gb w _ := Gb.trans (b := ((w.alloc (.cells #[.int .i64 (hiv x), .int .u64 (lov x)] 69)).alloc (.cells #[.int .i64 (hiv y), .int .u64 (lov y)] 69))) (by repeat (first | exact Gb.refl _ | refine Gb.alloc ?_ _ _)) (And.left (by assumption))
  refine bodyPost_ret (v := .agg #[.int .i64 (hiv (x + y)), .int .u64 (lov (x + y))]) (by simp [results, Try.results30, go_sem, *]) rfl ⟨rfl, G⟩


end Go.Proofs.Ytncnoaofdflbmab
