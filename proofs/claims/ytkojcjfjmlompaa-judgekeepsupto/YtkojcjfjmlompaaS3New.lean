/- Layer 23, the document's: New. -/
import Derived.Test.YtkojcjfjmlompaaS3Mem
namespace Go.Proofs.Ytkojcjfjmlompaa
open Go.RowKit
set_option linter.unusedVariables false
set_option maxRecDepth 100000 in
set_option maxHeartbeats 4000000 in
theorem rnew23_no (most : Int) (h : most < 1 ∨ 4294967296 < most) (w : World) :
    Calls Try.prog 9 #[.int .i64 most] w fun e w' => e = .returned (.tuple #[.pointer none, .int .i64 1]) ∧ w' = w := by
  by_cases q : most < 1
  · clear h
    go_enter Try.func9, Try.ntmps9
    go_wp2_with fail
    exact bodyPost_ret (v := .tuple #[.pointer none, .int .i64 1]) (by simp [results, Try.results9, go_sem]) rfl ⟨rfl, rfl⟩
  · have q2 : (4294967296 : Int) < most := by omega
    clear h
    go_enter Try.func9, Try.ntmps9
    go_wp2_with fail
    exact bodyPost_ret (v := .tuple #[.pointer none, .int .i64 1]) (by simp [results, Try.results9, go_sem]) rfl ⟨rfl, rfl⟩
set_option maxRecDepth 100000 in
set_option maxHeartbeats 4000000 in
theorem rnew23 (most : Int) (h1 : 1 ≤ most) (h2 : most ≤ 4294967296) (w : World) :
    Calls Try.prog 9 #[.int .i64 most] w fun e w' => e = .returned (.tuple #[.pointer (some ⟨w.heap.size, 0, none⟩), .int .i64 0]) ∧ HPl w' w.heap.size (fun q => q = w.heap.size) most [] ∧ Gw w w' := by
  have q1 : ¬ most < 1 := by omega
  have q2 : ¬ (4294967296 : Int) < most := by omega
  go_enter Try.func9, Try.ntmps9
  go_wp2_with fail
  refine bodyPost_ret (v := .tuple #[.pointer (some ⟨w.heap.size, 0, none⟩), .int .i64 0]) (by simp [results, Try.results9, go_sem]) rfl ⟨rfl, ⟨⟨.slice none 0 0, ?_, World.ownsRow_nil _ _ _ _, (fun q hq => by cases hq), rfl⟩, fun p hp => by cases hp⟩, (Gw.refl w).alloc _ _⟩
  exact heap_alloc_new w _
end Go.Proofs.Ytkojcjfjmlompaa
