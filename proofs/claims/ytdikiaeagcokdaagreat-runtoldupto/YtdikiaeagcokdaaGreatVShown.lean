/- The examples at the head of layer 8's statements. -/
import Derived.Test.YtdikiaeagcokdaaGreatVEx
namespace Go.Proofs.YtdikiaeagcokdaaGreat
open Go.RowKit
set_option linter.unusedVariables false
attribute [local go_sem] run_store_float

/-- A segment's cells. -/
def sgc (s : Sg) : List Value := [.int .u64 s.k, .float .f64 s.sl, .float .f64 s.ic, .int .i64 s.fr, .int .i64 s.te]
theorem flat_get : ∀ (l : List Sg) (i : Nat), i < l.length → ∀ j, j < 5 → (l.flatMap sgc)[i * 5 + j]? = (sgc (l.getD i sg0))[j]? := by
  intro l
  induction l with
  | nil => intro i hi; simp at hi
  | cons s l ih =>
    intro i hi j hj
    rw [List.flatMap_cons]
    have l5 : (sgc s).length = 5 := rfl
    cases i with
    | zero =>
      rw [Nat.zero_mul, Nat.zero_add, List.getElem?_append_left (by rw [l5]; exact hj)]
      rfl
    | succ i =>
      rw [List.getElem?_append_right (by rw [l5]; omega), l5, show (i + 1) * 5 + j - 5 = i * 5 + j by omega]
      exact ih i (by simpa using hi) j hj
theorem gs_blk {w : World} {b : Nat} {l : List Sg} {t : TypeId} (h : w.heap[b]? = some (.cells (l.flatMap sgc).toArray t (0, 0))) (ok : ∀ i, i < l.length → (l.getD i sg0).ok) : GS w (some ⟨b, 0, none⟩) l := by
  refine ⟨fun _ => ⟨b, 0, rfl, (Array.getElem?_eq_some_iff.1 h).1, fun i hi => ?_⟩, ok⟩
  have c : ∀ j, j < 5 → w.cell? ⟨b, 0 + i * 5 + j, none⟩ = (sgc (l.getD i sg0))[j]? := fun j hj => by
    simp only [World.cell?, h]
    rw [Nat.zero_add]
    simpa using flat_get l i hi j hj
  exact ⟨c 0 (by decide), c 1 (by decide), c 2 (by decide), c 3 (by decide), c 4 (by decide)⟩
theorem lit_check (LL : LevelsC) (K : List Int) (l : List Sg) (E : Int) (kn : K.length ≤ 100) (ln : l.length ≤ 100) (bd : ∀ x ∈ K, 0 ≤ x ∧ x < 18446744073709551616) (ok : ∀ i, i < l.length → (l.getD i sg0).ok) (hE : CheckR 2 (lst8 K) K.length [l] E) (w : World) :
    Calls Tryz.prog 61 #[.slice (some ⟨w.heap.size, 0, none⟩) K.length K.length, .int .i64 2, .slice (some ⟨w.heap.size + 1 + 1, 0, none⟩) 1 1] (((w.alloc (.cells (K.map (Value.int .u64)).toArray 24)).alloc (.cells (l.flatMap sgc).toArray 42)).alloc (.cells #[.slice (some ⟨w.heap.size + 1, 0, none⟩) l.length l.length] 39)) fun ex w' => ex = .returned (.int .i64 E) ∧ Gw w w' := by
  have h1 := heap_alloc_new w (.cells (K.map (Value.int .u64)).toArray 24)
  have g1 : Gw w (w.alloc (.cells (K.map (Value.int .u64)).toArray 24)) := (Gw.refl w).alloc _ _
  have z1 : (w.alloc (.cells (K.map (Value.int .u64)).toArray 24)).heap.size = w.heap.size + 1 := by simp
  generalize w.alloc (.cells (K.map (Value.int .u64)).toArray 24) = w1 at h1 g1 z1 ⊢
  have h2 := heap_alloc_new w1 (.cells (l.flatMap sgc).toArray 42)
  have g2 : Gw w1 (w1.alloc (.cells (l.flatMap sgc).toArray 42)) := (Gw.refl w1).alloc _ _
  have z2 : (w1.alloc (.cells (l.flatMap sgc).toArray 42)).heap.size = w.heap.size + 1 + 1 := by simp [z1]
  generalize w1.alloc (.cells (l.flatMap sgc).toArray 42) = w2 at h2 g2 z2 ⊢
  have h3 := heap_alloc_new w2 (.cells #[.slice (some ⟨w.heap.size + 1, 0, none⟩) l.length l.length] 39)
  have g3 : Gw w2 (w2.alloc (.cells #[.slice (some ⟨w.heap.size + 1, 0, none⟩) l.length l.length] 39)) := (Gw.refl w2).alloc _ _
  generalize w2.alloc (.cells #[.slice (some ⟨w.heap.size + 1, 0, none⟩) l.length l.length] 39) = w3 at h3 g3 ⊢
  rw [z1] at h2
  rw [z2] at h3
  have gl : GS w3 (some ⟨w.heap.size + 1, 0, none⟩) l := (gs_blk h2 ok).gw g3
  have ks : KS w3 (some ⟨w.heap.size, 0, none⟩) K.length (lst8 K) := ((ks_lst8 _ K bd _ h1).gw g2).gw g3
  have vs : VS w3 (some ⟨w.heap.size + 1 + 1, 0, none⟩) [l] := by
    refine ⟨fun _ => ⟨_, 0, rfl, (Array.getElem?_eq_some_iff.1 h3).1, fun i hi => ?_⟩⟩
    have i0 : i = 0 := by simp at hi; omega
    subst i0
    exact ⟨some ⟨w.heap.size + 1, 0, none⟩, l.length, by simp [World.cell?, h3], Nat.le_refl _, (fun e => by cases e), gl⟩
  have sh : Short [l] := ⟨by simp, fun i hi => by
    have i0 : i = 0 := by simp at hi; omega
    subst i0
    show l.length ≤ 2000000
    omega⟩
  refine (LL.check 2 _ K.length K.length (lst8 K) _ 1 [l] (by decide) (by decide) (by omega) (Nat.le_refl _) sh (by simp) _ ks vs).mono ?_
  rintro ex w' ⟨⟨E', rfl, hc⟩, g⟩
  obtain rfl := hc.one hE
  exact ⟨rfl, ((g1.trans g2).trans g3).trans g⟩


end Go.Proofs.YtdikiaeagcokdaaGreat
