/- The examples of layer 6's statements. -/
import Derived.Test.YtlocnkoeffoflaaELaw
namespace Go.Proofs.Ytlocnkoeffoflaa
open Go.RowKit
set_option linter.unusedVariables false

/-- The keys of a list. -/
def lst (l : List Int) (j : Nat) : Int := l.getD j 0
theorem ks_lst (w : World) (l : List Int) (bd : ∀ x ∈ l, 0 ≤ x ∧ x < 18446744073709551616) : KS (w.alloc (.cells (l.map (Value.int .u64)).toArray 24)) (some ⟨w.heap.size, 0, none⟩) l.length (lst l) := by
  refine ⟨fun _ => ⟨w.heap.size, 0, rfl, by simp, fun i hi => ?_⟩, fun i hi => ?_⟩
  · have := heap_alloc_new w (.cells (l.map (Value.int .u64)).toArray 24)
    simp only [World.cell?, this]
    simp [lst, List.getD, hi]
  · have := bd l[i] (List.getElem_mem hi)
    simpa [lst, List.getD, hi] using this
theorem ls_lst (w : World) (l : List Nat) : LS (w.alloc (.cells (l.map fun (j : Nat) => Value.int .i64 (j : Int)).toArray 3)) (some ⟨w.heap.size, 0, none⟩) l := by
  refine ⟨fun _ => ⟨w.heap.size, 0, rfl, by simp, fun i hi => ?_⟩⟩
  have := heap_alloc_new w (.cells (l.map fun (j : Nat) => Value.int .i64 (j : Int)).toArray 3)
  simp only [World.cell?, this]
  simp [List.getD, hi]

theorem fits_dec {e : Int} {f : Nat → Int} {n : Nat} (h : ∀ j, j < n → ∀ i, i < j → ∀ j', j' < n → ∀ i', i' < j' → ((j : Int) - i - 2 * e) * (f j' - f i') ≤ ((j' : Int) - i' + 2 * e) * (f j - f i)) : FitsOn e f (Prs n) :=
  fun i j i' j' s s' => h j s.2 i s.1 j' s'.2 i' s'.1

theorem ex_one : EndsR 2 (lst [10, 20, 30, 40, 50]) 5 [5] 0 := by
  refine .inr (.inr ⟨by omega, fun j hj => ?_, ⟨by decide, by decide, fits_dec (by decide +kernel), fun q => absurd q (by decide), rfl⟩, rfl⟩)
  have : ∀ j, j < 4 → lst [10, 20, 30, 40, 50] j < lst [10, 20, 30, 40, 50] (j + 1) := by decide +kernel
  exact this j (by omega)
theorem ex_two : EndsR 2 (lst [0, 1, 2, 3, 100, 101, 102]) 7 [4, 7] 0 := by
  refine .inr (.inr ⟨by omega, fun j hj => ?_, ⟨by decide, by decide, fits_dec (by decide +kernel), fun _ q => ?_, ⟨by decide, by decide, fits_dec (by decide +kernel), fun q => absurd q (by decide), rfl⟩⟩, rfl⟩)
  · have : ∀ j, j < 6 → lst [0, 1, 2, 3, 100, 101, 102] j < lst [0, 1, 2, 3, 100, 101, 102] (j + 1) := by decide +kernel
    exact this j (by omega)
  · have := q 0 3 3 4 ⟨by decide, by decide⟩ ⟨by decide, by decide⟩
    exact absurd this (by decide +kernel)
theorem ex_three : EndsR 2 (lst [5, 5]) 2 [] 60 := by
  refine .inr (.inl ⟨by omega, fun u => ?_, rfl, rfl⟩)
  have := u 0 (by decide)
  exact absurd this (by decide +kernel)
theorem ex_four : EndsR 1 (lst [7]) 1 [] 1 := .inl ⟨by omega, rfl, rfl⟩
theorem ex_five : EndsR 64 (lst []) 0 [] 0 := .inr (.inr ⟨by omega, fun j hj => absurd hj (by omega), rfl, rfl⟩)

/-- Ends at a list that is written out. -/
theorem ends_lst (CC : CutC) (eps : Int) (l : List Int) (m : List Nat) (err : Int) (p0 : -9223372036854775808 ≤ eps) (p1 : eps < 9223372036854775808) (hl : l.length ≤ 100) (bd : ∀ x ∈ l, 0 ≤ x ∧ x < 18446744073709551616) (E : EndsR eps (lst l) l.length m err) (w : World) :
    Calls Try.prog 9 #[.slice (some ⟨w.heap.size, 0, none⟩) l.length l.length, .int .i64 eps] (w.alloc (.cells (l.map (Value.int .u64)).toArray 24)) fun ex w' => (∃ ao cap, ex = .returned (.tuple #[.slice ao m.length cap, .int .i64 err]) ∧ LS w' ao m) ∧ Gw w w' := by
  refine (CC.ends eps _ l.length l.length (lst l) p0 p1 (by omega) (Nat.le_refl _) _ (ks_lst w l bd)).mono ?_
  rintro ex w' ⟨⟨v, l', err', rfl, hE, hI⟩, g⟩
  obtain ⟨rfl, rfl⟩ := hE.one E
  obtain ⟨ao, cap, rfl, hL⟩ := ir_ls hI
  exact ⟨⟨ao, cap, rfl, hL⟩, ((Gw.refl w).alloc _ _).trans g⟩

theorem same_lst (ao : Option Addr) (c : Nat) (l : List Nat) (hl : l.length ≤ 100) (w : World) (h : LS w ao l) :
    Calls Try.prog 11 #[.slice ao l.length c, .slice (some ⟨w.heap.size, 0, none⟩) l.length l.length] (w.alloc (.cells (l.map fun (j : Nat) => Value.int .i64 (j : Int)).toArray 3)) fun e w' => e = .returned (.bool true) ∧ Gw w w' := by
  refine (same_any ao _ c l.length l l (by omega) (by omega) _ (h.gw ((Gw.refl w).alloc _ _)) (ls_lst w l)).mono ?_
  rintro e w' ⟨rfl, g⟩
  exact ⟨by simp, ((Gw.refl w).alloc _ _).trans g⟩

set_option maxRecDepth 10000 in
set_option maxHeartbeats 4000000 in
theorem eshown (CC : CutC) (w : World) : Calls Try.prog 8 #[] w fun e w' => e = .returned (.bool true) ∧ Gw w w' := by
  have E1 : Hid (∀ w : World, Calls Try.prog 9 #[.slice (some ⟨w.heap.size, 0, none⟩) 5 5, .int .i64 2] (w.alloc (.cells #[.int .u64 10, .int .u64 20, .int .u64 30, .int .u64 40, .int .u64 50] 24)) fun ex w' => (∃ ao cap, ex = .returned (.tuple #[.slice ao 1 cap, .int .i64 0]) ∧ LS w' ao [5]) ∧ Gw w w') := fun w => ends_lst CC 2 [10, 20, 30, 40, 50] [5] 0 (by decide) (by decide) (by decide) (by decide) ex_one w
  have E2 : Hid (∀ w : World, Calls Try.prog 9 #[.slice (some ⟨w.heap.size, 0, none⟩) 7 7, .int .i64 2] (w.alloc (.cells #[.int .u64 0, .int .u64 1, .int .u64 2, .int .u64 3, .int .u64 100, .int .u64 101, .int .u64 102] 24)) fun ex w' => (∃ ao cap, ex = .returned (.tuple #[.slice ao 2 cap, .int .i64 0]) ∧ LS w' ao [4, 7]) ∧ Gw w w') := fun w => ends_lst CC 2 [0, 1, 2, 3, 100, 101, 102] [4, 7] 0 (by decide) (by decide) (by decide) (by decide) ex_two w
  have E3 : Hid (∀ w : World, Calls Try.prog 9 #[.slice (some ⟨w.heap.size, 0, none⟩) 2 2, .int .i64 2] (w.alloc (.cells #[.int .u64 5, .int .u64 5] 24)) fun ex w' => (∃ ao cap, ex = .returned (.tuple #[.slice ao 0 cap, .int .i64 60]) ∧ LS w' ao []) ∧ Gw w w') := fun w => ends_lst CC 2 [5, 5] [] 60 (by decide) (by decide) (by decide) (by decide) ex_three w
  have E4 : Hid (∀ w : World, Calls Try.prog 9 #[.slice (some ⟨w.heap.size, 0, none⟩) 1 1, .int .i64 1] (w.alloc (.cells #[.int .u64 7] 24)) fun ex w' => (∃ ao cap, ex = .returned (.tuple #[.slice ao 0 cap, .int .i64 1]) ∧ LS w' ao []) ∧ Gw w w') := fun w => ends_lst CC 1 [7] [] 1 (by decide) (by decide) (by decide) (by decide) ex_four w
  have E5 : Hid (∀ w : World, Calls Try.prog 9 #[.slice (some ⟨w.heap.size, 0, none⟩) 0 0, .int .i64 64] (w.alloc (.cells #[] 24)) fun ex w' => (∃ ao cap, ex = .returned (.tuple #[.slice ao 0 cap, .int .i64 0]) ∧ LS w' ao []) ∧ Gw w w') := fun w => ends_lst CC 64 [] [] 0 (by decide) (by decide) (by decide) (by decide) ex_five w
  have S1 : Hid (∀ ao c w, LS w ao [5] → Calls Try.prog 11 #[.slice ao 1 c, .slice (some ⟨w.heap.size, 0, none⟩) 1 1] (w.alloc (.cells #[.int .i64 5] 3)) fun e w' => e = .returned (.bool true) ∧ Gw w w') := fun ao c w h => same_lst ao c [5] (by decide) w h
  have S2 : Hid (∀ ao c w, LS w ao [4, 7] → Calls Try.prog 11 #[.slice ao 2 c, .slice (some ⟨w.heap.size, 0, none⟩) 2 2] (w.alloc (.cells #[.int .i64 4, .int .i64 7] 3)) fun e w' => e = .returned (.bool true) ∧ Gw w w') := fun ao c w h => same_lst ao c [4, 7] (by decide) w h
  clear CC
  go_enter Try.func8, Try.ntmps8
  go_wp2_with fail
  refine (E1.out _).mono ?_
  rintro e w1 ⟨⟨a1, c1, rfl, h1⟩, g1⟩
  have L1 : Hid (LS w1 a1 [5]) := h1
  have G1 : Hid (Gw w w1) := g1
  clear h1 g1 E1
  go_wp2_with fail
  refine (E2.out _).mono ?_
  rintro e w2 ⟨⟨a2, c2, rfl, h2⟩, g2⟩
  have L2 : Hid (LS w2 a2 [4, 7]) := h2
  have M2 : Hid (LS w2 a1 [5]) := L1.out.gw g2
  have G2 : Hid (Gw w w2) := G1.out.trans g2
  clear h2 g2 E2 L1 G1
  go_wp2_with fail
  refine (E3.out _).mono ?_
  rintro e w3 ⟨⟨a3, c3, rfl, h3⟩, g3⟩
  have L3 : Hid (LS w3 a2 [4, 7]) := L2.out.gw g3
  have M3 : Hid (LS w3 a1 [5]) := M2.out.gw g3
  have G3 : Hid (Gw w w3) := G2.out.trans g3
  clear h3 g3 E3 L2 M2 G2
  go_wp2_with fail
  refine (E4.out _).mono ?_
  rintro e w4 ⟨⟨a4, c4, rfl, h4⟩, g4⟩
  have L4 : Hid (LS w4 a2 [4, 7]) := L3.out.gw g4
  have M4 : Hid (LS w4 a1 [5]) := M3.out.gw g4
  have G4 : Hid (Gw w w4) := G3.out.trans g4
  clear h4 g4 E4 L3 M3 G3
  go_wp2_with fail
  refine (E5.out _).mono ?_
  rintro e w5 ⟨⟨a5, c5, rfl, h5⟩, g5⟩
  have L5 : Hid (LS w5 a2 [4, 7]) := L4.out.gw g5
  have M5 : Hid (LS w5 a1 [5]) := M4.out.gw g5
  have G5 : Hid (Gw w w5) := G4.out.trans g5
  clear h5 g5 E5 L4 M4 G4
  go_wp2_with fail
  refine (S1.out _ _ _ M5.out).mono ?_
  rintro e w6 ⟨rfl, g6⟩
  have L6 : Hid (LS w6 a2 [4, 7]) := L5.out.gw g6
  have G6 : Hid (Gw w w6) := G5.out.trans g6
  clear g6 L5 M5 G5 S1
  go_wp2_with fail
  refine (S2.out _ _ _ L6.out).mono ?_
  rintro e w7 ⟨rfl, g7⟩
  have G7 : Hid (Gw w w7) := G6.out.trans g7
  clear g7 L6 G6 S2
  go_wp2_with fail
  go_ret
  exact ⟨rfl, G7.out⟩

end Go.Proofs.Ytlocnkoeffoflaa
