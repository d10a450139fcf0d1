/- The examples at the head of each statement: 'shown' returns true. -/
import Derived.Test.YtmnpbagpfpcjpaaKRank
import Derived.Test.YtmnpbagpfpcjpaaKCheck
import Derived.Test.YtmnpbagpfpcjpaaKMake
namespace Go.Proofs.Ytmnpbagpfpcjpaa
open Go.RowKit
set_option linter.unusedVariables false

/-- Two cells of a row. -/
structure H2 (w : World) (b : Nat) (u v : Value) : Prop where
  lt : b < w.heap.size
  c0 : w.cell? ⟨b, 0, none⟩ = some u
  c1 : w.cell? ⟨b, 1, none⟩ = some v

theorem es_lit (w : World) (cs : Array Value) (n : Nat) (k v : Nat → Int) (g : Nat → Bool) (hc : cs = ((List.range (n * 3)).map (ecell k v g)).toArray) (bd : ∀ i, i < n → (0 ≤ k i ∧ k i < 18446744073709551616) ∧ (0 ≤ v i ∧ v i < 18446744073709551616)) :
    ES (w.alloc (.cells cs 35)) (some ⟨w.heap.size, 0, none⟩) n k v g := by
  have hs : cs.size = n * 3 := by rw [hc]; simp
  have := World.rowIs_alloc w cs 35 (ecell k v g) (fun i hi => by rw [hs] at hi; rw [hc]; simp [hi])
  rw [hs] at this
  exact es_of_row this (Nat.le_refl _) bd
theorem ks_lit (w : World) (cs : Array Value) (n : Nat) (f : Nat → Int) (hc : cs = ((List.range n).map (fun i => Value.int .u64 (f i))).toArray) (bd : ∀ i, i < n → 0 ≤ f i ∧ f i < 18446744073709551616) :
    KS (w.alloc (.cells cs 33)) (some ⟨w.heap.size, 0, none⟩) n f := by
  have hs : cs.size = n := by rw [hc]; simp
  have := World.rowIs_alloc w cs 33 (fun i => .int .u64 (f i)) (fun i hi => by rw [hs] at hi; rw [hc]; simp [hi])
  rw [hs] at this
  exact ks_of_row this (Nat.le_refl _) bd

/-- The numbers of a list, by their index. -/
def at1 (l : List Int) (i : Nat) : Int := l.getD i 0
def atb (l : List Bool) (i : Nat) : Bool := l.getD i false

theorem at1_bd (l : List Int) (h : l.all (fun x => decide (0 ≤ x ∧ x < 18446744073709551616)) = true) (i : Nat) : 0 ≤ at1 l i ∧ at1 l i < 18446744073709551616 := by
  unfold at1
  by_cases hi : i < l.length
  · have := List.all_eq_true.1 h l[i] (List.getElem_mem hi)
    simpa [List.getD, hi] using this
  · simp [List.getD, Nat.not_lt.1 hi]

theorem sa (w : World) : Calls Try.prog 10 #[.slice (some ⟨w.heap.size, 0, none⟩) 2 2] (w.alloc (.cells #[.int .u64 5, .int .u64 1, .bool false, .int .u64 7, .int .u64 0, .bool true] 35)) fun e w' => e = .returned (.int .i64 0) ∧ Gb w w' := by
  have h := es_lit w #[.int .u64 5, .int .u64 1, .bool false, .int .u64 7, .int .u64 0, .bool true] 2 (at1 [5, 7]) (at1 [1, 0]) (atb [false, true]) rfl (fun i _ => ⟨at1_bd _ (by decide) i, at1_bd _ (by decide) i⟩)
  refine (check_any _ 2 2 _ _ _ (by decide) (by decide) _ h).mono ?_
  rintro e w' ⟨⟨r, rfl, hr⟩, g⟩
  have : r = 0 := hr.one (.ok (by intro j hj; obtain rfl : j = 0 := by omega
                                  decide) (by intro j hj; have : j = 0 ∨ j = 1 := by omega
                                              rcases this with rfl | rfl <;> decide))
  subst this
  exact ⟨rfl, ((Gb.refl w).alloc _ _).trans g⟩
theorem sb (w : World) : Calls Try.prog 10 #[.slice (some ⟨w.heap.size, 0, none⟩) 2 2] (w.alloc (.cells #[.int .u64 5, .int .u64 1, .bool false, .int .u64 5, .int .u64 2, .bool false] 35)) fun e w' => e = .returned (.int .i64 30) ∧ Gb w w' := by
  have h := es_lit w #[.int .u64 5, .int .u64 1, .bool false, .int .u64 5, .int .u64 2, .bool false] 2 (at1 [5, 5]) (at1 [1, 2]) (atb [false, false]) rfl (fun i _ => ⟨at1_bd _ (by decide) i, at1_bd _ (by decide) i⟩)
  refine (check_any _ 2 2 _ _ _ (by decide) (by decide) _ h).mono ?_
  rintro e w' ⟨⟨r, rfl, hr⟩, g⟩
  have hb : ∀ j, j < 0 + 1 → ¬ (atb [false, false] j = true ∧ at1 [1, 2] j ≠ 0) := by
    intro j hj
    obtain rfl : j = 0 := by omega
    decide
  have : r = 30 := hr.one (.order 0 (by decide) (by intro j hj; omega) hb (by decide))
  subst this
  exact ⟨rfl, ((Gb.refl w).alloc _ _).trans g⟩
theorem sc (w : World) : Calls Try.prog 10 #[.slice (some ⟨w.heap.size, 0, none⟩) 2 2] (w.alloc (.cells #[.int .u64 7, .int .u64 9, .bool true, .int .u64 5, .int .u64 0, .bool false] 35)) fun e w' => e = .returned (.int .i64 31) ∧ Gb w w' := by
  have h := es_lit w #[.int .u64 7, .int .u64 9, .bool true, .int .u64 5, .int .u64 0, .bool false] 2 (at1 [7, 5]) (at1 [9, 0]) (atb [true, false]) rfl (fun i _ => ⟨at1_bd _ (by decide) i, at1_bd _ (by decide) i⟩)
  refine (check_any _ 2 2 _ _ _ (by decide) (by decide) _ h).mono ?_
  rintro e w' ⟨⟨r, rfl, hr⟩, g⟩
  have : r = 31 := hr.one (.gone 0 (by decide) (by intro j hj; omega) (by intro j hj; omega) (by decide))
  subst this
  exact ⟨rfl, ((Gb.refl w).alloc _ _).trans g⟩

theorem up3 : Up (at1 [10, 20, 30]) 3 := by
  intro j hj
  have : j = 0 ∨ j = 1 := by omega
  rcases this with rfl | rfl <;> decide
theorem sr (w : World) (q : Int) (m : Nat) (t : Bool) (hR : RankR (at1 [10, 20, 30]) 3 q m t) : Calls Try.prog 18 #[.slice (some ⟨w.heap.size, 0, none⟩) 3 3, .int .u64 q] (w.alloc (.cells #[.int .u64 10, .int .u64 20, .int .u64 30] 33)) fun e w' => e = .returned (.tuple #[.int .i64 m, .bool t]) ∧ Gb w w' := by
  have h := ks_lit w #[.int .u64 10, .int .u64 20, .int .u64 30] 3 (at1 [10, 20, 30]) rfl (fun i _ => at1_bd _ (by decide) i)
  refine (rank_any _ 3 3 _ q (by decide) _ h).mono ?_
  rintro e w' ⟨⟨r, t', rfl, hr⟩, g⟩
  rcases hr with ⟨_, k, rfl, hk⟩ | ⟨hu, _⟩
  · obtain ⟨rfl, rfl⟩ := hk.one hR
    exact ⟨rfl, ((Gb.refl w).alloc _ _).trans g⟩
  · exact absurd up3 hu
theorem sr1 (w : World) : Calls Try.prog 18 #[.slice (some ⟨w.heap.size, 0, none⟩) 3 3, .int .u64 20] (w.alloc (.cells #[.int .u64 10, .int .u64 20, .int .u64 30] 33)) fun e w' => e = .returned (.tuple #[.int .i64 1, .bool true]) ∧ Gb w w' :=
  sr w 20 1 true ⟨by decide, by intro j hj; obtain rfl : j = 0 := by omega
                                decide, by intro j h1 h2; have : j = 1 ∨ j = 2 := by omega
                                           rcases this with rfl | rfl <;> decide, by decide⟩
theorem sr2 (w : World) : Calls Try.prog 18 #[.slice (some ⟨w.heap.size, 0, none⟩) 3 3, .int .u64 25] (w.alloc (.cells #[.int .u64 10, .int .u64 20, .int .u64 30] 33)) fun e w' => e = .returned (.tuple #[.int .i64 2, .bool false]) ∧ Gb w w' :=
  sr w 25 2 false ⟨by decide, by intro j hj; have : j = 0 ∨ j = 1 := by omega
                                 rcases this with rfl | rfl <;> decide, by intro j h1 h2; obtain rfl : j = 2 := by omega
                                                                           decide, by decide⟩
theorem sr3 (w : World) : Calls Try.prog 18 #[.slice (some ⟨w.heap.size, 0, none⟩) 2 2, .int .u64 1] (w.alloc (.cells #[.int .u64 2, .int .u64 1] 33)) fun e w' => e = .returned (.tuple #[.int .i64 (-1), .bool false]) ∧ Gb w w' := by
  have h := ks_lit w #[.int .u64 2, .int .u64 1] 2 (at1 [2, 1]) rfl (fun i _ => at1_bd _ (by decide) i)
  refine (rank_any _ 2 2 _ 1 (by decide) _ h).mono ?_
  rintro e w' ⟨⟨r, t', rfl, hr⟩, g⟩
  rcases hr with ⟨hu, _⟩ | ⟨_, rfl, rfl⟩
  · exact absurd (hu 0 (by decide)) (by decide)
  · exact ⟨rfl, ((Gb.refl w).alloc _ _).trans g⟩
theorem su1 (w : World) : Calls Try.prog 20 #[.slice (some ⟨w.heap.size, 0, none⟩) 2 2] (w.alloc (.cells #[.int .u64 0, .int .u64 18446744073709551615] 33)) fun e w' => e = .returned (.bool true) ∧ Gb w w' := by
  have h := ks_lit w #[.int .u64 0, .int .u64 18446744073709551615] 2 (at1 [0, 18446744073709551615]) rfl (fun i _ => at1_bd _ (by decide) i)
  refine (rising_any _ 2 2 _ (by decide) _ h).mono ?_
  rintro e w' ⟨⟨r, rfl, hr⟩, g⟩
  have : r = true := hr.2 (by intro j hj; obtain rfl : j = 0 := by omega
                              decide)
  subst this
  exact ⟨rfl, ((Gb.refl w).alloc _ _).trans g⟩
theorem su2 (w : World) : Calls Try.prog 20 #[.slice (some ⟨w.heap.size, 0, none⟩) 2 2] (w.alloc (.cells #[.int .u64 3, .int .u64 3] 33)) fun e w' => e = .returned (.bool false) ∧ Gb w w' := by
  have h := ks_lit w #[.int .u64 3, .int .u64 3] 2 (at1 [3, 3]) rfl (fun i _ => at1_bd _ (by decide) i)
  refine (rising_any _ 2 2 _ (by decide) _ h).mono ?_
  rintro e w' ⟨⟨r, rfl, hr⟩, g⟩
  cases r with
  | true => exact absurd (hr.1 rfl 0 (by decide)) (by decide)
  | false => exact ⟨rfl, ((Gb.refl w).alloc _ _).trans g⟩
theorem so (w : World) : Calls Try.prog 16 #[.slice (some ⟨w.heap.size, 0, none⟩) 2 2] (w.alloc (.cells #[.int .u64 5, .int .u64 1, .bool false, .int .u64 3, .int .u64 0, .bool true] 35)) fun e w' => (∃ b, e = .returned (.slice (some ⟨b, 0, none⟩) 2 2) ∧ H2 w' b (.int .u64 5) (.int .u64 3)) ∧ Gb w w' := by
  have h := es_lit w #[.int .u64 5, .int .u64 1, .bool false, .int .u64 3, .int .u64 0, .bool true] 2 (at1 [5, 3]) (at1 [1, 0]) (atb [false, true]) rfl (fun i _ => ⟨at1_bd _ (by decide) i, at1_bd _ (by decide) i⟩)
  refine (of_any _ 2 2 _ _ _ (by decide) _ h).mono ?_
  rintro e w' ⟨⟨b, rfl, _, hr⟩, g⟩
  exact ⟨⟨b, rfl, hr.lt, hr.cell (i := 0) (by decide), hr.cell (i := 1) (by decide)⟩, ((Gb.refl w).alloc _ _).trans g⟩
theorem sl (w : World) : Calls Try.prog 11 #[.slice (some ⟨w.heap.size, 0, none⟩) 3 3] (w.alloc (.cells #[.int .u64 5, .int .u64 1, .bool false, .int .u64 7, .int .u64 0, .bool true, .int .u64 2, .int .u64 0, .bool false] 35)) fun e w' => e = .returned (.int .i64 2) ∧ Gb w w' := by
  have h := es_lit w #[.int .u64 5, .int .u64 1, .bool false, .int .u64 7, .int .u64 0, .bool true, .int .u64 2, .int .u64 0, .bool false] 3 (at1 [5, 7, 2]) (at1 [1, 0, 0]) (atb [false, true, false]) rfl (fun i _ => ⟨at1_bd _ (by decide) i, at1_bd _ (by decide) i⟩)
  refine (live_any _ 3 3 _ _ _ (by decide) _ h).mono ?_
  rintro e w' ⟨rfl, g⟩
  exact ⟨by rw [show lv (atb [false, true, false]) 3 = 2 by decide]; rfl, ((Gb.refl w).alloc _ _).trans g⟩

set_option maxHeartbeats 4000000 in
set_option maxRecDepth 10000 in
theorem shown_any (w : World) : Calls Try.prog 8 #[] w fun e w' => e = .returned (.bool true) ∧ Gb w w' := by
  go_enter Try.func8, Try.ntmps8
  go_wp2_with fail
  refine (sa _).mono ?_
  rintro e w1 ⟨rfl, g1⟩
  go_wp2_with fail
  refine (sb _).mono ?_
  rintro e w2 ⟨rfl, g2⟩
  go_wp2_with fail
  refine (sc _).mono ?_
  rintro e w3 ⟨rfl, g3⟩
  go_wp2_with fail
  refine (sr1 _).mono ?_
  rintro e w4 ⟨rfl, g4⟩
  go_wp2_with fail
  refine (sr2 _).mono ?_
  rintro e w5 ⟨rfl, g5⟩
  go_wp2_with fail
  refine (sr3 _).mono ?_
  rintro e w6 ⟨rfl, g6⟩
  go_wp2_with fail
  refine (so _).mono ?_
  rintro e w7 ⟨⟨b, rfl, q⟩, g7⟩
  obtain ⟨q1, q2, q3⟩ := q
  go_wp2_with fail
  refine (su1 _).mono ?_
  rintro e w8 ⟨rfl, g8⟩
  go_wp2_with fail
  refine (su2 _).mono ?_
  rintro e w9 ⟨rfl, g9⟩
  go_wp2_with fail
  refine (sl _).mono ?_
  rintro e w10 ⟨rfl, g10⟩
  go_wp2_with fail
  go_ret
  exact ⟨rfl, ((((((((g1.trans g2).trans g3).trans g4).trans g5).trans g6).trans g7).trans g8).trans g9).trans g10⟩

end Go.Proofs.Ytmnpbagpfpcjpaa
