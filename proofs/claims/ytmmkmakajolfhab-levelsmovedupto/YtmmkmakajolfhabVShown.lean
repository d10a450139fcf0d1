/- The examples at the head of layer 8's statements. -/
import Derived.Test.YtmmkmakajolfhabVEx
namespace Go.Proofs.Ytmmkmakajolfhab
open Go.RowKit
set_option linter.unusedVariables false
attribute [local go_sem] run_store_float

/-- A segment's cells. -/
def sgc (s : Sg) : List Value := [.int .u64 s.k, .float .f64 s.sl, .float .f64 s.ic, .int .i64 s.fr, .int .i64 s.te]
theorem flat_get : ∀ (l : List Sg) (i : Nat), i < l.length → ∀ j, j < 5 → (l.flatMap sgc)[i * 5 + j]? = (sgc (l.getD i sg0))[j]? := by
  intro l
  induction l with
  | nil => intro i hi; simp at hi
  | cons s l ih =>
    intro i hi j hj
    rw [List.flatMap_cons]
    have l5 : (sgc s).length = 5 := rfl
    cases i with
    | zero =>
      rw [Nat.zero_mul, Nat.zero_add, List.getElem?_append_left (by rw [l5]; exact hj)]
      rfl
    | succ i =>
      rw [List.getElem?_append_right (by rw [l5]; omega), l5, show (i + 1) * 5 + j - 5 = i * 5 + j by omega]
      exact ih i (by simpa using hi) j hj
theorem gs_blk {w : World} {b : Nat} {l : List Sg} {t : TypeId} (h : w.heap[b]? = some (.cells (l.flatMap sgc).toArray t (0, 0))) (ok : ∀ i, i < l.length → (l.getD i sg0).ok) : GS w (some ⟨b, 0, none⟩) l := by
  refine ⟨fun _ => ⟨b, 0, rfl, (Array.getElem?_eq_some_iff.1 h).1, fun i hi => ?_⟩, ok⟩
  have c : ∀ j, j < 5 → w.cell? ⟨b, 0 + i * 5 + j, none⟩ = (sgc (l.getD i sg0))[j]? := fun j hj => by
    simp only [World.cell?, h]
    rw [Nat.zero_add]
    simpa using flat_get l i hi j hj
  exact ⟨c 0 (by decide), c 1 (by decide), c 2 (by decide), c 3 (by decide), c 4 (by decide)⟩
theorem lit_check (LL : LevelsC) (K : List Int) (l : List Sg) (E : Int) (kn : K.length ≤ 100) (ln : l.length ≤ 100) (bd : ∀ x ∈ K, 0 ≤ x ∧ x < 18446744073709551616) (ok : ∀ i, i < l.length → (l.getD i sg0).ok) (hE : CheckR 2 (lst8 K) K.length [l] E) (w : World) :
    Calls Try.prog 13 #[.slice (some ⟨w.heap.size, 0, none⟩) K.length K.length, .int .i64 2, .slice (some ⟨w.heap.size + 1 + 1, 0, none⟩) 1 1] (((w.alloc (.cells (K.map (Value.int .u64)).toArray 31)).alloc (.cells (l.flatMap sgc).toArray 38)).alloc (.cells #[.slice (some ⟨w.heap.size + 1, 0, none⟩) l.length l.length] 34)) fun ex w' => ex = .returned (.int .i64 E) ∧ Gw w w' := by
  have h1 := heap_alloc_new w (.cells (K.map (Value.int .u64)).toArray 31)
  have g1 : Gw w (w.alloc (.cells (K.map (Value.int .u64)).toArray 31)) := (Gw.refl w).alloc _ _
  have z1 : (w.alloc (.cells (K.map (Value.int .u64)).toArray 31)).heap.size = w.heap.size + 1 := by simp
  generalize w.alloc (.cells (K.map (Value.int .u64)).toArray 31) = w1 at h1 g1 z1 ⊢
  have h2 := heap_alloc_new w1 (.cells (l.flatMap sgc).toArray 38)
  have g2 : Gw w1 (w1.alloc (.cells (l.flatMap sgc).toArray 38)) := (Gw.refl w1).alloc _ _
  have z2 : (w1.alloc (.cells (l.flatMap sgc).toArray 38)).heap.size = w.heap.size + 1 + 1 := by simp [z1]
  generalize w1.alloc (.cells (l.flatMap sgc).toArray 38) = w2 at h2 g2 z2 ⊢
  have h3 := heap_alloc_new w2 (.cells #[.slice (some ⟨w.heap.size + 1, 0, none⟩) l.length l.length] 34)
  have g3 : Gw w2 (w2.alloc (.cells #[.slice (some ⟨w.heap.size + 1, 0, none⟩) l.length l.length] 34)) := (Gw.refl w2).alloc _ _
  generalize w2.alloc (.cells #[.slice (some ⟨w.heap.size + 1, 0, none⟩) l.length l.length] 34) = w3 at h3 g3 ⊢
  rw [z1] at h2
  rw [z2] at h3
  have gl : GS w3 (some ⟨w.heap.size + 1, 0, none⟩) l := (gs_blk h2 ok).gw g3
  have ks : KS w3 (some ⟨w.heap.size, 0, none⟩) K.length (lst8 K) := ((ks_lst8 _ K bd _ h1).gw g2).gw g3
  have vs : VS w3 (some ⟨w.heap.size + 1 + 1, 0, none⟩) [l] := by
    refine ⟨fun _ => ⟨_, 0, rfl, (Array.getElem?_eq_some_iff.1 h3).1, fun i hi => ?_⟩⟩
    have i0 : i = 0 := by simp at hi; omega
    subst i0
    exact ⟨some ⟨w.heap.size + 1, 0, none⟩, l.length, by simp [World.cell?, h3], Nat.le_refl _, (fun e => by cases e), gl⟩
  have sh : Short [l] := ⟨by simp, fun i hi => by
    have i0 : i = 0 := by simp at hi; omega
    subst i0
    show l.length ≤ 2000000
    omega⟩
  refine (LL.check 2 _ K.length K.length (lst8 K) _ 1 [l] (by decide) (by decide) (by omega) (Nat.le_refl _) sh (by simp) _ ks vs).mono ?_
  rintro ex w' ⟨⟨E', rfl, hc⟩, g⟩
  obtain rfl := hc.one hE
  exact ⟨rfl, ((g1.trans g2).trans g3).trans g⟩

set_option maxRecDepth 10000 in
set_option maxHeartbeats 4000000 in
theorem shown8 (LL : LevelsC) (w : World) : Calls Try.prog 7 #[] w fun e w' => e = .returned (.bool true) ∧ Gw w w' := by
  have B : Hid (∀ w : World, Calls Try.prog 8 #[.slice (some ⟨w.heap.size, 0, none⟩) 7 7, .int .i64 2] (w.alloc (.cells #[.int .u64 0, .int .u64 1, .int .u64 2, .int .u64 3, .int .u64 100, .int .u64 101, .int .u64 102] 31)) fun ex w' => (∃ lo lc s0 s1 t0, ex = .returned (.tuple #[.slice lo 2 lc, .int .i64 0]) ∧ VS w' lo [[s0, s1], [t0]] ∧ (s0.te = 4 ∧ s1.fr = 4 ∧ s1.k = 100 ∧ s1.te = 7 ∧ t0.te = 2)) ∧ Gw w w') := fun w => by
    refine (LL.build 2 _ 7 7 (lst8 [0, 1, 2, 3, 100, 101, 102]) (by decide) (by decide) (by decide) (by decide) _ (ks_lst8 _ [0, 1, 2, 3, 100, 101, 102] (by decide) _ (heap_alloc_new w _))).mono ?_
    rintro ex w' ⟨⟨lo, lc, L, err, rfl, hB, hV, _⟩, g⟩
    rcases hB with ⟨q, _⟩ | ⟨_, q, _⟩ | ⟨_, _, hR, rfl⟩
    · exact absurd (by decide) q
    · exact absurd ex8_up q
    · obtain ⟨s0, s1, t0, rfl, hs⟩ := ex8_build hR
      exact ⟨⟨lo, lc, s0, s1, t0, rfl, hV, hs⟩, ((Gw.refl w).alloc _ _).trans g⟩
  have MH : Hid (∀ w : World, Calls Try.prog 18 #[.int .i64 100, .int .i64 2] w fun ex w' => ex = .returned (.int .i64 7) ∧ Gw w w') := fun w => by
    have := LL.height 100 2 (by decide) (by decide) (by decide) (by decide) w
    rw [ex8_height] at this
    exact this
  have C1 : Hid (∀ w : World, Calls Try.prog 13 #[.slice (some ⟨w.heap.size, 0, none⟩) 1 1, .int .i64 2, .slice (some ⟨w.heap.size + 1 + 1, 0, none⟩) 1 1] (((w.alloc (.cells #[.int .u64 7] 31)).alloc (.cells #[.int .u64 7, .float .f64 0, .float .f64 0, .int .i64 0, .int .i64 1] 38)).alloc (.cells #[.slice (some ⟨w.heap.size + 1, 0, none⟩) 1 1] 34)) fun ex w' => ex = .returned (.int .i64 0) ∧ Gw w w') := fun w => lit_check LL [7] [⟨7, 0, 0, 0, 1⟩] 0 (by decide) (by decide) (by decide) (fun i hi => by
    match i, hi with
    | 0, _ => exact ⟨by decide, by decide, by decide, by decide, by decide, by decide, by decide, by decide⟩
    ) ex8_one w
  have C2 : Hid (∀ w : World, Calls Try.prog 13 #[.slice (some ⟨w.heap.size, 0, none⟩) 1 1, .int .i64 2, .slice (some ⟨w.heap.size + 1, 0, none⟩) 0 0] ((w.alloc (.cells #[.int .u64 7] 31)).alloc (.cells #[] 34)) fun ex w' => ex = .returned (.int .i64 81) ∧ Gw w w') := fun w => by
    refine (LL.check 2 _ 1 1 (lst8 [7]) _ 0 [] (by decide) (by decide) (by decide) (by decide) ⟨by decide, fun i hi => by simp at hi⟩ (by decide) _ ((ks_lst8 _ [7] (by decide) _ (heap_alloc_new w _)).gw ((Gw.refl _).alloc _ _)) ⟨fun h0 => by simp at h0⟩).mono ?_
    rintro ex w' ⟨⟨E', rfl, hc⟩, g⟩
    obtain rfl := hc.one ex8_none
    exact ⟨rfl, (((Gw.refl w).alloc _ _).alloc _ _).trans g⟩
  have C3 : Hid (∀ w : World, Calls Try.prog 13 #[.slice (some ⟨w.heap.size, 0, none⟩) 6 6, .int .i64 2, .slice (some ⟨w.heap.size + 1 + 1, 0, none⟩) 1 1] (((w.alloc (.cells #[.int .u64 0, .int .u64 1, .int .u64 2, .int .u64 3, .int .u64 4, .int .u64 5] 31)).alloc (.cells #[.int .u64 0, .float .f64 0, .float .f64 0, .int .i64 0, .int .i64 6] 38)).alloc (.cells #[.slice (some ⟨w.heap.size + 1, 0, none⟩) 1 1] 34)) fun ex w' => ex = .returned (.int .i64 85) ∧ Gw w w') := fun w => lit_check LL [0, 1, 2, 3, 4, 5] [⟨0, 0, 0, 0, 6⟩] 85 (by decide) (by decide) (by decide) (fun i hi => by
    match i, hi with
    | 0, _ => exact ⟨by decide, by decide, by decide, by decide, by decide, by decide, by decide, by decide⟩
    ) ex8_off w
  have C4 : Hid (∀ w : World, Calls Try.prog 13 #[.slice (some ⟨w.heap.size, 0, none⟩) 2 2, .int .i64 2, .slice (some ⟨w.heap.size + 1 + 1, 0, none⟩) 1 1] (((w.alloc (.cells #[.int .u64 7, .int .u64 9] 31)).alloc (.cells #[.int .u64 7, .float .f64 0, .float .f64 0, .int .i64 0, .int .i64 1, .int .u64 9, .float .f64 0, .float .f64 0, .int .i64 1, .int .i64 2] 38)).alloc (.cells #[.slice (some ⟨w.heap.size + 1, 0, none⟩) 2 2] 34)) fun ex w' => ex = .returned (.int .i64 84) ∧ Gw w w') := fun w => lit_check LL [7, 9] [⟨7, 0, 0, 0, 1⟩, ⟨9, 0, 0, 1, 2⟩] 84 (by decide) (by decide) (by decide) (fun i hi => by
    match i, hi with
    | 0, _ => exact ⟨by decide, by decide, by decide, by decide, by decide, by decide, by decide, by decide⟩
    | 1, _ => exact ⟨by decide, by decide, by decide, by decide, by decide, by decide, by decide, by decide⟩
    ) ex8_root w
  clear LL
  go_enter Try.func7, Try.ntmps7
  go_wp2_with fail
  refine (B.out _).mono ?_
  rintro e w1 ⟨⟨lo, lc, s0, s1, t0, rfl, hV, hs⟩, g1⟩
  have G1 : Aside (Gw w w1) := g1
  have V1 : Aside (VS w1 lo [[s0, s1], [t0]]) := hV
  have HS : Aside (s0.te = 4 ∧ s1.fr = 4 ∧ s1.k = 100 ∧ s1.te = 7 ∧ t0.te = 2) := hs
  clear g1 hV hs
  go_wp2_with fail
  refine (C1.out _).mono ?_
  rintro e w2 ⟨rfl, g2⟩
  have G2 : Aside (Gw w w2) := G1.out.trans g2
  have V2 : Aside (VS w2 lo [[s0, s1], [t0]]) := V1.out.gw g2
  clear g2 G1 V1
  go_wp2_with fail
  refine (C2.out _).mono ?_
  rintro e w3 ⟨rfl, g3⟩
  have G3 : Aside (Gw w w3) := G2.out.trans g3
  have V3 : Aside (VS w3 lo [[s0, s1], [t0]]) := V2.out.gw g3
  clear g3 G2 V2
  go_wp2_with fail
  refine (C3.out _).mono ?_
  rintro e w4 ⟨rfl, g4⟩
  have G4 : Aside (Gw w w4) := G3.out.trans g4
  have V4 : Aside (VS w4 lo [[s0, s1], [t0]]) := V3.out.gw g4
  clear g4 G3 V3
  go_wp2_with fail
  refine (C4.out _).mono ?_
  rintro e w5 ⟨rfl, g5⟩
  have G5 : Aside (Gw w w5) := G4.out.trans g5
  have V5 : Aside (VS w5 lo [[s0, s1], [t0]]) := V4.out.gw g5
  clear g5 G4 V4
  obtain ⟨b, off, rfl, hb, hc⟩ := V5.out.cells (by simp)
  obtain ⟨o0, c0, p0, _, _, d0⟩ := hc 0 (by simp)
  obtain ⟨o1, c1, p1, _, _, d1⟩ := hc 1 (by simp)
  obtain ⟨b0, f0, rfl, hb0, e0⟩ := d0.cells (by simp)
  obtain ⟨b1, f1, rfl, hb1, e1⟩ := d1.cells (by simp)
  have s00 := e0 0 (by simp)
  have s01 := e0 1 (by simp)
  have t00 := e1 0 (by simp)
  have p0' : w5.cell? ⟨b, off, none⟩ = some (.slice (some ⟨b0, f0, none⟩) 2 c0) := p0
  have p1' : w5.cell? ⟨b, off + 1, none⟩ = some (.slice (some ⟨b1, f1, none⟩) 1 c1) := p1
  have a4 : w5.cell? ⟨b0, f0 + 4, none⟩ = some (.int .i64 4) := by rw [← HS.out.1]; exact s00.c4
  have a5 : w5.cell? ⟨b0, f0 + 5, none⟩ = some (.int .u64 100) := by rw [← HS.out.2.2.1]; exact s01.c0
  have a8 : w5.cell? ⟨b0, f0 + 5 + 3, none⟩ = some (.int .i64 4) := by rw [← HS.out.2.1]; exact s01.c3
  have a9 : w5.cell? ⟨b0, f0 + 5 + 4, none⟩ = some (.int .i64 7) := by rw [← HS.out.2.2.2.1]; exact s01.c4
  have a10 : w5.cell? ⟨b1, f1 + 4, none⟩ = some (.int .i64 2) := by rw [← HS.out.2.2.2.2]; exact t00.c4
  clear hc d0 d1 e0 e1 s00 s01 t00 p0 p1 V5 HS C1 C2 C3 C4 B
  go_wp2_with fail
  refine (MH.out _).mono ?_
  rintro e w6 ⟨rfl, g6⟩
  have G6 : Aside (Gw w w6) := G5.out.trans g6
  clear g6 a4 a5 a8 a9 a10 p0' p1'
  go_wp2_with fail
  go_ret
  exact ⟨rfl, G6.out⟩

end Go.Proofs.Ytmmkmakajolfhab
