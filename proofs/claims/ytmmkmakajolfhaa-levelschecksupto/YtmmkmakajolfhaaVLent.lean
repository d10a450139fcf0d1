/- Layer 8's own copy of levels, with marks behind each list, and that they are as they were. -/
import Derived.Test.YtmmkmakajolfhaaPVo
import Derived.Test.YtmmkmakajolfhaaVSame
namespace Go.Proofs.Ytmmkmakajolfhaa
open Go.RowKit
set_option linter.unusedVariables false
attribute [local go_sem] run_store_float

/-- One list of the copy. -/
structure LentR (w : World) (v : Value) (l : List Sg) (b : Nat) : Prop where
  lt : b < w.heap.size
  is : v = .slice (some ⟨b, 0, none⟩) l.length (l.length + 1)
  gs : GS w (some ⟨b, 0, none⟩) l
  mark : w.cell? ⟨b, l.length * 5 + 3, none⟩ = some (.int .i64 (-77))
theorem LentR.gw {w w' : World} {v : Value} {l : List Sg} {b : Nat} (h : LentR w v l b) (g : Gw w w') : LentR w' v l b :=
  ⟨Nat.lt_of_lt_of_le h.lt g.size, h.is, h.gs.gw g, (g.cell _ _ h.lt).trans h.mark⟩
theorem gs_keep {w w' : World} {g : Nat} {l : List Sg} (h : GS w (some ⟨g, 0, none⟩) l) (hb : w'.heap[g]? = w.heap[g]?) (hs : w.heap.size ≤ w'.heap.size) : GS w' (some ⟨g, 0, none⟩) l :=
  ⟨fun h0 => by
    obtain ⟨b, off, e, hl, hc⟩ := h.cells h0
    cases e
    have cc : ∀ o, w'.cell? ⟨g, o, none⟩ = w.cell? ⟨g, o, none⟩ := fun o => by unfold World.cell?; rw [hb]
    exact ⟨g, 0, rfl, by omega, fun i hi => ⟨(cc _).trans (hc i hi).c0, (cc _).trans (hc i hi).c1, (cc _).trans (hc i hi).c2, (cc _).trans (hc i hi).c3, (cc _).trans (hc i hi).c4⟩⟩, h.ok⟩
theorem lent_keep {w w' : World} {v : Value} {l : List Sg} {b : Nat} (h : LentR w v l b) (hb : w'.heap[b]? = w.heap[b]?) (hs : w.heap.size ≤ w'.heap.size) : LentR w' v l b :=
  ⟨Nat.lt_of_lt_of_le h.lt hs, h.is, gs_keep h.gs hb hs, by have := h.mark; unfold World.cell? at this ⊢; rw [hb]; exact this⟩
/-- Levels of one's own, with a mark behind each list. -/
structure LentV (w : World) (B : Nat) (L : List (List Sg)) : Prop where
  lt : B < w.heap.size
  row : ∀ i, i < L.length → ∃ b v, w.cell? ⟨B, i, none⟩ = some v ∧ LentR w v (L.getD i []) b
  last : ∃ b, b < w.heap.size ∧ w.cell? ⟨B, L.length, none⟩ = some (.slice (some ⟨b, 0, none⟩) 1 1) ∧ w.cell? ⟨b, 3, none⟩ = some (.int .i64 (-78))
theorem LentV.gw {w w' : World} {B : Nat} {L : List (List Sg)} (h : LentV w B L) (g : Gw w w') : LentV w' B L := by
  refine ⟨Nat.lt_of_lt_of_le h.lt g.size, fun i hi => ?_, ?_⟩
  · obtain ⟨b, v, h1, h2⟩ := h.row i hi
    exact ⟨b, v, (g.cell _ _ h.lt).trans h1, h2.gw g⟩
  · obtain ⟨b, h0, h1, h2⟩ := h.last
    exact ⟨b, Nat.lt_of_lt_of_le h0 g.size, (g.cell _ _ h.lt).trans h1, (g.cell _ _ h0).trans h2⟩
theorem LentV.vs {w : World} {B : Nat} {L : List (List Sg)} (h : LentV w B L) : VS w (some ⟨B, 0, none⟩) L := by
  refine ⟨fun _ => ⟨B, 0, rfl, h.lt, fun i hi => ?_⟩⟩
  obtain ⟨b, v, h1, h2⟩ := h.row i hi
  rw [h2.is] at h1
  exact ⟨some ⟨b, 0, none⟩, _, by rw [Nat.zero_add]; exact h1, by omega, (fun e => by cases e), h2.gs⟩

set_option maxRecDepth 10000 in
set_option maxHeartbeats 4000000 in
theorem lent8_any (ao : Option Addr) (c : Nat) (L : List (List Sg)) (hL : L.length ≤ 2000000) (hl : ∀ i, i < L.length → (L.getD i []).length ≤ 2000000) (w : World) (h : VS w ao L) :
    Calls Try.prog 9 #[.slice ao L.length c] w fun e w' => (∃ B, e = .returned (.slice (some ⟨B, 0, none⟩) L.length (L.length + 1)) ∧ LentV w' B L) ∧ Gw w w' := by
  have VA : Aside (VS w ao L) := h
  have HL : Aside (∀ i, i < L.length → (L.getD i []).length ≤ 2000000) := hl
  clear h hl
  obtain ⟨n, hn⟩ : ∃ n, L.length = n := ⟨_, rfl⟩
  have LN : Aside (L.length = n) := hn
  rw [hn] at hL ⊢
  clear hn
  have hmk := made_vs n (by omega)
  have R0 : Aside ((w.alloc (.cells (madeCells #[.slice none 0 0] (n + 1)) 37)).rowIs w.heap.size 37 (n + 1) (fun _ => .slice none 0 0)) := World.rowIs_made w _ _ _
  have G0 : Aside (Gw w (w.alloc (.cells (madeCells #[.slice none 0 0] (n + 1)) 37))) := (Gw.refl w).alloc _ _
  obtain ⟨B, hB⟩ : ∃ B, B = w.heap.size := ⟨_, rfl⟩
  have BB : Aside (B = w.heap.size) := hB
  go_enter Try.func9, Try.ntmps9
  go_wp2_with fail
  clear hmk
  rw [← hB] at R0 ⊢
  generalize w.alloc (.cells (madeCells #[.slice none 0 0] (n + 1)) 37) = w1 at R0 G0 ⊢
  clear hB
  go_loopg [4] n (fun gg s4 wr => ∃ i : Nat, s4 = .int .i64 i ∧ i ≤ n ∧ n - i ≤ gg ∧ Aside (∃ g, wr.rowIs B 37 (n + 1) g ∧ ∀ j, j < i → ∃ b, B < b ∧ LentR wr (g j) (L.getD j []) b) ∧ Aside (Gw w wr))
  case atStart => exact ⟨0, rfl, Nat.zero_le _, by omega, (show Aside _ from ⟨_, R0.out, fun j hj => absurd hj (Nat.not_lt_zero _)⟩), G0⟩
  case round =>
    clear R0 G0
    obtain ⟨i, rfl, h1, h2, R, G⟩ := hrel
    by_cases hlt : i < n
    · obtain ⟨ab, af, rfl, hab, hac⟩ := (VA.out.gw G.out).cells (by rw [LN.out]; omega)
      obtain ⟨so, sc, p1, p2, p3, p4⟩ := hac i (by rw [LN.out]; exact hlt)
      have sl := HL.out i (by rw [LN.out]; exact hlt)
      clear hac
      obtain ⟨l, hli⟩ : ∃ l, L.getD i [] = l := ⟨_, rfl⟩
      have LI : Aside (L.getD i [] = l) := hli
      rw [hli] at p1 p2 p3 p4 sl
      clear hli
      have GA : Aside (GS wr so l) := p4
      obtain ⟨sn, hsn⟩ : ∃ sn, l.length = sn := ⟨_, rfl⟩
      have SN : Aside (l.length = sn) := hsn
      rw [hsn] at p1 p2 p3 sl
      clear hsn p4 p3
      obtain ⟨w8, hw8⟩ : ∃ wx, wx = wr := ⟨_, rfl⟩
      subst hw8
      have hmk2 := made_sg sn (by omega) w8
      obtain ⟨f0, hR⟩ := made_sgrow w8 (sn + 1)
      have G9 : Aside (Gw w8 (w8.alloc (.cells (madeCells #[.int .u64 0, .float .f64 0, .float .f64 0, .int .i64 0, .int .i64 0] ((sn + 1) * 5)) 40))) := (Gw.refl w8).alloc _ _
      obtain ⟨b1, hb1⟩ : ∃ b1, b1 = w8.heap.size := ⟨_, rfl⟩
      have B1 : Aside (b1 = w8.heap.size) := hb1
      rw [← hb1] at hR
      obtain ⟨w2, hcp, hR2, hG2, hK2, hS2⟩ := copy_sg 3 so sc (sn + 1) l _ (GA.out.gw G9.out) (by rw [SN.out]; omega) b1 f0 hR
      rw [SN.out] at hcp hR2
      have GG : Aside (Gw w8 w2) := hG2 _ G9.out (by omega)
      have hw2 : w8.heap.size < w2.heap.size := by rw [hS2]; simp
      have KK : Aside (∀ q, q < w8.heap.size → w2.heap[q]? = w8.heap[q]?) := fun q hq => (hK2 q (by omega)).trans (heap_alloc_old w8 _ hq)
      have q1 : w2.cell? ⟨ab, af + i, none⟩ = some (.slice so sn sc) := (GG.out.cell _ _ hab).trans p1
      have hab2 : ab < w2.heap.size := Nat.lt_of_lt_of_le hab GG.out.size
      obtain ⟨g, hrow, hrows⟩ := R.out
      have hrow2 := hrow.of_block (KK.out B hrow.lt)
      have RW : Aside (w2.rowIs B 37 (n + 1) g) := hrow2
      have RS : Aside (∀ j, j < i → ∃ b, B < b ∧ LentR w8 (g j) (L.getD j []) b) := hrows
      have BL : Aside (B < w8.heap.size) := hrow.lt
      have o1 := hrow2.cell (i := i) (by omega)
      have o2 := hrow2.frozen i
      have nb : ¬ B = w8.heap.size := by have := hrow.lt; omega
      have nb' : ¬ w8.heap.size = B := by have := hrow.lt; omega
      have m0 := hR2.cell (i := sn * 5) (by omega)
      have m1 := hR2.cell (i := sn * 5 + 1) (by omega)
      have m2 := hR2.cell (i := sn * 5 + 2) (by omega)
      have m3 := hR2.cell (i := sn * 5 + 3) (by omega)
      have m4 := hR2.cell (i := sn * 5 + 4) (by omega)
      have z0 := hR2.frozen (sn * 5)
      have z1 := hR2.frozen (sn * 5 + 1)
      have z2 := hR2.frozen (sn * 5 + 2)
      have z3 := hR2.frozen (sn * 5 + 3)
      have z4 := hR2.frozen (sn * 5 + 4)
      have MM : Aside (w2.rowIs b1 40 ((sn + 1) * 5) (fun j => if j < sn * 5 then flc l j else f0 j)) := hR2
      rw [hb1] at hcp m0 m1 m2 m3 m4 z0 z1 z2 z3 z4
      generalize g i = gi at o1
      generalize (if sn * 5 < sn * 5 then flc l (sn * 5) else f0 (sn * 5)) = x0 at m0
      generalize (if sn * 5 + 1 < sn * 5 then flc l (sn * 5 + 1) else f0 (sn * 5 + 1)) = x1 at m1
      generalize (if sn * 5 + 2 < sn * 5 then flc l (sn * 5 + 2) else f0 (sn * 5 + 2)) = x2 at m2
      generalize (if sn * 5 + 3 < sn * 5 then flc l (sn * 5 + 3) else f0 (sn * 5 + 3)) = x3 at m3
      generalize (if sn * 5 + 4 < sn * 5 then flc l (sn * 5 + 4) else f0 (sn * 5 + 4)) = x4 at m4
      clear hR hR2 hG2 hK2 hS2 hrow hrows hrow2 hb1 R
      go_wp2_with fail
      go_roundg (n - (i + 1))
      case measure => omega
      case rel =>
        have e1 := B1.out
        have bl := BL.out
        have bw := BB.out
        have gz := G.out.size
        rw [← e1]
        have nb1 : b1 ≠ B := by omega
        have r1 := ((((RW.out.setOther (a := ⟨b1, sn * 5, none⟩) (by simp; omega) (.int .u64 0)).setOther (a := ⟨b1, sn * 5 + 1, none⟩) (by simp; omega) (.float .f64 0)).setOther (a := ⟨b1, sn * 5 + 2, none⟩) (by simp; omega) (.float .f64 0)).setOther (a := ⟨b1, sn * 5 + 3, none⟩) (by simp; omega) (.int .i64 (-77))).setOther (a := ⟨b1, sn * 5 + 4, none⟩) (by simp; omega) (.int .i64 0)
        have r2 := r1.set i (.slice (some ⟨b1, 0, none⟩) sn (sn + 1))
        have m2 := (((((MM.out.set (sn * 5) (.int .u64 0)).set (sn * 5 + 1) (.float .f64 0)).set (sn * 5 + 2) (.float .f64 0)).set (sn * 5 + 3) (.int .i64 (-77))).set (sn * 5 + 4) (.int .i64 0)).setOther (a := ⟨B, i, none⟩) (by simpa using nb1) (.slice (some ⟨b1, 0, none⟩) sn (sn + 1))
        have GN := (((((GG.out.setCell (p := ⟨b1, sn * 5, none⟩) (by simp; omega) (.int .u64 0)).setCell (p := ⟨b1, sn * 5 + 1, none⟩) (by simp; omega) (.float .f64 0)).setCell (p := ⟨b1, sn * 5 + 2, none⟩) (by simp; omega) (.float .f64 0)).setCell (p := ⟨b1, sn * 5 + 3, none⟩) (by simp; omega) (.int .i64 (-77))).setCell (p := ⟨b1, sn * 5 + 4, none⟩) (by simp; omega) (.int .i64 0))
        have GF := (G.out.trans GN).setCell (p := ⟨B, i, none⟩) (by simp; omega) (.slice (some ⟨b1, 0, none⟩) sn (sn + 1))
        refine ⟨i + 1, by go_num, by omega, Nat.le_refl _, (show Aside _ from ⟨_, r2, fun j hj => ?_⟩), (show Aside _ from GF)⟩
        by_cases e : j = i
        · subst e
          rw [if_pos rfl, LI.out]
          refine ⟨b1, by omega, m2.lt, by rw [SN.out], row_gs m2 (by rw [SN.out]; omega) (fun x hx => ?_) GA.out.ok, ?_⟩
          · rw [SN.out] at hx
            rw [if_neg (by omega), if_neg (by omega), if_neg (by omega), if_neg (by omega), if_neg (by omega), if_pos hx]
          · rw [SN.out, m2.cell (by omega), if_neg (by omega), if_pos rfl]
        · rw [if_neg e]
          obtain ⟨b, h3, h4⟩ := RS.out j (by omega)
          refine ⟨b, h3, lent_keep (h4.gw GN) (Go.Deep.blk_setCell_other _ _ _ _ (by simp; omega)) (by simp)⟩
    · have ei : i = n := by omega
      subst ei
      obtain ⟨g, hrow, hrows⟩ := R.out
      have RW : Aside (wr.rowIs B 37 (i + 1) g) := hrow
      have RS : Aside (∀ j, j < i → ∃ b, B < b ∧ LentR wr (g j) (L.getD j []) b) := hrows
      have o1 := hrow.cell (i := i) (by omega)
      have o2 := hrow.frozen i
      have bl : B < wr.heap.size := hrow.lt
      have nb : ¬ B = wr.heap.size := by have := hrow.lt; omega
      have nb' : ¬ wr.heap.size = B := by have := hrow.lt; omega
      generalize g i = gi at o1
      clear hrow hrows R
      go_wp2_with fail
      go_ret
      have gz := G.out.size
      have bw := BB.out
      have r1 := (RW.out.set i (.slice (some ⟨wr.heap.size, 0, none⟩) 1 1)).alloc (.cells #[.int .u64 0, .float .f64 0, .float .f64 0, .int .i64 (-78), .int .i64 0] 40)
      refine ⟨⟨B, rfl, r1.lt, fun j hj => ?_, ?_⟩, (G.out.setCell (p := ⟨B, i, none⟩) (by simp; omega) _).alloc _ _⟩
      · rw [LN.out] at hj
        obtain ⟨b, h3, h4⟩ := RS.out j hj
        refine ⟨b, g j, ?_, lent_keep h4 ((heap_alloc_old _ _ (by simpa using h4.lt)).trans (Go.Deep.blk_setCell_other _ _ _ _ (by simp; omega))) (by simp)⟩
        rw [r1.cell (by omega), if_neg (by omega)]
      · rw [LN.out]
        refine ⟨wr.heap.size, by simp, by rw [r1.cell (by omega), if_pos rfl], ?_⟩
        have h := heap_alloc_new (wr.setCell ⟨B, i, none⟩ (.slice (some ⟨wr.heap.size, 0, none⟩) 1 1)) (.cells #[.int .u64 0, .float .f64 0, .float .f64 0, .int .i64 (-78), .int .i64 0] 40)
        have hs : (wr.setCell ⟨B, i, none⟩ (.slice (some ⟨wr.heap.size, 0, none⟩) 1 1)).heap.size = wr.heap.size := by simp
        rw [hs] at h
        simp only [World.cell?, h]
        rfl

set_option maxRecDepth 10000 in
set_option maxHeartbeats 4000000 in
theorem still8_any (ao : Option Addr) (B c : Nat) (L : List (List Sg)) (hL : L.length ≤ 2000000) (hl : ∀ i, i < L.length → (L.getD i []).length ≤ 2000000) (w : World) (h : VS w ao L) (hB : LentV w B L) :
    Calls Try.prog 12 #[.slice (some ⟨B, 0, none⟩) L.length (L.length + 1), .slice ao L.length c] w fun e w' => e = .returned (.bool true) ∧ Gw w w' := by
  have VA : Aside (VS w ao L) := h
  have VB : Aside (LentV w B L) := hB
  have HL : Aside (∀ i, i < L.length → (L.getD i []).length ≤ 2000000) := hl
  have SA : Hid _ := fun W (h : VS W ao L) (h' : VS W (some ⟨B, 0, none⟩) L) => same8_any (some ⟨B, 0, none⟩) ao (L.length + 1) c L (by omega) (fun i hi => by have := hl i hi; omega) W h' h
  clear h hl hB
  obtain ⟨n, hn⟩ : ∃ n, L.length = n := ⟨_, rfl⟩
  have LN : Aside (L.length = n) := hn
  rw [hn] at hL SA ⊢
  clear hn
  go_enter Try.func12, Try.ntmps12
  go_wp2_with fail
  refine (SA.out _ VA.out VB.out.vs).mono ?_
  rintro e w1 ⟨rfl, g1⟩
  have G1 : Aside (Gw w w1) := g1
  obtain ⟨b0, l0, l1, l2⟩ := (VB.out.gw g1).last
  rw [LN.out] at l1
  have lB := (VB.out.gw g1).lt
  clear g1 SA
  go_wp2_with fail
  first
    | (go_quiet (fail)
       go_wp2_with fail)
    | skip
  clear l0 l1 l2 lB
  go_loopg [5] n (fun gg s5 wr => ∃ i : Nat, s5 = .int .i64 i ∧ i ≤ n ∧ n - i ≤ gg ∧ Aside (Gw w wr))
  case atStart => exact ⟨0, rfl, Nat.zero_le _, by omega, (by first | exact G1 | exact (show Aside _ from G1.out.drewN _))⟩
  case round =>
    obtain ⟨i, rfl, h1, h2, G⟩ := hrel
    by_cases hlt : i < n
    · obtain ⟨ab, af, rfl, hab, hac⟩ := (VA.out.gw G.out).cells (by rw [LN.out]; omega)
      obtain ⟨so, sc, p1, p2, p3, p4⟩ := hac i (by rw [LN.out]; exact hlt)
      obtain ⟨b, v, q1, q2⟩ := (VB.out.gw G.out).row i (by rw [LN.out]; exact hlt)
      have lB := (VB.out.gw G.out).lt
      have sl := HL.out i (by rw [LN.out]; exact hlt)
      have e1 := q2.is
      have q3 := q2.mark
      have q4 := q2.lt
      rw [e1] at q1
      generalize L.getD i [] = l at p1 q1 q3 sl
      generalize l.length = sn at p1 q1 q3 sl
      clear hac p2 p3 p4 q2 e1
      go_wp2_with fail
      first
        | (go_quiet (fail)
           go_wp2_with fail)
        | skip
      go_roundg (n - (i + 1))
      case measure => omega
      case rel => exact ⟨i + 1, by go_num, by omega, Nat.le_refl _, (by first | exact (show Aside _ from G.out.drewN _) | exact G)⟩
    · go_wp2_with fail
      go_ret
      exact ⟨rfl, G.out⟩

end Go.Proofs.Ytmmkmakajolfhaa
