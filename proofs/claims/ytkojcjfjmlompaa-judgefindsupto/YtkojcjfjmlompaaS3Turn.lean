/- Layer 23's statements' own: an answer with one thing turned. -/
import Derived.Test.YtkojcjfjmlompaaS3Shown
import Derived.Deep.CutBlock
import Derived.BigRegion
import Derived.StillTailTactics
namespace Go.Proofs.Ytkojcjfjmlompaa
open Go.RowKit
set_option linter.unusedVariables false
def TurnO (w w' : World) (e : Ending) (A : Aw) (is : Bool) : Prop := ∃ (bo : Option Addr) (c : Nat), e = .returned (.tuple #[awV A bo c, .bool is]) ∧ PLr w' bo A.L ∧ Gw w w' ∧ ∀ a, bo = some a → w.heap.size ≤ a.block
/-- Ahead of the return. -/
structure TE (w W : World) (A : Aw) (b3 : Nat) (bo : Option Addr) (c : Nat) : Prop where
  ge : w.heap.size = b3
  res : W.heap[b3 + 1]? = some (.cells #[.int .i64 0, .bool false, .int .u64 0, .int .u64 0, .int .i64 0, .slice none 0 0] 36 (0, 0))
  box : W.heap[b3]? = some (.cells (awC A bo c) 36 (0, 0))
  ls : PLr W bo A.L
  new : ∀ a, bo = some a → b3 + 2 ≤ a.block
  g : Gw w W
theorem TE.out {w W : World} {A : Aw} {b3 : Nat} {bo : Option Addr} {c : Nat} {is : Bool} (h : TE w W A b3 bo c) : TurnO w (set6 W (b3 + 1) A bo c) (.returned (.tuple #[awV A bo c, .bool is])) A is :=
  ⟨bo, c, rfl, h.ls.keep (Nat.le_of_eq (set6_size _ _ _ _ _).symm) (fun a e _ => set6_other _ _ _ _ _ _ (by have := h.new a e; omega)), Gx.gw (Gw.refl w) (set6_gx (h.g.gx fun _ => False) _ (by rw [h.ge]; omega) A bo c) (fun q hq => hq.elim), fun a e => by have := h.new a e; have := h.ge; omega⟩
/-- The box with one cell turned. -/
theorem TE.turn {w W : World} {A A' : Aw} {b3 : Nat} {bo : Option Addr} {c : Nat} (h : TE w W A b3 bo c) (j : Nat) (u : Value) (hj : (awC A bo c).setIfInBounds j u = awC A' bo c) (hL : A'.L = A.L) : TE w (W.setCell ⟨b3, j, none⟩ u) A' b3 bo c := by
  have ot : ∀ q, q ≠ b3 → (W.setCell ⟨b3, j, none⟩ u).heap[q]? = W.heap[q]? := fun q hq => Go.Deep.blk_setCell_other W ⟨b3, j, none⟩ _ q hq
  refine ⟨h.ge, (ot _ (by omega)).trans h.res, ?_, ?_, h.new, h.g.setCell (Nat.le_of_eq h.ge) _⟩
  · rw [← hj]
    simp [World.setCell, Array.getElem?_modify, h.box]
  · rw [hL]
    exact h.ls.keep (by simp [World.setCell]) (fun a e _ => ot _ (by have := h.new a e; omega))
theorem te_first {w w2 w9 : World} {c k v n : Int} {is : Bool} {L : Ps} {m b3 g cap ca : Nat} {ao : Option Addr} (ge : w.heap.size = b3) (ml : L.length = m) (g2 : Gw w w2) (h1 : w2.heap[b3]? = some (.cells #[.int .i64 c, .bool is, .int .u64 k, .int .u64 v, .int .i64 n, .slice ao m ca] 36 (0, 0))) (h2 : w2.heap[b3 + 1]? = some (.cells #[.int .i64 0, .bool false, .int .u64 0, .int .u64 0, .int .i64 0, .slice none 0 0] 36 (0, 0))) (zm : w2.heap.size = b3 + 2) (r1 : RowG 44 2 pc2 w9 (b3 + 2) g m cap L) (r2 : (w2.alloc (.cells #[] 44)).grownBy w9 (some (b3 + 2))) : TE w (w9.setCell ⟨b3, 5, none⟩ (.slice (some ⟨g, 0, none⟩) m cap)) ⟨c, is, k, v, n, L⟩ b3 (some ⟨g, 0, none⟩) cap := by
  have ol : ∀ q, q < b3 + 2 → w9.heap[q]? = w2.heap[q]? := fun q hq => (r2.block q (by simp; omega) (fun e => by cases e; omega)).trans (heap_alloc_old w2 _ (by omega))
  have ot : ∀ q, q ≠ b3 → (w9.setCell ⟨b3, 5, none⟩ (.slice (some ⟨g, 0, none⟩) m cap)).heap[q]? = w9.heap[q]? := fun q hq => Go.Deep.blk_setCell_other w9 ⟨b3, 5, none⟩ _ q hq
  have gl := r1.lt.1
  refine ⟨ge, (ot _ (by omega)).trans ((ol _ (by omega)).trans h2), ?_, (r1.keep (ot _ (by omega))).ls pc2_len, (fun a e => by cases e; exact gl), ((g2.alloc _ _).grown r2 (fun k hk => by cases hk; omega)).setCell (Nat.le_of_eq ge) _⟩
  simp [World.setCell, Array.getElem?_modify, ol b3 (by omega), h1, awC, ml]
theorem te_box {w2 w9 : World} {b3 : Nat} {o : Obj} (zm : w2.heap.size = b3 + 2) (r2 : (w2.alloc (.cells #[] 44)).grownBy w9 (some (b3 + 2))) (h : w2.heap[b3]? = some o) : w9.heap[b3]? = some o :=
  (r2.block b3 (by simp; omega) (fun e => by have := Option.some.inj e; omega)).trans ((heap_alloc_old w2 _ (by omega)).trans h)
/-- Its list turned. -/
theorem TE.lst {w W W' : World} {A : Aw} {b3 : Nat} {bo bo' : Option Addr} {c c' n' : Nat} {L' : Ps} (h : TE w W A b3 bo c) (g : ∀ q, q < b3 + 2 → W'.heap[q]? = W.heap[q]?) (gg : Gw w W') (hl : PLr W' bo' L') (hn : ∀ a, bo' = some a → b3 + 2 ≤ a.block) (hn' : L'.length = n') : TE w (W'.setCell ⟨b3, 5, none⟩ (.slice bo' n' c')) ⟨A.c, A.is, A.k, A.v, A.n, L'⟩ b3 bo' c' := by
  have ot : ∀ q, q ≠ b3 → (W'.setCell ⟨b3, 5, none⟩ (.slice bo' n' c')).heap[q]? = W'.heap[q]? := fun q hq => Go.Deep.blk_setCell_other W' ⟨b3, 5, none⟩ _ q hq
  refine ⟨h.ge, (ot _ (by omega)).trans ((g _ (by omega)).trans h.res), ?_, hl.keep (by simp [World.setCell]) (fun a e _ => ot _ (by have := hn a e; omega)), hn, gg.setCell (Nat.le_of_eq h.ge) _⟩
  simp [World.setCell, Array.getElem?_modify, g b3 (by omega), h.box, awC, hn']
theorem TE.row {w W W' : World} {A : Aw} {b3 : Nat} {bo : Option Addr} {c : Nat} {L' : Ps} (h : TE w W A b3 bo c) (g : ∀ q, q < b3 + 2 → W'.heap[q]? = W.heap[q]?) (gg : Gw w W') (hl : PLr W' bo L') (hn' : L'.length = A.L.length) : TE w W' ⟨A.c, A.is, A.k, A.v, A.n, L'⟩ b3 bo c := by
  refine ⟨h.ge, (g _ (by omega)).trans h.res, ?_, hl, h.new, gg⟩
  rw [g b3 (by omega), h.box, awC, awC]
  dsimp only
  rw [hn']
theorem te_old {w wB w7 : World} {b3 g m cap : Nat} {L : Ps} {arr : Array Value} (h : RowG 44 2 pc2 wB (b3 + 2) g m cap L) (gw : Gw w wB) (ge : w.heap.size = b3) (s2 : (wB.alloc (.cells arr 44)).grownBy w7 (some g)) : ∀ q, q < b3 + 2 → w7.heap[q]? = wB.heap[q]? := fun q hq => by
  have h1 := h.lt
  exact (s2.block q (by simp; omega) (fun e => by have := Option.some.inj e; omega)).trans (heap_alloc_old wB _ (by omega))
theorem te_set {w W : World} {c k v n : Int} {is : Bool} {L : Ps} {b3 g m cap i : Nat} {pk pv : Int} (h : TE w W ⟨c, is, k, v, n, L⟩ b3 (some ⟨g, 0, none⟩) cap) (r : RowG 44 2 pc2 W (b3 + 2) g m cap L) (hp : L[i]? = some (pk, pv)) (v1 : Int) : TE w (W.setCell ⟨g, i * 2 + 1, none⟩ (.int .u64 v1)) ⟨c, is, k, v, n, L.set i (pk, v1)⟩ b3 (some ⟨g, 0, none⟩) cap := by
  have gl := r.lt
  have ge := h.ge
  refine h.row (fun q hq => Go.Deep.blk_setCell_other W ⟨g, i * 2 + 1, none⟩ _ q (by show q ≠ g; omega)) (h.g.setCell (by show w.heap.size ≤ g; omega) _) ?_ (by simp)
  have hr : RowG 44 2 pc2 (W.setCell ⟨g, i * 2 + 1, none⟩ (.int .u64 v1)) (b3 + 2) g m cap (L.set i (pk, v1)) := by
    refine ⟨by rw [List.length_set]; exact r.len, ?_⟩
    have e := pcs_set L i pk v1 (pk, pv) hp rfl
    unfold pcs at e
    rw [e]
    exact own_setc r.row _ _
  exact hr.ls pc2_len
theorem u64_add1 (x y : Int) : (IntKind.u64.wrap (IntKind.u64.wrap (x + 1) + y)) = w64 (x + 1 + y) := by
  simp only [IntKind.wrap_u64, w64]
  omega
set_option maxRecDepth 100000 in
set_option maxHeartbeats 8000000 in
theorem turned23 (A : Aw) (ao : Option Addr) (ca : Nat) (hA : A.L.length ≤ 4000000) (hc : 0 ≤ A.c ∧ A.c ≤ 161) (hn : 0 ≤ A.n ∧ A.n ≤ 4000000) (rule y : Int) (hy : 0 ≤ y ∧ y < 18446744073709551616) (w : World) (ha : PLr w ao A.L) (hno : ao = none → ca = 0) :
    Calls Try.prog 19 #[awV A ao ca, .int .i64 rule, .int .u64 y] w fun e w' => TurnO w w' e (turnP A rule y).1 (turnP A rule y).2 := by
  obtain ⟨ii, hii, hz, hsz, hby⟩ := info_parts info_pair
  have PA : Hid (PLr w ao A.L) := ha
  have NO : Hid (ao = none → A.L.length = 0 ∧ ca = 0) := fun e => by
    refine ⟨?_, hno e⟩
    rcases Nat.eq_zero_or_pos A.L.length with z | z
    · exact z
    · obtain ⟨b, off, e', _⟩ := ha.cells z
      rw [e] at e'
      cases e'
  clear ha hno
  obtain ⟨c, is, k, v, n, L⟩ := A
  dsimp only [awV] at *
  obtain ⟨m, hm⟩ : ∃ m, L.length = m := ⟨_, rfl⟩
  have ML : Hid (L.length = m) := hm
  rw [hm] at hA NO ⊢
  clear hm
  obtain ⟨b3, hb3⟩ : ∃ b3, w.heap.size = b3 := ⟨_, rfl⟩
  have W0 : Hid (w.heap.size = b3) := hb3
  obtain ⟨w2, hw2⟩ : ∃ w2, (w.alloc (.cells #[.int .i64 c, .bool is, .int .u64 k, .int .u64 v, .int .i64 n, .slice ao m ca] 36)).alloc (.cells #[.int .i64 0, .bool false, .int .u64 0, .int .u64 0, .int .i64 0, .slice none 0 0] 36) = w2 := ⟨_, rfl⟩
  have G2 : Hid (Gw w w2) := by rw [← hw2]; exact ((Gw.refl w).alloc _ _).alloc _ _
  have B2 : Hid (w2.heap[b3]? = some (.cells #[.int .i64 c, .bool is, .int .u64 k, .int .u64 v, .int .i64 n, .slice ao m ca] 36 (0, 0)) ∧ w2.heap[b3 + 1]? = some (.cells #[.int .i64 0, .bool false, .int .u64 0, .int .u64 0, .int .i64 0, .slice none 0 0] 36 (0, 0)) ∧ w2.heap.size = b3 + 2) := by
    have := two_new w (.cells #[.int .i64 c, .bool is, .int .u64 k, .int .u64 v, .int .i64 n, .slice ao m ca] 36) (.cells #[.int .i64 0, .bool false, .int .u64 0, .int .u64 0, .int .i64 0, .slice none 0 0] 36)
    rw [hw2, hb3] at this
    exact ⟨this.1, this.2, by rw [← hw2, ← hb3]; simp⟩
  have c5 : (w2.alloc (.cells #[] 44)).cell? ⟨b3, 5, none⟩ = some (.slice ao m ca) := blkc ((heap_alloc_old w2 _ (blkl B2.out.1)).trans B2.out.1) rfl
  have R0 : Hid (RowG 44 2 pc2 (w2.alloc (.cells #[] 44)) (b3 + 2) (b3 + 2) 0 0 []) := RowG.new _ _ _ w2 _ _ B2.out.2.2 (Nat.le_refl _)
  have NB : Hid (∀ ad, ao = some ad → ∀ j u, (L.flatMap pc2)[j]? = some u → (w2.alloc (.cells #[] 44)).cell? (ad.add j) = some u) := (PA.out.gw (G2.out.alloc _ _)).news pc2_len (by decide)
  have zm : w2.heap.size = b3 + 2 := B2.out.2.2
  go_enter Try.func19, Try.ntmps19
  go_upto_region 2 with (at_builtin; refine app4_w _ rfl _ _ 34 rfl (b3 + 2) 44 ii _ 2 16 Try.underlying34 hii hz hsz hby rfl (by decide) pc2 pc2_len (b3 + 2) 0 0 [] rfl R0.out ao m ca L rfl NO.out ML.out NB.out (pcs_one L) (by simp only [maxLen]; omega) (by omega) ?_; intro g9 cap9 w9 r1 r2 r3; rw [Nat.zero_add] at r1 ⊢; have T9 : Hid (TE w (w9.setCell ⟨b3, 5, none⟩ (.slice (some ⟨g9, 0, none⟩) m cap9)) ⟨c, is, k, v, n, L⟩ b3 (some ⟨g9, 0, none⟩) cap9 ∧ RowG 44 2 pc2 w9 (b3 + 2) g9 m cap9 L) := ⟨te_first W0.out ML.out G2.out B2.out.1 B2.out.2.1 zm r1 r2, r1⟩; have b9 := te_box zm r2 B2.out.1; have c6 : w9.cell? ⟨b3, 5, none⟩ = some (.slice ao m ca) := blkc b9 rfl; have f6 : w9.frozen? ⟨b3, 5, none⟩ = false := blkf b9; clear b9; clear r1 r2 r3)
  obtain ⟨wB, hwB⟩ : ∃ wB, w9.setCell ⟨b3, 5, none⟩ (.slice (some ⟨g9, 0, none⟩) m cap9) = wB := ⟨_, rfl⟩
  have RB : Hid (RowG 44 2 pc2 wB (b3 + 2) g9 m cap9 L) := by
    rw [← hwB]
    exact T9.out.2.keep (Go.Deep.blk_setCell_other w9 ⟨b3, 5, none⟩ _ g9 (by have := T9.out.2.lt.1; show g9 ≠ b3; omega))
  have TB : Hid (TE w wB ⟨c, is, k, v, n, L⟩ b3 (some ⟨g9, 0, none⟩) cap9) := by rw [← hwB]; exact T9.out.1
  rw [hwB]
  have bb := TB.out.box
  rw [awC] at bb
  dsimp only at bb
  rw [ML.out] at bb
  have q0 : wB.cell? ⟨b3, 0, none⟩ = some (.int .i64 c) := blkc bb rfl
  have q1 : wB.cell? ⟨b3, 1, none⟩ = some (.bool is) := blkc bb rfl
  have q2 : wB.cell? ⟨b3, 2, none⟩ = some (.int .u64 k) := blkc bb rfl
  have q3 : wB.cell? ⟨b3, 3, none⟩ = some (.int .u64 v) := blkc bb rfl
  have q4 : wB.cell? ⟨b3, 4, none⟩ = some (.int .i64 n) := blkc bb rfl
  have q5 : wB.cell? ⟨b3, 5, none⟩ = some (.slice (some ⟨g9, 0, none⟩) m cap9) := blkc bb rfl
  have qf : ∀ o : Nat, wB.frozen? ⟨b3, o, none⟩ = false := fun o => blkf bb
  have NN : Hid (0 ≤ n ∧ n ≤ 4000000) := hn
  have CC : Hid (0 ≤ c ∧ c ≤ 161) := hc
  have YY : Hid (0 ≤ y ∧ y < 18446744073709551616) := hy
  clear hwB T9 bb c6 f6 hw2 B2 c5 R0 NB zm hb3 PA NO G2
  by_cases x1 : rule = 1
  · subst x1
    obtain ⟨r, hr⟩ : ∃ r, y.tmod 1000 = r := ⟨_, rfl⟩
    have RR : Hid (r = y % 1000 ∧ 0 ≤ r ∧ r < 1000) := by
      have h := YY.out
      rw [Int.tmod_eq_emod_of_nonneg h.1] at hr
      exact ⟨hr.symm, by omega, by omega⟩
    have t1 : IntKind.u64.wrap (1 + r) = 1 + r := by have := RR.out; rw [IntKind.wrap_u64]; omega
    have t2 : IntKind.i64.wrap (1 + r) = 1 + r := by have := RR.out; rw [IntKind.wrap_i64]; omega
    have t3 : IntKind.i64.wrap (c + (1 + r)) = c + (1 + r) := by have := RR.out; have := CC.out; rw [IntKind.wrap_i64]; omega
    go_upto_region 21 with fail
    have EH : Hid (TE w (wB.setCell ⟨b3, 0, none⟩ (.int .i64 (c + (1 + r)))) ⟨c + (1 + r), is, k, v, n, L⟩ b3 (some ⟨g9, 0, none⟩) cap9) := TB.out.turn 0 _ rfl rfl
    obtain ⟨wE, hwE⟩ : ∃ wE, wB.setCell ⟨b3, 0, none⟩ (.int .i64 (c + (1 + r))) = wE := ⟨_, rfl⟩
    rw [hwE] at EH ⊢
    have EB := EH.out.res
    have AB := EH.out.box
    obtain ⟨A2, hA2⟩ : ∃ A2, (⟨c + (1 + r), is, k, v, n, L⟩ : Aw) = A2 := ⟨_, rfl⟩
    have AA : Hid (turnP ⟨c, is, k, v, n, L⟩ 1 y = (A2, true)) := by
      rw [← hA2]
      show _ = _
      rw [RR.out.1]
      simp [turnP]
    rw [hA2] at EH AB
    have r0 : wE.cell? ⟨b3 + 1, 0, none⟩ = some (.int .i64 0) := blkc EB rfl
    have r1 : wE.cell? ⟨b3 + 1, 1, none⟩ = some (.bool false) := blkc EB rfl
    have r2 : wE.cell? ⟨b3 + 1, 2, none⟩ = some (.int .u64 0) := blkc EB rfl
    have r3 : wE.cell? ⟨b3 + 1, 3, none⟩ = some (.int .u64 0) := blkc EB rfl
    have r4 : wE.cell? ⟨b3 + 1, 4, none⟩ = some (.int .i64 0) := blkc EB rfl
    have r5 : wE.cell? ⟨b3 + 1, 5, none⟩ = some (.slice none 0 0) := blkc EB rfl
    have fz : ∀ o : Nat, wE.frozen? ⟨b3 + 1, o, none⟩ = false := fun o => blkf EB
    have sc : ∀ (W : World) (b i j : Nat) (u : Value), (i == j) = false → (W.setCell ⟨b, i, none⟩ u).cell? ⟨b, j, none⟩ = W.cell? ⟨b, j, none⟩ := set_ne23
    have a0 : wE.cell? ⟨b3, 0, none⟩ = some (.int .i64 A2.c) := blkc AB rfl
    have a1 : wE.cell? ⟨b3, 1, none⟩ = some (.bool A2.is) := blkc AB rfl
    have a2 : wE.cell? ⟨b3, 2, none⟩ = some (.int .u64 A2.k) := blkc AB rfl
    have a3 : wE.cell? ⟨b3, 3, none⟩ = some (.int .u64 A2.v) := blkc AB rfl
    have a4 : wE.cell? ⟨b3, 4, none⟩ = some (.int .i64 A2.n) := blkc AB rfl
    have a5 : wE.cell? ⟨b3, 5, none⟩ = some (.slice (some ⟨g9, 0, none⟩) A2.L.length cap9) := blkc AB rfl
    clear EB AB hA2 hwE
    go_wp2_with fail
    refine bodyPost_ret (v := .tuple #[awV A2 (some ⟨g9, 0, none⟩) cap9, .bool true]) (by simp [results, Try.results19, go_sem, sc, r0, r1, r2, r3, r4, r5, awV]) rfl ?_
    rw [AA.out]
    exact EH.out.out
  by_cases x2 : rule = 2
  · subst x2
    clear x1
    go_upto_region 21 with fail
    have EH : Hid (TE w (wB.setCell ⟨b3, 1, none⟩ (.bool (!is))) ⟨c, !is, k, v, n, L⟩ b3 (some ⟨g9, 0, none⟩) cap9) := TB.out.turn 1 _ rfl rfl
    obtain ⟨wE, hwE⟩ : ∃ wE, wB.setCell ⟨b3, 1, none⟩ (.bool (!is)) = wE := ⟨_, rfl⟩
    rw [hwE] at EH ⊢
    have EB := EH.out.res
    have AB := EH.out.box
    obtain ⟨A2, hA2⟩ : ∃ A2, (⟨c, !is, k, v, n, L⟩ : Aw) = A2 := ⟨_, rfl⟩
    have AA : Hid (turnP ⟨c, is, k, v, n, L⟩ 2 y = (A2, true)) := by
      rw [← hA2]
      show _ = _
      simp [turnP]
    rw [hA2] at EH AB
    have r0 : wE.cell? ⟨b3 + 1, 0, none⟩ = some (.int .i64 0) := blkc EB rfl
    have r1 : wE.cell? ⟨b3 + 1, 1, none⟩ = some (.bool false) := blkc EB rfl
    have r2 : wE.cell? ⟨b3 + 1, 2, none⟩ = some (.int .u64 0) := blkc EB rfl
    have r3 : wE.cell? ⟨b3 + 1, 3, none⟩ = some (.int .u64 0) := blkc EB rfl
    have r4 : wE.cell? ⟨b3 + 1, 4, none⟩ = some (.int .i64 0) := blkc EB rfl
    have r5 : wE.cell? ⟨b3 + 1, 5, none⟩ = some (.slice none 0 0) := blkc EB rfl
    have fz : ∀ o : Nat, wE.frozen? ⟨b3 + 1, o, none⟩ = false := fun o => blkf EB
    have sc : ∀ (W : World) (b i j : Nat) (u : Value), (i == j) = false → (W.setCell ⟨b, i, none⟩ u).cell? ⟨b, j, none⟩ = W.cell? ⟨b, j, none⟩ := set_ne23
    have a0 : wE.cell? ⟨b3, 0, none⟩ = some (.int .i64 A2.c) := blkc AB rfl
    have a1 : wE.cell? ⟨b3, 1, none⟩ = some (.bool A2.is) := blkc AB rfl
    have a2 : wE.cell? ⟨b3, 2, none⟩ = some (.int .u64 A2.k) := blkc AB rfl
    have a3 : wE.cell? ⟨b3, 3, none⟩ = some (.int .u64 A2.v) := blkc AB rfl
    have a4 : wE.cell? ⟨b3, 4, none⟩ = some (.int .i64 A2.n) := blkc AB rfl
    have a5 : wE.cell? ⟨b3, 5, none⟩ = some (.slice (some ⟨g9, 0, none⟩) A2.L.length cap9) := blkc AB rfl
    clear EB AB hA2 hwE
    go_wp2_with fail
    refine bodyPost_ret (v := .tuple #[awV A2 (some ⟨g9, 0, none⟩) cap9, .bool true]) (by simp [results, Try.results19, go_sem, sc, r0, r1, r2, r3, r4, r5, awV]) rfl ?_
    rw [AA.out]
    exact EH.out.out
  by_cases x3 : rule = 3
  · subst x3
    clear x1 x2
    by_cases e2 : y % 2 = 0
    · have t0 : (y % 2 == 0) = true := by simpa using e2
      obtain ⟨h2, hh2⟩ : ∃ h2, y.tdiv 2 = h2 := ⟨_, rfl⟩
      obtain ⟨k1, hk1⟩ : ∃ k1, IntKind.u64.wrap (k + 1) = k1 := ⟨_, rfl⟩
      obtain ⟨k2, hk2⟩ : ∃ k2, IntKind.u64.wrap (k1 + h2) = k2 := ⟨_, rfl⟩
      have KK : Hid (k2 = w64 (k + 1 + y / 2)) := by
        have h := YY.out
        rw [Int.tdiv_eq_ediv_of_nonneg h.1] at hh2
        rw [IntKind.wrap_u64] at hk1 hk2
        show _ = _
        unfold w64
        omega
      have t9 : IntKind.u64.wrap h2 = h2 := by
        have h := YY.out
        rw [Int.tdiv_eq_ediv_of_nonneg h.1] at hh2
        rw [IntKind.wrap_u64]
        omega
      have E2 : Hid (y % 2 = 0) := e2
      clear e2
      go_upto_region 21 with fail
      have EH : Hid (TE w (wB.setCell ⟨b3, 2, none⟩ (.int .u64 k2)) ⟨c, is, k2, v, n, L⟩ b3 (some ⟨g9, 0, none⟩) cap9) := TB.out.turn 2 _ rfl rfl
      obtain ⟨wE, hwE⟩ : ∃ wE, wB.setCell ⟨b3, 2, none⟩ (.int .u64 k2) = wE := ⟨_, rfl⟩
      rw [hwE] at EH ⊢
      have EB := EH.out.res
      have AB := EH.out.box
      obtain ⟨A2, hA2⟩ : ∃ A2, (⟨c, is, k2, v, n, L⟩ : Aw) = A2 := ⟨_, rfl⟩
      have AA : Hid (turnP ⟨c, is, k, v, n, L⟩ 3 y = (A2, true)) := by
        rw [← hA2]
        show _ = _
        rw [KK.out]
        have := E2.out
        simp [turnP, this]
      rw [hA2] at EH AB
      have r0 : wE.cell? ⟨b3 + 1, 0, none⟩ = some (.int .i64 0) := blkc EB rfl
      have r1 : wE.cell? ⟨b3 + 1, 1, none⟩ = some (.bool false) := blkc EB rfl
      have r2 : wE.cell? ⟨b3 + 1, 2, none⟩ = some (.int .u64 0) := blkc EB rfl
      have r3 : wE.cell? ⟨b3 + 1, 3, none⟩ = some (.int .u64 0) := blkc EB rfl
      have r4 : wE.cell? ⟨b3 + 1, 4, none⟩ = some (.int .i64 0) := blkc EB rfl
      have r5 : wE.cell? ⟨b3 + 1, 5, none⟩ = some (.slice none 0 0) := blkc EB rfl
      have fz : ∀ o : Nat, wE.frozen? ⟨b3 + 1, o, none⟩ = false := fun o => blkf EB
      have sc : ∀ (W : World) (b i j : Nat) (u : Value), (i == j) = false → (W.setCell ⟨b, i, none⟩ u).cell? ⟨b, j, none⟩ = W.cell? ⟨b, j, none⟩ := set_ne23
      have a0 : wE.cell? ⟨b3, 0, none⟩ = some (.int .i64 A2.c) := blkc AB rfl
      have a1 : wE.cell? ⟨b3, 1, none⟩ = some (.bool A2.is) := blkc AB rfl
      have a2 : wE.cell? ⟨b3, 2, none⟩ = some (.int .u64 A2.k) := blkc AB rfl
      have a3 : wE.cell? ⟨b3, 3, none⟩ = some (.int .u64 A2.v) := blkc AB rfl
      have a4 : wE.cell? ⟨b3, 4, none⟩ = some (.int .i64 A2.n) := blkc AB rfl
      have a5 : wE.cell? ⟨b3, 5, none⟩ = some (.slice (some ⟨g9, 0, none⟩) A2.L.length cap9) := blkc AB rfl
      clear EB AB hA2 hwE
      go_wp2_with fail
      refine bodyPost_ret (v := .tuple #[awV A2 (some ⟨g9, 0, none⟩) cap9, .bool true]) (by simp [results, Try.results19, go_sem, sc, r0, r1, r2, r3, r4, r5, awV]) rfl ?_
      rw [AA.out]
      exact EH.out.out
    · have t0 : (y % 2 == 0) = false := by simpa using e2
      obtain ⟨h2, hh2⟩ : ∃ h2, y.tdiv 2 = h2 := ⟨_, rfl⟩
      obtain ⟨k1, hk1⟩ : ∃ k1, IntKind.u64.wrap (v + 1) = k1 := ⟨_, rfl⟩
      obtain ⟨k2, hk2⟩ : ∃ k2, IntKind.u64.wrap (k1 + h2) = k2 := ⟨_, rfl⟩
      have KK : Hid (k2 = w64 (v + 1 + y / 2)) := by
        have h := YY.out
        rw [Int.tdiv_eq_ediv_of_nonneg h.1] at hh2
        rw [IntKind.wrap_u64] at hk1 hk2
        show _ = _
        unfold w64
        omega
      have t9 : IntKind.u64.wrap h2 = h2 := by
        have h := YY.out
        rw [Int.tdiv_eq_ediv_of_nonneg h.1] at hh2
        rw [IntKind.wrap_u64]
        omega
      have E2 : Hid (y % 2 ≠ 0) := e2
      clear e2
      go_upto_region 21 with fail
      have EH : Hid (TE w (wB.setCell ⟨b3, 3, none⟩ (.int .u64 k2)) ⟨c, is, k, k2, n, L⟩ b3 (some ⟨g9, 0, none⟩) cap9) := TB.out.turn 3 _ rfl rfl
      obtain ⟨wE, hwE⟩ : ∃ wE, wB.setCell ⟨b3, 3, none⟩ (.int .u64 k2) = wE := ⟨_, rfl⟩
      rw [hwE] at EH ⊢
      have EB := EH.out.res
      have AB := EH.out.box
      obtain ⟨A2, hA2⟩ : ∃ A2, (⟨c, is, k, k2, n, L⟩ : Aw) = A2 := ⟨_, rfl⟩
      have AA : Hid (turnP ⟨c, is, k, v, n, L⟩ 3 y = (A2, true)) := by
        rw [← hA2]
        show _ = _
        rw [KK.out]
        have := E2.out
        simp [turnP]
        omega
      rw [hA2] at EH AB
      have r0 : wE.cell? ⟨b3 + 1, 0, none⟩ = some (.int .i64 0) := blkc EB rfl
      have r1 : wE.cell? ⟨b3 + 1, 1, none⟩ = some (.bool false) := blkc EB rfl
      have r2 : wE.cell? ⟨b3 + 1, 2, none⟩ = some (.int .u64 0) := blkc EB rfl
      have r3 : wE.cell? ⟨b3 + 1, 3, none⟩ = some (.int .u64 0) := blkc EB rfl
      have r4 : wE.cell? ⟨b3 + 1, 4, none⟩ = some (.int .i64 0) := blkc EB rfl
      have r5 : wE.cell? ⟨b3 + 1, 5, none⟩ = some (.slice none 0 0) := blkc EB rfl
      have fz : ∀ o : Nat, wE.frozen? ⟨b3 + 1, o, none⟩ = false := fun o => blkf EB
      have sc : ∀ (W : World) (b i j : Nat) (u : Value), (i == j) = false → (W.setCell ⟨b, i, none⟩ u).cell? ⟨b, j, none⟩ = W.cell? ⟨b, j, none⟩ := set_ne23
      have a0 : wE.cell? ⟨b3, 0, none⟩ = some (.int .i64 A2.c) := blkc AB rfl
      have a1 : wE.cell? ⟨b3, 1, none⟩ = some (.bool A2.is) := blkc AB rfl
      have a2 : wE.cell? ⟨b3, 2, none⟩ = some (.int .u64 A2.k) := blkc AB rfl
      have a3 : wE.cell? ⟨b3, 3, none⟩ = some (.int .u64 A2.v) := blkc AB rfl
      have a4 : wE.cell? ⟨b3, 4, none⟩ = some (.int .i64 A2.n) := blkc AB rfl
      have a5 : wE.cell? ⟨b3, 5, none⟩ = some (.slice (some ⟨g9, 0, none⟩) A2.L.length cap9) := blkc AB rfl
      clear EB AB hA2 hwE
      go_wp2_with fail
      refine bodyPost_ret (v := .tuple #[awV A2 (some ⟨g9, 0, none⟩) cap9, .bool true]) (by simp [results, Try.results19, go_sem, sc, r0, r1, r2, r3, r4, r5, awV]) rfl ?_
      rw [AA.out]
      exact EH.out.out
  by_cases x4 : rule = 4
  · subst x4
    clear x1 x2 x3
    obtain ⟨r, hr⟩ : ∃ r, y.tmod 1000 = r := ⟨_, rfl⟩
    have RR : Hid (r = y % 1000 ∧ 0 ≤ r ∧ r < 1000) := by
      have h := YY.out
      rw [Int.tmod_eq_emod_of_nonneg h.1] at hr
      exact ⟨hr.symm, by omega, by omega⟩
    have t1 : IntKind.i64.wrap (n + 1) = n + 1 := by have := NN.out; rw [IntKind.wrap_i64]; omega
    have t2 : IntKind.i64.wrap r = r := by have := RR.out; rw [IntKind.wrap_i64]; omega
    have t3 : IntKind.i64.wrap (n + 1 + r) = n + 1 + r := by have := RR.out; have := NN.out; rw [IntKind.wrap_i64]; omega
    go_upto_region 21 with fail
    have EH : Hid (TE w (wB.setCell ⟨b3, 4, none⟩ (.int .i64 (n + 1 + r))) ⟨c, is, k, v, n + 1 + r, L⟩ b3 (some ⟨g9, 0, none⟩) cap9) := TB.out.turn 4 _ rfl rfl
    obtain ⟨wE, hwE⟩ : ∃ wE, wB.setCell ⟨b3, 4, none⟩ (.int .i64 (n + 1 + r)) = wE := ⟨_, rfl⟩
    rw [hwE] at EH ⊢
    have EB := EH.out.res
    have AB := EH.out.box
    obtain ⟨A2, hA2⟩ : ∃ A2, (⟨c, is, k, v, n + 1 + r, L⟩ : Aw) = A2 := ⟨_, rfl⟩
    have AA : Hid (turnP ⟨c, is, k, v, n, L⟩ 4 y = (A2, true)) := by
      rw [← hA2]
      show _ = _
      rw [RR.out.1]
      simp [turnP]
    rw [hA2] at EH AB
    have r0 : wE.cell? ⟨b3 + 1, 0, none⟩ = some (.int .i64 0) := blkc EB rfl
    have r1 : wE.cell? ⟨b3 + 1, 1, none⟩ = some (.bool false) := blkc EB rfl
    have r2 : wE.cell? ⟨b3 + 1, 2, none⟩ = some (.int .u64 0) := blkc EB rfl
    have r3 : wE.cell? ⟨b3 + 1, 3, none⟩ = some (.int .u64 0) := blkc EB rfl
    have r4 : wE.cell? ⟨b3 + 1, 4, none⟩ = some (.int .i64 0) := blkc EB rfl
    have r5 : wE.cell? ⟨b3 + 1, 5, none⟩ = some (.slice none 0 0) := blkc EB rfl
    have fz : ∀ o : Nat, wE.frozen? ⟨b3 + 1, o, none⟩ = false := fun o => blkf EB
    have sc : ∀ (W : World) (b i j : Nat) (u : Value), (i == j) = false → (W.setCell ⟨b, i, none⟩ u).cell? ⟨b, j, none⟩ = W.cell? ⟨b, j, none⟩ := set_ne23
    have a0 : wE.cell? ⟨b3, 0, none⟩ = some (.int .i64 A2.c) := blkc AB rfl
    have a1 : wE.cell? ⟨b3, 1, none⟩ = some (.bool A2.is) := blkc AB rfl
    have a2 : wE.cell? ⟨b3, 2, none⟩ = some (.int .u64 A2.k) := blkc AB rfl
    have a3 : wE.cell? ⟨b3, 3, none⟩ = some (.int .u64 A2.v) := blkc AB rfl
    have a4 : wE.cell? ⟨b3, 4, none⟩ = some (.int .i64 A2.n) := blkc AB rfl
    have a5 : wE.cell? ⟨b3, 5, none⟩ = some (.slice (some ⟨g9, 0, none⟩) A2.L.length cap9) := blkc AB rfl
    clear EB AB hA2 hwE
    go_wp2_with fail
    refine bodyPost_ret (v := .tuple #[awV A2 (some ⟨g9, 0, none⟩) cap9, .bool true]) (by simp [results, Try.results19, go_sem, sc, r0, r1, r2, r3, r4, r5, awV]) rfl ?_
    rw [AA.out]
    exact EH.out.out
  by_cases x5 : rule = 5
  · subst x5
    clear x1 x2 x3 x4
    by_cases tc : m = 0 ∨ y % 3 = 0
    · have TC : Hid (L.length = 0 ∨ y % 3 = 0) := by rw [ML.out]; exact tc
      by_cases m0 : m = 0
      · have z0 : ((m : Int) == 0) = true := by simpa using m0
        clear tc m0
        go_upto_region 21 with (at_builtin; refine app4_w _ rfl _ _ 34 rfl (b3 + 2) 44 ii _ 2 16 Try.underlying34 hii hz hsz hby rfl (by decide) pc2 pc2_len g9 m cap9 L rfl (RB.out.gw ((Gw.refl _).alloc _ _)) (some ⟨wB.heap.size, 0, none⟩) 1 1 [(y, y)] rfl (fun e => by cases e) rfl (fun ad e => by cases e; exact newc wB #[.int .u64 y, .int .u64 y] _) (pcs_one _) (by simp only [maxLen]; omega) (by omega) ?_; intro g7 cap7 w7 s1 s2 s3; have ol : ∀ q, q < b3 + 2 → w7.heap[q]? = wB.heap[q]? := te_old RB.out TB.out.g W0.out s2; have T7 : Hid (TE w (w7.setCell ⟨b3, 5, none⟩ (.slice (some ⟨g7, 0, none⟩) (m + 1) cap7)) ⟨c, is, k, v, n, L ++ [(y, y)]⟩ b3 (some ⟨g7, 0, none⟩) cap7) := TB.out.lst ol ((TB.out.g.alloc _ _).grown s2 (fun k hk => by cases hk; have := RB.out.lt.1; have := W0.out; omega)) (s1.ls pc2_len) (fun a e => by cases e; exact s1.lt.1) (by rw [List.length_append, ML.out]; rfl); have b7 := (ol b3 (by omega)).trans TB.out.box; have c7 : w7.cell? ⟨b3, 5, none⟩ = some (.slice (some ⟨g9, 0, none⟩) m cap9) := (by have := blkc (o := 5) b7 rfl; rw [← ML.out]; exact this); have f7 : w7.frozen? ⟨b3, 5, none⟩ = false := blkf b7; clear s1 s2 s3 ol b7)
        have EH : Hid (TE w (w7.setCell ⟨b3, 5, none⟩ (.slice (some ⟨g7, 0, none⟩) (m + 1) cap7)) ⟨c, is, k, v, n, L ++ [(y, y)]⟩ b3 (some ⟨g7, 0, none⟩) cap7) := T7
        obtain ⟨wE, hwE⟩ : ∃ wE, w7.setCell ⟨b3, 5, none⟩ (.slice (some ⟨g7, 0, none⟩) (m + 1) cap7) = wE := ⟨_, rfl⟩
        rw [hwE] at EH ⊢
        have EB := EH.out.res
        have AB := EH.out.box
        obtain ⟨A2, hA2⟩ : ∃ A2, (⟨c, is, k, v, n, L ++ [(y, y)]⟩ : Aw) = A2 := ⟨_, rfl⟩
        have AA : Hid (turnP ⟨c, is, k, v, n, L⟩ 5 y = (A2, true)) := by
          rw [← hA2]
          show _ = _
          have e : turnL L y = L ++ [(y, y)] := if_pos TC.out
          simp [turnP, e]
        rw [hA2] at EH AB
        have r0 : wE.cell? ⟨b3 + 1, 0, none⟩ = some (.int .i64 0) := blkc EB rfl
        have r1 : wE.cell? ⟨b3 + 1, 1, none⟩ = some (.bool false) := blkc EB rfl
        have r2 : wE.cell? ⟨b3 + 1, 2, none⟩ = some (.int .u64 0) := blkc EB rfl
        have r3 : wE.cell? ⟨b3 + 1, 3, none⟩ = some (.int .u64 0) := blkc EB rfl
        have r4 : wE.cell? ⟨b3 + 1, 4, none⟩ = some (.int .i64 0) := blkc EB rfl
        have r5 : wE.cell? ⟨b3 + 1, 5, none⟩ = some (.slice none 0 0) := blkc EB rfl
        have fz : ∀ o : Nat, wE.frozen? ⟨b3 + 1, o, none⟩ = false := fun o => blkf EB
        have sc : ∀ (W : World) (b i j : Nat) (u : Value), (i == j) = false → (W.setCell ⟨b, i, none⟩ u).cell? ⟨b, j, none⟩ = W.cell? ⟨b, j, none⟩ := set_ne23
        have a0 : wE.cell? ⟨b3, 0, none⟩ = some (.int .i64 A2.c) := blkc AB rfl
        have a1 : wE.cell? ⟨b3, 1, none⟩ = some (.bool A2.is) := blkc AB rfl
        have a2 : wE.cell? ⟨b3, 2, none⟩ = some (.int .u64 A2.k) := blkc AB rfl
        have a3 : wE.cell? ⟨b3, 3, none⟩ = some (.int .u64 A2.v) := blkc AB rfl
        have a4 : wE.cell? ⟨b3, 4, none⟩ = some (.int .i64 A2.n) := blkc AB rfl
        have a5 : wE.cell? ⟨b3, 5, none⟩ = some (.slice (some ⟨g7, 0, none⟩) A2.L.length cap7) := blkc AB rfl
        clear EB AB hA2 hwE
        go_wp2_with fail
        refine bodyPost_ret (v := .tuple #[awV A2 (some ⟨g7, 0, none⟩) cap7, .bool true]) (by simp [results, Try.results19, go_sem, sc, r0, r1, r2, r3, r4, r5, awV]) rfl ?_
        rw [AA.out]
        exact EH.out.out
      · have z0 : ((m : Int) == 0) = false := by simpa using m0
        have z1 : (y % 3 == 0) = true := by simp; omega
        clear tc m0
        go_upto_region 21 with (at_builtin; refine app4_w _ rfl _ _ 34 rfl (b3 + 2) 44 ii _ 2 16 Try.underlying34 hii hz hsz hby rfl (by decide) pc2 pc2_len g9 m cap9 L rfl (RB.out.gw ((Gw.refl _).alloc _ _)) (some ⟨wB.heap.size, 0, none⟩) 1 1 [(y, y)] rfl (fun e => by cases e) rfl (fun ad e => by cases e; exact newc wB #[.int .u64 y, .int .u64 y] _) (pcs_one _) (by simp only [maxLen]; omega) (by omega) ?_; intro g7 cap7 w7 s1 s2 s3; have ol : ∀ q, q < b3 + 2 → w7.heap[q]? = wB.heap[q]? := te_old RB.out TB.out.g W0.out s2; have T7 : Hid (TE w (w7.setCell ⟨b3, 5, none⟩ (.slice (some ⟨g7, 0, none⟩) (m + 1) cap7)) ⟨c, is, k, v, n, L ++ [(y, y)]⟩ b3 (some ⟨g7, 0, none⟩) cap7) := TB.out.lst ol ((TB.out.g.alloc _ _).grown s2 (fun k hk => by cases hk; have := RB.out.lt.1; have := W0.out; omega)) (s1.ls pc2_len) (fun a e => by cases e; exact s1.lt.1) (by rw [List.length_append, ML.out]; rfl); have b7 := (ol b3 (by omega)).trans TB.out.box; have c7 : w7.cell? ⟨b3, 5, none⟩ = some (.slice (some ⟨g9, 0, none⟩) m cap9) := (by have := blkc (o := 5) b7 rfl; rw [← ML.out]; exact this); have f7 : w7.frozen? ⟨b3, 5, none⟩ = false := blkf b7; clear s1 s2 s3 ol b7)
        have EH : Hid (TE w (w7.setCell ⟨b3, 5, none⟩ (.slice (some ⟨g7, 0, none⟩) (m + 1) cap7)) ⟨c, is, k, v, n, L ++ [(y, y)]⟩ b3 (some ⟨g7, 0, none⟩) cap7) := T7
        obtain ⟨wE, hwE⟩ : ∃ wE, w7.setCell ⟨b3, 5, none⟩ (.slice (some ⟨g7, 0, none⟩) (m + 1) cap7) = wE := ⟨_, rfl⟩
        rw [hwE] at EH ⊢
        have EB := EH.out.res
        have AB := EH.out.box
        obtain ⟨A2, hA2⟩ : ∃ A2, (⟨c, is, k, v, n, L ++ [(y, y)]⟩ : Aw) = A2 := ⟨_, rfl⟩
        have AA : Hid (turnP ⟨c, is, k, v, n, L⟩ 5 y = (A2, true)) := by
          rw [← hA2]
          show _ = _
          have e : turnL L y = L ++ [(y, y)] := if_pos TC.out
          simp [turnP, e]
        rw [hA2] at EH AB
        have r0 : wE.cell? ⟨b3 + 1, 0, none⟩ = some (.int .i64 0) := blkc EB rfl
        have r1 : wE.cell? ⟨b3 + 1, 1, none⟩ = some (.bool false) := blkc EB rfl
        have r2 : wE.cell? ⟨b3 + 1, 2, none⟩ = some (.int .u64 0) := blkc EB rfl
        have r3 : wE.cell? ⟨b3 + 1, 3, none⟩ = some (.int .u64 0) := blkc EB rfl
        have r4 : wE.cell? ⟨b3 + 1, 4, none⟩ = some (.int .i64 0) := blkc EB rfl
        have r5 : wE.cell? ⟨b3 + 1, 5, none⟩ = some (.slice none 0 0) := blkc EB rfl
        have fz : ∀ o : Nat, wE.frozen? ⟨b3 + 1, o, none⟩ = false := fun o => blkf EB
        have sc : ∀ (W : World) (b i j : Nat) (u : Value), (i == j) = false → (W.setCell ⟨b, i, none⟩ u).cell? ⟨b, j, none⟩ = W.cell? ⟨b, j, none⟩ := set_ne23
        have a0 : wE.cell? ⟨b3, 0, none⟩ = some (.int .i64 A2.c) := blkc AB rfl
        have a1 : wE.cell? ⟨b3, 1, none⟩ = some (.bool A2.is) := blkc AB rfl
        have a2 : wE.cell? ⟨b3, 2, none⟩ = some (.int .u64 A2.k) := blkc AB rfl
        have a3 : wE.cell? ⟨b3, 3, none⟩ = some (.int .u64 A2.v) := blkc AB rfl
        have a4 : wE.cell? ⟨b3, 4, none⟩ = some (.int .i64 A2.n) := blkc AB rfl
        have a5 : wE.cell? ⟨b3, 5, none⟩ = some (.slice (some ⟨g7, 0, none⟩) A2.L.length cap7) := blkc AB rfl
        clear EB AB hA2 hwE
        go_wp2_with fail
        refine bodyPost_ret (v := .tuple #[awV A2 (some ⟨g7, 0, none⟩) cap7, .bool true]) (by simp [results, Try.results19, go_sem, sc, r0, r1, r2, r3, r4, r5, awV]) rfl ?_
        rw [AA.out]
        exact EH.out.out
    · have TC : Hid (¬ (L.length = 0 ∨ y % 3 = 0)) := by rw [ML.out]; exact tc
      have m0 : 0 < m := by omega
      have z0 : ((m : Int) == 0) = false := by simp; omega
      have z1 : (y % 3 == 0) = false := by simp; omega
      by_cases td : y % 3 = 1
      · have TD : Hid (y % 3 = 1) := td
        have z2 : (y % 3 == 1) = true := by simp; omega
        clear tc td
        obtain ⟨m1, hm1⟩ : ∃ m1, m = m1 + 1 := ⟨m - 1, by omega⟩
        have M1 : Hid (m = m1 + 1) := hm1
        have t1 : IntKind.i64.wrap ((m : Int) - 1) = (m1 : Int) := by rw [IntKind.wrap_i64]; omega
        have cm : m1 ≤ cap9 := by have := RB.out.cap; omega
        have cm' : (m1 : Int) ≤ (cap9 : Int) := by omega
        have sl : ∀ W : World, (Instr.slice 34 (.slice (some ⟨g9, 0, none⟩) m cap9) none (some (.int .i64 (m1 : Int))) none).run Try.prog W = .ok (.slice (some ⟨g9, 0, none⟩) m1 cap9) W := fun W => by
          have : (m1 : Int).toNat = m1 := by simp
          simp [go_sem, Instr.slice, cm]
        clear hm1
        go_upto_region 21 with fail
        have EH : Hid (TE w (wB.setCell ⟨b3, 5, none⟩ (.slice (some ⟨g9, 0, none⟩) m1 cap9)) ⟨c, is, k, v, n, L.take m1⟩ b3 (some ⟨g9, 0, none⟩) cap9) := TB.out.lst (fun _ _ => rfl) TB.out.g (TB.out.ls.take m1) TB.out.new (by rw [List.length_take, ML.out, M1.out]; omega)
        obtain ⟨wE, hwE⟩ : ∃ wE, wB.setCell ⟨b3, 5, none⟩ (.slice (some ⟨g9, 0, none⟩) m1 cap9) = wE := ⟨_, rfl⟩
        rw [hwE] at EH ⊢
        have EB := EH.out.res
        have AB := EH.out.box
        obtain ⟨A2, hA2⟩ : ∃ A2, (⟨c, is, k, v, n, L.take m1⟩ : Aw) = A2 := ⟨_, rfl⟩
        have AA : Hid (turnP ⟨c, is, k, v, n, L⟩ 5 y = (A2, true)) := by
          rw [← hA2]
          show _ = _
          have e1 : m1 = L.length - 1 := by rw [ML.out, M1.out]; rfl
          rw [e1]
          have e : turnL L y = L.take (L.length - 1) := by unfold turnL; rw [if_neg TC.out, if_pos TD.out]
          simp [turnP, e]
        rw [hA2] at EH AB
        have r0 : wE.cell? ⟨b3 + 1, 0, none⟩ = some (.int .i64 0) := blkc EB rfl
        have r1 : wE.cell? ⟨b3 + 1, 1, none⟩ = some (.bool false) := blkc EB rfl
        have r2 : wE.cell? ⟨b3 + 1, 2, none⟩ = some (.int .u64 0) := blkc EB rfl
        have r3 : wE.cell? ⟨b3 + 1, 3, none⟩ = some (.int .u64 0) := blkc EB rfl
        have r4 : wE.cell? ⟨b3 + 1, 4, none⟩ = some (.int .i64 0) := blkc EB rfl
        have r5 : wE.cell? ⟨b3 + 1, 5, none⟩ = some (.slice none 0 0) := blkc EB rfl
        have fz : ∀ o : Nat, wE.frozen? ⟨b3 + 1, o, none⟩ = false := fun o => blkf EB
        have sc : ∀ (W : World) (b i j : Nat) (u : Value), (i == j) = false → (W.setCell ⟨b, i, none⟩ u).cell? ⟨b, j, none⟩ = W.cell? ⟨b, j, none⟩ := set_ne23
        have a0 : wE.cell? ⟨b3, 0, none⟩ = some (.int .i64 A2.c) := blkc AB rfl
        have a1 : wE.cell? ⟨b3, 1, none⟩ = some (.bool A2.is) := blkc AB rfl
        have a2 : wE.cell? ⟨b3, 2, none⟩ = some (.int .u64 A2.k) := blkc AB rfl
        have a3 : wE.cell? ⟨b3, 3, none⟩ = some (.int .u64 A2.v) := blkc AB rfl
        have a4 : wE.cell? ⟨b3, 4, none⟩ = some (.int .i64 A2.n) := blkc AB rfl
        have a5 : wE.cell? ⟨b3, 5, none⟩ = some (.slice (some ⟨g9, 0, none⟩) A2.L.length cap9) := blkc AB rfl
        clear EB AB hA2 hwE
        go_wp2_with fail
        refine bodyPost_ret (v := .tuple #[awV A2 (some ⟨g9, 0, none⟩) cap9, .bool true]) (by simp [results, Try.results19, go_sem, sc, r0, r1, r2, r3, r4, r5, awV]) rfl ?_
        rw [AA.out]
        exact EH.out.out
      · have TD : Hid (¬ y % 3 = 1) := td
        have z2 : (y % 3 == 1) = false := by simp; omega
        clear tc td
        obtain ⟨y3, hy3⟩ : ∃ y3, y / 3 = y3 := ⟨_, rfl⟩
        obtain ⟨i, hi⟩ : ∃ i : Nat, y3 % (m : Int) = (i : Int) := ⟨(y3 % (m : Int)).toNat, by have := Int.emod_nonneg y3 (show (m : Int) ≠ 0 by omega); omega⟩
        have IL : Hid (i < m ∧ (y / 3 % (L.length : Int)).toNat = i ∧ 0 ≤ y3 ∧ y3 < 18446744073709551616) := by
          have h1 := Int.emod_lt_of_pos y3 (show (0 : Int) < (m : Int) by omega)
          have h2 := YY.out
          refine ⟨by omega, ?_, by omega, by omega⟩
          rw [ML.out, hy3, hi]
          simp
        obtain ⟨p, hp⟩ : ∃ p, L[i]? = some p := ⟨L[i]'(by rw [ML.out]; exact IL.out.1), List.getElem?_eq_getElem _⟩
        obtain ⟨pk, pv⟩ := p
        have il := IL.out.1
        have il' : (i : Int) < (m : Int) := by omega
        have yb := IL.out.2.2
        obtain ⟨wD, hwD⟩ : ∃ wD, World.drew wB = wD := ⟨_, rfl⟩
        have RD : Hid (RowG 44 2 pc2 wD (b3 + 2) g9 m cap9 L) := by rw [← hwD]; exact RB.out.gw (Gw.refl wB).drew
        have TDD : Hid (TE w wD ⟨c, is, k, v, n, L⟩ b3 (some ⟨g9, 0, none⟩) cap9) := by rw [← hwD]; exact TB.out.row (fun _ _ => rfl) TB.out.g.drew (TB.out.ls.gw (Gw.refl wB).drew) rfl
        have pc := ((RD.out.ls pc2_len).cells (by rw [ML.out]; omega))
        obtain ⟨bg, bf, ebg, _, hcc⟩ := pc
        cases ebg
        have cv := hcc i _ hp 1 _ rfl
        rw [Nat.zero_add] at cv
        have fv : ∀ o, wD.frozen? ⟨g9, o, none⟩ = false := fun o => RD.out.fz o
        have d5 : wD.cell? ⟨b3, 5, none⟩ = some (.slice (some ⟨g9, 0, none⟩) m cap9) := by rw [← hwD]; exact q5
        obtain ⟨v1, hv1⟩ : ∃ v1, IntKind.u64.wrap (pv + 1) = v1 := ⟨_, rfl⟩
        have VV : Hid (v1 = w64 (pv + 1)) := by rw [← hv1, IntKind.wrap_u64]; rfl
        have PI : Hid (L[i]? = some (pk, pv)) := hp
        have u1 : IntKind.u64.wrap (m : Int) = (m : Int) := by rw [IntKind.wrap_u64]; omega
        have u2 : IntKind.i64.wrap (i : Int) = (i : Int) := by rw [IntKind.wrap_i64]; omega
        have u3 : IntKind.u64.wrap y3 = y3 := by rw [IntKind.wrap_u64]; omega
        have mz : ¬ m = 0 := by omega
        have hd3 : y.tdiv 3 = y3 := by rw [Int.tdiv_eq_ediv_of_nonneg YY.out.1]; exact hy3
        have hm3 : y3.tmod (m : Int) = (i : Int) := by rw [Int.tmod_eq_emod_of_nonneg IL.out.2.2.1]; exact hi
        clear hp hcc hy3 hi
        go_upto_region 20 with fail
        refine wp_region_still_tail 14 (by kernel_rfl) (by kernel_rfl) ?_
        change wpStill _ _ (World.drew wB) (fun a' => wpList _ _ _ _ a' (World.drew wB)) _ _
        simp only [List.take_succ_cons, List.take_zero, List.drop_succ_cons, List.drop_zero]
        rw [hwD]
        clear hwD q0 q1 q2 q3 q4 q5 qf RB TB
        repeat still_step
        refine wpStill_nil ?_
        have FIN : Hid (TE w (wD.setCell ⟨g9, i * 2 + 1, none⟩ (.int .u64 v1)) ⟨c, is, k, v, n, L.set i (pk, v1)⟩ b3 (some ⟨g9, 0, none⟩) cap9) := te_set TDD.out RD.out PI.out v1
        go_upto_region 21 with fail
        have EH : Hid (TE w (wD.setCell ⟨g9, i * 2 + 1, none⟩ (.int .u64 v1)) ⟨c, is, k, v, n, L.set i (pk, v1)⟩ b3 (some ⟨g9, 0, none⟩) cap9) := FIN
        obtain ⟨wE, hwE⟩ : ∃ wE, wD.setCell ⟨g9, i * 2 + 1, none⟩ (.int .u64 v1) = wE := ⟨_, rfl⟩
        rw [hwE] at EH ⊢
        have EB := EH.out.res
        have AB := EH.out.box
        obtain ⟨A2, hA2⟩ : ∃ A2, (⟨c, is, k, v, n, L.set i (pk, v1)⟩ : Aw) = A2 := ⟨_, rfl⟩
        have AA : Hid (turnP ⟨c, is, k, v, n, L⟩ 5 y = (A2, true)) := by
          rw [← hA2]
          show _ = _
          have e0 : L.getD i (0, 0) = (pk, pv) := by simp [List.getD, PI.out]
          have e : turnL L y = L.set i (pk, v1) := by unfold turnL; rw [if_neg TC.out, if_neg TD.out, IL.out.2.1, e0, VV.out]
          simp [turnP, e]
        rw [hA2] at EH AB
        have r0 : wE.cell? ⟨b3 + 1, 0, none⟩ = some (.int .i64 0) := blkc EB rfl
        have r1 : wE.cell? ⟨b3 + 1, 1, none⟩ = some (.bool false) := blkc EB rfl
        have r2 : wE.cell? ⟨b3 + 1, 2, none⟩ = some (.int .u64 0) := blkc EB rfl
        have r3 : wE.cell? ⟨b3 + 1, 3, none⟩ = some (.int .u64 0) := blkc EB rfl
        have r4 : wE.cell? ⟨b3 + 1, 4, none⟩ = some (.int .i64 0) := blkc EB rfl
        have r5 : wE.cell? ⟨b3 + 1, 5, none⟩ = some (.slice none 0 0) := blkc EB rfl
        have fz : ∀ o : Nat, wE.frozen? ⟨b3 + 1, o, none⟩ = false := fun o => blkf EB
        have sc : ∀ (W : World) (b i j : Nat) (u : Value), (i == j) = false → (W.setCell ⟨b, i, none⟩ u).cell? ⟨b, j, none⟩ = W.cell? ⟨b, j, none⟩ := set_ne23
        have a0 : wE.cell? ⟨b3, 0, none⟩ = some (.int .i64 A2.c) := blkc AB rfl
        have a1 : wE.cell? ⟨b3, 1, none⟩ = some (.bool A2.is) := blkc AB rfl
        have a2 : wE.cell? ⟨b3, 2, none⟩ = some (.int .u64 A2.k) := blkc AB rfl
        have a3 : wE.cell? ⟨b3, 3, none⟩ = some (.int .u64 A2.v) := blkc AB rfl
        have a4 : wE.cell? ⟨b3, 4, none⟩ = some (.int .i64 A2.n) := blkc AB rfl
        have a5 : wE.cell? ⟨b3, 5, none⟩ = some (.slice (some ⟨g9, 0, none⟩) A2.L.length cap9) := blkc AB rfl
        clear EB AB hA2 hwE
        go_wp2_with fail
        refine bodyPost_ret (v := .tuple #[awV A2 (some ⟨g9, 0, none⟩) cap9, .bool true]) (by simp [results, Try.results19, go_sem, sc, r0, r1, r2, r3, r4, r5, awV]) rfl ?_
        rw [AA.out]
        exact EH.out.out
  have y1 : (rule == 1) = false := by simpa using x1
  have y2 : (rule == 2) = false := by simpa using x2
  have y3 : (rule == 3) = false := by simpa using x3
  have y4 : (rule == 4) = false := by simpa using x4
  have y5 : (rule == 5) = false := by simpa using x5
  go_upto_region 3 with fail
  have EH : Hid (TE w (wB) ⟨c, is, k, v, n, L⟩ b3 (some ⟨g9, 0, none⟩) cap9) := TB
  obtain ⟨wE, hwE⟩ : ∃ wE, wB = wE := ⟨_, rfl⟩
  rw [hwE] at EH ⊢
  have EB := EH.out.res
  have AB := EH.out.box
  obtain ⟨A2, hA2⟩ : ∃ A2, (⟨c, is, k, v, n, L⟩ : Aw) = A2 := ⟨_, rfl⟩
  have AA : Hid (turnP ⟨c, is, k, v, n, L⟩ rule y = (A2, false)) := by
    rw [← hA2]
    show _ = _
    simp [turnP, x1, x2, x3, x4, x5]
  rw [hA2] at EH AB
  have r0 : wE.cell? ⟨b3 + 1, 0, none⟩ = some (.int .i64 0) := blkc EB rfl
  have r1 : wE.cell? ⟨b3 + 1, 1, none⟩ = some (.bool false) := blkc EB rfl
  have r2 : wE.cell? ⟨b3 + 1, 2, none⟩ = some (.int .u64 0) := blkc EB rfl
  have r3 : wE.cell? ⟨b3 + 1, 3, none⟩ = some (.int .u64 0) := blkc EB rfl
  have r4 : wE.cell? ⟨b3 + 1, 4, none⟩ = some (.int .i64 0) := blkc EB rfl
  have r5 : wE.cell? ⟨b3 + 1, 5, none⟩ = some (.slice none 0 0) := blkc EB rfl
  have fz : ∀ o : Nat, wE.frozen? ⟨b3 + 1, o, none⟩ = false := fun o => blkf EB
  have sc : ∀ (W : World) (b i j : Nat) (u : Value), (i == j) = false → (W.setCell ⟨b, i, none⟩ u).cell? ⟨b, j, none⟩ = W.cell? ⟨b, j, none⟩ := set_ne23
  have a0 : wE.cell? ⟨b3, 0, none⟩ = some (.int .i64 A2.c) := blkc AB rfl
  have a1 : wE.cell? ⟨b3, 1, none⟩ = some (.bool A2.is) := blkc AB rfl
  have a2 : wE.cell? ⟨b3, 2, none⟩ = some (.int .u64 A2.k) := blkc AB rfl
  have a3 : wE.cell? ⟨b3, 3, none⟩ = some (.int .u64 A2.v) := blkc AB rfl
  have a4 : wE.cell? ⟨b3, 4, none⟩ = some (.int .i64 A2.n) := blkc AB rfl
  have a5 : wE.cell? ⟨b3, 5, none⟩ = some (.slice (some ⟨g9, 0, none⟩) A2.L.length cap9) := blkc AB rfl
  clear EB AB hA2 hwE
  go_wp2_with fail
  refine bodyPost_ret (v := .tuple #[awV A2 (some ⟨g9, 0, none⟩) cap9, .bool false]) (by simp [results, Try.results19, go_sem, sc, r0, r1, r2, r3, r4, r5, awV]) rfl ?_
  rw [AA.out]
  exact EH.out.out
end Go.Proofs.Ytkojcjfjmlompaa
