/- Package merge: the first head is taken out. -/
import Derived.Test.YtnkcnfpbbdlifabPHdi
namespace Go.Proofs.Ytnkcnfpbbdlifab
open Go.RowKit
set_option linter.unusedVariables false

set_option maxRecDepth 20000 in
set_option maxHeartbeats 4000000 in
theorem pop_i {α : Type} (hb n g cap base : Nat) (kf pv : Value) (H : List (Hd α)) (hn : H.length = n) (h1 : 1 ≤ n) (hn2 : n ≤ 4000000) (w : World) (hp : Hpm 73 76 w hb base kf (.slice (some ⟨g, 0, none⟩) n cap) pv H) (hH : HeapOn H) :
    Calls Try.prog 37 #[.pointer (some ⟨hb, 0, none⟩)] w fun e w' => e = .returned (gt H 0).v ∧ (∃ H', (gt H 0 :: H').Perm H ∧ HeapOn H' ∧ H'.length = n - 1 ∧ Hpm 73 76 w' hb base kf (.slice (some ⟨g, 0, none⟩) (n - 1) cap) pv H') ∧ Gx (fun q => q = hb ∨ q = g) w w' := by
  obtain ⟨hh, hr, ne⟩ := hp
  have gne : g ≠ hb := ne g rfl
  have gne' : hb ≠ g := fun e => gne e.symm
  obtain ⟨m, hm⟩ : ∃ m : Nat, m = n - 1 := ⟨_, rfl⟩
  have w1 : IntKind.i64.wrap ((n : Int) - 1) = (m : Int) := by rw [IntKind.wrap_i64]; omega
  have hbl : hb < w.heap.size := blkl hh
  have gl : g < w.heap.size := (hr_cells hr hn).2.2.1
  have ncap := (hr_cells hr hn).2.1
  have mn : m < n := by omega
  have mc : m ≤ cap := by omega
  have cz : ¬ cap = 0 := by omega
  have HB : Aside (w.heap[hb]? = some (.cells #[kf, .slice (some ⟨g, 0, none⟩) n cap, pv] 73 (0, 0))) := hh
  have R0 : Aside (HR 76 w base (.slice (some ⟨g, 0, none⟩) n cap) H) := hr
  have LN : Aside (H.length = n) := hn
  have MN : Aside (m = n - 1) := hm
  have c00 : w.cell? ⟨hb, 1, none⟩ = some (.slice (some ⟨g, 0, none⟩) n cap) := blkc hh rfl
  obtain ⟨x, hx⟩ : ∃ x, gt H 0 = x := ⟨_, rfl⟩
  obtain ⟨y, hy⟩ : ∃ y, gt H m = y := ⟨_, rfl⟩
  have HH : Aside (HeapOn H) := hH
  have SK : Hid (∀ (H : List (Hd α)) (W : World), H.length = m → Hpm 73 76 W hb base kf (.slice (some ⟨g, 0, none⟩) m cap) pv H → SinkOn H 0 → Calls Try.prog 41 #[.pointer (some ⟨hb, 0, none⟩), .int .i64 0] W fun e w' => e = .returned (.tuple #[]) ∧ (∃ H', H'.Perm H ∧ HeapOn H' ∧ HR 76 w' base (.slice (some ⟨g, 0, none⟩) m cap) H') ∧ Gx (fun q => q = g) W w') := fun H W h1 h2 h3 => sink_i hb 0 m g cap base kf pv H h1 (by omega) (Nat.zero_le _) W h2 h3
  have XV : Aside (gt H 0 = x) := hx
  have YV : Aside (gt H m = y) := hy
  obtain ⟨xk, xi, ⟨xb, xo, xc, xl⟩⟩ := x
  obtain ⟨yk, yi, ⟨yb, yo, yc, yl⟩⟩ := y
  obtain ⟨xn, hxn⟩ : ∃ m, xl.length = m := ⟨_, rfl⟩
  obtain ⟨yn, hyn⟩ : ∃ m, yl.length = m := ⟨_, rfl⟩
  have XN : Aside (xl.length = xn) := hxn
  have YN : Aside (yl.length = yn) := hyn
  have hcs := (hr_cells hr hn).2.2.2
  obtain ⟨e0, e1, e2⟩ := hcs 0 (by omega)
  rw [hx] at e0 e1 e2
  simp only [Nat.zero_mul, Nat.zero_add, Lst.v, hxn] at e0 e1 e2
  have RET : Aside ((gt H 0).v = .agg #[.int .u64 xk, .int .i64 (xi : Int), .slice (some ⟨xb, xo, none⟩) xn xc]) := by
    show _ = _
    rw [XV.out, ← XN.out]; rfl
  rw [RET.out]
  clear hh hr ne hn hcs hx hy hxn hyn hH hm
  go_enter Try.func37, Try.ntmps37
  go_wp2_with fail
  obtain ⟨N, hN⟩ : ∃ N, w.heap.size = N := ⟨_, rfl⟩
  obtain ⟨W2, hW2⟩ : ∃ W2, (w.alloc (.cells #[.int .u64 0, .int .i64 0, .slice none 0 0] 76)).alloc (.cells #[.int .u64 xk, .int .i64 (xi : Int), .slice (some ⟨xb, xo, none⟩) xn xc] 76) = W2 := ⟨_, rfl⟩
  have G2 : Aside (Gw w W2) := by rw [← hW2]; exact ((Gw.refl w).alloc _ _).alloc _ _
  have b0 : W2.heap[N]? = some (.cells #[.int .u64 0, .int .i64 0, .slice none 0 0] 76 (0, 0)) := by
    rw [← hW2, ← hN]; exact (heap_alloc_old _ _ (by simp)).trans (heap_alloc_new w _)
  have b1 : W2.heap[N + 1]? = some (.cells #[.int .u64 xk, .int .i64 (xi : Int), .slice (some ⟨xb, xo, none⟩) xn xc] 76 (0, 0)) := by
    rw [← hW2, ← hN]
    have := heap_alloc_new (w.alloc (.cells #[.int .u64 0, .int .i64 0, .slice none 0 0] 76)) (.cells #[.int .u64 xk, .int .i64 (xi : Int), .slice (some ⟨xb, xo, none⟩) xn xc] 76)
    simpa using this
  have B0 : Aside _ := b0
  have B1 : Aside _ := b1
  rw [hW2, hN]
  have R2 := hr_gw R0.out G2.out
  have HB2 := (G2.out.below.block _ hbl).trans HB.out
  have n1 : N + 1 < W2.heap.size := blkl b1
  obtain ⟨W3, W4, E3, E4, q1, q2, hp4, g4⟩ := cut_facts R2 LN.out h1 MN.out gne HB2 YV.out
  have HP4 : Aside _ := hp4
  have G4 : Aside (Gx (fun q => q = hb ∨ q = g) w W4) := (G2.out.gx _).trans g4 (fun q hq => .inl hq)
  have LT4 : Aside (N + 1 < W4.heap.size ∧ W4.heap[N]? = some (.cells #[.int .u64 0, .int .i64 0, .slice none 0 0] 76 (0, 0)) ∧ W4.heap[N + 1]? = some (.cells #[.int .u64 xk, .int .i64 (xi : Int), .slice (some ⟨xb, xo, none⟩) xn xc] 76 (0, 0))) :=
    ⟨Nat.lt_of_lt_of_le n1 g4.size, (g4.block _ (by omega) (by omega)).trans b0, (g4.block _ n1 (by omega)).trans b1⟩
  have c2 : W2.cell? ⟨hb, 1, none⟩ = some (.slice (some ⟨g, 0, none⟩) n cap) := blkc HB2 rfl
  have hcs := (hr_cells R2 LN.out).2.2.2
  have fz := (hr_cells R2 LN.out).1
  obtain ⟨f0, f1, f2⟩ := hcs m mn
  obtain ⟨d0, d1, d2⟩ := hcs 0 (by omega)
  rw [XV.out] at d0 d1 d2
  rw [YV.out] at f0 f1 f2
  simp only [Nat.zero_mul, Nat.zero_add, Lst.v, XN.out] at d0 d1 d2
  simp only [puth, Nat.zero_add, Lst.v, YN.out] at f2 E3
  have fz0 := fz 0
  have fz1 := fz 1
  have fz2 := fz 2
  have gN : Aside (g < N ∧ hb < N ∧ w.heap.size ≤ N) := ⟨by omega, by omega, by omega⟩
  clear hW2 hN hcs fz R2 HB2 b0 b1 g4 hp4 e0 e1 e2 c00
  go_wp2_with fail
  go_big_region
  go_wp2_with fail
  refine (SK.out (cutL H) W4.drew (by rw [cutL_len, LN.out]; exact MN.out.symm) ⟨HP4.out.blk, HP4.out.row, HP4.out.ne⟩ (HH.out.cut (by rw [LN.out]; exact h1))).mono ?_
  rintro ex u6 ⟨rfl, ⟨H', p1, p2, p3⟩, g6⟩
  have PF : Aside ((gt H 0 :: H').Perm H ∧ HeapOn H' ∧ H'.length = n - 1) := ⟨((List.Perm.cons _ p1).trans (cutL_perm H (by rw [LN.out]; exact h1)).symm), p2, by have := p1.length_eq; rw [cutL_len, LN.out] at this; exact this⟩
  have g6' : Gx (fun q => q = g) W4 u6 := ⟨g6.os, g6.tape, g6.output, g6.size, g6.block⟩
  have hl4 : hb < W4.heap.size := Nat.lt_of_lt_of_le hbl G4.out.size
  have m1 : u6.heap[N + 1]? = some (.cells #[.int .u64 xk, .int .i64 (xi : Int), .slice (some ⟨xb, xo, none⟩) xn xc] 76 (0, 0)) := (g6'.block _ LT4.out.1 (by have := gN.out; omega)).trans LT4.out.2.2
  have m0 : u6.heap[N]? = some (.cells #[.int .u64 0, .int .i64 0, .slice none 0 0] 76 (0, 0)) := (g6'.block _ (by have := LT4.out.1; omega) (by have := gN.out; omega)).trans LT4.out.2.1
  have mb : u6.heap[hb]? = some (.cells #[kf, .slice (some ⟨g, 0, none⟩) m cap, pv] 73 (0, 0)) := (g6'.block _ hl4 gne').trans HP4.out.blk
  have k0 := blkc (o := 0) m1 rfl
  have k1 := blkc (o := 1) m1 rfl
  have k2 := blkc (o := 2) m1 rfl
  have j0 := blkc (o := 0) m0 rfl
  have j1 := blkc (o := 1) m0 rfl
  have j2 := blkc (o := 2) m0 rfl
  have jf := fun o => blkf (o := o) m0
  have jf0 := jf 0
  have jf1 := jf 1
  have jf2 := jf 2
  have FIN : Aside (∀ W9, ((u6.setCell ⟨N, 0, none⟩ (.int .u64 xk)).setCell ⟨N, 1, none⟩ (.int .i64 (xi : Int))).setCell ⟨N, 2, none⟩ (.slice (some ⟨xb, xo, none⟩) xn xc) = W9 → (∃ H', (gt H 0 :: H').Perm H ∧ HeapOn H' ∧ H'.length = n - 1 ∧ Hpm 73 76 W9 hb base kf (.slice (some ⟨g, 0, none⟩) (n - 1) cap) pv H') ∧ Gx (fun q => q = hb ∨ q = g) w W9) := fun W9 e9 => by
    have nw : w.heap.size ≤ N := gN.out.2.2
    have kp : ∀ q, q ≠ N → W9.heap[q]? = u6.heap[q]? := fun q hq => by
      rw [← e9, Go.Deep.blk_setCell_other _ _ _ _ hq, Go.Deep.blk_setCell_other _ _ _ _ hq, Go.Deep.blk_setCell_other _ _ _ _ hq]
    refine ⟨⟨H', PF.out.1, PF.out.2.1, PF.out.2.2, ⟨?_, ?_, fun q hq => by cases hq; exact gne⟩⟩, ?_⟩
    · rw [← MN.out]; exact (kp hb (by have := gN.out; omega)).trans mb
    · rw [← MN.out]; exact hr_keep p3 fun q hq => kp q (by cases hq; show g ≠ N; have := gN.out; omega)
    · rw [← e9]
      exact ((((G4.out.trans g6' (fun q hq => .inl (.inr hq))).set (.inr nw) _ _).set (.inr nw) _ _).set (.inr nw) _ _)
  obtain ⟨W9, e9⟩ : ∃ W9, ((u6.setCell ⟨N, 0, none⟩ (.int .u64 xk)).setCell ⟨N, 1, none⟩ (.int .i64 (xi : Int))).setCell ⟨N, 2, none⟩ (.slice (some ⟨xb, xo, none⟩) xn xc) = W9 := ⟨_, rfl⟩
  have FF : Aside _ := FIN.out W9 e9
  have b9 : W9.heap[N]? = some (.cells #[.int .u64 xk, .int .i64 (xi : Int), .slice (some ⟨xb, xo, none⟩) xn xc] 76 (0, 0)) := by
    rw [← e9]
    have := blk_set (o := 2) (blk_set (o := 1) (blk_set (o := 0) m0 (.int .u64 xk)) (.int .i64 (xi : Int))) (.slice (some ⟨xb, xo, none⟩) xn xc)
    simpa using this
  have y0 := blkc (o := 0) b9 rfl
  have y1 := blkc (o := 1) b9 rfl
  have y2 := blkc (o := 2) b9 rfl
  clear FIN m0 m1 mb p1 p2 p3 g6 g6' jf b9 SK
  go_wp2_with fail
  refine bodyPost_ret (v := .agg #[.int .u64 xk, .int .i64 (xi : Int), .slice (some ⟨xb, xo, none⟩) xn xc]) (by simp [results, Try.results37, go_sem, y0, y1, y2]) rfl ⟨rfl, FF.out⟩
end Go.Proofs.Ytnkcnfpbbdlifab
