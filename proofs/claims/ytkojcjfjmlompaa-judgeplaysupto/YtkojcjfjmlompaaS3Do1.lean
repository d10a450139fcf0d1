/- Layer 23, the document's Do: put. -/
import Derived.Test.YtkojcjfjmlompaaS3DoE
namespace Go.Proofs.Ytkojcjfjmlompaa
open Go.RowKit
set_option linter.unusedVariables false

set_option maxRecDepth 100000 in
set_option maxHeartbeats 8000000 in
theorem do23_1 (p : Nat) (S : Nat → Prop) (most : Int) (l : Ps) (x y : Int) (hx : 0 ≤ x ∧ x < 18446744073709551616) (hy : 0 ≤ y ∧ y < 18446744073709551616) (hn : l.length ≤ 4000000) (w : World) (h : HPl w p S most l) :
    Calls Try.prog 18 #[.pointer (some ⟨p, 0, none⟩), .agg #[.int .i64 1, .int .u64 x, .int .u64 y]] w fun e w' => DoO w w' e p S most (putP most l x y).1 (ansP most l 1 x y) := by
  have HH : Hid (HPl w p S most l) := h
  have PU : Hid (∀ W, Gw w W → Calls Try.prog 25 #[.pointer (some ⟨p, 0, none⟩), .int .u64 x, .int .u64 y] W fun e w' => e = .returned (.int .i64 (putP most l x y).2) ∧ PutO W w' p (fun q => S q ∧ q < w.heap.size) most (putP most l x y).1) := fun W g => put23 p (fun q => S q ∧ q < w.heap.size) most l x y hx hy hn W (HH.out.trim.gw g)
  have RK : Hid (∀ W, Gw w W → Calls Try.prog 24 #[.pointer (some ⟨p, 0, none⟩), .int .u64 x] W fun e w' => e = .returned (.int .i64 (rk l x : Int)) ∧ w' = W) := fun W g => rank23 p S most l x hn W (HH.out.gw g)
  obtain ⟨v, h1, h2, h3, h4⟩ := h.lies
  obtain ⟨bo, c, rfl, hc, hno, AT⟩ := row_shape h2
  have CE : Hid (∀ W, Gw w W → W.cell? ⟨p, 1, none⟩ = some (.slice bo l.length c) ∧ ∀ i q, l[i]? = some q → ∃ g, bo = some ⟨g, 0, none⟩ ∧ W.cell? ⟨g, i * 2, none⟩ = some (.int .u64 q.1) ∧ W.cell? ⟨g, i * 2 + 1, none⟩ = some (.int .u64 q.2)) := fun W g => by
    refine ⟨(g.cell _ _ (blkl h1)).trans (blkc (o := 1) h1 rfl), fun i q hq => ?_⟩
    obtain ⟨g', e, gl, _, k0, k1, _⟩ := AT i q hq
    exact ⟨g', e, (g.cell _ _ gl).trans k0, (g.cell _ _ gl).trans k1⟩
  have rl := rk_le l x
  obtain ⟨r, hr⟩ : ∃ r, rk l x = r := ⟨_, rfl⟩
  have RH : Hid (rk l x = r) := hr
  rw [hr] at RK rl
  have GRD : Hid ((r < l.length ∧ ∃ q, l[r]? = some q ∧ (isK l x = true ↔ q.1 = x)) ∨ (¬ r < l.length ∧ isK l x = false)) := by
    show _ ∨ _
    by_cases z : r < l.length
    · refine .inl ⟨z, l[r], List.getElem?_eq_getElem z, ?_⟩
      unfold isK
      rw [hr, List.getElem?_eq_getElem z]
      simp
    · refine .inr ⟨z, ?_⟩
      unfold isK
      rw [hr, List.getElem?_eq_none (by omega)]
  obtain ⟨n, hln⟩ : ∃ n, l.length = n := ⟨_, rfl⟩
  have LN : Hid (l.length = n) := hln
  have R2 : Hid (w.ownsRow 0 44 2 (.slice bo l.length c) l.length (pcs l)) := h2
  rw [hln] at hn rl CE hc GRD
  clear h h1 h2 h3 h4 AT hno hln hr
  go_enter Try.func18, Try.ntmps18
  go_wp2_with fail
  have GB : Hid (Gw w ((w.alloc (.cells #[.int .i64 1, .int .u64 x, .int .u64 y] 33)).alloc (.cells #[.int .i64 0, .bool false, .int .u64 0, .int .u64 0, .int .i64 0, .slice none 0 0] 36))) := ((Gw.refl w).alloc _ _).alloc _ _
  refine (RK.out _ GB.out).mono ?_
  rintro e w1 ⟨rfl, hw1⟩
  have B3 : Hid (w1.heap[w.heap.size]? = some (.cells #[.int .i64 1, .int .u64 x, .int .u64 y] 33 (0, 0)) ∧ w1.heap[w.heap.size + 1]? = some (.cells #[.int .i64 0, .bool false, .int .u64 0, .int .u64 0, .int .i64 0, .slice none 0 0] 36 (0, 0)) ∧ w1.heap.size = w.heap.size + 2) := by
    rw [hw1]
    refine ⟨(heap_alloc_old _ _ (by simp)).trans (heap_alloc_new w _), ?_, by simp⟩
    have := heap_alloc_new (w.alloc (.cells #[.int .i64 1, .int .u64 x, .int .u64 y] 33)) (.cells #[.int .i64 0, .bool false, .int .u64 0, .int .u64 0, .int .i64 0, .slice none 0 0] 36)
    simpa using this
  have G1 : Hid (Gw w w1) := by rw [hw1]; exact GB.out
  clear hw1 GB
  obtain ⟨b3, hb3⟩ : ∃ b3, w.heap.size = b3 := ⟨_, rfl⟩
  rw [hb3] at B3
  dsimp only
  rw [hb3]
  have W0 : Hid (w.heap.size = b3) := hb3
  clear hb3
  have o1 := blkc (o := 1) B3.out.1 rfl
  obtain ⟨c1, CI⟩ := CE.out w1 G1.out
  have CIH : Hid (∀ i q, l[i]? = some q → ∃ g, bo = some ⟨g, 0, none⟩ ∧ w1.cell? ⟨g, i * 2, none⟩ = some (.int .u64 q.1) ∧ w1.cell? ⟨g, i * 2 + 1, none⟩ = some (.int .u64 q.2)) := CI
  clear CI
  rcases GRD.out with ⟨z, q, hq, iq⟩ | ⟨z, iq⟩
  · obtain ⟨g, rfl, k0, k1⟩ := CIH.out r q hq
    have rlt : (r : Int) < (n : Int) := by omega
    have QH : Hid (l[r]? = some q) := hq
    obtain ⟨qk, qv⟩ := q
    dsimp only at k0 k1 iq
    clear hq
    by_cases e : qk = x
    · have IK : Hid (isK l x = true) := iq.2 e
      have e' : ((qk : Int) == x) = true := by simpa using e
      clear e
      clear k1 iq
      go_wp2_with fail
      go_quiet (fail)
      have GD : Hid (Gw w (w1.drewN nq)) := G1.out.drewN _
      have BD : Hid ((w1.drewN nq).heap[b3]? = some (.cells #[.int .i64 1, .int .u64 x, .int .u64 y] 33 (0, 0)) ∧ (w1.drewN nq).heap[b3 + 1]? = some (.cells #[.int .i64 0, .bool false, .int .u64 0, .int .u64 0, .int .i64 0, .slice none 0 0] 36 (0, 0)) ∧ (w1.drewN nq).heap.size = b3 + 2) := by have := B3.out; show _ ∧ _; simpa using this
      generalize w1.drewN nq = wD at GD BD ⊢
      have sz := BD.out.2.2
      have oa : ∀ (C : Array Value) (j : Nat), (wD.alloc (.cells C 36)).cell? ⟨b3, j, none⟩ = wD.cell? ⟨b3, j, none⟩ := fun C j => World.cell?_of_block (a := ⟨b3, j, none⟩) (heap_alloc_old wD _ (show b3 < wD.heap.size by omega))
      have p0 : wD.cell? ⟨b3, 0, none⟩ = some (.int .i64 1) := blkc BD.out.1 rfl
      have p1 : wD.cell? ⟨b3, 1, none⟩ = some (.int .u64 x) := blkc BD.out.1 rfl
      have p2 : wD.cell? ⟨b3, 2, none⟩ = some (.int .u64 y) := blkc BD.out.1 rfl
      clear o1 c1
      have AE : Hid (ansP most l 1 x y = (⟨(putP most l x y).2, false, 0, 0, 0, []⟩ : Aw)) := by
        show _ = _
        unfold ansP
        simp [aw0]
      have GA : Hid (Gw w (wD.alloc (.cells #[.int .i64 0, .bool false, .int .u64 0, .int .u64 0, .int .i64 0, .slice none 0 0] 36))) := GD.out.alloc _ _
      go_wp2_with fail
      refine (PU.out _ GA.out).mono ?_
      rintro e w7 ⟨rfl, S', HP, GX, SS⟩
      have zA : (wD.alloc (.cells #[.int .i64 0, .bool false, .int .u64 0, .int .u64 0, .int .i64 0, .slice none 0 0] 36)).heap.size = b3 + 3 := by simp [sz]
      have n1 : ∀ q, b3 ≤ q → ¬ (S q ∧ q < w.heap.size) := fun q hq k => by have := W0.out; omega
      have X1 : w7.heap[b3 + 1]? = some (.cells #[.int .i64 0, .bool false, .int .u64 0, .int .u64 0, .int .i64 0, .slice none 0 0] 36 (0, 0)) := (GX.block _ (by omega) (n1 _ (by omega))).trans ((heap_alloc_old wD _ (by omega)).trans BD.out.2.1)
      have X2 : w7.heap[b3 + 2]? = some (.cells #[.int .i64 0, .bool false, .int .u64 0, .int .u64 0, .int .i64 0, .slice none 0 0] 36 (0, 0)) := (GX.block _ (by omega) (n1 _ (by omega))).trans (by have := heap_alloc_new wD (.cells #[.int .i64 0, .bool false, .int .u64 0, .int .u64 0, .int .i64 0, .slice none 0 0] 36); rw [sz] at this; exact this)
      have c7 : w7.cell? ⟨b3 + 2, 0, none⟩ = some (.int .i64 0) := blkc X2 rfl
      have f7 : w7.frozen? ⟨b3 + 2, 0, none⟩ = false := blkf X2
      have X1H : Hid (w7.heap[b3 + 1]? = some (.cells #[.int .i64 0, .bool false, .int .u64 0, .int .u64 0, .int .i64 0, .slice none 0 0] 36 (0, 0)) ∧ w7.heap[b3 + 2]? = some (.cells #[.int .i64 0, .bool false, .int .u64 0, .int .u64 0, .int .i64 0, .slice none 0 0] 36 (0, 0))) := ⟨X1, X2⟩
      have HX : Hid (HPl w7 p S' most (putP most l x y).1 ∧ Gx S w w7 ∧ (∀ q, S' q → S q ∧ q < b3 ∨ b3 + 3 ≤ q)) := ⟨HP, (GA.out.gx S).trans GX (fun q hq => .inl hq.1), fun q hq => (SS q hq).imp (fun k => ⟨k.1, by have := W0.out; have := k.2; omega⟩) (fun k => by omega)⟩
      clear HP GX SS zA n1 X1 X2
      dsimp only
      go_upto_region 30 with fail
      have EH : Hid (AtE w (w7.setCell ⟨b3 + 2, 0, none⟩ (.int .i64 (putP most l x y).2)) p S most (putP most l x y).1 (⟨(putP most l x y).2, false, 0, 0, 0, []⟩ : Aw) b3 none 0) := ⟨W0.out, (Go.Deep.blk_setCell_other w7 ⟨b3 + 2, 0, none⟩ _ (b3 + 1) (by simp)).trans X1H.out.1, by simp [World.setCell, Array.getElem?_modify, X1H.out.2, awC], S', HX.out.1.keep (fun q hq _ => Go.Deep.blk_setCell_other w7 ⟨b3 + 2, 0, none⟩ _ q (fun e => by rcases HX.out.2.2 q hq with k | k <;> simp at e <;> omega)), HX.out.2.1.set (.inr (by rw [W0.out]; omega)) _ _, fun q hq => (HX.out.2.2 q hq).imp And.left (fun k => by rw [W0.out]; omega), fun hq => by rcases HX.out.2.2 _ hq with k | k <;> omega, ⟨fun h0 => by simp at h0⟩, (fun a e => by cases e), (fun _ => rfl)⟩
      generalize (w7.setCell ⟨b3 + 2, 0, none⟩ (.int .i64 (putP most l x y).2)) = wE at EH ⊢
      have RB := EH.out.res
      have AB := EH.out.box
      have r0 : wE.cell? ⟨b3 + 1, 0, none⟩ = some (.int .i64 0) := blkc RB rfl
      have r1 : wE.cell? ⟨b3 + 1, 1, none⟩ = some (.bool false) := blkc RB rfl
      have r2 : wE.cell? ⟨b3 + 1, 2, none⟩ = some (.int .u64 0) := blkc RB rfl
      have r3 : wE.cell? ⟨b3 + 1, 3, none⟩ = some (.int .u64 0) := blkc RB rfl
      have r4 : wE.cell? ⟨b3 + 1, 4, none⟩ = some (.int .i64 0) := blkc RB rfl
      have r5 : wE.cell? ⟨b3 + 1, 5, none⟩ = some (.slice none 0 0) := blkc RB rfl
      have fz : ∀ o : Nat, wE.frozen? ⟨b3 + 1, o, none⟩ = false := fun o => blkf RB
      have sc : ∀ (W : World) (b i j : Nat) (u : Value), (i == j) = false → (W.setCell ⟨b, i, none⟩ u).cell? ⟨b, j, none⟩ = W.cell? ⟨b, j, none⟩ := set_ne23
      obtain ⟨A, hA⟩ : ∃ A, (⟨(putP most l x y).2, false, 0, 0, 0, []⟩ : Aw) = A := ⟨_, rfl⟩
      rw [hA] at EH AB
      have a0 : wE.cell? ⟨b3 + 2, 0, none⟩ = some (.int .i64 A.c) := blkc AB rfl
      have a1 : wE.cell? ⟨b3 + 2, 1, none⟩ = some (.bool A.is) := blkc AB rfl
      have a2 : wE.cell? ⟨b3 + 2, 2, none⟩ = some (.int .u64 A.k) := blkc AB rfl
      have a3 : wE.cell? ⟨b3 + 2, 3, none⟩ = some (.int .u64 A.v) := blkc AB rfl
      have a4 : wE.cell? ⟨b3 + 2, 4, none⟩ = some (.int .i64 A.n) := blkc AB rfl
      have a5 : wE.cell? ⟨b3 + 2, 5, none⟩ = some (.slice none A.L.length 0) := blkc AB rfl
      have AA : Hid (ansP most l 1 x y = A) := by rw [AE.out]; exact hA
      clear RB AB hA AE p0 p1 p2 oa
      go_wp2_with fail
      refine bodyPost_ret (v := awV A none 0) (by simp [results, Try.results18, go_sem, sc, r0, r1, r2, r3, r4, r5, awV]) rfl ?_
      rw [AA.out]
      exact EH.out.out
    · have IK : Hid (isK l x = false) := Bool.eq_false_iff.2 (fun q => e (iq.1 q))
      have e' : ((qk : Int) == x) = false := by simpa using e
      clear e k1 iq
      go_wp2_with fail
      go_quiet (fail)
      have GD : Hid (Gw w (w1.drewN nq)) := G1.out.drewN _
      have BD : Hid ((w1.drewN nq).heap[b3]? = some (.cells #[.int .i64 1, .int .u64 x, .int .u64 y] 33 (0, 0)) ∧ (w1.drewN nq).heap[b3 + 1]? = some (.cells #[.int .i64 0, .bool false, .int .u64 0, .int .u64 0, .int .i64 0, .slice none 0 0] 36 (0, 0)) ∧ (w1.drewN nq).heap.size = b3 + 2) := by have := B3.out; show _ ∧ _; simpa using this
      generalize w1.drewN nq = wD at GD BD ⊢
      have sz := BD.out.2.2
      have oa : ∀ (C : Array Value) (j : Nat), (wD.alloc (.cells C 36)).cell? ⟨b3, j, none⟩ = wD.cell? ⟨b3, j, none⟩ := fun C j => World.cell?_of_block (a := ⟨b3, j, none⟩) (heap_alloc_old wD _ (show b3 < wD.heap.size by omega))
      have p0 : wD.cell? ⟨b3, 0, none⟩ = some (.int .i64 1) := blkc BD.out.1 rfl
      have p1 : wD.cell? ⟨b3, 1, none⟩ = some (.int .u64 x) := blkc BD.out.1 rfl
      have p2 : wD.cell? ⟨b3, 2, none⟩ = some (.int .u64 y) := blkc BD.out.1 rfl
      clear o1 c1
      have AE : Hid (ansP most l 1 x y = (⟨(putP most l x y).2, false, 0, 0, 0, []⟩ : Aw)) := by
        show _ = _
        unfold ansP
        simp [aw0]
      have GA : Hid (Gw w (wD.alloc (.cells #[.int .i64 0, .bool false, .int .u64 0, .int .u64 0, .int .i64 0, .slice none 0 0] 36))) := GD.out.alloc _ _
      go_wp2_with fail
      refine (PU.out _ GA.out).mono ?_
      rintro e w7 ⟨rfl, S', HP, GX, SS⟩
      have zA : (wD.alloc (.cells #[.int .i64 0, .bool false, .int .u64 0, .int .u64 0, .int .i64 0, .slice none 0 0] 36)).heap.size = b3 + 3 := by simp [sz]
      have n1 : ∀ q, b3 ≤ q → ¬ (S q ∧ q < w.heap.size) := fun q hq k => by have := W0.out; omega
      have X1 : w7.heap[b3 + 1]? = some (.cells #[.int .i64 0, .bool false, .int .u64 0, .int .u64 0, .int .i64 0, .slice none 0 0] 36 (0, 0)) := (GX.block _ (by omega) (n1 _ (by omega))).trans ((heap_alloc_old wD _ (by omega)).trans BD.out.2.1)
      have X2 : w7.heap[b3 + 2]? = some (.cells #[.int .i64 0, .bool false, .int .u64 0, .int .u64 0, .int .i64 0, .slice none 0 0] 36 (0, 0)) := (GX.block _ (by omega) (n1 _ (by omega))).trans (by have := heap_alloc_new wD (.cells #[.int .i64 0, .bool false, .int .u64 0, .int .u64 0, .int .i64 0, .slice none 0 0] 36); rw [sz] at this; exact this)
      have c7 : w7.cell? ⟨b3 + 2, 0, none⟩ = some (.int .i64 0) := blkc X2 rfl
      have f7 : w7.frozen? ⟨b3 + 2, 0, none⟩ = false := blkf X2
      have X1H : Hid (w7.heap[b3 + 1]? = some (.cells #[.int .i64 0, .bool false, .int .u64 0, .int .u64 0, .int .i64 0, .slice none 0 0] 36 (0, 0)) ∧ w7.heap[b3 + 2]? = some (.cells #[.int .i64 0, .bool false, .int .u64 0, .int .u64 0, .int .i64 0, .slice none 0 0] 36 (0, 0))) := ⟨X1, X2⟩
      have HX : Hid (HPl w7 p S' most (putP most l x y).1 ∧ Gx S w w7 ∧ (∀ q, S' q → S q ∧ q < b3 ∨ b3 + 3 ≤ q)) := ⟨HP, (GA.out.gx S).trans GX (fun q hq => .inl hq.1), fun q hq => (SS q hq).imp (fun k => ⟨k.1, by have := W0.out; have := k.2; omega⟩) (fun k => by omega)⟩
      clear HP GX SS zA n1 X1 X2
      dsimp only
      go_upto_region 30 with fail
      have EH : Hid (AtE w (w7.setCell ⟨b3 + 2, 0, none⟩ (.int .i64 (putP most l x y).2)) p S most (putP most l x y).1 (⟨(putP most l x y).2, false, 0, 0, 0, []⟩ : Aw) b3 none 0) := ⟨W0.out, (Go.Deep.blk_setCell_other w7 ⟨b3 + 2, 0, none⟩ _ (b3 + 1) (by simp)).trans X1H.out.1, by simp [World.setCell, Array.getElem?_modify, X1H.out.2, awC], S', HX.out.1.keep (fun q hq _ => Go.Deep.blk_setCell_other w7 ⟨b3 + 2, 0, none⟩ _ q (fun e => by rcases HX.out.2.2 q hq with k | k <;> simp at e <;> omega)), HX.out.2.1.set (.inr (by rw [W0.out]; omega)) _ _, fun q hq => (HX.out.2.2 q hq).imp And.left (fun k => by rw [W0.out]; omega), fun hq => by rcases HX.out.2.2 _ hq with k | k <;> omega, ⟨fun h0 => by simp at h0⟩, (fun a e => by cases e), (fun _ => rfl)⟩
      generalize (w7.setCell ⟨b3 + 2, 0, none⟩ (.int .i64 (putP most l x y).2)) = wE at EH ⊢
      have RB := EH.out.res
      have AB := EH.out.box
      have r0 : wE.cell? ⟨b3 + 1, 0, none⟩ = some (.int .i64 0) := blkc RB rfl
      have r1 : wE.cell? ⟨b3 + 1, 1, none⟩ = some (.bool false) := blkc RB rfl
      have r2 : wE.cell? ⟨b3 + 1, 2, none⟩ = some (.int .u64 0) := blkc RB rfl
      have r3 : wE.cell? ⟨b3 + 1, 3, none⟩ = some (.int .u64 0) := blkc RB rfl
      have r4 : wE.cell? ⟨b3 + 1, 4, none⟩ = some (.int .i64 0) := blkc RB rfl
      have r5 : wE.cell? ⟨b3 + 1, 5, none⟩ = some (.slice none 0 0) := blkc RB rfl
      have fz : ∀ o : Nat, wE.frozen? ⟨b3 + 1, o, none⟩ = false := fun o => blkf RB
      have sc : ∀ (W : World) (b i j : Nat) (u : Value), (i == j) = false → (W.setCell ⟨b, i, none⟩ u).cell? ⟨b, j, none⟩ = W.cell? ⟨b, j, none⟩ := set_ne23
      obtain ⟨A, hA⟩ : ∃ A, (⟨(putP most l x y).2, false, 0, 0, 0, []⟩ : Aw) = A := ⟨_, rfl⟩
      rw [hA] at EH AB
      have a0 : wE.cell? ⟨b3 + 2, 0, none⟩ = some (.int .i64 A.c) := blkc AB rfl
      have a1 : wE.cell? ⟨b3 + 2, 1, none⟩ = some (.bool A.is) := blkc AB rfl
      have a2 : wE.cell? ⟨b3 + 2, 2, none⟩ = some (.int .u64 A.k) := blkc AB rfl
      have a3 : wE.cell? ⟨b3 + 2, 3, none⟩ = some (.int .u64 A.v) := blkc AB rfl
      have a4 : wE.cell? ⟨b3 + 2, 4, none⟩ = some (.int .i64 A.n) := blkc AB rfl
      have a5 : wE.cell? ⟨b3 + 2, 5, none⟩ = some (.slice none A.L.length 0) := blkc AB rfl
      have AA : Hid (ansP most l 1 x y = A) := by rw [AE.out]; exact hA
      clear RB AB hA AE p0 p1 p2 oa
      go_wp2_with fail
      refine bodyPost_ret (v := awV A none 0) (by simp [results, Try.results18, go_sem, sc, r0, r1, r2, r3, r4, r5, awV]) rfl ?_
      rw [AA.out]
      exact EH.out.out
  · have rlt : ¬ (r : Int) < (n : Int) := by omega
    have IK : Hid (isK l x = false) := iq
    clear iq
    go_wp2_with fail
    go_quiet (fail)
    have GD : Hid (Gw w (w1.drewN nq)) := G1.out.drewN _
    have BD : Hid ((w1.drewN nq).heap[b3]? = some (.cells #[.int .i64 1, .int .u64 x, .int .u64 y] 33 (0, 0)) ∧ (w1.drewN nq).heap[b3 + 1]? = some (.cells #[.int .i64 0, .bool false, .int .u64 0, .int .u64 0, .int .i64 0, .slice none 0 0] 36 (0, 0)) ∧ (w1.drewN nq).heap.size = b3 + 2) := by have := B3.out; show _ ∧ _; simpa using this
    generalize w1.drewN nq = wD at GD BD ⊢
    have sz := BD.out.2.2
    have oa : ∀ (C : Array Value) (j : Nat), (wD.alloc (.cells C 36)).cell? ⟨b3, j, none⟩ = wD.cell? ⟨b3, j, none⟩ := fun C j => World.cell?_of_block (a := ⟨b3, j, none⟩) (heap_alloc_old wD _ (show b3 < wD.heap.size by omega))
    have p0 : wD.cell? ⟨b3, 0, none⟩ = some (.int .i64 1) := blkc BD.out.1 rfl
    have p1 : wD.cell? ⟨b3, 1, none⟩ = some (.int .u64 x) := blkc BD.out.1 rfl
    have p2 : wD.cell? ⟨b3, 2, none⟩ = some (.int .u64 y) := blkc BD.out.1 rfl
    clear o1 c1
    have AE : Hid (ansP most l 1 x y = (⟨(putP most l x y).2, false, 0, 0, 0, []⟩ : Aw)) := by
      show _ = _
      unfold ansP
      simp [aw0]
    have GA : Hid (Gw w (wD.alloc (.cells #[.int .i64 0, .bool false, .int .u64 0, .int .u64 0, .int .i64 0, .slice none 0 0] 36))) := GD.out.alloc _ _
    go_wp2_with fail
    refine (PU.out _ GA.out).mono ?_
    rintro e w7 ⟨rfl, S', HP, GX, SS⟩
    have zA : (wD.alloc (.cells #[.int .i64 0, .bool false, .int .u64 0, .int .u64 0, .int .i64 0, .slice none 0 0] 36)).heap.size = b3 + 3 := by simp [sz]
    have n1 : ∀ q, b3 ≤ q → ¬ (S q ∧ q < w.heap.size) := fun q hq k => by have := W0.out; omega
    have X1 : w7.heap[b3 + 1]? = some (.cells #[.int .i64 0, .bool false, .int .u64 0, .int .u64 0, .int .i64 0, .slice none 0 0] 36 (0, 0)) := (GX.block _ (by omega) (n1 _ (by omega))).trans ((heap_alloc_old wD _ (by omega)).trans BD.out.2.1)
    have X2 : w7.heap[b3 + 2]? = some (.cells #[.int .i64 0, .bool false, .int .u64 0, .int .u64 0, .int .i64 0, .slice none 0 0] 36 (0, 0)) := (GX.block _ (by omega) (n1 _ (by omega))).trans (by have := heap_alloc_new wD (.cells #[.int .i64 0, .bool false, .int .u64 0, .int .u64 0, .int .i64 0, .slice none 0 0] 36); rw [sz] at this; exact this)
    have c7 : w7.cell? ⟨b3 + 2, 0, none⟩ = some (.int .i64 0) := blkc X2 rfl
    have f7 : w7.frozen? ⟨b3 + 2, 0, none⟩ = false := blkf X2
    have X1H : Hid (w7.heap[b3 + 1]? = some (.cells #[.int .i64 0, .bool false, .int .u64 0, .int .u64 0, .int .i64 0, .slice none 0 0] 36 (0, 0)) ∧ w7.heap[b3 + 2]? = some (.cells #[.int .i64 0, .bool false, .int .u64 0, .int .u64 0, .int .i64 0, .slice none 0 0] 36 (0, 0))) := ⟨X1, X2⟩
    have HX : Hid (HPl w7 p S' most (putP most l x y).1 ∧ Gx S w w7 ∧ (∀ q, S' q → S q ∧ q < b3 ∨ b3 + 3 ≤ q)) := ⟨HP, (GA.out.gx S).trans GX (fun q hq => .inl hq.1), fun q hq => (SS q hq).imp (fun k => ⟨k.1, by have := W0.out; have := k.2; omega⟩) (fun k => by omega)⟩
    clear HP GX SS zA n1 X1 X2
    dsimp only
    go_upto_region 30 with fail
    have EH : Hid (AtE w (w7.setCell ⟨b3 + 2, 0, none⟩ (.int .i64 (putP most l x y).2)) p S most (putP most l x y).1 (⟨(putP most l x y).2, false, 0, 0, 0, []⟩ : Aw) b3 none 0) := ⟨W0.out, (Go.Deep.blk_setCell_other w7 ⟨b3 + 2, 0, none⟩ _ (b3 + 1) (by simp)).trans X1H.out.1, by simp [World.setCell, Array.getElem?_modify, X1H.out.2, awC], S', HX.out.1.keep (fun q hq _ => Go.Deep.blk_setCell_other w7 ⟨b3 + 2, 0, none⟩ _ q (fun e => by rcases HX.out.2.2 q hq with k | k <;> simp at e <;> omega)), HX.out.2.1.set (.inr (by rw [W0.out]; omega)) _ _, fun q hq => (HX.out.2.2 q hq).imp And.left (fun k => by rw [W0.out]; omega), fun hq => by rcases HX.out.2.2 _ hq with k | k <;> omega, ⟨fun h0 => by simp at h0⟩, (fun a e => by cases e), (fun _ => rfl)⟩
    generalize (w7.setCell ⟨b3 + 2, 0, none⟩ (.int .i64 (putP most l x y).2)) = wE at EH ⊢
    have RB := EH.out.res
    have AB := EH.out.box
    have r0 : wE.cell? ⟨b3 + 1, 0, none⟩ = some (.int .i64 0) := blkc RB rfl
    have r1 : wE.cell? ⟨b3 + 1, 1, none⟩ = some (.bool false) := blkc RB rfl
    have r2 : wE.cell? ⟨b3 + 1, 2, none⟩ = some (.int .u64 0) := blkc RB rfl
    have r3 : wE.cell? ⟨b3 + 1, 3, none⟩ = some (.int .u64 0) := blkc RB rfl
    have r4 : wE.cell? ⟨b3 + 1, 4, none⟩ = some (.int .i64 0) := blkc RB rfl
    have r5 : wE.cell? ⟨b3 + 1, 5, none⟩ = some (.slice none 0 0) := blkc RB rfl
    have fz : ∀ o : Nat, wE.frozen? ⟨b3 + 1, o, none⟩ = false := fun o => blkf RB
    have sc : ∀ (W : World) (b i j : Nat) (u : Value), (i == j) = false → (W.setCell ⟨b, i, none⟩ u).cell? ⟨b, j, none⟩ = W.cell? ⟨b, j, none⟩ := set_ne23
    obtain ⟨A, hA⟩ : ∃ A, (⟨(putP most l x y).2, false, 0, 0, 0, []⟩ : Aw) = A := ⟨_, rfl⟩
    rw [hA] at EH AB
    have a0 : wE.cell? ⟨b3 + 2, 0, none⟩ = some (.int .i64 A.c) := blkc AB rfl
    have a1 : wE.cell? ⟨b3 + 2, 1, none⟩ = some (.bool A.is) := blkc AB rfl
    have a2 : wE.cell? ⟨b3 + 2, 2, none⟩ = some (.int .u64 A.k) := blkc AB rfl
    have a3 : wE.cell? ⟨b3 + 2, 3, none⟩ = some (.int .u64 A.v) := blkc AB rfl
    have a4 : wE.cell? ⟨b3 + 2, 4, none⟩ = some (.int .i64 A.n) := blkc AB rfl
    have a5 : wE.cell? ⟨b3 + 2, 5, none⟩ = some (.slice none A.L.length 0) := blkc AB rfl
    have AA : Hid (ansP most l 1 x y = A) := by rw [AE.out]; exact hA
    clear RB AB hA AE p0 p1 p2 oa
    go_wp2_with fail
    refine bodyPost_ret (v := awV A none 0) (by simp [results, Try.results18, go_sem, sc, r0, r1, r2, r3, r4, r5, awV]) rfl ?_
    rw [AA.out]
    exact EH.out.out
end Go.Proofs.Ytkojcjfjmlompaa
