/- Layer 23, the document's: Do, of a kind that is none. -/
import Derived.Test.YtkojcjfjmlompaaS3Do
namespace Go.Proofs.Ytkojcjfjmlompaa
open Go.RowKit
set_option linter.unusedVariables false
set_option maxRecDepth 100000 in
set_option maxHeartbeats 8000000 in
theorem do23_d (p : Nat) (S : Nat → Prop) (most : Int) (l : Ps) (kd x y : Int) (k1 : (kd == 1) = false) (k2 : (kd == 2) = false) (k3 : (kd == 3) = false) (k4 : (kd == 4) = false) (k5 : (kd == 5) = false) (k6 : (kd == 6) = false) (k7 : (kd == 7) = false) (hn : l.length ≤ 4000000) (w : World) (h : HPl w p S most l) :
    Calls Try.prog 18 #[.pointer (some ⟨p, 0, none⟩), .agg #[.int .i64 kd, .int .u64 x, .int .u64 y]] w fun e w' => DoO w w' e p S most l (ansP most l kd x y) := by
  have HH : Hid (HPl w p S most l) := h
  have RK : Hid (∀ W, Gw w W → Calls Try.prog 24 #[.pointer (some ⟨p, 0, none⟩), .int .u64 x] W fun e w' => e = .returned (.int .i64 (rk l x : Int)) ∧ w' = W) := fun W g => rank23 p S most l x hn W (HH.out.gw g)
  obtain ⟨v, h1, h2, h3, h4⟩ := h.lies
  obtain ⟨bo, c, rfl, hc, hno, AT⟩ := row_shape h2
  have CE : Hid (∀ W, Gw w W → W.cell? ⟨p, 1, none⟩ = some (.slice bo l.length c) ∧ ∀ i q, l[i]? = some q → ∃ g, bo = some ⟨g, 0, none⟩ ∧ W.cell? ⟨g, i * 2, none⟩ = some (.int .u64 q.1) ∧ W.cell? ⟨g, i * 2 + 1, none⟩ = some (.int .u64 q.2)) := fun W g => by
    refine ⟨(g.cell _ _ (blkl h1)).trans (blkc (o := 1) h1 rfl), fun i q hq => ?_⟩
    obtain ⟨g', e, gl, _, m0, m1, _⟩ := AT i q hq
    exact ⟨g', e, (g.cell _ _ gl).trans m0, (g.cell _ _ gl).trans m1⟩
  have rl := rk_le l x
  have AE : Hid (ansP most l kd x y = { aw0 with c := 1 }) := by
    show _ = _
    unfold ansP
    simp at k1 k2 k3 k4 k5 k6 k7
    simp [k1, k2, k3, k4, k5, k6, k7]
  obtain ⟨r, hr⟩ : ∃ r, rk l x = r := ⟨_, rfl⟩
  rw [hr] at RK rl
  have GRD : Hid ((r < l.length ∧ ∃ q, l[r]? = some q ∧ (isK l x = true ↔ q.1 = x)) ∨ (¬ r < l.length ∧ isK l x = false)) := by
    show _ ∨ _
    by_cases z : r < l.length
    · refine .inl ⟨z, l[r], List.getElem?_eq_getElem z, ?_⟩
      unfold isK
      rw [hr, List.getElem?_eq_getElem z]
      simp
    · refine .inr ⟨z, ?_⟩
      unfold isK
      rw [hr, List.getElem?_eq_none (by omega)]
  obtain ⟨n, hln⟩ : ∃ n, l.length = n := ⟨_, rfl⟩
  have LN : Hid (l.length = n) := hln
  rw [hln] at hn rl CE hc GRD
  clear h h1 h2 h3 h4 AT hno hln hr
  go_enter Try.func18, Try.ntmps18
  go_wp2_with fail
  have GB : Hid (Gw w ((w.alloc (.cells #[.int .i64 kd, .int .u64 x, .int .u64 y] 33)).alloc (.cells #[.int .i64 0, .bool false, .int .u64 0, .int .u64 0, .int .i64 0, .slice none 0 0] 36))) := ((Gw.refl w).alloc _ _).alloc _ _
  refine (RK.out _ GB.out).mono ?_
  rintro e w1 ⟨rfl, hw1⟩
  have B3 : Hid (w1.heap[w.heap.size]? = some (.cells #[.int .i64 kd, .int .u64 x, .int .u64 y] 33 (0, 0)) ∧ w1.heap[w.heap.size + 1]? = some (.cells #[.int .i64 0, .bool false, .int .u64 0, .int .u64 0, .int .i64 0, .slice none 0 0] 36 (0, 0)) ∧ w1.heap.size = w.heap.size + 2) := by
    rw [hw1]
    refine ⟨(heap_alloc_old _ _ (by simp)).trans (heap_alloc_new w _), ?_, by simp⟩
    have := heap_alloc_new (w.alloc (.cells #[.int .i64 kd, .int .u64 x, .int .u64 y] 33)) (.cells #[.int .i64 0, .bool false, .int .u64 0, .int .u64 0, .int .i64 0, .slice none 0 0] 36)
    simpa using this
  have G1 : Hid (Gw w w1) := by rw [hw1]; exact GB.out
  clear hw1 GB
  obtain ⟨b3, hb3⟩ : ∃ b3, w.heap.size = b3 := ⟨_, rfl⟩
  rw [hb3] at B3
  dsimp only
  rw [hb3]
  have W0 : Hid (w.heap.size = b3) := hb3
  clear hb3
  have o1 := blkc (o := 1) B3.out.1 rfl
  obtain ⟨c1, CI⟩ := CE.out w1 G1.out
  have CIH : Hid (∀ i q, l[i]? = some q → ∃ g, bo = some ⟨g, 0, none⟩ ∧ w1.cell? ⟨g, i * 2, none⟩ = some (.int .u64 q.1) ∧ w1.cell? ⟨g, i * 2 + 1, none⟩ = some (.int .u64 q.2)) := CI
  clear CI
  obtain ⟨ik, IK⟩ : ∃ ik, isK l x = ik := ⟨_, rfl⟩
  have st : Hid (isK l x = ik) := IK
  rcases GRD.out with ⟨z, q, hq, iq⟩ | ⟨z, iq⟩
  focus
    obtain ⟨g, rfl, m0, m1⟩ := CIH.out r q hq
    have rlt : (r : Int) < (n : Int) := by omega
    obtain ⟨qk, qv⟩ := q
    dsimp only at m0 m1 iq
    clear hq m1 IK
    by_cases e : qk = x
    focus
      have e' : ((qk : Int) == x) = true := by simpa using e
      clear e
      go_wp2_with fail
      go_quiet (fail)
    rotate_left
    focus
      have e' : ((qk : Int) == x) = false := by simpa using e
      clear e
      go_wp2_with fail
      go_quiet (fail)
  rotate_left
  rotate_left
  focus
    have rlt : ¬ (r : Int) < (n : Int) := by omega
    clear IK
    go_wp2_with fail
    go_quiet (fail)
  all_goals
      have GD : Hid (Gw w (w1.drewN nq)) := G1.out.drewN _
      have BD : Hid ((w1.drewN nq).heap[b3]? = some (.cells #[.int .i64 kd, .int .u64 x, .int .u64 y] 33 (0, 0)) ∧ (w1.drewN nq).heap[b3 + 1]? = some (.cells #[.int .i64 0, .bool false, .int .u64 0, .int .u64 0, .int .i64 0, .slice none 0 0] 36 (0, 0)) ∧ (w1.drewN nq).heap.size = b3 + 2) := by have := B3.out; show _ ∧ _; simpa using this
      generalize w1.drewN nq = wD at GD BD ⊢
      have sz := BD.out.2.2
      have p0 := blkc (o := 0) (heap_alloc_old wD (.cells #[.int .i64 0, .bool false, .int .u64 0, .int .u64 0, .int .i64 0, .slice none 0 0] 36) (blkl BD.out.1) |>.trans BD.out.1) rfl
      have RB := BD.out.2.1
      have al : ∀ (W : World) (C : Array Value) (j : Nat), W.heap.size = b3 + 2 → (W.alloc (.cells C 36)).cell? ⟨b3 + 1, j, none⟩ = W.cell? ⟨b3 + 1, j, none⟩ := fun W C j e => World.cell?_of_block (a := ⟨b3 + 1, j, none⟩) (heap_alloc_old W _ (show b3 + 1 < W.heap.size by omega))
      have af : ∀ (W : World) (C : Array Value) (j : Nat), W.heap.size = b3 + 2 → (W.alloc (.cells C 36)).frozen? ⟨b3 + 1, j, none⟩ = W.frozen? ⟨b3 + 1, j, none⟩ := fun W C j e => by have lt : b3 + 1 < W.heap.size := (by omega); have := heap_alloc_old W (.cells C 36) lt; simp [World.frozen?, this]
      have ss : ∀ (W : World) (a : Addr) (u : Value), (W.setCell a u).heap.size = W.heap.size := fun W a u => by simp [World.setCell]
      have r0 : wD.cell? ⟨b3 + 1, 0, none⟩ = some (.int .i64 0) := blkc RB rfl
      have r1 : wD.cell? ⟨b3 + 1, 1, none⟩ = some (.bool false) := blkc RB rfl
      have r2 : wD.cell? ⟨b3 + 1, 2, none⟩ = some (.int .u64 0) := blkc RB rfl
      have r3 : wD.cell? ⟨b3 + 1, 3, none⟩ = some (.int .u64 0) := blkc RB rfl
      have r4 : wD.cell? ⟨b3 + 1, 4, none⟩ = some (.int .i64 0) := blkc RB rfl
      have r5 : wD.cell? ⟨b3 + 1, 5, none⟩ = some (.slice none 0 0) := blkc RB rfl
      have fz : ∀ o : Nat, wD.frozen? ⟨b3 + 1, o, none⟩ = false := fun o => blkf RB
      have sc : ∀ (W : World) (b i j : Nat) (u : Value), (i == j) = false → (W.setCell ⟨b, i, none⟩ u).cell? ⟨b, j, none⟩ = W.cell? ⟨b, j, none⟩ := set_ne23
      clear o1 c1 RB
      go_wp2_with fail
      refine bodyPost_ret (v := awV { aw0 with c := 1 } none 0) (by simp [results, Try.results18, go_sem, al, ss, sz, sc, r0, r1, r2, r3, r4, r5, awV, aw0]) rfl ?_
      rw [AE.out]
      have g0 : Gw w (((((((wD.setCell ⟨b3 + 1, 0, none⟩ (.int .i64 1)).setCell ⟨b3 + 1, 1, none⟩ (.bool false)).setCell ⟨b3 + 1, 2, none⟩ (.int .u64 0)).setCell ⟨b3 + 1, 3, none⟩ (.int .u64 0)).setCell ⟨b3 + 1, 4, none⟩ (.int .i64 0)).setCell ⟨b3 + 1, 5, none⟩ (.slice none 0 0)).alloc (.cells #[.int .i64 1, .bool false, .int .u64 0, .int .u64 0, .int .i64 0, .slice none 0 0] 36)) := by
        have gx := ((((((GD.out.gx fun _ => False).set (q := b3 + 1) (.inr (by rw [W0.out]; omega)) 0 (.int .i64 1)).set (q := b3 + 1) (.inr (by rw [W0.out]; omega)) 1 (.bool false)).set (q := b3 + 1) (.inr (by rw [W0.out]; omega)) 2 (.int .u64 0)).set (q := b3 + 1) (.inr (by rw [W0.out]; omega)) 3 (.int .u64 0)).set (q := b3 + 1) (.inr (by rw [W0.out]; omega)) 4 (.int .i64 0)).set (q := b3 + 1) (.inr (by rw [W0.out]; omega)) 5 (.slice none 0 0)
        exact (Gx.gw (Gw.refl w) gx (fun q hq => hq.elim)).alloc _ _
      exact ⟨none, 0, S, rfl, HH.out.gw g0, g0.gx S, fun q hq => .inl hq, ⟨fun h0 => by simp [aw0] at h0⟩, (fun a e => by cases e), (fun _ => rfl)⟩
end Go.Proofs.Ytkojcjfjmlompaa
