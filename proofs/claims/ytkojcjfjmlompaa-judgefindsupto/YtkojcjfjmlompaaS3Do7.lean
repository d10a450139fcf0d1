/- Layer 23, the document's Do: range. -/
import Derived.Test.YtkojcjfjmlompaaS3DoE
import Derived.Maps.AppendAt
import Derived.Deep.DeepCutAuto
namespace Go.Proofs.Ytkojcjfjmlompaa
open Go.RowKit
set_option linter.unusedVariables false
theorem step_app3 {P : Program} (w : World) {ops : Array Oper} {o : Oper} {a : Act} {K : Act → World → Prop} {Q : Exit → Act → World → Prop} {E : Prop} (hgd : o.guard = none) (s x : Operand) (t : TypeId)
    (ho : o.op = .call { callee := .builtin .append, args := #[s, x], argTypes := #[t, t] })
    (base : Nat) (e : TypeId) (i : TypeInfo) (z : Value) (size bytes : Nat) (ht : P.underlying t = some (.slice e)) (hi : P.info? e = some i) (hz : i.zero = some z)
    (hsize : i.size = size) (hby : i.bytes = bytes) (hzs : z.cells.size = size) (hsz : 0 < size)
    (v : Value) (n : Nat) (xs : List Value) (hs : a.eval s = v) (hown : w.ownsRow base e size v n xs)
    (ad : Addr) (m c : Nat) (news : List Value) (hx : a.eval x = .slice (some ad) m c) (hl : news.length = m * size) (hnews : ∀ j u, news[j]? = some u → w.cell? (ad.add j) = some u) (h1 : ∀ u ∈ news, u.oneCell' = true)
    (h63 : n + m ≤ maxLen) (hbytes : (n + m) * bytes ≤ 140737488355328) (hbase : base ≤ w.heap.size)
    (h : ∀ v' w', w'.ownsRow base e size v' (n + m) (xs ++ news) → w.grownBy w' v.ownBlock → (v' = .slice none 0 0 ↔ v = .slice none 0 0 ∧ m = 0) → (v'.ownBlock = v.ownBlock ∨ v'.ownBlock = some w.heap.size) → K (a.put o.dst v') w') :
    if Region.wanted o (yielded ops a.tmps) = true then Oper.wp P o a w K Q else E := by
  have hw : Region.wanted o (yielded ops a.tmps) = true := by simp [Region.wanted, hgd]
  rw [if_pos hw]
  obtain ⟨v', w', hr, h2, h3, h4, h5⟩ := run_append_own_at (P := P) w base t o.type e i z size bytes ht hi hz hsize hby hzs hsz v n xs hown ad m c news hl hnews h1 h63 hbytes hbase
  unfold Oper.wp execOp
  simp only [ho, resolve, invoke, builtin, Sem.run_bind, Sem.run_pure, Result.andThen_ok, List.map_toArray, List.map_cons, List.map_nil, hs, hx, hr]
  exact h v' w' h2 h3 h4 h5
theorem run_is (b : Int) : ∀ (L : Ps) (k : Nat), k ≤ L.length → (∀ i p, i < k → L[i]? = some p → p.1 ≤ b) → (∀ p, L[k]? = some p → ¬ p.1 ≤ b) → runP L b = L.take k := by
  intro L
  induction L with
  | nil => intro k _ _ _; simp [runP]
  | cons x L ih =>
    intro k h0 h1 h2
    unfold runP
    cases k with
    | zero => rw [if_neg (h2 x (by simp))]; rfl
    | succ k => rw [if_pos (h1 0 x (by omega) (by simp)), ih k (by simpa using h0) (fun i p hi hp => h1 (i + 1) p (by omega) (by simpa using hp)) (fun p hp => h2 p (by simpa using hp))]; rfl
def lcell (v : Value) : Array Value := #[.int .i64 0, .bool false, .int .u64 0, .int .u64 0, .int .i64 0, v]
/-- The loop's memory: the list so far. -/
structure RI7 (w wr : World) (b3 : Nat) (x y : Int) (v : Value) (L : Ps) : Prop where
  op : wr.heap[b3]? = some (.cells #[.int .i64 7, .int .u64 x, .int .u64 y] 33 (0, 0))
  res : wr.heap[b3 + 1]? = some (.cells #[.int .i64 0, .bool false, .int .u64 0, .int .u64 0, .int .i64 0, .slice none 0 0] 36 (0, 0))
  box : wr.heap[b3 + 2]? = some (.cells (lcell v) 36 (0, 0))
  row : wr.ownsRow (b3 + 3) 44 2 v L.length (pcs L)
  g : Gw w wr
theorem RI7.same {w wr wr' : World} {b3 : Nat} {x y : Int} {v : Value} {L : Ps} (h : RI7 w wr b3 x y v L) (k : Gw wr wr') : RI7 w wr' b3 x y v L :=
  ⟨(k.below.block _ (blkl h.op)).trans h.op, (k.below.block _ (blkl h.res)).trans h.res, (k.below.block _ (blkl h.box)).trans h.box, own_keep3 h.row (Nat.le_refl _) (fun q hq => k.below.block q (World.ownsRow.lt h.row q hq).2), h.g.trans k⟩
/-- A pair more. -/
theorem RI7.more {w wr w7 w8 : World} {b3 : Nat} {x y : Int} {v v' : Value} {L : Ps} {q : Int × Int} (ge : w.heap.size = b3) (h : RI7 w wr b3 x y v L) (k : Gw wr w7) (r1 : w8.ownsRow (b3 + 3) 44 2 v' (L.length + 1) (pcs L ++ pc2 q)) (r2 : w7.grownBy w8 v.ownBlock) : RI7 w (w8.setCell ⟨b3 + 2, 5, none⟩ v') b3 x y v' (L ++ [q]) := by
  have h7 := h.same k
  have g8 : Gw w w8 := h7.g.grown r2 (fun q hq => by have := (World.ownsRow.lt h7.row q hq).1; omega)
  have bl : ∀ q, q < b3 + 3 → q < w7.heap.size → w8.heap[q]? = w7.heap[q]? := fun q hq hl => r2.block q hl (fun e => by have := (World.ownsRow.lt h7.row q e.symm).1; omega)
  have ot : ∀ q, q ≠ b3 + 2 → (w8.setCell ⟨b3 + 2, 5, none⟩ v').heap[q]? = w8.heap[q]? := fun q hq => Go.Deep.blk_setCell_other w8 ⟨b3 + 2, 5, none⟩ _ q hq
  refine ⟨(ot _ (by omega)).trans ((bl _ (by omega) (blkl h7.op)).trans h7.op), (ot _ (by omega)).trans ((bl _ (by omega) (blkl h7.res)).trans h7.res), ?_, ?_, g8.setCell (show w.heap.size ≤ b3 + 2 by omega) _⟩
  · simp [World.setCell, Array.getElem?_modify, bl _ (show b3 + 2 < b3 + 3 by omega) (blkl h7.box), h7.box, lcell]
  · rw [List.length_append, pcs_app, show pcs [q] = pc2 q by simp [pcs]]
    exact own_keep3 r1 (Nat.le_refl _) (fun q hq => ot q (by have := (World.ownsRow.lt r1 q hq).1; omega))
theorem RI7.old {w wr w7 w8 : World} {b3 : Nat} {x y : Int} {v : Value} {L : Ps} (h : RI7 w wr b3 x y v L) (k : Gw wr w7) (r2 : w7.grownBy w8 v.ownBlock) : w8.heap[b3 + 2]? = some (.cells (lcell v) 36 (0, 0)) := by
  have h7 := h.same k
  exact (r2.block _ (blkl h7.box) (fun e => by have := (World.ownsRow.lt h7.row _ e.symm).1; omega)).trans h7.box
theorem RI7.done {w wr : World} {p : Nat} {S : Nat → Prop} {most : Int} {l : Ps} {b3 : Nat} {x y : Int} {v : Value} {L : Ps} (H : HPl w p S most l) (ge : w.heap.size = b3) (h : RI7 w wr b3 x y v L) : ∃ bo c, v = .slice bo L.length c ∧ AtE w wr p S most l ⟨0, false, 0, 0, 0, L⟩ b3 bo c := by
  obtain ⟨bo, c, rfl, hc, hno, AT⟩ := row_shape h.row
  have ob : ∀ a, bo = some a → b3 + 3 ≤ a.block := fun a e => by
    rcases id h.row.2 with ⟨q, _⟩ | ⟨g, cap, cur, q, hb, _⟩
    · injection q with q0; rw [q0] at e; cases e
    · injection q with q0; rw [q0] at e; cases e; exact hb
  refine ⟨bo, c, rfl, ge, h.res, h.box, fun q => S q ∧ q < w.heap.size, H.trim.gw h.g, h.g.gx S, fun q hq => .inl hq.1, fun hq => by have := hq.2; omega, row_ls h.row, fun a e => ⟨fun hq => ?_, ?_, ?_⟩, fun e => (hno e).2⟩
  · have := ob a e; have := hq.2; omega
  · have := ob a e; omega
  · have := ob a e; omega
set_option maxRecDepth 100000 in
set_option maxHeartbeats 8000000 in
theorem do23_7 (p : Nat) (S : Nat → Prop) (most : Int) (l : Ps) (x y : Int) (hn : l.length ≤ 4000000) (w : World) (h : HPl w p S most l) :
    Calls Try.prog 18 #[.pointer (some ⟨p, 0, none⟩), .agg #[.int .i64 7, .int .u64 x, .int .u64 y]] w fun e w' => DoO w w' e p S most l (ansP most l 7 x y) := by
  have HH : Hid (HPl w p S most l) := h
  have RK : Hid (∀ W, Gw w W → Calls Try.prog 24 #[.pointer (some ⟨p, 0, none⟩), .int .u64 x] W fun e w' => e = .returned (.int .i64 (rk l x : Int)) ∧ w' = W) := fun W g => rank23 p S most l x hn W (HH.out.gw g)
  obtain ⟨v, h1, h2, h3, h4⟩ := h.lies
  obtain ⟨bo, c, rfl, hc, hno, AT⟩ := row_shape h2
  have CE : Hid (∀ W, Gw w W → W.cell? ⟨p, 1, none⟩ = some (.slice bo l.length c) ∧ ∀ i q, l[i]? = some q → ∃ g, bo = some ⟨g, 0, none⟩ ∧ W.cell? ⟨g, i * 2, none⟩ = some (.int .u64 q.1) ∧ W.cell? ⟨g, i * 2 + 1, none⟩ = some (.int .u64 q.2)) := fun W g => by
    refine ⟨(g.cell _ _ (blkl h1)).trans (blkc (o := 1) h1 rfl), fun i q hq => ?_⟩
    obtain ⟨g', e, gl, _, k0, k1, _⟩ := AT i q hq
    exact ⟨g', e, (g.cell _ _ gl).trans k0, (g.cell _ _ gl).trans k1⟩
  have rl := rk_le l x
  obtain ⟨r, hr⟩ : ∃ r, rk l x = r := ⟨_, rfl⟩
  have RH : Hid (rk l x = r) := hr
  rw [hr] at RK rl
  have GRD : Hid ((r < l.length ∧ ∃ q, l[r]? = some q ∧ (isK l x = true ↔ q.1 = x)) ∨ (¬ r < l.length ∧ isK l x = false)) := by
    show _ ∨ _
    by_cases z : r < l.length
    · refine .inl ⟨z, l[r], List.getElem?_eq_getElem z, ?_⟩
      unfold isK
      rw [hr, List.getElem?_eq_getElem z]
      simp
    · refine .inr ⟨z, ?_⟩
      unfold isK
      rw [hr, List.getElem?_eq_none (by omega)]
  obtain ⟨n, hln⟩ : ∃ n, l.length = n := ⟨_, rfl⟩
  have LN : Hid (l.length = n) := hln
  have R2 : Hid (w.ownsRow 0 44 2 (.slice bo l.length c) l.length (pcs l)) := h2
  rw [hln] at hn rl CE hc GRD
  clear h h1 h2 h3 h4 AT hno hln hr
  go_enter Try.func18, Try.ntmps18
  go_wp2_with fail
  have GB : Hid (Gw w ((w.alloc (.cells #[.int .i64 7, .int .u64 x, .int .u64 y] 33)).alloc (.cells #[.int .i64 0, .bool false, .int .u64 0, .int .u64 0, .int .i64 0, .slice none 0 0] 36))) := ((Gw.refl w).alloc _ _).alloc _ _
  refine (RK.out _ GB.out).mono ?_
  rintro e w1 ⟨rfl, hw1⟩
  have B3 : Hid (w1.heap[w.heap.size]? = some (.cells #[.int .i64 7, .int .u64 x, .int .u64 y] 33 (0, 0)) ∧ w1.heap[w.heap.size + 1]? = some (.cells #[.int .i64 0, .bool false, .int .u64 0, .int .u64 0, .int .i64 0, .slice none 0 0] 36 (0, 0)) ∧ w1.heap.size = w.heap.size + 2) := by
    rw [hw1]
    refine ⟨(heap_alloc_old _ _ (by simp)).trans (heap_alloc_new w _), ?_, by simp⟩
    have := heap_alloc_new (w.alloc (.cells #[.int .i64 7, .int .u64 x, .int .u64 y] 33)) (.cells #[.int .i64 0, .bool false, .int .u64 0, .int .u64 0, .int .i64 0, .slice none 0 0] 36)
    simpa using this
  have G1 : Hid (Gw w w1) := by rw [hw1]; exact GB.out
  clear hw1 GB
  obtain ⟨b3, hb3⟩ : ∃ b3, w.heap.size = b3 := ⟨_, rfl⟩
  rw [hb3] at B3
  dsimp only
  rw [hb3]
  have W0 : Hid (w.heap.size = b3) := hb3
  clear hb3
  have o1 := blkc (o := 1) B3.out.1 rfl
  obtain ⟨c1, CI⟩ := CE.out w1 G1.out
  have CIH : Hid (∀ i q, l[i]? = some q → ∃ g, bo = some ⟨g, 0, none⟩ ∧ w1.cell? ⟨g, i * 2, none⟩ = some (.int .u64 q.1) ∧ w1.cell? ⟨g, i * 2 + 1, none⟩ = some (.int .u64 q.2)) := CI
  clear CI
  go_upto_region 2 with fail
  go_cut [6] (fun s6 wx => ∃ bb : Bool, s6 = .bool bb ∧ Hid (∃ k, wx = w1.drewN k))
  case first =>
    rcases GRD.out with ⟨z, q, hq, iq⟩ | ⟨z, iq⟩
    · obtain ⟨g, rfl, k0, k1⟩ := CIH.out r q hq
      have rlt : (r : Int) < (n : Int) := by omega
      obtain ⟨qk, qv⟩ := q
      dsimp only at k0 k1 iq
      clear hq k1 iq
      by_cases e : qk = x
      · have e' : ((qk : Int) == x) = true := by simpa using e
        clear e
        go_quiet (fail)
        go_wp2_with fail
        go_meet
        exact ⟨_, rfl, ⟨_, rfl⟩⟩
      · have e' : ((qk : Int) == x) = false := by simpa using e
        clear e
        go_quiet (fail)
        go_wp2_with fail
        go_meet
        exact ⟨_, rfl, ⟨_, rfl⟩⟩
    · have rlt : ¬ (r : Int) < (n : Int) := by omega
      clear iq
      go_quiet (fail)
      go_wp2_with fail
      go_meet
      exact ⟨_, rfl, ⟨_, rfl⟩⟩
  case rest =>
    obtain ⟨bb, rfl, HC⟩ := hcut
    obtain ⟨nq, hnq⟩ := HC.out
    subst hnq
    have GD : Hid (Gw w (w1.drewN nq)) := G1.out.drewN _
    have BD : Hid ((w1.drewN nq).heap[b3]? = some (.cells #[.int .i64 7, .int .u64 x, .int .u64 y] 33 (0, 0)) ∧ (w1.drewN nq).heap[b3 + 1]? = some (.cells #[.int .i64 0, .bool false, .int .u64 0, .int .u64 0, .int .i64 0, .slice none 0 0] 36 (0, 0)) ∧ (w1.drewN nq).heap.size = b3 + 2) := by have := B3.out; show _ ∧ _; simpa using this
    generalize w1.drewN nq = wD at GD BD ⊢
    have sz := BD.out.2.2
    have oa : ∀ (C : Array Value) (j : Nat), (wD.alloc (.cells C 36)).cell? ⟨b3, j, none⟩ = wD.cell? ⟨b3, j, none⟩ := fun C j => World.cell?_of_block (a := ⟨b3, j, none⟩) (heap_alloc_old wD _ (show b3 < wD.heap.size by omega))
    have p0 : wD.cell? ⟨b3, 0, none⟩ = some (.int .i64 7) := blkc BD.out.1 rfl
    have p1 : wD.cell? ⟨b3, 1, none⟩ = some (.int .u64 x) := blkc BD.out.1 rfl
    have p2 : wD.cell? ⟨b3, 2, none⟩ = some (.int .u64 y) := blkc BD.out.1 rfl
    clear o1 c1
    have RL : Hid (r ≤ n) := rl
    have R0 : Hid (RI7 w (wD.alloc (.cells (lcell (.slice none 0 0)) 36)) b3 x y (.slice none 0 0) ((l.drop r).take (r - r))) := by
      rw [Nat.sub_self, List.take_zero]
      refine ⟨(heap_alloc_old wD _ (by omega)).trans BD.out.1, (heap_alloc_old wD _ (by omega)).trans BD.out.2.1, ?_, World.ownsRow_nil _ _ _ _, GD.out.alloc _ _⟩
      have := heap_alloc_new wD (.cells (lcell (.slice none 0 0)) 36)
      rw [sz] at this
      exact this
    have A0 : Hid (∀ i p, i < r - r → (l.drop r)[i]? = some p → p.1 ≤ y) := fun i p hi => by omega
    obtain ⟨ii, hii, hz, hsz, hby⟩ := info_parts info_pair
    go_wp2_with fail
    clear p0 p1 p2 oa sz
    go_loopg [5] n (fun gg s5 wr => ∃ (m : Nat) (v : Value), s5 = .int .i64 (m : Int) ∧ r ≤ m ∧ m ≤ n ∧ n - m ≤ gg ∧ Hid (RI7 w wr b3 x y v ((l.drop r).take (m - r))) ∧ Hid (∀ i p, i < m - r → (l.drop r)[i]? = some p → p.1 ≤ y))
    case atStart => exact ⟨r, _, rfl, Nat.le_refl _, RL.out, by omega, R0, A0⟩
    case round =>
      obtain ⟨m, v, rfl, h1, h2, h3, RI, AL⟩ := hrel
      have LL : Hid (((l.drop r).take (m - r)).length = m - r) := by show _ = _; rw [List.length_take, List.length_drop, LN.out]; omega
      have c1 := (CE.out _ RI.out.g).1
      have a5 : wr.cell? ⟨b3 + 2, 5, none⟩ = some v := blkc RI.out.box rfl
      have o2 : wr.cell? ⟨b3, 2, none⟩ = some (.int .u64 y) := blkc RI.out.op rfl
      by_cases mn : m < n
      · have mn' : (m : Int) < (n : Int) := by omega
        obtain ⟨⟨qk, qv⟩, hq⟩ : ∃ q, l[m]? = some q := ⟨l[m]'(by rw [LN.out]; exact mn), List.getElem?_eq_getElem _⟩
        have QH : Hid (l[m]? = some (qk, qv)) := hq
        obtain ⟨g, rfl, k0, k1⟩ := (CE.out _ RI.out.g).2 m _ hq
        dsimp only at k0 k1
        have DR : Hid ((l.drop r)[m - r]? = some (qk, qv)) := by show _ = _; rw [List.getElem?_drop, show r + (m - r) = m by omega]; exact hq
        clear hq
        by_cases ky : qk ≤ y
        · have t1 : decide (qk ≤ y) = true := by simpa using ky
          have AL' : Hid (∀ i p, i < m + 1 - r → (l.drop r)[i]? = some p → p.1 ≤ y) := fun i p hi hp => by
            by_cases e : i = m - r
            · rw [e, DR.out] at hp; cases hp; exact ky
            · exact AL.out i p (by omega) hp
          have TK : Hid ((l.drop r).take (m + 1 - r) = (l.drop r).take (m - r) ++ [(qk, qv)]) := by show _ = _; rw [show m + 1 - r = m - r + 1 by omega, List.take_add_one, DR.out]; rfl
          clear ky
          go_wp2_with fail
          go_quiet (fail)
          have RQ : Hid (RI7 w (wr.drewN nq) b3 x y v ((l.drop r).take (m - r))) := RI.out.same ((Gw.refl _).drewN _)
          generalize wr.drewN nq = wq at RQ ⊢
          have c1 := (CE.out _ RQ.out.g).1
          have a5 : wq.cell? ⟨b3 + 2, 5, none⟩ = some v := blkc RQ.out.box rfl
          have kk := (CE.out _ RQ.out.g).2 m _ QH.out
          have k0 : wq.cell? ⟨g, m * 2, none⟩ = some (.int .u64 qk) := by obtain ⟨g', e1, e2, e3⟩ := kk; cases e1; exact e2
          have k1 : wq.cell? ⟨g, m * 2 + 1, none⟩ = some (.int .u64 qv) := by obtain ⟨g', e1, e2, e3⟩ := kk; cases e1; exact e3
          have RA : Hid (∀ o : Array Value, RI7 w (wq.alloc (.cells o 44)) b3 x y v ((l.drop r).take (m - r))) := fun o => RQ.out.same ((Gw.refl _).alloc _ _)
          have c1a : ∀ o : Array Value, (wq.alloc (.cells o 44)).cell? ⟨p, 1, none⟩ = some (.slice (some ⟨g, 0, none⟩) n c) := fun o => (CE.out _ (RA.out o).g).1
          have a5a : ∀ o : Array Value, (wq.alloc (.cells o 44)).cell? ⟨b3 + 2, 5, none⟩ = some v := fun o => blkc (RA.out o).box rfl
          have SZ : Hid (b3 + 3 ≤ wq.heap.size) := by have := blkl RQ.out.box; show _ ≤ _; omega
          have NL : Hid ((pc2 (qk, qv)).length = 1 * 2) := rfl
          have OQ : Hid (∀ W, Gw wq W → W.ownsRow (b3 + 3) 44 2 v (m - r) (pcs ((l.drop r).take (m - r)))) := fun W k => by have := (RQ.out.same k).row; rw [LL.out] at this; exact this
          have NP : Hid (∀ W : World, Gw (wq.alloc (.cells #[.int .u64 qk, .int .u64 qv] 44)) W → ∀ j u, (pc2 (qk, qv))[j]? = some u → W.cell? ((⟨wq.heap.size, 0, none⟩ : Addr).add j) = some u) := fun W g j u hu => by have := new_pair wq qk qv j u hu; rw [Addr.add_lit] at this ⊢; exact (g.cell _ _ (by simp)).trans this
          clear RA kk
          go_wp2_with fail
          go_cut [] (fun wx => ∃ v' : Value, Hid (RI7 w wx b3 x y v' ((l.drop r).take (m + 1 - r))))
          case first =>
            go_region_law (refine step_app3 _ rfl (.tmp 152) (.tmp 160) 34 rfl (b3 + 3) 44 ii _ 2 16 Try.underlying34 hii hz hsz hby rfl (by decide) v (m - r) (pcs ((l.drop r).take (m - r))) rfl (OQ.out _ (((Gw.refl _).alloc _ _).drew)) ⟨wq.heap.size, 0, none⟩ 1 1 (pc2 (qk, qv)) rfl NL.out (NP.out _ (Gw.refl _).drew) (pcs_one [(qk, qv)]) (by simp only [maxLen]; omega) (by omega) (by have := SZ.out; simp <;> omega) ?_; intro v7 w7 q1 q2 q3 q4; obtain ⟨s7, l7, c7, rfl⟩ : ∃ s7 l7 c7, v7 = Value.slice s7 l7 c7 := (by rcases q1.2 with ⟨e, _⟩ | ⟨g, cap, cur, e, _⟩; exact ⟨_, _, _, e⟩; exact ⟨_, _, _, e⟩); have X7 : Hid (RI7 w (w7.setCell ⟨b3 + 2, 5, none⟩ (.slice s7 l7 c7)) b3 x y (.slice s7 l7 c7) ((l.drop r).take (m + 1 - r))) := (by rw [TK.out]; exact RQ.out.more W0.out (((Gw.refl _).alloc _ _).drew) (by rw [LL.out]; exact q1) q2); have B7 := RQ.out.old (((Gw.refl _).alloc _ _).drew) q2; have a7 : w7.cell? ⟨b3 + 2, 5, none⟩ = some v := blkc B7 rfl; have f7 : w7.frozen? ⟨b3 + 2, 5, none⟩ = false := blkf B7; clear B7; clear q1 q2 q3 q4)
            all_goals
              go_wp2_with fail
              go_meet
              exact ⟨_, X7⟩
          case rest =>
            obtain ⟨v', X8⟩ := hcut
            go_wp2_with fail
            go_roundg (n - (m + 1))
            case measure => omega
            case rel => exact ⟨m + 1, v', by go_num, by omega, by omega, Nat.le_refl _, X8, AL'⟩
        · have t1 : decide (qk ≤ y) = false := by simpa using ky
          have AE : Hid (ansP most l 7 x y = (⟨0, false, 0, 0, 0, (l.drop r).take (m - r)⟩ : Aw)) := by
            show _ = _
            unfold ansP
            simp [RH.out, aw0]
            exact run_is y _ _ (by rw [List.length_drop, LN.out]; omega) AL.out (fun p hp => by rw [DR.out] at hp; cases hp; exact ky)
          clear ky
          go_wp2_with fail
          go_quiet (fail)
          have RQ : Hid (RI7 w (wr.drewN nq) b3 x y v ((l.drop r).take (m - r))) := RI.out.same ((Gw.refl _).drewN _)
          generalize wr.drewN nq = wq at RQ ⊢
          obtain ⟨bo9, c9, hv, FE⟩ := RQ.out.done HH.out W0.out
          have FH : Hid (AtE w wq p S most l (⟨0, false, 0, 0, 0, (l.drop r).take (m - r)⟩ : Aw) b3 bo9 c9) := FE
          clear FE hv k0 k1 c1 a5 o2
          go_upto_region 30 with fail
          have EH : Hid (AtE w (wq) p S most l (⟨0, false, 0, 0, 0, (l.drop r).take (m - r)⟩ : Aw) b3 bo9 c9) := FH
          obtain ⟨wE, hwE⟩ : ∃ wE, wq = wE := ⟨_, rfl⟩
          rw [hwE] at EH ⊢
          have RB := EH.out.res
          have AB := EH.out.box
          have r0 : wE.cell? ⟨b3 + 1, 0, none⟩ = some (.int .i64 0) := blkc RB rfl
          have r1 : wE.cell? ⟨b3 + 1, 1, none⟩ = some (.bool false) := blkc RB rfl
          have r2 : wE.cell? ⟨b3 + 1, 2, none⟩ = some (.int .u64 0) := blkc RB rfl
          have r3 : wE.cell? ⟨b3 + 1, 3, none⟩ = some (.int .u64 0) := blkc RB rfl
          have r4 : wE.cell? ⟨b3 + 1, 4, none⟩ = some (.int .i64 0) := blkc RB rfl
          have r5 : wE.cell? ⟨b3 + 1, 5, none⟩ = some (.slice none 0 0) := blkc RB rfl
          have fz : ∀ o : Nat, wE.frozen? ⟨b3 + 1, o, none⟩ = false := fun o => blkf RB
          have sc : ∀ (W : World) (b i j : Nat) (u : Value), (i == j) = false → (W.setCell ⟨b, i, none⟩ u).cell? ⟨b, j, none⟩ = W.cell? ⟨b, j, none⟩ := set_ne23
          obtain ⟨A, hA⟩ : ∃ A, (⟨0, false, 0, 0, 0, (l.drop r).take (m - r)⟩ : Aw) = A := ⟨_, rfl⟩
          rw [hA] at EH AB
          have a0 : wE.cell? ⟨b3 + 2, 0, none⟩ = some (.int .i64 A.c) := blkc AB rfl
          have a1 : wE.cell? ⟨b3 + 2, 1, none⟩ = some (.bool A.is) := blkc AB rfl
          have a2 : wE.cell? ⟨b3 + 2, 2, none⟩ = some (.int .u64 A.k) := blkc AB rfl
          have a3 : wE.cell? ⟨b3 + 2, 3, none⟩ = some (.int .u64 A.v) := blkc AB rfl
          have a4 : wE.cell? ⟨b3 + 2, 4, none⟩ = some (.int .i64 A.n) := blkc AB rfl
          have a5 : wE.cell? ⟨b3 + 2, 5, none⟩ = some (.slice bo9 A.L.length c9) := blkc AB rfl
          have AA : Hid (ansP most l 7 x y = A) := by rw [AE.out]; exact hA
          clear RB AB hA AE
          go_wp2_with fail
          refine bodyPost_ret (v := awV A bo9 c9) (by simp [results, Try.results18, go_sem, sc, r0, r1, r2, r3, r4, r5, awV]) rfl ?_
          rw [AA.out]
          exact EH.out.out

      · have mn' : ¬ (m : Int) < (n : Int) := by omega
        have AE : Hid (ansP most l 7 x y = (⟨0, false, 0, 0, 0, (l.drop r).take (m - r)⟩ : Aw)) := by
          show _ = _
          unfold ansP
          simp [RH.out, aw0]
          exact run_is y _ _ (by rw [List.length_drop, LN.out]; omega) AL.out (fun p hp => by have := (List.getElem?_eq_some_iff.1 hp).1; rw [List.length_drop, LN.out] at this; omega)
        go_wp2_with fail
        go_quiet (fail)
        have RQ : Hid (RI7 w (wr.drewN nq) b3 x y v ((l.drop r).take (m - r))) := RI.out.same ((Gw.refl _).drewN _)
        generalize wr.drewN nq = wq at RQ ⊢
        obtain ⟨bo9, c9, hv, FE⟩ := RQ.out.done HH.out W0.out
        have FH : Hid (AtE w wq p S most l (⟨0, false, 0, 0, 0, (l.drop r).take (m - r)⟩ : Aw) b3 bo9 c9) := FE
        clear FE hv c1 a5 o2
        go_upto_region 30 with fail
        have EH : Hid (AtE w (wq) p S most l (⟨0, false, 0, 0, 0, (l.drop r).take (m - r)⟩ : Aw) b3 bo9 c9) := FH
        obtain ⟨wE, hwE⟩ : ∃ wE, wq = wE := ⟨_, rfl⟩
        rw [hwE] at EH ⊢
        have RB := EH.out.res
        have AB := EH.out.box
        have r0 : wE.cell? ⟨b3 + 1, 0, none⟩ = some (.int .i64 0) := blkc RB rfl
        have r1 : wE.cell? ⟨b3 + 1, 1, none⟩ = some (.bool false) := blkc RB rfl
        have r2 : wE.cell? ⟨b3 + 1, 2, none⟩ = some (.int .u64 0) := blkc RB rfl
        have r3 : wE.cell? ⟨b3 + 1, 3, none⟩ = some (.int .u64 0) := blkc RB rfl
        have r4 : wE.cell? ⟨b3 + 1, 4, none⟩ = some (.int .i64 0) := blkc RB rfl
        have r5 : wE.cell? ⟨b3 + 1, 5, none⟩ = some (.slice none 0 0) := blkc RB rfl
        have fz : ∀ o : Nat, wE.frozen? ⟨b3 + 1, o, none⟩ = false := fun o => blkf RB
        have sc : ∀ (W : World) (b i j : Nat) (u : Value), (i == j) = false → (W.setCell ⟨b, i, none⟩ u).cell? ⟨b, j, none⟩ = W.cell? ⟨b, j, none⟩ := set_ne23
        obtain ⟨A, hA⟩ : ∃ A, (⟨0, false, 0, 0, 0, (l.drop r).take (m - r)⟩ : Aw) = A := ⟨_, rfl⟩
        rw [hA] at EH AB
        have a0 : wE.cell? ⟨b3 + 2, 0, none⟩ = some (.int .i64 A.c) := blkc AB rfl
        have a1 : wE.cell? ⟨b3 + 2, 1, none⟩ = some (.bool A.is) := blkc AB rfl
        have a2 : wE.cell? ⟨b3 + 2, 2, none⟩ = some (.int .u64 A.k) := blkc AB rfl
        have a3 : wE.cell? ⟨b3 + 2, 3, none⟩ = some (.int .u64 A.v) := blkc AB rfl
        have a4 : wE.cell? ⟨b3 + 2, 4, none⟩ = some (.int .i64 A.n) := blkc AB rfl
        have a5 : wE.cell? ⟨b3 + 2, 5, none⟩ = some (.slice bo9 A.L.length c9) := blkc AB rfl
        have AA : Hid (ansP most l 7 x y = A) := by rw [AE.out]; exact hA
        clear RB AB hA AE
        go_wp2_with fail
        refine bodyPost_ret (v := awV A bo9 c9) (by simp [results, Try.results18, go_sem, sc, r0, r1, r2, r3, r4, r5, awV]) rfl ?_
        rw [AA.out]
        exact EH.out.out
end Go.Proofs.Ytkojcjfjmlompaa
