/- Layer 23, the document's Do: delete. -/
import Derived.Test.YtkojcjfjmlompaaS3DoE
namespace Go.Proofs.Ytkojcjfjmlompaa
open Go.RowKit
set_option linter.unusedVariables false

set_option maxRecDepth 100000 in
set_option maxHeartbeats 8000000 in
theorem do23_2 (p : Nat) (S : Nat → Prop) (most : Int) (l : Ps) (x y : Int) (hn : l.length ≤ 4000000) (w : World) (h : HPl w p S most l) :
    Calls Try.prog 18 #[.pointer (some ⟨p, 0, none⟩), .agg #[.int .i64 2, .int .u64 x, .int .u64 y]] w fun e w' => DoO w w' e p S most (nxtP most l 2 x y) (ansP most l 2 x y) := by
  have HH : Hid (HPl w p S most l) := h
  have RK : Hid (∀ W, Gw w W → Calls Try.prog 24 #[.pointer (some ⟨p, 0, none⟩), .int .u64 x] W fun e w' => e = .returned (.int .i64 (rk l x : Int)) ∧ w' = W) := fun W g => rank23 p S most l x hn W (HH.out.gw g)
  obtain ⟨v, h1, h2, h3, h4⟩ := h.lies
  obtain ⟨bo, c, rfl, hc, hno, AT⟩ := row_shape h2
  have CE : Hid (∀ W, Gw w W → W.cell? ⟨p, 1, none⟩ = some (.slice bo l.length c) ∧ ∀ i q, l[i]? = some q → ∃ g, bo = some ⟨g, 0, none⟩ ∧ W.cell? ⟨g, i * 2, none⟩ = some (.int .u64 q.1) ∧ W.cell? ⟨g, i * 2 + 1, none⟩ = some (.int .u64 q.2)) := fun W g => by
    refine ⟨(g.cell _ _ (blkl h1)).trans (blkc (o := 1) h1 rfl), fun i q hq => ?_⟩
    obtain ⟨g', e, gl, _, k0, k1, _⟩ := AT i q hq
    exact ⟨g', e, (g.cell _ _ gl).trans k0, (g.cell _ _ gl).trans k1⟩
  have rl := rk_le l x
  obtain ⟨r, hr⟩ : ∃ r, rk l x = r := ⟨_, rfl⟩
  have RH : Hid (rk l x = r) := hr
  rw [hr] at RK rl
  have GRD : Hid ((r < l.length ∧ ∃ q, l[r]? = some q ∧ (isK l x = true ↔ q.1 = x)) ∨ (¬ r < l.length ∧ isK l x = false)) := by
    show _ ∨ _
    by_cases z : r < l.length
    · refine .inl ⟨z, l[r], List.getElem?_eq_getElem z, ?_⟩
      unfold isK
      rw [hr, List.getElem?_eq_getElem z]
      simp
    · refine .inr ⟨z, ?_⟩
      unfold isK
      rw [hr, List.getElem?_eq_none (by omega)]
  obtain ⟨n, hln⟩ : ∃ n, l.length = n := ⟨_, rfl⟩
  have LN : Hid (l.length = n) := hln
  have R2 : Hid (w.ownsRow 0 44 2 (.slice bo l.length c) l.length (pcs l)) := h2
  rw [hln] at hn rl CE hc GRD
  clear h h1 h2 h3 h4 AT hno hln hr
  go_enter Try.func18, Try.ntmps18
  go_wp2_with fail
  have GB : Hid (Gw w ((w.alloc (.cells #[.int .i64 2, .int .u64 x, .int .u64 y] 33)).alloc (.cells #[.int .i64 0, .bool false, .int .u64 0, .int .u64 0, .int .i64 0, .slice none 0 0] 36))) := ((Gw.refl w).alloc _ _).alloc _ _
  refine (RK.out _ GB.out).mono ?_
  rintro e w1 ⟨rfl, hw1⟩
  have B3 : Hid (w1.heap[w.heap.size]? = some (.cells #[.int .i64 2, .int .u64 x, .int .u64 y] 33 (0, 0)) ∧ w1.heap[w.heap.size + 1]? = some (.cells #[.int .i64 0, .bool false, .int .u64 0, .int .u64 0, .int .i64 0, .slice none 0 0] 36 (0, 0)) ∧ w1.heap.size = w.heap.size + 2) := by
    rw [hw1]
    refine ⟨(heap_alloc_old _ _ (by simp)).trans (heap_alloc_new w _), ?_, by simp⟩
    have := heap_alloc_new (w.alloc (.cells #[.int .i64 2, .int .u64 x, .int .u64 y] 33)) (.cells #[.int .i64 0, .bool false, .int .u64 0, .int .u64 0, .int .i64 0, .slice none 0 0] 36)
    simpa using this
  have G1 : Hid (Gw w w1) := by rw [hw1]; exact GB.out
  clear hw1 GB
  obtain ⟨b3, hb3⟩ : ∃ b3, w.heap.size = b3 := ⟨_, rfl⟩
  rw [hb3] at B3
  dsimp only
  rw [hb3]
  have W0 : Hid (w.heap.size = b3) := hb3
  clear hb3
  have o1 := blkc (o := 1) B3.out.1 rfl
  obtain ⟨c1, CI⟩ := CE.out w1 G1.out
  have CIH : Hid (∀ i q, l[i]? = some q → ∃ g, bo = some ⟨g, 0, none⟩ ∧ w1.cell? ⟨g, i * 2, none⟩ = some (.int .u64 q.1) ∧ w1.cell? ⟨g, i * 2 + 1, none⟩ = some (.int .u64 q.2)) := CI
  clear CI
  rcases GRD.out with ⟨z, q, hq, iq⟩ | ⟨z, iq⟩
  · obtain ⟨g, rfl, k0, k1⟩ := CIH.out r q hq
    have rlt : (r : Int) < (n : Int) := by omega
    have QH : Hid (l[r]? = some q) := hq
    obtain ⟨qk, qv⟩ := q
    dsimp only at k0 k1 iq
    clear hq
    by_cases e : qk = x
    · have IK : Hid (isK l x = true) := iq.2 e
      have e' : ((qk : Int) == x) = true := by simpa using e
      clear e
      clear k1 iq
      go_wp2_with fail
      go_quiet (fail)
      have GD : Hid (Gw w (w1.drewN nq)) := G1.out.drewN _
      have BD : Hid ((w1.drewN nq).heap[b3]? = some (.cells #[.int .i64 2, .int .u64 x, .int .u64 y] 33 (0, 0)) ∧ (w1.drewN nq).heap[b3 + 1]? = some (.cells #[.int .i64 0, .bool false, .int .u64 0, .int .u64 0, .int .i64 0, .slice none 0 0] 36 (0, 0)) ∧ (w1.drewN nq).heap.size = b3 + 2) := by have := B3.out; show _ ∧ _; simpa using this
      generalize w1.drewN nq = wD at GD BD ⊢
      have sz := BD.out.2.2
      have oa : ∀ (C : Array Value) (j : Nat), (wD.alloc (.cells C 36)).cell? ⟨b3, j, none⟩ = wD.cell? ⟨b3, j, none⟩ := fun C j => World.cell?_of_block (a := ⟨b3, j, none⟩) (heap_alloc_old wD _ (show b3 < wD.heap.size by omega))
      have p0 : wD.cell? ⟨b3, 0, none⟩ = some (.int .i64 2) := blkc BD.out.1 rfl
      have p1 : wD.cell? ⟨b3, 1, none⟩ = some (.int .u64 x) := blkc BD.out.1 rfl
      have p2 : wD.cell? ⟨b3, 2, none⟩ = some (.int .u64 y) := blkc BD.out.1 rfl
      clear o1 c1
      have AE : Hid (ansP most l 2 x y = (⟨0, true, 0, 0, 0, []⟩ : Aw)) := by
        show _ = _
        unfold ansP
        simp [aw0, IK.out]
      have BDN : Hid (BdP (l.take r ++ l.drop (r + 1))) := fun q hq => HH.out.bd q (by rcases List.mem_append.1 hq with k | k; exact List.mem_of_mem_take k; exact List.mem_of_mem_drop k)
      have DE : Hid (nxtP most l 2 x y = l.take r ++ l.drop (r + 1)) := by
        show _ = _
        unfold nxtP
        simp [IK.out, RH.out]
      obtain ⟨v2, h21, h22, h23, h24⟩ := HH.out.trim.lies
      obtain ⟨bo2, cc2, hv2, _⟩ := row_shape h22
      have hv3 : v2 = .slice (some ⟨g, 0, none⟩) n c := by
        have e1 := blkc (o := 1) h21 rfl
        rw [(CE.out w (Gw.refl w)).1] at e1
        cases e1
        rfl
      rw [hv3] at h21 h23
      clear hv2 h22
      have gp := h23 g rfl
      have BP : Hid (w.heap[p]? = some (.cells #[.int .i64 most, .slice (some ⟨g, 0, none⟩) n c] 47 (0, 0)) ∧ p < b3 ∧ S p ∧ g < b3 ∧ S g ∧ g ≠ p) := ⟨h21, by have := blkl h21; have := W0.out; omega, h24.1, by have := gp.1.2; have := W0.out; omega, gp.1.1, gp.2⟩
      clear h21 h23 h24 gp hv3
      have rl1 : r + 1 ≤ l.length := by rw [LN.out]; omega
      obtain ⟨so, sc, _, _, su, _, sn, _, NW⟩ := cuts23 R2.out r (by omega)
      obtain ⟨_, _, ta, tc, _, tu, _, tn, NW2⟩ := cuts23 R2.out (r + 1) rl1
      have SN : Hid (so = none → r = 0 ∧ sc = 0) := sn
      have TN : Hid (ta = none → l.length - (r + 1) = 0 ∧ tc = 0) := tn
      have NWH : Hid (∀ W : World, (∀ q, q < b3 → W.heap[q]? = w.heap[q]?) → (∀ ad, so = some ad → ∀ j u, (pcs (l.take r))[j]? = some u → W.cell? (ad.add j) = some u) ∧ (∀ ad, ta = some ad → ∀ j u, (pcs (l.drop (r + 1)))[j]? = some u → W.cell? (ad.add j) = some u)) := fun W k => ⟨(NW W (fun q hq => k q (by cases hq; exact BP.out.2.2.2.1))).1, (NW2 W (fun q hq => k q (by cases hq; exact BP.out.2.2.2.1))).2⟩
      rw [LN.out] at su tu TN
      have tu' : ∀ W : World, (Instr.slice 34 (.slice (some ⟨g, 0, none⟩) n c) (some (.int .i64 ((r : Int) + 1))) none none).run Try.prog W = .ok (.slice ta (n - (r + 1)) tc) W := fun W => by have := tu W; simpa using this
      have wr1 : IntKind.i64.wrap ((r : Int) + 1) = (r : Int) + 1 := by rw [IntKind.wrap_i64]; omega
      clear sn tn NW NW2 tu rl1
      have LT2 : Hid ((pcs (l.take r)).length = r * 2) := by show _ = _; rw [pcs_len, List.length_take, LN.out]; omega
      have LD2 : Hid ((pcs (l.drop (r + 1))).length = (n - (r + 1)) * 2) := by show _ = _; rw [pcs_len, List.length_drop, LN.out]
      obtain ⟨ii, hii, hz, hsz, hby⟩ := info_parts info_pair
      obtain ⟨wA, hwA⟩ : ∃ wA, wD.alloc (.cells #[.int .i64 0, .bool true, .int .u64 0, .int .u64 0, .int .i64 0, .slice none 0 0] 36) = wA := ⟨_, rfl⟩
      have ZA : Hid (wA.heap.size = b3 + 3) := by show _ = _; rw [← hwA]; simp [sz]
      have KA : Hid (∀ q, q < b3 → wA.heap[q]? = w.heap[q]?) := fun q hq => by rw [← hwA]; exact (heap_alloc_old wD _ (by omega)).trans (GD.out.below.block q (by have := W0.out; omega))
      have GA : Hid (Gw w wA) := by rw [← hwA]; exact GD.out.alloc _ _
      have XA : Hid (wA.heap[b3 + 1]? = some (.cells #[.int .i64 0, .bool false, .int .u64 0, .int .u64 0, .int .i64 0, .slice none 0 0] 36 (0, 0)) ∧ wA.heap[b3 + 2]? = some (.cells #[.int .i64 0, .bool true, .int .u64 0, .int .u64 0, .int .i64 0, .slice none 0 0] 36 (0, 0))) := by
        rw [← hwA]
        refine ⟨(heap_alloc_old wD _ (by omega)).trans BD.out.2.1, ?_⟩
        have := heap_alloc_new wD (.cells #[.int .i64 0, .bool true, .int .u64 0, .int .u64 0, .int .i64 0, .slice none 0 0] 36)
        rw [sz] at this
        exact this
      have cA : wA.cell? ⟨p, 1, none⟩ = some (.slice (some ⟨g, 0, none⟩) n c) := (CE.out _ GA.out).1
      go_upto_region 11 with fail
      clear hwA p0 p1 p2 oa
      have HX : Hid (∀ w' : World, (∀ q, q < b3 + 3 → w'.heap[q]? = wA.heap[q]?) → (∀ q, q < b3 + 3 → w'.heap[q]? = wA.heap[q]?) ∧ w'.cell? ⟨p, 1, none⟩ = some (.slice (some ⟨g, 0, none⟩) n c)) := fun w' hx => ⟨hx, (World.cell?_of_block (a := ⟨p, 1, none⟩) (hx p (by have := BP.out.2.1; omega))).trans cA⟩
      have cAl : ∀ o : Obj, (wA.alloc o).cell? ⟨p, 1, none⟩ = some (.slice (some ⟨g, 0, none⟩) n c) := fun o => (HX.out _ (fun q hq => heap_alloc_old wA o (by have := ZA.out; omega))).2
      go_region_law
        (first
          | (refine step_append_any _ rfl (.tmp 51) (.tmp 57) 34 rfl (b3 + 3) 44 ii _ 2 16 Try.underlying34 hii hz hsz hby rfl (by decide) wA.heap.size 0 0 [] rfl (World.ownsRow_made wA #[] 0 (Nat.le_of_eq ZA.out.symm) (Nat.zero_le _) rfl) so r sc (pcs (l.take r)) rfl SN.out LT2.out (NWH.out _ (fun q hq => (heap_alloc_old wA _ (by have := ZA.out; omega)).trans (KA.out q hq))).1 (pcs_one _) (by simp only [maxLen]; omega) (by omega) (by have := ZA.out; simp <;> omega) ?_; intro g5 cap5 w5 q1 q2 q3 q4; have X5 : Hid (∀ q, q < b3 + 3 → w5.heap[q]? = wA.heap[q]?) := (fun q hq => (q2.block q (by have := ZA.out; simp; omega) (fun e => by cases e; have := ZA.out; omega)).trans (heap_alloc_old _ _ (by have := ZA.out; omega))); have O5 : Hid (w5.ownsRow (b3 + 3) 44 2 (.slice (some ⟨g5, 0, none⟩) r cap5) r (pcs (l.take r))) := (by have := q1; simp only [Nat.zero_add, List.nil_append] at this; exact this); have Z5 : Hid (b3 + 3 ≤ w5.heap.size ∧ w5.os = wA.os ∧ w5.tape = wA.tape ∧ w5.output = wA.output) := ⟨(by have := q2.size; have := ZA.out; simp at *; omega), q2.os, q2.tape, q2.output⟩; have c5 : w5.cell? ⟨p, 1, none⟩ = some (.slice (some ⟨g, 0, none⟩) n c) := (HX.out _ X5.out).2; clear q1 q2 q3 q4)
          | (refine step_append_any _ rfl (.tmp 58) (.tmp 65) 34 rfl (b3 + 3) 44 ii _ 2 16 Try.underlying34 hii hz hsz hby rfl (by decide) g5 r cap5 (pcs (l.take r)) rfl O5.out ta (n - (r + 1)) tc (pcs (l.drop (r + 1))) rfl TN.out LD2.out (NWH.out _ (fun q hq => (X5.out q (by omega)).trans (KA.out q hq))).2 (pcs_one _) (by simp only [maxLen]; omega) (by omega) Z5.out.1 ?_; intro g6 cap6 w6 q1 q2 q3 q4; have X6 : Hid (∀ q, q < b3 + 3 → w6.heap[q]? = wA.heap[q]?) := (fun q hq => (q2.block q (by have := Z5.out.1; omega) (fun e => by cases e; have := (World.ownsRow.lt O5.out g5 rfl).1; omega)).trans (X5.out q hq)); have O6 : Hid (w6.ownsRow (b3 + 3) 44 2 (.slice (some ⟨g6, 0, none⟩) (r + (n - (r + 1))) cap6) (r + (n - (r + 1))) (pcs (l.take r) ++ pcs (l.drop (r + 1)))) := q1; have Z6 : Hid (b3 + 3 ≤ w6.heap.size ∧ w6.os = wA.os ∧ w6.tape = wA.tape ∧ w6.output = wA.output) := ⟨(by have := q2.size; have := Z5.out.1; omega), q2.os.trans Z5.out.2.1, q2.tape.trans Z5.out.2.2.1, q2.output.trans Z5.out.2.2.2⟩; have c6 : w6.cell? ⟨p, 1, none⟩ = some (.slice (some ⟨g, 0, none⟩) n c) := (HX.out _ X6.out).2; have f6 : w6.frozen? ⟨p, 1, none⟩ = false := (by have e := X6.out p (by have := BP.out.2.1; omega); simp [World.frozen?, e, KA.out p BP.out.2.1, BP.out.1]); clear q1 q2 q3 q4))
      all_goals
        have FH : Hid (AtE w (w6.setCell ⟨p, 1, none⟩ (.slice (some ⟨g6, 0, none⟩) (r + (n - (r + 1))) cap6)) p S most (nxtP most l 2 x y) (⟨0, true, 0, 0, 0, []⟩ : Aw) b3 none 0) := by
          have lt6 := World.ownsRow.lt O6.out g6 rfl
          have bp := BP.out
          have ot : ∀ q, q ≠ p → q < b3 + 3 → (w6.setCell ⟨p, 1, none⟩ (.slice (some ⟨g6, 0, none⟩) (r + (n - (r + 1))) cap6)).heap[q]? = wA.heap[q]? := fun q h1 h2 => (Go.Deep.blk_setCell_other w6 ⟨p, 1, none⟩ _ q h1).trans (X6.out q h2)
          refine ⟨W0.out, (ot _ (by omega) (by omega)).trans XA.out.1, (ot _ (by omega) (by omega)).trans XA.out.2, fun q => S q ∧ q < b3 ∨ q = g6, ⟨⟨.slice (some ⟨g6, 0, none⟩) (r + (n - (r + 1))) cap6, ?_, ?_, fun q hq => ?_, .inl ⟨bp.2.2.1, bp.2.1⟩⟩, ?_⟩, ?_, fun q hq => ?_, fun hq => ?_, ⟨fun h0 => by simp at h0⟩, (fun a e => by cases e), (fun _ => rfl)⟩
          · simp [World.setCell, Array.getElem?_modify, X6.out p (by omega), KA.out p bp.2.1, bp.1]
          · rw [DE.out, pcs_app]
            have e1 : (l.take r ++ l.drop (r + 1)).length = r + (n - (r + 1)) := by rw [List.length_append, List.length_take, List.length_drop, LN.out]; omega
            rw [e1]
            exact own_keep3 O6.out (Nat.zero_le _) (fun q hq => by cases hq; exact Go.Deep.blk_setCell_other w6 ⟨p, 1, none⟩ _ g6 (by have := lt6.1; show g6 ≠ p; omega))
          · cases hq
            exact ⟨.inr rfl, by have := lt6.1; show g6 ≠ p; omega⟩
          · rw [DE.out]
            exact BDN.out
          · refine Gx.set ?_ (.inl bp.2.2.1) _ _
            refine ⟨Z6.out.2.1.trans GA.out.below.os, Z6.out.2.2.1.trans GA.out.below.tape, Z6.out.2.2.2.trans GA.out.below.output, by have := Z6.out.1; have := W0.out; omega, fun q hq _ => (X6.out q (by have := W0.out; omega)).trans (KA.out q (by have := W0.out; omega))⟩
          · rcases hq with k | k
            · exact .inl k.1
            · right; have := lt6.1; have := W0.out; omega
          · rcases hq with k | k
            · omega
            · have := lt6.1; omega
        clear O6 X6 Z6 c6 f6 O5 X5 Z5 c5 cAl cA su tu' NWH
        go_upto_region 30 with fail
        have EH : Hid (AtE w (w6.setCell ⟨p, 1, none⟩ (.slice (some ⟨g6, 0, none⟩) (r + (n - (r + 1))) cap6)) p S most (nxtP most l 2 x y) (⟨0, true, 0, 0, 0, []⟩ : Aw) b3 none 0) := FH
        generalize (w6.setCell ⟨p, 1, none⟩ (.slice (some ⟨g6, 0, none⟩) (r + (n - (r + 1))) cap6)) = wE at EH ⊢
        have RB := EH.out.res
        have AB := EH.out.box
        have r0 : wE.cell? ⟨b3 + 1, 0, none⟩ = some (.int .i64 0) := blkc RB rfl
        have r1 : wE.cell? ⟨b3 + 1, 1, none⟩ = some (.bool false) := blkc RB rfl
        have r2 : wE.cell? ⟨b3 + 1, 2, none⟩ = some (.int .u64 0) := blkc RB rfl
        have r3 : wE.cell? ⟨b3 + 1, 3, none⟩ = some (.int .u64 0) := blkc RB rfl
        have r4 : wE.cell? ⟨b3 + 1, 4, none⟩ = some (.int .i64 0) := blkc RB rfl
        have r5 : wE.cell? ⟨b3 + 1, 5, none⟩ = some (.slice none 0 0) := blkc RB rfl
        have fz : ∀ o : Nat, wE.frozen? ⟨b3 + 1, o, none⟩ = false := fun o => blkf RB
        have sc : ∀ (W : World) (b i j : Nat) (u : Value), (i == j) = false → (W.setCell ⟨b, i, none⟩ u).cell? ⟨b, j, none⟩ = W.cell? ⟨b, j, none⟩ := set_ne23
        obtain ⟨A, hA⟩ : ∃ A, (⟨0, true, 0, 0, 0, []⟩ : Aw) = A := ⟨_, rfl⟩
        rw [hA] at EH AB
        have a0 : wE.cell? ⟨b3 + 2, 0, none⟩ = some (.int .i64 A.c) := blkc AB rfl
        have a1 : wE.cell? ⟨b3 + 2, 1, none⟩ = some (.bool A.is) := blkc AB rfl
        have a2 : wE.cell? ⟨b3 + 2, 2, none⟩ = some (.int .u64 A.k) := blkc AB rfl
        have a3 : wE.cell? ⟨b3 + 2, 3, none⟩ = some (.int .u64 A.v) := blkc AB rfl
        have a4 : wE.cell? ⟨b3 + 2, 4, none⟩ = some (.int .i64 A.n) := blkc AB rfl
        have a5 : wE.cell? ⟨b3 + 2, 5, none⟩ = some (.slice none A.L.length 0) := blkc AB rfl
        have AA : Hid (ansP most l 2 x y = A) := by rw [AE.out]; exact hA
        clear RB AB hA AE
        go_wp2_with fail
        refine bodyPost_ret (v := awV A none 0) (by simp [results, Try.results18, go_sem, sc, r0, r1, r2, r3, r4, r5, awV]) rfl ?_
        rw [AA.out]
        exact EH.out.out
    · have IK : Hid (isK l x = false) := Bool.eq_false_iff.2 (fun q => e (iq.1 q))
      have e' : ((qk : Int) == x) = false := by simpa using e
      clear e k1 iq
      go_wp2_with fail
      go_quiet (fail)
      have GD : Hid (Gw w (w1.drewN nq)) := G1.out.drewN _
      have BD : Hid ((w1.drewN nq).heap[b3]? = some (.cells #[.int .i64 2, .int .u64 x, .int .u64 y] 33 (0, 0)) ∧ (w1.drewN nq).heap[b3 + 1]? = some (.cells #[.int .i64 0, .bool false, .int .u64 0, .int .u64 0, .int .i64 0, .slice none 0 0] 36 (0, 0)) ∧ (w1.drewN nq).heap.size = b3 + 2) := by have := B3.out; show _ ∧ _; simpa using this
      generalize w1.drewN nq = wD at GD BD ⊢
      have sz := BD.out.2.2
      have oa : ∀ (C : Array Value) (j : Nat), (wD.alloc (.cells C 36)).cell? ⟨b3, j, none⟩ = wD.cell? ⟨b3, j, none⟩ := fun C j => World.cell?_of_block (a := ⟨b3, j, none⟩) (heap_alloc_old wD _ (show b3 < wD.heap.size by omega))
      have p0 : wD.cell? ⟨b3, 0, none⟩ = some (.int .i64 2) := blkc BD.out.1 rfl
      have p1 : wD.cell? ⟨b3, 1, none⟩ = some (.int .u64 x) := blkc BD.out.1 rfl
      have p2 : wD.cell? ⟨b3, 2, none⟩ = some (.int .u64 y) := blkc BD.out.1 rfl
      clear o1 c1
      have DN : l = nxtP most l 2 x y := by unfold nxtP; simp [IK.out]
      have DNH : Hid (l = nxtP most l 2 x y) := DN
      clear DN
      have AE : Hid (ansP most l 2 x y = (⟨0, false, 0, 0, 0, []⟩ : Aw)) := by
        show _ = _
        unfold ansP
        simp [aw0, IK.out]
      go_upto_region 30 with fail
      have EH : Hid (AtE w (wD.alloc (.cells #[.int .i64 (0), .bool false, .int .u64 (0), .int .u64 (0), .int .i64 (0), .slice none 0 0] 36)) p S most (nxtP most l 2 x y) (⟨0, false, 0, 0, 0, []⟩ : Aw) b3 none 0) := by rw [← DNH.out]; exact AtE.ask (⟨0, false, 0, 0, 0, []⟩ : Aw) HH.out rfl W0.out (GD.out.alloc _ _) ((heap_alloc_old wD _ (by omega)).trans BD.out.2.1) (by have := heap_alloc_new wD (.cells (awC (⟨0, false, 0, 0, 0, []⟩ : Aw) none 0) 36); rw [sz] at this; exact this)
      generalize (wD.alloc (.cells #[.int .i64 (0), .bool false, .int .u64 (0), .int .u64 (0), .int .i64 (0), .slice none 0 0] 36)) = wE at EH ⊢
      have RB := EH.out.res
      have AB := EH.out.box
      have r0 : wE.cell? ⟨b3 + 1, 0, none⟩ = some (.int .i64 0) := blkc RB rfl
      have r1 : wE.cell? ⟨b3 + 1, 1, none⟩ = some (.bool false) := blkc RB rfl
      have r2 : wE.cell? ⟨b3 + 1, 2, none⟩ = some (.int .u64 0) := blkc RB rfl
      have r3 : wE.cell? ⟨b3 + 1, 3, none⟩ = some (.int .u64 0) := blkc RB rfl
      have r4 : wE.cell? ⟨b3 + 1, 4, none⟩ = some (.int .i64 0) := blkc RB rfl
      have r5 : wE.cell? ⟨b3 + 1, 5, none⟩ = some (.slice none 0 0) := blkc RB rfl
      have fz : ∀ o : Nat, wE.frozen? ⟨b3 + 1, o, none⟩ = false := fun o => blkf RB
      have sc : ∀ (W : World) (b i j : Nat) (u : Value), (i == j) = false → (W.setCell ⟨b, i, none⟩ u).cell? ⟨b, j, none⟩ = W.cell? ⟨b, j, none⟩ := set_ne23
      obtain ⟨A, hA⟩ : ∃ A, (⟨0, false, 0, 0, 0, []⟩ : Aw) = A := ⟨_, rfl⟩
      rw [hA] at EH AB
      have a0 : wE.cell? ⟨b3 + 2, 0, none⟩ = some (.int .i64 A.c) := blkc AB rfl
      have a1 : wE.cell? ⟨b3 + 2, 1, none⟩ = some (.bool A.is) := blkc AB rfl
      have a2 : wE.cell? ⟨b3 + 2, 2, none⟩ = some (.int .u64 A.k) := blkc AB rfl
      have a3 : wE.cell? ⟨b3 + 2, 3, none⟩ = some (.int .u64 A.v) := blkc AB rfl
      have a4 : wE.cell? ⟨b3 + 2, 4, none⟩ = some (.int .i64 A.n) := blkc AB rfl
      have a5 : wE.cell? ⟨b3 + 2, 5, none⟩ = some (.slice none A.L.length 0) := blkc AB rfl
      have AA : Hid (ansP most l 2 x y = A) := by rw [AE.out]; exact hA
      clear RB AB hA AE p0 p1 p2 oa
      go_wp2_with fail
      refine bodyPost_ret (v := awV A none 0) (by simp [results, Try.results18, go_sem, sc, r0, r1, r2, r3, r4, r5, awV]) rfl ?_
      rw [AA.out]
      exact EH.out.out
  · have rlt : ¬ (r : Int) < (n : Int) := by omega
    have IK : Hid (isK l x = false) := iq
    clear iq
    go_wp2_with fail
    go_quiet (fail)
    have GD : Hid (Gw w (w1.drewN nq)) := G1.out.drewN _
    have BD : Hid ((w1.drewN nq).heap[b3]? = some (.cells #[.int .i64 2, .int .u64 x, .int .u64 y] 33 (0, 0)) ∧ (w1.drewN nq).heap[b3 + 1]? = some (.cells #[.int .i64 0, .bool false, .int .u64 0, .int .u64 0, .int .i64 0, .slice none 0 0] 36 (0, 0)) ∧ (w1.drewN nq).heap.size = b3 + 2) := by have := B3.out; show _ ∧ _; simpa using this
    generalize w1.drewN nq = wD at GD BD ⊢
    have sz := BD.out.2.2
    have oa : ∀ (C : Array Value) (j : Nat), (wD.alloc (.cells C 36)).cell? ⟨b3, j, none⟩ = wD.cell? ⟨b3, j, none⟩ := fun C j => World.cell?_of_block (a := ⟨b3, j, none⟩) (heap_alloc_old wD _ (show b3 < wD.heap.size by omega))
    have p0 : wD.cell? ⟨b3, 0, none⟩ = some (.int .i64 2) := blkc BD.out.1 rfl
    have p1 : wD.cell? ⟨b3, 1, none⟩ = some (.int .u64 x) := blkc BD.out.1 rfl
    have p2 : wD.cell? ⟨b3, 2, none⟩ = some (.int .u64 y) := blkc BD.out.1 rfl
    clear o1 c1
    have DN : l = nxtP most l 2 x y := by unfold nxtP; simp [IK.out]
    have DNH : Hid (l = nxtP most l 2 x y) := DN
    clear DN
    have AE : Hid (ansP most l 2 x y = (⟨0, false, 0, 0, 0, []⟩ : Aw)) := by
      show _ = _
      unfold ansP
      simp [aw0, IK.out]
    go_upto_region 30 with fail
    have EH : Hid (AtE w (wD.alloc (.cells #[.int .i64 (0), .bool false, .int .u64 (0), .int .u64 (0), .int .i64 (0), .slice none 0 0] 36)) p S most (nxtP most l 2 x y) (⟨0, false, 0, 0, 0, []⟩ : Aw) b3 none 0) := by rw [← DNH.out]; exact AtE.ask (⟨0, false, 0, 0, 0, []⟩ : Aw) HH.out rfl W0.out (GD.out.alloc _ _) ((heap_alloc_old wD _ (by omega)).trans BD.out.2.1) (by have := heap_alloc_new wD (.cells (awC (⟨0, false, 0, 0, 0, []⟩ : Aw) none 0) 36); rw [sz] at this; exact this)
    generalize (wD.alloc (.cells #[.int .i64 (0), .bool false, .int .u64 (0), .int .u64 (0), .int .i64 (0), .slice none 0 0] 36)) = wE at EH ⊢
    have RB := EH.out.res
    have AB := EH.out.box
    have r0 : wE.cell? ⟨b3 + 1, 0, none⟩ = some (.int .i64 0) := blkc RB rfl
    have r1 : wE.cell? ⟨b3 + 1, 1, none⟩ = some (.bool false) := blkc RB rfl
    have r2 : wE.cell? ⟨b3 + 1, 2, none⟩ = some (.int .u64 0) := blkc RB rfl
    have r3 : wE.cell? ⟨b3 + 1, 3, none⟩ = some (.int .u64 0) := blkc RB rfl
    have r4 : wE.cell? ⟨b3 + 1, 4, none⟩ = some (.int .i64 0) := blkc RB rfl
    have r5 : wE.cell? ⟨b3 + 1, 5, none⟩ = some (.slice none 0 0) := blkc RB rfl
    have fz : ∀ o : Nat, wE.frozen? ⟨b3 + 1, o, none⟩ = false := fun o => blkf RB
    have sc : ∀ (W : World) (b i j : Nat) (u : Value), (i == j) = false → (W.setCell ⟨b, i, none⟩ u).cell? ⟨b, j, none⟩ = W.cell? ⟨b, j, none⟩ := set_ne23
    obtain ⟨A, hA⟩ : ∃ A, (⟨0, false, 0, 0, 0, []⟩ : Aw) = A := ⟨_, rfl⟩
    rw [hA] at EH AB
    have a0 : wE.cell? ⟨b3 + 2, 0, none⟩ = some (.int .i64 A.c) := blkc AB rfl
    have a1 : wE.cell? ⟨b3 + 2, 1, none⟩ = some (.bool A.is) := blkc AB rfl
    have a2 : wE.cell? ⟨b3 + 2, 2, none⟩ = some (.int .u64 A.k) := blkc AB rfl
    have a3 : wE.cell? ⟨b3 + 2, 3, none⟩ = some (.int .u64 A.v) := blkc AB rfl
    have a4 : wE.cell? ⟨b3 + 2, 4, none⟩ = some (.int .i64 A.n) := blkc AB rfl
    have a5 : wE.cell? ⟨b3 + 2, 5, none⟩ = some (.slice none A.L.length 0) := blkc AB rfl
    have AA : Hid (ansP most l 2 x y = A) := by rw [AE.out]; exact hA
    clear RB AB hA AE p0 p1 p2 oa
    go_wp2_with fail
    refine bodyPost_ret (v := awV A none 0) (by simp [results, Try.results18, go_sem, sc, r0, r1, r2, r3, r4, r5, awV]) rfl ?_
    rw [AA.out]
    exact EH.out.out
end Go.Proofs.Ytkojcjfjmlompaa
