/- Package merge: the thing that is told next. -/
import Derived.Test.YtnkcnfpbbdlifabPHfe
import Derived.Test.YtnkcnfpbbdlifabPNext
import Derived.BigQuiet
import Derived.Deep.CutBlock
import Derived.StillTailTactics
import Derived.Deep.DeepCutAuto
namespace Go.Proofs.Ytnkcnfpbbdlifab
open Go.RowKit
set_option linter.unusedVariables false

set_option maxRecDepth 20000 in
set_option maxHeartbeats 8000000 in
theorem next_e (hb K : Nat) (hv pv : Value) (H P : List (Hd Ent)) (key : Ent → Int) (FK : FnK encE key Ent.ok K) (hn2 : H.length ≤ 3000000) (hp2 : P.length ≤ 3000000) (w : World) (hst : Hst 66 69 w hb (.func (.func K) #[] #[]) hv pv H P) (hH : HeapOn H)
    (me : ∀ h ∈ H, (∃ x t, h.s.l = x :: t ∧ h.k = key x) ∧ h.s.b < hb ∧ h.s.l.length ≤ h.s.c ∧ h.s.l.length ≤ 4000000 ∧ h.i ≤ 4000000 ∧ ElE w h.s ∧ ∀ x ∈ h.s.l, Ent.ok x) :
    Calls Try.prog 31 #[.pointer (some ⟨hb, 0, none⟩)] w fun e w' => NextR 66 69 w hb K 3 hv pv H key encE (.agg #[.int .u64 0, .int .u64 0, .bool false]) e w' := by
  by_cases h0 : H = []
  · subst h0
    have hbl : hb < w.heap.size := blkl hst.hp.blk
    have c1 : w.cell? ⟨hb, 1, none⟩ = some hv := blkc hst.hp.blk rfl
    rcases hr_len hst.hp.row with ⟨e, _⟩ | ⟨g, cap, e, hcap⟩
    all_goals
      subst e
      clear hst hH me FK
      go_enter Try.func31, Try.ntmps31
      go_wp2_with fail
      refine bodyPost_ret (v := .tuple #[.agg #[.int .u64 0, .int .u64 0, .bool false], .bool false]) (by simp [results, Try.results31, go_sem]) rfl ?_
      exact ⟨fun _ => ⟨rfl, by first | exact ((Gw.refl w).alloc _ _).alloc _ _ | exact (((Gw.refl w).alloc _ _).alloc _ _).setCell (by simp) _⟩, fun h => absurd rfl h⟩
  · have hpos : 0 < H.length := List.length_pos_iff.2 h0
    have gm : gt H 0 ∈ H := by
      have : gt H 0 = H[0] := by simp [gt, List.getD, hpos]
      rw [this]; exact List.getElem_mem _
    have ME : Aside _ := me
    obtain ⟨⟨x, t, hxl, hxk⟩, xbl, xcl, _, _, xel, xok⟩ := me (gt H 0) gm
    obtain ⟨g, cap, hvf, ncap, gb, gl⟩ := hr_form hst.hp.row hpos
    obtain ⟨n, hn⟩ : ∃ n, H.length = n := ⟨_, rfl⟩
    have LN : Aside (H.length = n) := hn
    rw [hn] at hvf ncap hpos hn2
    subst hvf
    have ST : Aside (Hst 66 69 w hb (.func (.func K) #[] #[]) (.slice (some ⟨g, 0, none⟩) n cap) pv H P) := hst
    have HH : Aside (HeapOn H) := hH
    have hbl : hb < w.heap.size := blkl hst.hp.blk
    have c1 : w.cell? ⟨hb, 1, none⟩ = some (.slice (some ⟨g, 0, none⟩) n cap) := blkc hst.hp.blk rfl
    have c2 : w.cell? ⟨hb, 2, none⟩ = some pv := blkc hst.hp.blk rfl
    have fr2 : w.frozen? ⟨hb, 2, none⟩ = false := blkf hst.hp.blk
    obtain ⟨y, hy⟩ : ∃ y, gt H 0 = y := ⟨_, rfl⟩
    have YV : Aside (gt H 0 = y) := hy
    obtain ⟨e0, e1, e2⟩ := (hr_cells hst.hp.row hn).2.2.2 0 hpos
    rw [hy] at e0 e1 e2 hxl hxk
    obtain ⟨yk, yi, ⟨yb, yo, yc, yl⟩⟩ := y
    dsimp only at hxl hxk
    obtain ⟨yn, hyn⟩ : ∃ m, yl.length = m := ⟨_, rfl⟩
    have YN : Aside (yl.length = yn) := hyn
    simp only [Nat.zero_mul, Nat.zero_add, Lst.v, hyn] at e0 e1 e2
    have YL : Aside (yl = x :: t) := hxl
    have YK : Aside (yk = key x) := hxk
    have tn : ((n : Int) == 0) = false := by simp; omega
    obtain ⟨po, pc, SL, R0, OB⟩ : ∃ (po : Option Addr) (pc : Nat), (∀ W : World, (Instr.slice 64 pv none (some (.int .i64 0)) none).run Try.prog W = .ok (.slice po 0 pc) W) ∧ HR 69 w (hb + 1) (.slice po 0 pc) ([] : List (Hd Ent)) ∧ (Value.slice po 0 pc).ownBlock = pv.ownBlock := by
      rcases hr_len hst.pr with ⟨e, _⟩ | ⟨gp, cp, e, hcp⟩
      · subst e
        exact ⟨none, 0, fun W => by kernel_rfl, hr_nil _ _ _, rfl⟩
      · have pr := hst.pr
        subst e
        refine ⟨some ⟨gp, 0, none⟩, cp, fun W => ?_, hr_take pr rfl 0 (Nat.zero_le _), rfl⟩
        have c0 : (0 : Int) ≤ (cp : Int) := by omega
        by_cases z : cp = 0
        · subst z; simp [go_sem, Instr.slice]
        · simp [go_sem, Instr.slice]
    obtain ⟨N5, hN5⟩ : ∃ N, N = w.heap.size + 1 := ⟨_, rfl⟩
    obtain ⟨W5, E5⟩ : ∃ W5, (w.alloc (.cells #[.int .u64 0, .int .u64 0, .bool false] 36)).alloc (.cells #[.int .u64 yk, .int .i64 (yi : Int), .slice (some ⟨yb, yo, none⟩) yn yc] 69) = W5 := ⟨_, rfl⟩
    have G5 : Gw w W5 := by rw [← E5]; exact ((Gw.refl w).alloc _ _).alloc _ _
    have B5 : W5.heap[N5]? = some (.cells #[.int .u64 yk, .int .i64 (yi : Int), .slice (some ⟨yb, yo, none⟩) yn yc] 69 (0, 0)) := by
      rw [← E5, hN5]
      first
        | exact heap_alloc_new _ _
        | (have := heap_alloc_new (w.alloc (.cells #[.int .u64 0, .int .u64 0, .bool false] 36)) (.cells #[.int .u64 yk, .int .i64 (yi : Int), .slice (some ⟨yb, yo, none⟩) yn yc] 69); simpa using this)
    have B2 : W5.heap[w.heap.size]? = some (.cells #[.int .u64 0, .int .u64 0, .bool false] 36 (0, 0)) := by
      rw [← E5]; exact (heap_alloc_old _ _ (by simp)).trans (heap_alloc_new w _)
    have n5 : N5 < W5.heap.size := blkl B5
    have hb5 : W5.heap[hb]? = some (.cells #[.func (.func K) #[] #[], .slice (some ⟨g, 0, none⟩) n cap, pv] 66 (0, 0)) := (G5.below.block _ hbl).trans ST.out.hp.blk
    obtain ⟨W6, E6⟩ : ∃ W6, W5.setCell ⟨hb, 2, none⟩ (.slice po 0 pc) = W6 := ⟨_, rfl⟩
    have A0 : Aside (NxA 66 69 w W6 hb g cap (.func (.func K) #[] #[]) pv H yk n (.slice po 0 pc) H [] W6) := by
      have hne : ∀ q, q ≠ hb → W6.heap[q]? = W5.heap[q]? := fun q hq => by rw [← E6]; exact Go.Deep.blk_setCell_other _ _ _ _ hq
      have s6 : W6.heap.size = W5.heap.size := by rw [← E6]; simp [World.setCell]
      have gne : g ≠ hb := ST.out.hp.ne g rfl
      have glt := (hr_lt ST.out.hp.row g rfl).2
      have plt : ∀ q, pv.ownBlock = some q → q < w.heap.size := fun q hq => (hr_lt ST.out.pr q hq).2
      have pne := ST.out.pne
      refine ⟨⟨⟨?_, ?_, ST.out.hp.ne⟩, ?_, fun q hq hq' => ST.out.ap q hq (by rw [← OB]; exact hq')⟩, LN.out, by simp, (fun p hp => by cases hp), HH.out, fun q hq => .inl (by rw [← OB]; exact hq), fun _ _ _ => rfl, ?_, ⟨by rw [s6]; exact G5.size, Nat.le_refl _⟩, ⟨glt, hbl, gne, plt⟩⟩
      · rw [← E6]; exact blk_set hb5 _
      · exact hr_keep ST.out.hp.row fun q hq => by cases hq; exact (hne g gne).trans (G5.below.block g glt)
      · exact hr_keep R0 fun q hq => by rw [OB] at hq; exact (hne q (pne q hq)).trans (G5.below.block q (plt q hq))
      · rw [← E6]; exact (G5.gx _).set (.inl (Or.inl rfl)) _ _
    have BX : Aside (∀ W : World, (∀ q, w.heap.size ≤ q → q < W6.heap.size → W.heap[q]? = W6.heap[q]?) → W.heap[N5]? = some (.cells #[.int .u64 yk, .int .i64 (yi : Int), .slice (some ⟨yb, yo, none⟩) yn yc] 69 (0, 0)) ∧ W.heap[w.heap.size]? = some (.cells #[.int .u64 0, .int .u64 0, .bool false] 36 (0, 0))) := fun W hW => by
      have s6 : W6.heap.size = W5.heap.size := by rw [← E6]; simp [World.setCell]
      have hne : ∀ q, q ≠ hb → W6.heap[q]? = W5.heap[q]? := fun q hq => by rw [← E6]; exact Go.Deep.blk_setCell_other _ _ _ _ hq
      exact ⟨(hW N5 (by omega) (by omega)).trans ((hne N5 (by omega)).trans B5), (hW _ (Nat.le_refl _) (by omega)).trans ((hne _ (by omega)).trans B2)⟩
    have W6L : Aside (w.heap.size < W6.heap.size) := by
      have s6 : W6.heap.size = W5.heap.size := by rw [← E6]; simp [World.setCell]
      show _ < _
      omega
    have k1 : W5.cell? ⟨hb, 1, none⟩ = some (.slice (some ⟨g, 0, none⟩) n cap) := blkc hb5 rfl
    have k2 : W5.cell? ⟨hb, 2, none⟩ = some pv := blkc hb5 rfl
    have k3 : W5.frozen? ⟨hb, 2, none⟩ = false := blkf hb5
    have l5 : hb < W5.heap.size := blkl hb5
    have EXI : Hid (∀ n1 pv1 H1 P1 wr, NxA 66 69 w W6 hb g cap (.func (.func K) #[] #[]) pv H yk n1 pv1 H1 P1 wr → (n1 = 0 ∨ (gt H1 0).k ≠ yk) → 0 < P1.length ∧ ∀ x ∈ H1, x.k ≠ yk) := fun n1 pv1 H1 P1 wr h ex => h.exit HH.out (by rw [LN.out]; exact hpos) (by rw [YV.out]) ex
    have POP : Hid (∀ (n1 : Nat) (pv1 : Value) (H1 P1 : List (Hd Ent)) (wr : World), NxA 66 69 w W6 hb g cap (.func (.func K) #[] #[]) pv H yk n1 pv1 H1 P1 wr → 1 ≤ n1 → n1 ≤ 3000000 → Calls Try.prog 35 #[.pointer (some ⟨hb, 0, none⟩)] wr fun e w' => e = .returned (gt H1 0).v ∧ (∃ H', (gt H1 0 :: H').Perm H1 ∧ HeapOn H' ∧ H'.length = n1 - 1 ∧ Hpm 66 69 w' hb (hb + 1) (.func (.func K) #[] #[]) (.slice (some ⟨g, 0, none⟩) (n1 - 1) cap) pv1 H') ∧ Gx (fun q => q = hb ∨ q = g) wr w') := fun n1 pv1 H1 P1 wr h h1 h2 => pop_e hb n1 g cap (hb + 1) _ pv1 H1 h.ln h1 (by omega) wr h.st.hp h.ho
    have NLE : Hid (∀ n1 pv1 H1 P1 wr, NxA 66 69 w W6 hb g cap (.func (.func K) #[] #[]) pv H yk n1 pv1 H1 P1 wr → P1.length + n1 = n) := fun n1 pv1 H1 P1 wr h => by
      have := h.pm.length_eq
      rw [List.length_append, LN.out, h.ln] at this
      exact this
    obtain ⟨ii, hii, hz, hsz, hby⟩ := info_parts info_he
    subst hN5
    clear hst hH me h0 hn hy hyn hxl hxk gm R0 OB B5 hb5 G5 n5
    go_enter Try.func31, Try.ntmps31
    go_upto_block 0 with fail
    clear E5 E6 k1 k2 k3 l5 SL c1 c2 fr2 e0 e1 e2 tn
    go_cut [] from 29 to 57 (fun wc => ∃ (n1 : Nat) (pv1 : Value) (H1 P1 : List (Hd Ent)), Aside (NxA 66 69 w W6 hb g cap (.func (.func K) #[] #[]) pv H yk n1 pv1 H1 P1 wc) ∧ Aside (0 < P1.length ∧ ∀ x ∈ H1, x.k ≠ yk))
    case first => as_aux_lemma =>
      go_wp2_with fail
      go_loopg [] n (fun gg wr => ∃ (n1 : Nat) (pv1 : Value) (H1 P1 : List (Hd Ent)), n1 ≤ gg ∧ n1 ≤ n ∧ Aside (NxA 66 69 w W6 hb g cap (.func (.func K) #[] #[]) pv H yk n1 pv1 H1 P1 wr))
      case atStart => exact ⟨n, .slice po 0 pc, H, [], Nat.le_refl _, Nat.le_refl _, A0⟩
      case round =>
        obtain ⟨n1, pv1, H1, P1, ng, nn, AA⟩ := hrel
        obtain ⟨wS, hwS⟩ : ∃ wx, wx = wr := ⟨_, rfl⟩
        subst hwS
        have c1 : wS.cell? ⟨hb, 1, none⟩ = some (.slice (some ⟨g, 0, none⟩) n1 cap) := blkc AA.out.st.hp.blk rfl
        have c2 : wS.cell? ⟨hb, 2, none⟩ = some pv1 := blkc AA.out.st.hp.blk rfl
        have f0 := blkc (o := 0) ((BX.out _ AA.out.bx).1) rfl
        have ncap1 : n1 ≤ cap := (hr_cells AA.out.st.hp.row AA.out.ln).2.1
        by_cases p0 : 0 < n1
        · have p0' : decide ((0 : Int) < (n1 : Int)) = true := by simpa using p0
          obtain ⟨z, hz0⟩ : ∃ z, gt H1 0 = z := ⟨_, rfl⟩
          have ZV : Aside (gt H1 0 = z) := hz0
          obtain ⟨d0, d1, d2⟩ := (hr_cells AA.out.st.hp.row AA.out.ln).2.2.2 0 p0
          rw [hz0] at d0 d1 d2
          simp only [Nat.zero_mul, Nat.zero_add] at d0 d1 d2
          have NW := fun W => new_hd 69 W z
          obtain ⟨zk, zi, ⟨zb, zo, zc, zl⟩⟩ := z
          obtain ⟨zn, hzn⟩ : ∃ m, zl.length = m := ⟨_, rfl⟩
          have ZN : Aside (zl.length = zn) := hzn
          dsimp only at d0
          by_cases zy : zk = yk
          · have zy' : (zk == yk) = true := by simpa using zy
            obtain ⟨m1, hm1⟩ : ∃ m, m = n1 - 1 := ⟨_, rfl⟩
            have PO : Hid (∀ k : Nat, Calls Try.prog 35 #[.pointer (some ⟨hb, 0, none⟩)] (wS.drewN k) fun e w' => e = .returned (.agg #[.int .u64 zk, .int .i64 (zi : Int), .slice (some ⟨zb, zo, none⟩) zn zc]) ∧ (∃ H', (gt H1 0 :: H').Perm H1 ∧ HeapOn H' ∧ H'.length = m1 ∧ Hpm 66 69 w' hb (hb + 1) (.func (.func K) #[] #[]) (.slice (some ⟨g, 0, none⟩) m1 cap) pv1 H') ∧ Gx (fun q => q = hb ∨ q = g) wS w') := fun k => by
              have := POP.out n1 pv1 H1 P1 (wS.drewN k) (AA.out.drewN k) (by omega) (by omega)
              rw [ZV.out, ← hm1] at this
              rw [ZV.out, ← ZN.out]
              exact this.mono fun e w' ⟨q1, q2, q3⟩ => ⟨q1, q2, ⟨q3.os, q3.tape, q3.output, q3.size, q3.block⟩⟩
            have APP : Hid (∀ (H2 : List (Hd Ent)) (w4 : World) (v' : Value) (w7 : World), (gt H1 0 :: H2).Perm H1 → HeapOn H2 → H2.length = m1 → Hpm 66 69 w4 hb (hb + 1) (.func (.func K) #[] #[]) (.slice (some ⟨g, 0, none⟩) m1 cap) pv1 H2 → Gx (fun q => q = hb ∨ q = g) wS w4 → w7.ownsRow (hb + 1) 69 3 v' (P1.length + 1) (P1.flatMap hd3 ++ hd3 ⟨zk, zi, ⟨zb, zo, zc, zl⟩⟩) → (w4.alloc (.cells #[.int .u64 zk, .int .i64 (zi : Int), .slice (some ⟨zb, zo, none⟩) zn zc] 69)).grownBy w7 pv1.ownBlock → (v'.ownBlock = pv1.ownBlock ∨ v'.ownBlock = some (w4.heap.size + 1)) → w7.heap[hb]? = some (.cells #[.func (.func K) #[] #[], .slice (some ⟨g, 0, none⟩) m1 cap, pv1] 66 (0, 0)) ∧ NxA 66 69 w W6 hb g cap (.func (.func K) #[] #[]) pv H yk m1 v' H2 (P1 ++ [gt H1 0]) (w7.setCell ⟨hb, 2, none⟩ v')) := fun H2 w4 v' w7 a1 a2 a3 a4 a5 a6 a7 a8 => AA.out.step _ (by rw [ZV.out]; exact zy) a1 a2 a3 a4 a5 (by rw [ZV.out]; exact a6) a7 a8
            have PR : Hid (∀ (H2 : List (Hd Ent)) (w4 : World), Hpm 66 69 w4 hb (hb + 1) (.func (.func K) #[] #[]) (.slice (some ⟨g, 0, none⟩) m1 cap) pv1 H2 → Gx (fun q => q = hb ∨ q = g) wS w4 → ∀ o : Obj, (w4.alloc o).ownsRow (hb + 1) 69 3 pv1 P1.length (P1.flatMap hd3)) := fun H2 w4 m4 g4 o => by
              have r : HR 69 w4 (hb + 1) pv1 P1 := hr_gx AA.out.st.pr g4 (fun q hq e => by
                rcases e with e | e
                · exact AA.out.st.pne q hq e
                · exact AA.out.st.ap q (by rw [e]; rfl) hq)
              exact World.ownsRow.alloc r _
            have NWH : Hid (∀ W : World, ∀ j u, (hd3 (⟨zk, zi, ⟨zb, zo, zc, zl⟩⟩ : Hd Ent))[j]? = some u → (W.alloc (.cells #[.int .u64 zk, .int .i64 (zi : Int), .slice (some ⟨zb, zo, none⟩) zn zc] 69)).cell? ((⟨W.heap.size, 0, none⟩ : Addr).add j) = some u) := fun W => by
              have := NW W
              simp only [hzn] at this
              exact this
            have pl := NLE.out _ _ _ _ _ AA.out
            have plb : P1.length ≤ 3000000 := by omega
            have ml : m1 < n1 := by omega
            clear pl NW hz0 hzn d1 d2 zy hm1
            go_wp2_with fail
            go_quiet (fail)
            go_wp2_with fail
            go_region_law (first
              | (go_simp; refine (PO.out _).mono ?_; rintro e w4 ⟨rfl, ⟨H2, q1, q2, q3, q4⟩, g4⟩; have Q1 : Hid _ := q1; have Q2 : Hid _ := q2; have Q3 : Hid _ := q3; have Q4 : Hid _ := q4; have GG4 : Hid _ := g4; have k4 := blkc (o := 2) q4.blk rfl; have l4 : hb < w4.heap.size := blkl q4.blk; clear q1 q2 q3 q4 g4)
              | (refine step_app _ rfl (.tmp 51) (.tmp 54) 64 rfl (hb + 1) 69 ii (.agg #[.int .u64 0, .int .i64 0, .slice none 0 0]) 3 40 Try.underlying64 hii hz hsz hby rfl (by decide) pv1 P1.length (P1.flatMap hd3) (by simp [Act.eval]) (PR.out H2 w4 Q4.out GG4.out _) ⟨w4.heap.size, 0, none⟩ 1 1 (hd3 (⟨zk, zi, ⟨zb, zo, zc, zl⟩⟩ : Hd Ent)) (by simp [Act.eval]) rfl (NWH.out w4) (hd3_one _) (by simp only [maxLen]; omega) (by omega) (Nat.le_trans (show hb + 1 ≤ w4.heap.size by omega) ((Gw.refl w4).alloc _ _).size) ?_; intro v' w7 r1 r2 r3 r4; obtain ⟨b8, cap8, ev, _, _, _⟩ := own_slice r1 (by simpa using r3); obtain ⟨B7, A7⟩ := APP.out H2 w4 v' w7 Q1.out Q2.out Q3.out Q4.out GG4.out r1 r2 (by simpa using r4); have k7 := blkc (o := 2) B7 rfl; have f7 := blkf (o := 2) B7; have l7 := blkl B7; have A8 : Hid _ := A7; clear B7 A7 r1 r2 r3 r4; subst ev))
            all_goals go_wp2_with fail
            all_goals go_roundg m1
            all_goals first
              | (case measure => omega)
              | (case rel => exact ⟨m1, _, H2, P1 ++ [gt H1 0], Nat.le_refl _, by omega, (show Aside _ from A8.out)⟩)
          · have zy' : (zk == yk) = false := by simpa using zy
            have EX : Aside _ := EXI.out _ _ _ _ _ AA.out (.inr (by rw [ZV.out]; exact zy))
            clear NW hz0 hzn d1 d2 zy
            go_wp2_with fail
            go_quiet (fail)
            go_wp2_with fail
            go_meet
            case rel => exact ⟨n1, pv1, H1, P1, (show Aside _ from by first | exact AA.out.drew | exact AA.out.drewN _), EX⟩
        · have p0' : decide ((0 : Int) < (n1 : Int)) = false := by simp; omega
          have EX : Aside _ := EXI.out _ _ _ _ _ AA.out (.inl (by omega))
          go_wp2_with fail
          go_quiet (fail)
          go_wp2_with fail
          go_meet
          case rel => exact ⟨n1, pv1, H1, P1, (show Aside _ from by first | exact AA.out.drew | exact AA.out.drewN _), EX⟩
    case rest => as_aux_lemma =>
      obtain ⟨n1, pv1, H1, P1, AA, EX⟩ := hcut
      obtain ⟨wA, hwA⟩ : ∃ wx, wx = wc := ⟨_, rfl⟩
      subst hwA
      clear EXI POP
      have nle := NLE.out _ _ _ _ _ AA.out
      clear NLE A0
      obtain ⟨gp, cp, epv, npc, _, _⟩ := hr_form AA.out.st.pr EX.out.1
      subst epv
      obtain ⟨np, hnp⟩ : ∃ m, P1.length = m := ⟨_, rfl⟩
      have NP : Aside (P1.length = np) := hnp
      have B0 : Aside (NxB 66 69 w W6 hb g gp np cp 3 (.func (.func K) #[] #[]) (.slice (some ⟨g, 0, none⟩) n cap) pv key H1 P1 0 (.slice (some ⟨g, 0, none⟩) n1 cap) H1 wA) := by
        have := AA.out.toB (sz := 3) (key := key) (n := n)
        rw [hnp] at this
        exact this
      have c2 : wA.cell? ⟨hb, 2, none⟩ = some (.slice (some ⟨gp, 0, none⟩) np cp) := by rw [← hnp]; exact blkc AA.out.st.hp.blk rfl
      rw [hnp] at npc nle
      have np0 : 0 < np := by have := EX.out.1; rw [hnp] at this; exact this
      have OLD : Hid (∀ W, Gx (hpS hb (.slice (some ⟨g, 0, none⟩) n cap) pv) w W → ∀ q, q < hb → W.heap[q]? = w.heap[q]?) := fun W gg q hq => gg.block q (by omega) (fun e => by have := (ST.out.lt e).1; omega)
      have PUS : Hid (∀ (j : Nat) (hv' : Value) (Hc : List (Hd Ent)) (wr Wq : World) (ao : Option Addr) (sc pm : Nat), NxB 66 69 w W6 hb g gp np cp 3 (.func (.func K) #[] #[]) (.slice (some ⟨g, 0, none⟩) n cap) pv key H1 P1 j hv' Hc wr → j < np → Gw wr Wq → (gt P1 j).s.l.length = pm + 1 → (0 < pm → ao = some ⟨(gt P1 j).s.b, (gt P1 j).s.off + 3, none⟩ ∧ sc = (gt P1 j).s.c - 1) → Calls Try.prog 34 #[.pointer (some ⟨hb, 0, none⟩), .int .i64 ((gt P1 j).i : Int), .slice ao pm sc] Wq fun e w' => e = .returned (.tuple #[]) ∧ ∃ hv2 H2, NxB 66 69 w W6 hb g gp np cp 3 (.func (.func K) #[] #[]) (.slice (some ⟨g, 0, none⟩) n cap) pv key H1 P1 (j + 1) hv2 H2 w') := fun j hv' Hc wr Wq ao sc pm hB jl gq hl hao => by
        have jl' : j < P1.length := by rw [NP.out]; exact jl
        have pmem : gt P1 j ∈ H := AA.out.pm.mem_iff.1 (List.mem_append.2 (.inl (by
          have : gt P1 j = P1[j] := by simp [gt, List.getD, jl']
          rw [this]; exact List.getElem_mem _)))
        obtain ⟨_, m1, m2, m3, m4, m5, m6⟩ := ME.out _ pmem
        have e1 : (adv 3 (gt P1 j).s).l.length = pm := by show (gt P1 j).s.l.tail.length = pm; rw [List.length_tail, hl]; rfl
        have kb : Wq.heap[(gt P1 j).s.b]? = w.heap[(gt P1 j).s.b]? := (gq.below.block _ (by have := hB.sz; omega)).trans (OLD.out wr hB.gx _ m1)
        have few := hB.few
        have h1l : H1.length = n1 := AA.out.ln
        have := push_e hb Hc.length (hb + 1) K (gt P1 j).i hv' _ Hc (adv 3 (gt P1 j).s) key FK rfl (by rw [NP.out] at few; omega) m4 Wq ⟨(gq.below.block _ (blkl hB.st.hp.blk)).trans hB.st.hp.blk, hr_gw hB.st.hp.row gq, hB.st.hp.ne⟩ (Nat.le_refl _) hB.ho (by rw [e1]; omega) ao sc (fun h0 => by
          rw [e1] at h0
          obtain ⟨z1, z2⟩ := hao h0
          refine ⟨z1, z2, ?_, ?_⟩
          · show (gt P1 j).s.l.tail.length ≤ (gt P1 j).s.c - 1
            rw [List.length_tail]; omega
          · show (gt P1 j).s.b < _
            have := gq.size; have := hB.sz; omega) (m5.keep kb).adv (fun x hx => m6 x (List.mem_of_mem_tail hx))
        rw [e1] at this
        exact this.mono fun e w' ⟨q1, ⟨hv2, H2, q2, q3, q4, q5⟩, q6⟩ => ⟨q1, hv2, H2, hB.step jl' gq q2 q3 q4 q5 q6⟩
      have PIN : Aside (∀ p ∈ P1, p ∈ H) := fun p hp => AA.out.pm.mem_iff.1 (List.mem_append.2 (.inl hp))
      have PPM : Aside ((P1 ++ H1).Perm H) := AA.out.pm
      have PPK : Aside (∀ p ∈ P1, p.k = yk) := AA.out.pk
      clear hnp AA
      go_wp2_with fail
      go_loopg [63] np (fun gg s63 wr => ∃ (j : Nat) (hv' : Value) (Hc : List (Hd Ent)), s63 = .int .i64 (j : Int) ∧ j ≤ np ∧ np - j ≤ gg ∧ Aside (NxB 66 69 w W6 hb g gp np cp 3 (.func (.func K) #[] #[]) (.slice (some ⟨g, 0, none⟩) n cap) pv key H1 P1 j hv' Hc wr))
      case atStart => exact ⟨0, _, H1, rfl, Nat.zero_le _, by omega, B0⟩
      case round => as_aux_lemma =>
        clear B0 c2
        obtain ⟨j, hv', Hc, rfl, jn, jg, NB⟩ := hrel
        obtain ⟨wS, hwS⟩ : ∃ wx, wx = wr := ⟨_, rfl⟩
        subst hwS
        by_cases jl : j < np
        · have jl' : (j : Int) < (np : Int) := by omega
          obtain ⟨d0, d1, d2⟩ := (hr_cells NB.out.st.pr NP.out).2.2.2 j jl
          have jl2 : j < P1.length := by rw [NP.out]; exact jl
          have pmem : gt P1 j ∈ P1 := by
            have : gt P1 j = P1[j] := by simp [gt, List.getD, jl2]
            rw [this]; exact List.getElem_mem _
          obtain ⟨z, hz0⟩ : ∃ z, gt P1 j = z := ⟨_, rfl⟩
          have PU := PUS.out j hv' Hc wS
          have zme := ME.out _ (PIN.out _ pmem)
          rw [hz0] at d0 d1 d2 PU zme
          obtain ⟨zk, zi, ⟨zb, zo, zc, zl⟩⟩ := z
          obtain ⟨⟨x', t', zl0, _⟩, _, zcl, zle, _, _, _⟩ := zme
          dsimp only at zl0 zcl zle
          obtain ⟨zn, hzn⟩ : ∃ m, zl.length = m := ⟨_, rfl⟩
          obtain ⟨pm, hpm⟩ : ∃ m, m = zn - 1 := ⟨_, rfl⟩
          have zn0 : 0 < zn := by rw [← hzn, zl0]; simp
          simp only [Lst.v, hzn] at d0 d1 d2 zcl zle
          obtain ⟨ao, sc, SLP, SAO⟩ : ∃ (ao : Option Addr) (sc : Nat), (∀ W : World, (Instr.slice 22 (.slice (some ⟨zb, zo, none⟩) zn zc) (some (.int .i64 1)) none none).run Try.prog W = .ok (.slice ao pm sc) W) ∧ (0 < pm → ao = some ⟨zb, zo + 3, none⟩ ∧ sc = zc - 1) := by
            by_cases z1 : zc = 1
            · have e1 : zn = 1 := by omega
              have e2 : pm = 0 := by omega
              subst z1 e1 e2
              exact ⟨some ⟨zb, zo, none⟩, 0, fun W => by simp [go_sem, Instr.slice], fun h => by omega⟩
            · exact ⟨some ⟨zb, zo + 3, none⟩, zc - 1, fun W => by (have zz : ¬ ((zn : Int) < 1) := by omega); simp [go_sem, Instr.slice, z1, hpm, zz], fun _ => ⟨rfl, rfl⟩⟩
          have PU2 : Hid (∀ Wq, Gw wS Wq → Calls Try.prog 34 #[.pointer (some ⟨hb, 0, none⟩), .int .i64 (zi : Int), .slice ao pm sc] Wq fun e w' => e = .returned (.tuple #[]) ∧ ∃ hv2 H2, NxB 66 69 w W6 hb g gp np cp 3 (.func (.func K) #[] #[]) (.slice (some ⟨g, 0, none⟩) n cap) pv key H1 P1 (j + 1) hv2 H2 w') := fun Wq gq => PU Wq ao sc pm NB.out jl gq (by show zl.length = pm + 1; omega) (fun h0 => SAO h0)
          obtain ⟨Wq, EQ⟩ : ∃ Wq, wS.alloc (.cells #[.int .u64 zk, .int .i64 (zi : Int), .slice (some ⟨zb, zo, none⟩) zn zc] 69) = Wq := ⟨_, rfl⟩
          have GQ : Hid (Gw wS Wq) := by rw [← EQ]; exact (Gw.refl wS).alloc _ _
          have BQ : Wq.heap[wS.heap.size]? = some (.cells #[.int .u64 zk, .int .i64 (zi : Int), .slice (some ⟨zb, zo, none⟩) zn zc] 69 (0, 0)) := by rw [← EQ]; exact heap_alloc_new _ _
          have q1 : Wq.drew.cell? ⟨wS.heap.size, 1, none⟩ = some (.int .i64 (zi : Int)) := blkc (W := Wq) BQ rfl
          have q2 : Wq.drew.cell? ⟨wS.heap.size, 2, none⟩ = some (.slice (some ⟨zb, zo, none⟩) zn zc) := blkc (W := Wq) BQ rfl
          clear PU PUS SAO hpm hzn zl0 hz0 BQ pmem
          go_wp2_with fail
          refine wp_region_still_tail 6 (by kernel_rfl) (by kernel_rfl) ?_
          change wpStill _ _ (World.drew Wq) (fun a' => wpList _ _ _ _ a' (World.drew Wq)) _ _
          simp only [List.take_succ_cons, List.take_zero, List.drop_succ_cons, List.drop_zero]
          still_step
          still_step
          still_step
          still_step
          still_step
          still_step
          refine wpStill_nil ?_
          go_wp2_with fail
          refine (PU2.out _ GQ.out.drew).mono ?_
          rintro ex u5 ⟨rfl, hv2, H2, nb5⟩
          have NB5 : Aside (NxB 66 69 w W6 hb g gp np cp 3 (.func (.func K) #[] #[]) (.slice (some ⟨g, 0, none⟩) n cap) pv key H1 P1 (j + 1) hv2 H2 u5) := nb5
          clear nb5 PU2 q1 q2 EQ
          go_wp2_with fail
          go_roundg (np - (j + 1))
          case measure => omega
          case rel => exact ⟨j + 1, hv2, H2, by go_num, by omega, Nat.le_refl _, NB5⟩
        · have ej : j = np := by omega
          subst ej
          have jl' : ¬ ((j : Int) < (j : Int)) := by omega
          clear PUS
          have b5 := (BX.out _ NB.out.bx).1
          have k2 := blkc (o := 2) b5 rfl
          have yb0 : 0 < yn := by rw [← YN.out, YL.out]; simp
          have kb : wS.heap[yb]? = w.heap[yb]? := OLD.out _ NB.out.gx _ (by rw [YV.out] at xbl; exact xbl)
          have xe := xel.keep (w' := wS) (by rw [YV.out]; exact kb)
          rw [YV.out] at xe
          have PMF : Aside (Hc.Perm (H1 ++ P1.flatMap (fun h => hd1 key h.i (adv 3 h.s)))) := by
            have := NB.out.pm
            rw [List.take_of_length_le (by rw [NP.out]; exact Nat.le_refl _)] at this
            exact this
          have POST : Hid (∀ W9, Gx (fun q => q = w.heap.size) wS W9 → NextR 66 69 w hb K 3 (.slice (some ⟨g, 0, none⟩) n cap) pv H key encE (.agg #[.int .u64 0, .int .u64 0, .bool false]) (.returned (.tuple #[encE x, .bool true])) W9) := fun W9 g9 => by
            obtain ⟨f1, f2, f3⟩ := NB.out.fin g9 W6L.out
            refine ⟨fun e => ?_, fun _ => ⟨x, t, hv', _, Hc, P1, H1, by rw [YV.out]; exact YL.out, rfl, PPM.out, fun p hp => by rw [YV.out]; exact PPK.out p hp, fun p hp => by rw [YV.out]; exact EX.out.2 p hp, PMF.out, NB.out.ho, f1, f2, f3⟩⟩
            rw [e] at PPM
            have := PPM.out.length_eq
            rw [List.length_append, NP.out] at this
            simp at this
            omega
          obtain ⟨xk, xv, xg⟩ := x
          obtain ⟨r0, r1, r2⟩ : wS.cell? ⟨yb, yo, none⟩ = some (.int .u64 xk) ∧ wS.cell? ⟨yb, yo + 1, none⟩ = some (.int .u64 xv) ∧ wS.cell? ⟨yb, yo + 2, none⟩ = some (.bool xg) := by
            have := xe 0 _ (by show yl[0]? = _; rw [YL.out]; rfl)
            simpa using this
          have b2 := (BX.out _ NB.out.bx).2
          obtain ⟨W9, E9⟩ : ∃ W9, ((wS.setCell ⟨w.heap.size, 0, none⟩ (.int .u64 xk)).setCell ⟨w.heap.size, 1, none⟩ (.int .u64 xv)).setCell ⟨w.heap.size, 2, none⟩ (.bool xg) = W9 := ⟨_, rfl⟩
          have b9 : W9.heap[w.heap.size]? = some (.cells #[.int .u64 xk, .int .u64 xv, .bool xg] 36 (0, 0)) := by
            rw [← E9]
            have := blk_set (o := 2) (blk_set (o := 1) (blk_set (o := 0) b2 (.int .u64 xk)) (.int .u64 xv)) (.bool xg)
            simpa using this
          have PO9 : Aside _ := POST.out W9 (by rw [← E9]; exact (((Gx.refl (fun q => q = w.heap.size) wS).set (.inl rfl) _ _).set (.inl rfl) _ _).set (.inl rfl) _ _)
          have j0 := blkc (o := 0) b2 rfl
          have j1 := blkc (o := 1) b2 rfl
          have j2 := blkc (o := 2) b2 rfl
          have jf0 := blkf (o := 0) b2
          have jf1 := blkf (o := 1) b2
          have jf2 := blkf (o := 2) b2
          have y0 := blkc (o := 0) b9 rfl
          have y1 := blkc (o := 1) b9 rfl
          have y2 := blkc (o := 2) b9 rfl
          have lw : w.heap.size < wS.heap.size := blkl b2
          clear POST b2 b9
          clear NB PMF xe b5 BX OLD
          go_wp2_with fail
          refine bodyPost_ret (v := .tuple #[.agg #[.int .u64 xk, .int .u64 xv, .bool xg], .bool true]) (by simp [results, Try.results31, go_sem, y0, y1, y2]) rfl PO9.out
end Go.Proofs.Ytnkcnfpbbdlifab
