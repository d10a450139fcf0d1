/- Layer 14: of each key the last entry. -/
import Derived.Test.YtkofbjdgidaieaaQLaw2
import Derived.Test.YtkofbjdgidaieaaQLastP
namespace Go.Proofs.Ytkofbjdgidaieaa
open Go.RowKit
set_option linter.unusedVariables false

theorem gd_cases (e : Ent) : (e.g = false ∧ gd e = true) ∨ (e.g = true ∧ ((e.v : Int) == 0) = true ∧ gd e = true) ∨ (e.g = true ∧ ((e.v : Int) == 0) = false ∧ gd e = false) := by
  unfold gd
  cases e.g with
  | false => exact .inl ⟨rfl, rfl⟩
  | true =>
    cases h : ((e.v : Int) == 0) with
    | true => exact .inr (.inl ⟨rfl, rfl, rfl⟩)
    | false => exact .inr (.inr ⟨rfl, rfl, rfl⟩)
set_option maxRecDepth 20000 in
set_option maxHeartbeats 16000000 in
theorem last_walk (ao : Option Addr) (c : Nat) (l : List Ent) (hn : l.length ≤ 2000000) (w : World) (h : EL w ao l) :
    Calls Try.prog 4 #[.slice ao l.length c] w fun e w' => e = .returned (.bool true) ∧ Gw w w' := by
  have SC : Aside (EL w ao l) := h
  obtain ⟨n, hln⟩ : ∃ n, l.length = n := ⟨_, rfl⟩
  have LN : Aside (l.length = n) := hln
  rw [hln] at hn ⊢
  have CELL : Hid (∀ (W : World) (i : Nat), i < n → Gw w W → ∃ (b off : Nat) (y : Ent), ao = some ⟨b, off, none⟩ ∧ l[i]? = some y ∧ W.cell? ⟨b, off + i * 3, none⟩ = some (.int .u64 y.k) ∧ W.cell? ⟨b, off + i * 3 + 1, none⟩ = some (.int .u64 y.v) ∧ W.cell? ⟨b, off + i * 3 + 2, none⟩ = some (.bool y.g) ∧ b < W.heap.size) := fun W i hi g => by
    have hi' : i < l.length := by rw [LN.out]; exact hi
    obtain ⟨b, off, e, hb, hc⟩ := (SC.out.gw g).cells (by omega)
    obtain ⟨c0, c1, c2⟩ := hc i hi'
    exact ⟨b, off, l.getD i ent0, e, by simp [List.getD, hi'], c0, c1, c2, hb⟩
  have hqb : ∀ (b : Nat) (W : World), (binOp .eql 24 (.pointer (some ⟨b, 0, none⟩)) (.pointer none)).run Try.prog W = .ok (.bool false) W := fun _ _ => by kernel_rfl
  obtain ⟨BF1, BF2, BF3⟩ := bldL_facts l
  have FR : Aside (Rise Ent.k (bldL l)) := BF1
  have FK : Aside (∀ k, look Ent.k k (bldL l) = lastK k l) := BF2
  have FN : Aside ((bldL l).length ≤ n) := by show _ ≤ _; rw [← hln]; exact BF3
  clear h hln BF1 BF2 BF3
  go_enter Try.func4, Try.ntmps4
  go_wp2_with fail
  refine (shown14 w).mono ?_
  rintro ex w1 ⟨rfl, g1⟩
  have G1 : Aside (Gw w w1) := g1
  clear g1
  have nw : IntKind.i64.wrap ((n : Int) + 1) = (n : Int) + 1 := by rw [IntKind.wrap_i64]; omega
  go_wp2_with fail
  refine (new14_ok ((n : Int) + 1) (by omega) (by omega) w1).mono ?_
  rintro ex w2 ⟨⟨rfl, h2⟩, g2⟩
  obtain ⟨p, hp⟩ : ∃ p, w1.heap.size = p := ⟨_, rfl⟩
  rw [hp] at h2 ⊢
  have H2 : Aside (HB 53 w2 p (fun q => q = p) ((n : Int) + 1) []) := h2
  have G2 : Aside (Gw w w2) := G1.out.trans g2
  have N1 : Aside (w.heap.size ≤ p) := by show _ ≤ _; rw [← hp]; exact G1.out.size
  clear h2 g2 G1 hp
  go_wp2_with fail
  go_loopg [6] n (fun gg s6 wr => ∃ (i : Nat) (S : Nat → Prop), s6 = .int .i64 (i : Int) ∧ i ≤ n ∧ n - i ≤ gg ∧ Aside (HB 53 wr p S ((n : Int) + 1) (bldL (l.take i))) ∧ Aside (∀ q, S q → w.heap.size ≤ q) ∧ Aside (Gw w wr))
  case atStart => exact ⟨0, _, rfl, Nat.zero_le _, by omega, (by show HB _ _ _ _ _ _; simpa [bldL] using H2.out), (show Aside _ from fun q hq => by rw [show q = p from hq]; exact N1.out), G2⟩
  case round =>
    clear H2 G2
    obtain ⟨i, S, rfl, a1, a2, H, NS, G⟩ := hrel
    by_cases hlt : i < n
    · have hlt' : (i : Int) < (n : Int) := by omega
      obtain ⟨sb, soff, y, eao, hy, c0, c1, c2, sl⟩ := CELL.out wr i hlt G.out
      subst eao
      have TK : Aside (bldL (l.take (i + 1)) = stepL (bldL (l.take i)) y) := by show _ = _; rw [take_snoc hy, bldL_snoc]
      have ok : y.ok := SC.out.all y (List.mem_of_getElem? hy)
      have few : (bldL (l.take i)).length ≤ i := by have := (bldL_facts (l.take i)).2.2; simp at this; omega
      have PR := putR_step (most := (n : Int) + 1) (a := bldL (l.take i)) (e := y) (by omega)
      have PU : Hid (Calls Try.prog 12 #[.pointer (some ⟨p, 0, none⟩), .agg #[.int .u64 y.k, .int .u64 y.v, .bool y.g]] wr fun ex w' => ex = .returned (.int .i64 (if gd y = true then 0 else 31)) ∧ PutOut 53 wr w' p S ((n : Int) + 1) (bldL (l.take (i + 1)))) := by
        have := put14 p S ((n : Int) + 1) (bldL (l.take i)) y (by omega) ok wr H.out
        rw [PR, ← TK.out] at this; exact this
      have CL2 : Hid (∀ W, Gw w W → W.cell? ⟨sb, soff + i * 3, none⟩ = some (.int .u64 y.k) ∧ W.cell? ⟨sb, soff + i * 3 + 1, none⟩ = some (.int .u64 y.v) ∧ W.cell? ⟨sb, soff + i * 3 + 2, none⟩ = some (.bool y.g)) := fun W g => by
        obtain ⟨b', off', y', e1, e2, e3, e4, e5, _⟩ := CELL.out W i hlt g
        cases e1
        rw [hy] at e2
        cases e2
        exact ⟨e3, e4, e5⟩
      have GDC := gd_cases y
      clear hy ok few PR TK
      obtain ⟨yk, yv, yg⟩ := y
      simp only at c0 c1 c2 PU CL2 GDC
      rcases GDC with ⟨rfl, gt⟩ | ⟨rfl, vz, gt⟩ | ⟨rfl, vz, gt⟩
      · rw [gt] at PU
        simp only [if_pos] at PU
        clear gt
        go_wp2_with fail
        refine PU.out.mono ?_
        rintro ex w3 ⟨rfl, S', o3, g3, s3⟩
        have H3 : Aside (HB 53 w3 p S' ((n : Int) + 1) (bldL (l.take (i + 1)))) := o3
        have G3 : Aside (Gw w w3) := Gx.gw G.out g3 NS.out
        have NS3 : Aside (∀ q, S' q → w.heap.size ≤ q) := fun q hq => (s3 q hq).elim (NS.out q) (fun x => Nat.le_trans G.out.size x)
        obtain ⟨d0, d1, d2⟩ := CL2.out w3 G3.out
        clear o3 g3 s3 H NS G PU CL2 c0 c1 c2
        go_wp2_with fail
        go_roundg (n - (i + 1))
        case measure => omega
        case rel => exact ⟨i + 1, S', by go_num, by omega, Nat.le_refl _, H3, NS3, G3⟩
      · rw [gt] at PU
        simp only [if_pos] at PU
        clear gt
        go_wp2_with fail
        refine PU.out.mono ?_
        rintro ex w3 ⟨rfl, S', o3, g3, s3⟩
        have H3 : Aside (HB 53 w3 p S' ((n : Int) + 1) (bldL (l.take (i + 1)))) := o3
        have G3 : Aside (Gw w w3) := Gx.gw G.out g3 NS.out
        have NS3 : Aside (∀ q, S' q → w.heap.size ≤ q) := fun q hq => (s3 q hq).elim (NS.out q) (fun x => Nat.le_trans G.out.size x)
        obtain ⟨d0, d1, d2⟩ := CL2.out w3 G3.out
        clear o3 g3 s3 H NS G PU CL2 c0 c1 c2
        go_wp2_with fail
        go_roundg (n - (i + 1))
        case measure => omega
        case rel => exact ⟨i + 1, S', by go_num, by omega, Nat.le_refl _, H3, NS3, G3⟩
      · rw [gt] at PU
        simp only [Bool.false_eq_true, if_false] at PU
        clear gt
        go_wp2_with fail
        refine PU.out.mono ?_
        rintro ex w3 ⟨rfl, S', o3, g3, s3⟩
        have H3 : Aside (HB 53 w3 p S' ((n : Int) + 1) (bldL (l.take (i + 1)))) := o3
        have G3 : Aside (Gw w w3) := Gx.gw G.out g3 NS.out
        have NS3 : Aside (∀ q, S' q → w.heap.size ≤ q) := fun q hq => (s3 q hq).elim (NS.out q) (fun x => Nat.le_trans G.out.size x)
        obtain ⟨d0, d1, d2⟩ := CL2.out w3 G3.out
        clear o3 g3 s3 H NS G PU CL2 c0 c1 c2
        go_wp2_with fail
        go_roundg (n - (i + 1))
        case measure => omega
        case rel => exact ⟨i + 1, S', by go_num, by omega, Nat.le_refl _, H3, NS3, G3⟩
    · have ei : n = i := by omega
      subst ei
      have TT : l.take n = l := List.take_of_length_le (by rw [LN.out]; exact Nat.le_refl _)
      rw [TT] at H
      clear TT
      have M0 : Aside ((bldL l).length ≤ n) := FN
      obtain ⟨A, hA⟩ : ∃ A, bldL l = A := ⟨_, rfl⟩
      have AT : Aside (∀ j z, A[j]? = some z → lastK z.k l = some z) := fun j z hz => by rw [← hA] at hz; exact bldL_at hz
      rw [hA] at H FR FK FN M0
      clear hA M0
      obtain ⟨m, hm⟩ : ∃ m, A.length = m := ⟨_, rfl⟩
      have AN : Aside (A.length = m) := hm
      have mi : m ≤ n := by rw [← hm]; exact FN.out
      clear hm
      go_wp2_with fail
      refine (list14 p S ((n : Int) + 1) A (by rw [AN.out]; omega) wr H.out).mono ?_
      rintro ex w3 ⟨⟨v, rfl, o3⟩, g3⟩
      obtain ⟨vo, vc, vev, hvc⟩ := eo_shape_n o3 AN.out
      subst vev
      have G3 : Aside (Gw w w3) := G.out.trans g3
      have H3 : Aside (HB 53 w3 p S ((n : Int) + 1) A) := H.out.gw g3
      have AC : Hid (∀ (W : World) (j : Nat), j < m → Gw w3 W → ∃ (b : Nat) (z : Ent), vo = some ⟨b, 0, none⟩ ∧ A[j]? = some z ∧ W.cell? ⟨b, j * 3, none⟩ = some (.int .u64 z.k) ∧ W.cell? ⟨b, j * 3 + 1, none⟩ = some (.int .u64 z.v) ∧ W.cell? ⟨b, j * 3 + 2, none⟩ = some (.bool z.g) ∧ b < W.heap.size) := fun W j hj g => by
        obtain ⟨b, eb, _, bl, _, cc⟩ := eo_form (eo_gw o3 g) AN.out (by omega)
        obtain ⟨c0, c1, c2⟩ := cc j hj
        exact ⟨b, A.getD j ent0, eb, by simp [List.getD, show j < A.length by rw [AN.out]; exact hj], c0, c1, c2, bl⟩
      clear o3 g3 H G NS a1 a2
      go_wp2_with fail
      go_loopg [9] m (fun gg s9 wr => ∃ (j : Nat), s9 = .int .i64 (j : Int) ∧ j ≤ m ∧ m - j ≤ gg ∧ Aside (Gw w3 wr))
      case atStart => exact ⟨0, rfl, Nat.zero_le _, by omega, (show Aside _ from Gw.refl w3)⟩
      case round =>
        obtain ⟨j, rfl, b1, b2, GR⟩ := hrel
        obtain ⟨wo, hwo⟩ : ∃ wx, wx = wr := ⟨_, rfl⟩
        subst hwo
        by_cases jlt : j < m
        · have jlt' : (j : Int) < (m : Int) := by omega
          obtain ⟨⟨zk, zv, zg⟩, hz⟩ : ∃ z, A[j]? = some z := ⟨_, List.getElem?_eq_getElem (by rw [AN.out]; exact jlt)⟩
          have LAST : Aside (lastK zk l = some ⟨zk, zv, zg⟩) := AT.out j _ hz
          have ZC : Hid (∀ W, Gw w3 W → ∃ b, vo = some ⟨b, 0, none⟩ ∧ W.cell? ⟨b, j * 3, none⟩ = some (.int .u64 zk) ∧ W.cell? ⟨b, j * 3 + 1, none⟩ = some (.int .u64 zv) ∧ W.cell? ⟨b, j * 3 + 2, none⟩ = some (.bool zg)) := fun W g => by
            obtain ⟨b, z', e1, e2, e3, e4, e5, _⟩ := AC.out W j jlt g
            rw [hz] at e2
            cases e2
            exact ⟨b, e1, e3, e4, e5⟩
          have ZP : Hid (0 < j → ∀ W, Gw w3 W → ∃ (b : Nat) (y : Ent), vo = some ⟨b, 0, none⟩ ∧ y.k < zk ∧ W.cell? ⟨b, (j - 1) * 3, none⟩ = some (.int .u64 y.k)) := fun h0 W g => by
            obtain ⟨b, y, e1, e2, e3, _⟩ := AC.out W (j - 1) (by omega) g
            obtain ⟨i1, i2⟩ := List.getElem?_eq_some_iff.1 e2
            obtain ⟨j1, j2⟩ := List.getElem?_eq_some_iff.1 hz
            have := (List.pairwise_iff_getElem.1 FR.out) (j - 1) j i1 j1 (by omega)
            rw [i2, j2] at this
            exact ⟨b, y, e1, this, e3⟩
          obtain ⟨bq, hbq⟩ : ∃ b, wo.heap.size = b := ⟨_, rfl⟩
          have HBQ : Aside (wo.heap.size = bq) := hbq
          have BX0 : Aside ((wo.alloc (.cells #[.int .u64 0, .int .u64 0, .bool false] 35)).heap[bq]? = some (.cells #[.int .u64 0, .int .u64 0, .bool false] 35 (0, 0))) := by show _ = _; rw [← hbq]; exact heap_alloc_new _ _
          have GB0 : Aside (Gw wo (wo.alloc (.cells #[.int .u64 0, .int .u64 0, .bool false] 35))) := (Gw.refl wo).alloc _ _
          clear hz hbq
          go_wp2_with fail
          rw [HBQ.out]
          generalize wo.alloc (.cells #[.int .u64 0, .int .u64 0, .bool false] 35) = wb at BX0 GB0 ⊢
          go_loopg [11, 12] n (fun gg s11 s12 wr => ∃ (k : Nat), s11 = .bool (lastK zk (l.take k)).isSome ∧ s12 = .int .i64 (k : Int) ∧ k ≤ n ∧ n - k ≤ gg ∧ Aside (wr.heap[bq]? = some (.cells #[.int .u64 ((lastK zk (l.take k)).getD ent0).k, .int .u64 ((lastK zk (l.take k)).getD ent0).v, .bool ((lastK zk (l.take k)).getD ent0).g] 35 (0, 0))) ∧ Aside (Gw wo wr))
          case atStart => exact ⟨0, rfl, rfl, Nat.zero_le _, by omega, BX0, GB0⟩
          case round =>
            clear BX0 GB0
            obtain ⟨k, rfl, rfl, d1, d2, BXK, GK⟩ := hrel
            have GwK : Aside (Gw w wr) := (G3.out.trans GR.out).trans GK.out
            obtain ⟨ab, eab, e0, e1, e2⟩ := ZC.out wr (GR.out.trans GK.out)
            subst eab
            by_cases klt : k < n
            · have klt' : (k : Int) < (n : Int) := by omega
              obtain ⟨sb, soff, y, eao, hy, c0, c1, c2, sl⟩ := CELL.out wr k klt GwK.out
              subst eao
              have LKC : lastK zk (l.take (k + 1)) = if y.k = zk ∧ gd y = true then some y else lastK zk (l.take k) := by rw [take_snoc hy, lastK_snoc]
              have GDC := gd_cases y
              generalize lastK zk (l.take k) = o at LKC BXK ⊢
              clear hy
              obtain ⟨yk, yv, yg⟩ := y
              have c0' : wr.cell? ⟨sb, soff + k * 3, none⟩ = some (.int .u64 yk) := c0
              have c1' : wr.cell? ⟨sb, soff + k * 3 + 1, none⟩ = some (.int .u64 yv) := c1
              have c2' : wr.cell? ⟨sb, soff + k * 3 + 2, none⟩ = some (.bool yg) := c2
              simp only at LKC GDC
              clear c0 c1 c2 e1 e2
              by_cases ke : yk = zk
              · subst ke
                rcases GDC with ⟨rfl, gt⟩ | ⟨rfl, vz, gt⟩ | ⟨rfl, vz, gt⟩
                · have LK' : Aside (lastK yk (l.take (k + 1)) = some ⟨yk, yv, false⟩) := by show _ = _; rw [LKC, if_pos ⟨rfl, gt⟩]
                  have BN := blk_set (o := 2) (v := .bool false) (blk_set (o := 1) (v := .int .u64 yv) (blk_set (o := 0) (v := .int .u64 yk) BXK.out))
                  have BNA : Aside _ := BN
                  have m0 := blkc (o := 0) BXK.out rfl
                  have m1 := blkc (o := 1) BXK.out rfl
                  have m2 := blkc (o := 2) BXK.out rfl
                  have z0 := blkf (o := 0) BXK.out
                  have z1 := blkf (o := 1) BXK.out
                  have z2 := blkf (o := 2) BXK.out
                  have bl := blkl BXK.out
                  clear LKC BN
                  go_wp2_with fail
                  go_quiet (fail)
                  go_wp2_with fail
                  go_roundg (n - (k + 1))
                  case measure => omega
                  case rel => exact ⟨k + 1, by rw [LK'.out]; rfl, by go_num, by omega, Nat.le_refl _, (by rw [LK'.out]; exact BNA.out), (show Aside _ from (((GK.out.drewN _).setCell (Nat.le_of_eq HBQ.out) _).setCell (Nat.le_of_eq HBQ.out) _).setCell (Nat.le_of_eq HBQ.out) _)⟩
                · have LK' : Aside (lastK yk (l.take (k + 1)) = some ⟨yk, yv, true⟩) := by show _ = _; rw [LKC, if_pos ⟨rfl, gt⟩]
                  have BN := blk_set (o := 2) (v := .bool true) (blk_set (o := 1) (v := .int .u64 yv) (blk_set (o := 0) (v := .int .u64 yk) BXK.out))
                  have BNA : Aside _ := BN
                  have m0 := blkc (o := 0) BXK.out rfl
                  have m1 := blkc (o := 1) BXK.out rfl
                  have m2 := blkc (o := 2) BXK.out rfl
                  have z0 := blkf (o := 0) BXK.out
                  have z1 := blkf (o := 1) BXK.out
                  have z2 := blkf (o := 2) BXK.out
                  have bl := blkl BXK.out
                  clear LKC BN
                  go_wp2_with fail
                  go_quiet (fail)
                  go_wp2_with fail
                  go_roundg (n - (k + 1))
                  case measure => omega
                  case rel => exact ⟨k + 1, by rw [LK'.out]; rfl, by go_num, by omega, Nat.le_refl _, (by rw [LK'.out]; exact BNA.out), (show Aside _ from (((GK.out.drewN _).setCell (Nat.le_of_eq HBQ.out) _).setCell (Nat.le_of_eq HBQ.out) _).setCell (Nat.le_of_eq HBQ.out) _)⟩
                · have LK' : Aside (lastK yk (l.take (k + 1)) = o) := by show _ = _; rw [LKC, if_neg (fun q => by rw [gt] at q; cases q.2)]
                  clear LKC
                  go_wp2_with fail
                  go_quiet (fail)
                  go_wp2_with fail
                  go_roundg (n - (k + 1))
                  case measure => omega
                  case rel => exact ⟨k + 1, by rw [LK'.out], by go_num, by omega, Nat.le_refl _, (by rw [LK'.out]; exact BXK.out), (show Aside _ from GK.out.drewN _)⟩
              · have ke' : (yk == zk) = false := by simpa using ke
                have LK' : Aside (lastK zk (l.take (k + 1)) = o) := by show _ = _; rw [LKC, if_neg (fun q => ke q.1)]
                clear ke LKC GDC
                go_wp2_with fail
                go_quiet (fail)
                go_wp2_with fail
                go_roundg (n - (k + 1))
                case measure => omega
                case rel => exact ⟨k + 1, by rw [LK'.out], by go_num, by omega, Nat.le_refl _, (by rw [LK'.out]; exact BXK.out), (show Aside _ from GK.out.drewN _)⟩
            · have ek : n = k := by omega
              subst ek
              have BXZ : Aside (wr.heap[bq]? = some (.cells #[.int .u64 zk, .int .u64 zv, .bool zg] 35 (0, 0))) := by
                have := BXK.out
                rw [List.take_of_length_le (by rw [LN.out]; exact Nat.le_refl _), LAST.out] at this
                exact this
              have SOM : (lastK zk (l.take n)).isSome = true := by rw [List.take_of_length_le (by rw [LN.out]; exact Nat.le_refl _), LAST.out]; rfl
              rw [SOM]
              have m0 : wr.cell? ⟨bq, 0, none⟩ = some (.int .u64 zk) := blkc BXZ.out rfl
              have m1 : wr.cell? ⟨bq, 1, none⟩ = some (.int .u64 zv) := blkc BXZ.out rfl
              have m2 : wr.cell? ⟨bq, 2, none⟩ = some (.bool zg) := blkc BXZ.out rfl
              have bl := blkl BXZ.out
              clear SOM BXK BXZ
              by_cases j0 : 0 < j
              · obtain ⟨ab', y, eab, ylt, f0⟩ := ZP.out j0 wr (GR.out.trans GK.out)
                cases eab
                obtain ⟨yk, yv, yg⟩ := y
                have f0' : wr.cell? ⟨ab, (j - 1) * 3, none⟩ = some (.int .u64 yk) := f0
                have jp : decide ((0 : Int) < (j : Int)) = true := by simp; omega
                have jw : IntKind.i64.wrap ((j : Int) - 1) = ((j - 1 : Nat) : Int) := by rw [IntKind.wrap_i64]; omega
                have jl : ((j - 1 : Nat) : Int) < (m : Int) := by omega
                have jn : j - 1 < m := by omega
                have kl : decide (zk ≤ yk) = false := by simp; exact ylt
                clear f0 ylt ZP
                go_wp2_with fail
                go_quiet (fail)
                go_wp2_with fail
                go_roundg (m - (j + 1))
                case measure => omega
                case rel => exact ⟨j + 1, by go_num, by omega, Nat.le_refl _, (show Aside _ from GR.out.trans (GK.out.drewN _))⟩
              · have je : j = 0 := by omega
                subst je
                clear ZP
                go_wp2_with fail
                go_quiet (fail)
                go_wp2_with fail
                go_roundg (m - (0 + 1))
                case measure => omega
                case rel => exact ⟨0 + 1, by go_num, by omega, Nat.le_refl _, (show Aside _ from GR.out.trans (GK.out.drewN _))⟩
        · have ej : m = j := by omega
          subst ej
          clear AC AT FR
          have LE : Hid (∀ W, Gw w3 W → Calls Try.prog 21 #[.pointer (some ⟨p, 0, none⟩)] W fun e w' => e = .returned (.int .i64 (m : Int)) ∧ Gw W w') := fun W g => by
            have := len14 p S ((n : Int) + 1) A W (H3.out.gw g)
            rw [AN.out] at this; exact this
          have FU : Hid (∀ W, Gw w3 W → Calls Try.prog 22 #[.pointer (some ⟨p, 0, none⟩)] W fun e w' => e = .returned (.bool false) ∧ Gw W w') := fun W g => by
            have := full14 p S ((n : Int) + 1) A W (H3.out.gw g)
            rw [AN.out, show ((m : Int) == (n : Int) + 1) = false by simp; omega] at this; exact this
          go_wp2_with fail
          go_loopg [13] n (fun gg s13 wr => ∃ (i : Nat), s13 = .int .i64 (i : Int) ∧ i ≤ n ∧ n - i ≤ gg ∧ Aside (Gw w3 wr))
          case atStart => exact ⟨0, rfl, Nat.zero_le _, by omega, GR⟩
          case round =>
            clear GR
            obtain ⟨i, rfl, b1, b2, GR⟩ := hrel
            obtain ⟨wo, hwo⟩ : ∃ wx, wx = wr := ⟨_, rfl⟩
            subst hwo
            by_cases ilt : i < n
            · have ilt' : (i : Int) < (n : Int) := by omega
              obtain ⟨sb, soff, y, eao, hy, c0, c1, c2, sl⟩ := CELL.out wo i ilt (G3.out.trans GR.out)
              subst eao
              obtain ⟨yk, yv, yg⟩ := y
              have YC : Hid (∀ W, Gw w W → W.cell? ⟨sb, soff + i * 3, none⟩ = some (.int .u64 yk)) := fun W g => by
                obtain ⟨b', off', y', e1, e2, e3, _⟩ := CELL.out W i ilt g
                cases e1
                rw [hy] at e2
                cases e2
                exact e3
              obtain ⟨o, ho⟩ : ∃ o, lastK yk l = o := ⟨_, rfl⟩
              have GET : Hid (∀ W, Gw w3 W → Calls Try.prog 20 #[.pointer (some ⟨p, 0, none⟩), .int .u64 yk] W fun e w' => e = .returned (.tuple #[.agg #[.int .u64 (o.getD ent0).k, .int .u64 (o.getD ent0).v, .bool (o.getD ent0).g], .bool o.isSome]) ∧ Gw W w') := fun W g => by
                have := get14 p S ((n : Int) + 1) A yk (by rw [AN.out]; omega) W (H3.out.gw g)
                rw [FK.out, ho] at this; exact this
              have OB : Aside (o.isSome = anyK yk l) := by show _ = _; rw [← ho]; exact anyK_last yk l
              have OE : Aside (o.isSome = true → (o.getD ent0).k = yk) := fun q => by
                cases o with
                | none => cases q
                | some x => exact lastK_key ho
              have c0' : wo.cell? ⟨sb, soff + i * 3, none⟩ = some (.int .u64 yk) := c0
              clear ho hy c0 c1 c2
              generalize o.isSome = ob at GET OB OE
              generalize o.getD ent0 = oe at GET OE
              obtain ⟨ok, ov, og⟩ := oe
              have OE' : Aside (ob = true → ok = yk) := OE
              clear OE
              go_wp2_with fail
              refine (GET.out _ GR.out).mono ?_
              rintro ex w4 ⟨rfl, g4⟩
              obtain ⟨bq, hbq⟩ : ∃ b, w4.heap.size = b := ⟨_, rfl⟩
              have BX0 : Aside ((w4.alloc (.cells #[.int .u64 ok, .int .u64 ov, .bool og] 35)).heap[bq]? = some (.cells #[.int .u64 ok, .int .u64 ov, .bool og] 35 (0, 0))) := by show _ = _; rw [← hbq]; exact heap_alloc_new _ _
              have GB0 : Aside (Gw w3 (w4.alloc (.cells #[.int .u64 ok, .int .u64 ov, .bool og] 35))) := (GR.out.trans g4).alloc _ _
              have HBQ : Aside (w4.heap.size = bq) := hbq
              clear g4 GET hbq
              go_wp2_with fail
              rw [HBQ.out]
              generalize w4.alloc (.cells #[.int .u64 ok, .int .u64 ov, .bool og] 35) = w5 at BX0 GB0 ⊢
              go_loopg [16, 17] n (fun gg s16 s17 wr => ∃ (k : Nat), s16 = .bool (anyK yk (l.take k)) ∧ s17 = .int .i64 (k : Int) ∧ k ≤ n ∧ n - k ≤ gg ∧ Aside (Gw w5 wr))
              case atStart => exact ⟨0, rfl, rfl, Nat.zero_le _, by omega, (show Aside _ from Gw.refl w5)⟩
              case round =>
                obtain ⟨k, rfl, rfl, d1, d2, GK⟩ := hrel
                have GwK : Aside (Gw w wr) := G3.out.trans (GB0.out.trans GK.out)
                have y0 := YC.out wr GwK.out
                by_cases klt : k < n
                · have klt' : (k : Int) < (n : Int) := by omega
                  obtain ⟨sb', soff', u, eao, hu, c0, c1, c2, sl'⟩ := CELL.out wr k klt GwK.out
                  cases eao
                  have AKC : anyK yk (l.take (k + 1)) = (anyK yk (l.take k) || (u.k == yk && gd u)) := by rw [take_snoc hu, anyK_snoc]
                  have GDC := gd_cases u
                  generalize anyK yk (l.take k) = b at AKC ⊢
                  clear hu
                  obtain ⟨uk, uv, ug⟩ := u
                  have c0' : wr.cell? ⟨sb, soff + k * 3, none⟩ = some (.int .u64 uk) := c0
                  have c1' : wr.cell? ⟨sb, soff + k * 3 + 1, none⟩ = some (.int .u64 uv) := c1
                  have c2' : wr.cell? ⟨sb, soff + k * 3 + 2, none⟩ = some (.bool ug) := c2
                  simp only at AKC GDC
                  clear c0 c1 c2
                  cases b with
                  | true =>
                    have AK' : Aside (anyK yk (l.take (k + 1)) = true) := by show _ = _; rw [AKC]; rfl
                    clear AKC
                    go_wp2_with fail
                    go_quiet (fail)
                    go_wp2_with fail
                    go_roundg (n - (k + 1))
                    case measure => omega
                    case rel => exact ⟨k + 1, by rw [AK'.out], by go_num, by omega, Nat.le_refl _, (show Aside _ from GK.out.drewN _)⟩
                  | false =>
                    by_cases ke : uk = yk
                    · have ke' : (uk == yk) = true := by simpa using ke
                      rcases GDC with ⟨rfl, gt⟩ | ⟨rfl, vz, gt⟩ | ⟨rfl, vz, gt⟩
                      · have ke2 := ke.symm
                        subst ke2
                        have AK' : Aside (anyK yk (l.take (k + 1)) = true) := by show _ = _; rw [AKC]; rw [ke', gt]; rfl
                        clear AKC
                        go_wp2_with fail
                        go_quiet (fail)
                        go_wp2_with fail
                        go_roundg (n - (k + 1))
                        case measure => omega
                        case rel => exact ⟨k + 1, by rw [AK'.out], by go_num, by omega, Nat.le_refl _, (show Aside _ from GK.out.drewN _)⟩
                      · have ke2 := ke.symm
                        subst ke2
                        have AK' : Aside (anyK yk (l.take (k + 1)) = true) := by show _ = _; rw [AKC]; rw [ke', gt]; rfl
                        clear AKC
                        go_wp2_with fail
                        go_quiet (fail)
                        go_wp2_with fail
                        go_roundg (n - (k + 1))
                        case measure => omega
                        case rel => exact ⟨k + 1, by rw [AK'.out], by go_num, by omega, Nat.le_refl _, (show Aside _ from GK.out.drewN _)⟩
                      · have ke2 := ke.symm
                        subst ke2
                        have AK' : Aside (anyK yk (l.take (k + 1)) = false) := by show _ = _; rw [AKC]; rw [ke', gt]; rfl
                        clear AKC
                        go_wp2_with fail
                        go_quiet (fail)
                        go_wp2_with fail
                        go_roundg (n - (k + 1))
                        case measure => omega
                        case rel => exact ⟨k + 1, by rw [AK'.out], by go_num, by omega, Nat.le_refl _, (show Aside _ from GK.out.drewN _)⟩
                    · have ke' : (uk == yk) = false := by simpa using ke
                      clear ke GDC
                      have AK' : Aside (anyK yk (l.take (k + 1)) = false) := by show _ = _; rw [AKC]; rw [ke']; rfl
                      clear AKC
                      go_wp2_with fail
                      go_quiet (fail)
                      go_wp2_with fail
                      go_roundg (n - (k + 1))
                      case measure => omega
                      case rel => exact ⟨k + 1, by rw [AK'.out], by go_num, by omega, Nat.le_refl _, (show Aside _ from GK.out.drewN _)⟩
                · have ek : n = k := by omega
                  subst ek
                  have PB : anyK yk (l.take n) = ob := by rw [List.take_of_length_le (by rw [LN.out]; exact Nat.le_refl _), OB.out]
                  rw [PB]
                  have m0 : wr.cell? ⟨bq, 0, none⟩ = some (.int .u64 ok) := blkc ((GK.out.below.block bq (blkl BX0.out)).trans BX0.out) rfl
                  have bl : bq < wr.heap.size := Nat.lt_of_lt_of_le (blkl BX0.out) GK.out.size
                  clear PB
                  cases ob with
                  | true =>
                    have oky := OE'.out rfl
                    subst oky
                    go_wp2_with fail
                    go_quiet (fail)
                    go_wp2_with fail
                    go_roundg (n - (i + 1))
                    case measure => omega
                    case rel => exact ⟨i + 1, by go_num, by omega, Nat.le_refl _, (show Aside _ from GB0.out.trans (GK.out.drewN _))⟩
                  | false =>
                    go_wp2_with fail
                    go_quiet (fail)
                    go_wp2_with fail
                    go_roundg (n - (i + 1))
                    case measure => omega
                    case rel => exact ⟨i + 1, by go_num, by omega, Nat.le_refl _, (show Aside _ from GB0.out.trans (GK.out.drewN _))⟩
            · go_wp2_with fail
              refine (LE.out _ GR.out).mono ?_
              rintro ex w4 ⟨rfl, g4⟩
              have G4 : Aside (Gw w3 w4) := GR.out.trans g4
              clear g4 LE
              go_wp2_with fail
              refine (FU.out _ G4.out).mono ?_
              rintro ex w5 ⟨rfl, g5⟩
              have G5 : Aside (Gw w w5) := G3.out.trans (G4.out.trans g5)
              clear g5 FU
              go_wp2_with fail
              go_ret
              exact ⟨rfl, G5.out⟩
end Go.Proofs.Ytkofbjdgidaieaa
