/- JudgePlays. -/
import Derived.Test.YtkojcjfjmlompaaS3WFinds
import Derived.Test.YtkojcjfjmlompaaS3My
namespace Go.Proofs.Ytkojcjfjmlompaa
open Go.RowKit
set_option linter.unusedVariables false
theorem my_first {HJ : World → Nat → (Nat → Prop) → Int → Ps → Prop} (C : JudgeC HJ) {w wB w9 : World} {p j : Nat} {Sp Sj : Nat → Prop} {most : Int} {lp lj : Ps} {bA g m cap : Nat} {L : Ps} {a b c d e f : Value} (pj : PJ HJ w wB p j Sp Sj most lp lj) (lt : ∀ q, Sp q ∨ Sj q → q < bA) (lo : w.heap.size ≤ bA) (gg : Gw wB w9) (b9 : w9.heap[bA]? = some (.cells #[a, b, c, d, e, f] 36 (0, 0))) (row : RowG 44 2 pc2 w9 (bA + 1) g m cap L) (u : Value) : ∃ Sj', MY HJ w (w9.setCell ⟨bA, 5, none⟩ u) p j Sp Sj' most lp lj bA #[a, b, c, d, e, u] g m cap L := by
  obtain ⟨S1, h1, s1⟩ := pj.same C gg
  have gl := row.lt.1
  have gx : Gx (fun q => q = bA) w9 (w9.setCell ⟨bA, 5, none⟩ u) := (Gx.refl (fun q => q = bA) w9).set (.inl rfl) _ _
  obtain ⟨S2, h2, s2⟩ := h1.gx C gx (fun q hq => by
    subst hq
    exact ⟨fun k => Nat.lt_irrefl _ (lt _ (.inl k)), fun k => Nat.lt_irrefl _ (lt _ (.inr (s1 _ k))), lo⟩)
  refine ⟨S2, h2, by simp [World.setCell, Array.getElem?_modify, b9], row.keep (gx.block _ row.lt.2 (by show g ≠ bA; omega)), fun q hq => ?_, lo⟩
  have := lt q (hq.imp id (fun k => s1 q (s2 q k)))
  exact ⟨by omega, by omega⟩
/-- A list that Pairs gave. -/
def QO (w : World) (base : Nat) (bo : Option Addr) (n c : Nat) : Prop := n = 0 ∨ ∃ (g : Nat) (L : Ps), bo = some ⟨g, 0, none⟩ ∧ RowG 44 2 pc2 w base g n c L
theorem QO.of {w : World} {base : Nat} {v : Value} {l : Ps} (h : w.ownsRow base 44 2 v l.length (pcs l)) : ∃ bo c, v = .slice bo l.length c ∧ QO w base bo l.length c ∧ PLr w bo l := by
  obtain ⟨bo, c, rfl, hc, hno, AT⟩ := row_shape h
  refine ⟨bo, c, rfl, ?_, row_ls h⟩
  rcases Nat.eq_zero_or_pos l.length with z | z
  · exact .inl z
  · obtain ⟨g, e, _⟩ := AT 0 l[0] (List.getElem?_eq_getElem z)
    subst e
    exact .inr ⟨g, l, rfl, rfl, h⟩
theorem QO.gw {w w' : World} {base : Nat} {bo : Option Addr} {n c : Nat} (h : QO w base bo n c) (g : Gw w w') : QO w' base bo n c :=
  h.imp id (fun ⟨k, L, e, r⟩ => ⟨k, L, e, r.gw g⟩)
theorem te_boxA {w2 w9 : World} {b : Nat} {o : Obj} (zm : w2.heap.size = b + 1) (r2 : (w2.alloc (.cells #[] 44)).grownBy w9 (some (b + 1))) (h : w2.heap[b]? = some o) : w9.heap[b]? = some o :=
  (r2.block b (by simp; omega) (fun e => by have := Option.some.inj e; omega)).trans ((heap_alloc_old w2 _ (by omega)).trans h)
set_option maxRecDepth 100000 in
set_option maxHeartbeats 8000000 in
theorem plays_walk (HJ : World → Nat → (Nat → Prop) → Int → Ps → Prop) (C : JudgeC HJ) (most : Int) (ao : Option Addr) (ac : Nat) (z : List (Ot × Aw)) (w : World) (hz : z.length ≤ 1048576) (bo : ∀ x ∈ z, BdO x.1 ∧ x.2.L.length ≤ 1048576) (hz0 : SLr w ao z) :
    Calls Try.prog 3 #[.int .i64 most, .slice ao z.length ac] w fun e w' => e = .returned (.bool true) ∧ Gw w w' := by
  have SH : Hid (∀ W, Calls Try.prog 7 #[] W fun e w' => e = .returned (.bool true) ∧ Gw W w') := fun W => shown23 HJ C W
  by_cases q : most < 1 ∨ 4294967296 < most
  · have NP : Hid (∀ W, Calls Try.prog 8 #[.int .i64 most] W fun e w' => e = .returned (.tuple #[.pointer none, .int .i64 1]) ∧ Gw W w') := fun W => C.bad most W q
    have ND : Hid (∀ W, Calls Try.prog 9 #[.int .i64 most] W fun e w' => e = .returned (.tuple #[.pointer none, .int .i64 1]) ∧ w' = W) := fun W => rnew23_no most q W
    have e1 : ∀ W : World, (binOp .eql 24 (.pointer none) (.pointer none)).run Try.prog W = .ok (.bool true) W := fun _ => by kernel_rfl
    have e2 : ∀ W : World, (binOp .eql 28 (.pointer none) (.pointer none)).run Try.prog W = .ok (.bool true) W := fun _ => by kernel_rfl
    clear q hz bo hz0
    go_enter Try.func3, Try.ntmps3
    go_wp2_with fail
    refine (SH.out _).mono ?_
    rintro e w1 ⟨rfl, g1⟩
    have G1 : Hid (Gw w w1) := g1
    clear g1
    dsimp only
    go_wp2_with fail
    refine (NP.out _).mono ?_
    rintro e w2 ⟨rfl, g2⟩
    have G2 : Hid (Gw w w2) := G1.out.trans g2
    clear g2
    dsimp only
    go_wp2_with fail
    refine (ND.out _).mono ?_
    rintro e w3 ⟨rfl, g3⟩
    have G3 : Hid (Gw w w3) := by rw [g3]; exact G2.out
    clear g3
    dsimp only
    go_wp2_with fail
    refine bodyPost_ret (v := .bool true) (by simp [results, Try.results3, go_sem]) rfl ⟨rfl, G3.out⟩
  · have q1 : 1 ≤ most := by omega
    have q2 : most ≤ 4294967296 := by omega
    have NP : Hid (∀ W, Calls Try.prog 8 #[.int .i64 most] W fun e w' => NewJ HJ W w' e most) := fun W => C.new most W q1 q2
    have ND : Hid (∀ W, Calls Try.prog 9 #[.int .i64 most] W fun e w' => e = .returned (.tuple #[.pointer (some ⟨W.heap.size, 0, none⟩), .int .i64 0]) ∧ HPl w' W.heap.size (fun q => q = W.heap.size) most [] ∧ Gw W w') := fun W => rnew23 most q1 q2 W
    obtain ⟨ii, hii, hzi, hsz, hby⟩ := info_parts info_pair
    have BO : Hid (∀ x ∈ z, BdO x.1 ∧ x.2.L.length ≤ 1048576) := bo
    have OH : Hid (SLr w ao z) := hz0
    obtain ⟨n, hn⟩ : ∃ n, z.length = n := ⟨_, rfl⟩
    have LN : Hid (z.length = n) := hn
    rw [hn] at hz ⊢
    clear q q1 q2 bo hz0 hn
    go_enter Try.func3, Try.ntmps3
    go_wp2_with fail
    refine (SH.out _).mono ?_
    rintro e w1 ⟨rfl, g1⟩
    have G1 : Hid (Gw w w1) := g1
    clear g1
    dsimp only
    go_wp2_with fail
    refine (NP.out _).mono ?_
    rintro e w2 ⟨j, Sj, rfl, j1, j2, g2⟩
    have J2 : Hid (HJ w2 j Sj most [] ∧ (∀ q, Sj q → w1.heap.size ≤ q) ∧ Gw w1 w2) := ⟨j1, j2, g2⟩
    clear j1 j2 g2
    dsimp only
    go_wp2_with fail
    refine (ND.out _).mono ?_
    rintro e w3 ⟨rfl, h3, g3⟩
    obtain ⟨Sp, Sj', PJ0⟩ := PJ.new C G1.out J2.out.1 J2.out.2.1 J2.out.2.2 h3 g3
    obtain ⟨p, hp⟩ : ∃ p, w2.heap.size = p := ⟨_, rfl⟩
    rw [hp] at PJ0
    dsimp only
    rw [hp]
    have P0 : Hid (PJ HJ w w3 p j Sp Sj' most (endP most [] ((z.take 0).map Prod.fst)) (endP most [] ((z.take 0).map Prod.fst))) := PJ0
    have e1 : ∀ W : World, (binOp .eql 24 (.pointer (some ⟨j, 0, none⟩)) (.pointer none)).run Try.prog W = .ok (.bool false) W := fun _ => by kernel_rfl
    have e2 : ∀ W : World, (binOp .eql 28 (.pointer (some ⟨p, 0, none⟩)) (.pointer none)).run Try.prog W = .ok (.bool false) W := fun _ => by kernel_rfl
    clear h3 g3 hp PJ0 J2 G1
    go_wp2_with fail
    go_loopg [10] n (fun gg s10 wr => ∃ (i : Nat) (Sp Sj : Nat → Prop), s10 = .int .i64 (i : Int) ∧ i ≤ n ∧ n - i ≤ gg ∧ Hid (PJ HJ w wr p j Sp Sj most (endP most [] ((z.take i).map Prod.fst)) (endP most [] ((z.take i).map Prod.fst))))
    case atStart => exact ⟨0, _, _, rfl, Nat.zero_le _, by omega, P0⟩
    case round =>
      clear P0
      obtain ⟨i, Sp, Sj, rfl, a1, a2, PI⟩ := hrel
      have EL : Hid ((endP most [] ((z.take i).map Prod.fst)).length ≤ 1048576) := by
        have h1 := end_len most ((z.take i).map Prod.fst) []
        rw [List.length_map, List.length_take] at h1
        simp only [List.length_nil] at h1
        show _ ≤ _
        omega
      by_cases ilt : i < n
      · have ilt' : (i : Int) < (n : Int) := by omega
        obtain ⟨x, hx⟩ : ∃ x, z[i]? = some x := ⟨z[i]'(by rw [LN.out]; exact ilt), List.getElem?_eq_getElem _⟩
        have EX : Hid (endP most [] ((z.take (i + 1)).map Prod.fst) = nxtP most (endP most [] ((z.take i).map Prod.fst)) x.1.1 x.1.2.1 x.1.2.2) := end_step most z i x.1 x.2 hx
        have BX : Hid (BdO x.1 ∧ x.2.L.length ≤ 1048576) := BO.out x (List.mem_of_getElem? hx)
        generalize endP most [] ((z.take i).map Prod.fst) = l at EX EL PI
        obtain ⟨ab, af, rfl, hab, hac⟩ := OH.out.cells (by rw [LN.out]; omega)
        obtain ⟨⟨oc0, oc1, oc2⟩, bx, cx, plx, nox, d0, d1, d2, d3, d4, d5⟩ := hac i x hx
        have l1 := len_one l most x.1.1 x.1.2.1 x.1.2.2
        obtain ⟨⟨o1, o2, o3⟩, Ac, Ai, Ak, Av, An, AL⟩ := x
        dsimp only at *
        obtain ⟨m, hm⟩ : ∃ m, AL.length = m := ⟨_, rfl⟩
        have ML : Hid (AL.length = m) := hm
        rw [hm] at d5
        have PX : Hid (PLr w bx AL) := plx
        have NX : Hid (bx = none → m = 0 ∧ cx = 0) := by rw [← hm]; exact nox
        have mb : m ≤ 1048576 := by have := BX.out.2; rw [hm] at this; exact this
        obtain ⟨l', hl'⟩ : ∃ l', nxtP most l o1 o2 o3 = l' := ⟨_, rfl⟩
        rw [hl'] at EX l1
        have L1 : Hid (l'.length ≤ 1048577) := by have := EL.out; show _ ≤ _; omega
        obtain ⟨R, hR⟩ : ∃ R, seeP (ansP most l o1 o2 o3) ⟨Ac, Ai, Ak, Av, An, AL⟩ = R := ⟨_, rfl⟩
        have R5 : Hid (R.length ≤ 5) := by rw [← hR]; exact see_len _ _
        have SEJ : Hid (∀ (wr : World) (Sp Sj : Nat → Prop) (ao : Option Addr) (ca : Nat), PJ HJ w wr p j Sp Sj most l l → PLr wr ao AL → (∀ a, ao = some a → 0 < m → ¬ Sj a.block) → Calls Try.prog 10 #[.pointer (some ⟨j, 0, none⟩), .agg #[.int .i64 o1, .int .u64 o2, .int .u64 o3], .agg #[.int .i64 Ac, .bool Ai, .int .u64 Ak, .int .u64 Av, .int .i64 An, .slice ao m ca]] wr fun e w' => SeK HJ w wr w' e p j Sp Sj most l l' R) := fun wr Sp Sj ao ca h1 h2 h3 => by
          have := h1.see C (o1, o2, o3) BX.out.1 (by have := EL.out; omega) ⟨Ac, Ai, Ak, Av, An, AL⟩ ao ca (by have := BX.out.2; dsimp only; omega) h2 (by dsimp only; rw [hm]; exact h3) wr (Gw.refl wr)
          dsimp only [awV] at this
          rw [hm, hl', hR] at this
          exact this
        have SED : Hid (∀ (wr : World) (Sp Sj : Nat → Prop) (ca : Nat), PJ HJ w wr p j Sp Sj most l l' → Calls Try.prog 11 #[.pointer (some ⟨p, 0, none⟩), .agg #[.int .i64 o1, .int .u64 o2, .int .u64 o3], .agg #[.int .i64 Ac, .bool Ai, .int .u64 Ak, .int .u64 Av, .int .i64 An, .slice bx m ca]] wr fun e w' => SeD HJ w wr w' e p j Sp Sj most l' l' R) := fun wr Sp Sj ca h1 => by
          have := h1.seeD C (o1, o2, o3) BX.out.1 (by have := EL.out; omega) ⟨Ac, Ai, Ak, Av, An, AL⟩ bx ca (by have := BX.out.2; dsimp only; omega) (PX.out.gw h1.gw) (fun a e h0 hs => by
            obtain ⟨b, off, e', hb, _⟩ := PX.out.cells h0
            rw [e] at e'
            cases e'
            have := h1.lo _ (.inl hs)
            dsimp only at this
            omega) wr (Gw.refl wr)
          dsimp only [awV] at this
          rw [hm, hl', hR] at this
          exact this
        have CEL : Hid (∀ W, Gw w W → (W.cell? ⟨ab, af + i * 9, none⟩ = some (.int .i64 o1) ∧ W.cell? ⟨ab, af + i * 9 + 1, none⟩ = some (.int .u64 o2) ∧ W.cell? ⟨ab, af + i * 9 + 2, none⟩ = some (.int .u64 o3)) ∧ W.cell? ⟨ab, af + i * 9 + 3, none⟩ = some (.int .i64 Ac) ∧ W.cell? ⟨ab, af + i * 9 + 3 + 1, none⟩ = some (.bool Ai) ∧ W.cell? ⟨ab, af + i * 9 + 3 + 2, none⟩ = some (.int .u64 Ak) ∧ W.cell? ⟨ab, af + i * 9 + 3 + 3, none⟩ = some (.int .u64 Av) ∧ W.cell? ⟨ab, af + i * 9 + 3 + 4, none⟩ = some (.int .i64 An) ∧ W.cell? ⟨ab, af + i * 9 + 3 + 5, none⟩ = some (.slice bx m cx)) := fun W g => by
          have k := fun j => g.cell ab j hab
          exact ⟨⟨(k _).trans oc0, (k _).trans oc1, (k _).trans oc2⟩, (k _).trans d0, (k _).trans d1, (k _).trans d2, (k _).trans d3, (k _).trans d4, (k _).trans d5⟩
        clear hac hx plx nox hm hl' hR d0 d1 d2 d3 d4 d5 oc0 oc1 oc2 l1
        obtain ⟨⟨oc0, oc1, oc2⟩, d0, d1, d2, d3, d4, d5⟩ := CEL.out wr PI.out.gw
        obtain ⟨wB, hwB⟩ : ∃ wB, wr.alloc (.cells #[.int .i64 Ac, .bool Ai, .int .u64 Ak, .int .u64 Av, .int .i64 An, .slice bx m cx] 36) = wB := ⟨_, rfl⟩
        obtain ⟨bA, hbA⟩ : ∃ bA, wr.heap.size = bA := ⟨_, rfl⟩
        have gB : Gw wr wB := by rw [← hwB]; exact (Gw.refl wr).alloc _ _
        have zB : wB.heap.size = bA + 1 := by rw [← hwB, ← hbA]; simp
        have NB : Hid (wB.heap[bA]? = some (.cells #[.int .i64 Ac, .bool Ai, .int .u64 Ak, .int .u64 Av, .int .i64 An, .slice bx m cx] 36 (0, 0))) := by rw [← hwB, ← hbA]; exact heap_alloc_new wr _
        have GB : Hid (Gw w wB) := PI.out.gw.trans gB
        have R0 : Hid (RowG 44 2 pc2 (wB.alloc (.cells #[] 44)) (bA + 1) (bA + 1) 0 0 []) := RowG.new _ _ _ wB _ _ zB (Nat.le_refl _)
        have e5 : (wB.alloc (.cells #[] 44)).cell? ⟨ab, af + i * 9 + 3 + 5, none⟩ = some (.slice bx m cx) := (CEL.out _ (GB.out.alloc _ _)).2.2.2.2.2.2
        have NWS : Hid (∀ ad, bx = some ad → ∀ j u, (AL.flatMap pc2)[j]? = some u → (wB.alloc (.cells #[] 44)).cell? (ad.add j) = some u) := (PX.out.gw (GB.out.alloc _ _)).news pc2_len (by decide)
        obtain ⟨SjB, pjB, sjB⟩ := PI.out.same C gB
        have PB : Hid (PJ HJ w wB p j Sp SjB most l l ∧ ∀ q, Sp q ∨ SjB q → q < bA) := ⟨pjB, fun q hq => by rw [← hbA]; exact PI.out.lt q (hq.imp id (sjB q))⟩
        clear pjB sjB gB
        go_upto_region 15 with (at_builtin; refine app4_w _ rfl _ _ 34 rfl (bA + 1) 44 ii _ 2 16 Try.underlying34 hii hzi hsz hby rfl (by decide) pc2 pc2_len (bA + 1) 0 0 [] rfl R0.out bx m cx AL rfl NX.out ML.out NWS.out (pcs_one AL) (by simp only [maxLen]; omega) (by omega) ?_; intro g9 cap9 w9 r1 r2 r3; rw [Nat.zero_add] at r1 ⊢; have b9 := te_boxA zB r2 NB.out; have T9 : Hid (RowG 44 2 pc2 w9 (bA + 1) g9 m cap9 AL ∧ w9.heap[bA]? = some (.cells #[.int .i64 Ac, .bool Ai, .int .u64 Ak, .int .u64 Av, .int .i64 An, .slice bx m cx] 36 (0, 0)) ∧ Gw wB w9) := ⟨r1, b9, ((Gw.refl wB).alloc _ _).grown r2 (fun k hk => by cases hk; omega)⟩; have c6 : w9.cell? ⟨bA, 5, none⟩ = some (.slice bx m cx) := blkc b9 rfl; have f6 : w9.frozen? ⟨bA, 5, none⟩ = false := blkf b9; clear r1 r2 r3 b9)
        obtain ⟨wC, hwC⟩ : ∃ wC, w9.setCell ⟨bA, 5, none⟩ (.slice (some ⟨g9, 0, none⟩) m cap9) = wC := ⟨_, rfl⟩
        rw [hwC]
        obtain ⟨SjC, mC⟩ := my_first C PB.out.1 PB.out.2 (by rw [← hbA]; exact PI.out.gw.size) T9.out.2.2 T9.out.2.1 T9.out.1 (.slice (some ⟨g9, 0, none⟩) m cap9)
        rw [hwC] at mC
        obtain ⟨wD, hwD⟩ : ∃ wD, World.drew wC = wD := ⟨_, rfl⟩
        obtain ⟨SjD, mD⟩ := mC.same C ((Gw.refl wC).drew)
        rw [hwD] at mD
        have MD : Hid (MY HJ w wD p j Sp SjD most l l bA #[.int .i64 Ac, .bool Ai, .int .u64 Ak, .int .u64 Av, .int .i64 An, .slice (some ⟨g9, 0, none⟩) m cap9] g9 m cap9 AL) := mD
        clear mC mD hwC c6 f6 T9 PB PI e5 NWS R0 GB NB zB hwB hbA oc0 oc1 oc2 d0 d1 d2 d3 d4 d5
        obtain ⟨⟨oc0, oc1, oc2⟩, _⟩ := CEL.out wD MD.out.pj.gw
        have d0 : wD.cell? ⟨bA, 0, none⟩ = some (.int .i64 Ac) := blkc MD.out.box rfl
        have d1 : wD.cell? ⟨bA, 1, none⟩ = some (.bool Ai) := blkc MD.out.box rfl
        have d2 : wD.cell? ⟨bA, 2, none⟩ = some (.int .u64 Ak) := blkc MD.out.box rfl
        have d3 : wD.cell? ⟨bA, 3, none⟩ = some (.int .u64 Av) := blkc MD.out.box rfl
        have d4 : wD.cell? ⟨bA, 4, none⟩ = some (.int .i64 An) := blkc MD.out.box rfl
        have d5 : wD.cell? ⟨bA, 5, none⟩ = some (.slice (some ⟨g9, 0, none⟩) m cap9) := blkc MD.out.box rfl
        refine wp_region_still_tail 7 (by kernel_rfl) (by kernel_rfl) ?_
        change wpStill _ _ (World.drew wC) (fun a' => wpList _ _ _ _ a' (World.drew wC)) _ _
        simp only [List.take_succ_cons, List.take_zero, List.drop_succ_cons, List.drop_zero]
        rw [hwD]
        clear hwD
        repeat still_step
        refine wpStill_nil ?_
        go_wp2_with fail
        refine (SEJ.out wD Sp SjD (some ⟨g9, 0, none⟩) cap9 MD.out.pj (MD.out.row.ls pc2_len) (fun a e _ hs => by cases e; exact (MD.out.far _ (.inr hs)).2 rfl)).mono ?_
        rintro e w4 ⟨Sp4, Sj4, ⟨bo4, c4, rfl, n4, v4⟩, pj4, x4, s4, t4⟩
        have m4 := MD.out.jud pj4 x4 s4 t4
        have X4 : Hid (NLr w4 bo4 R ∧ ∀ a, bo4 = some a → 0 < R.length → ¬ Sp4 a.block) := ⟨n4, fun a e h0 k => v4 a e h0 (.inl k)⟩
        obtain ⟨wE, hwE⟩ : ∃ wE, World.drew w4 = wE := ⟨_, rfl⟩
        obtain ⟨SjE, mE⟩ := m4.same C ((Gw.refl w4).drew)
        have XE : Hid (NLr wE bo4 R ∧ ∀ a, bo4 = some a → 0 < R.length → ¬ Sp4 a.block) := by rw [← hwE]; exact ⟨X4.out.1.gw (Gw.refl w4).drew, X4.out.2⟩
        rw [hwE] at mE
        have ME : Hid (MY HJ w wE p j Sp4 SjE most l l' bA #[.int .i64 Ac, .bool Ai, .int .u64 Ak, .int .u64 Av, .int .i64 An, .slice (some ⟨g9, 0, none⟩) m cap9] g9 m cap9 AL) := mE
        clear pj4 x4 s4 t4 n4 v4 m4 mE X4 MD oc0 oc1 oc2 d0 d1 d2 d3 d4 d5
        obtain ⟨⟨oc0, oc1, oc2⟩, d0, d1, d2, d3, d4, d5⟩ := CEL.out wE ME.out.pj.gw
        dsimp only
        go_upto_region 16 with fail
        refine wp_region_still_tail 11 (by kernel_rfl) (by kernel_rfl) ?_
        change wpStill _ _ (World.drew w4) (fun a' => wpList _ _ _ _ a' (World.drew w4)) _ _
        simp only [List.take_succ_cons, List.take_zero, List.drop_succ_cons, List.drop_zero]
        rw [hwE]
        clear hwE
        repeat still_step
        refine wpStill_nil ?_
        go_wp2_with fail
        refine (SED.out wE Sp4 SjE cx ME.out.pj).mono ?_
        rintro e w5 ⟨bo5, c5, Sp5, Sj5, rfl, n5, pj5, x5, s5, t5⟩
        have M5 : Hid (MY HJ w w5 p j Sp5 Sj5 most l' l' bA #[.int .i64 Ac, .bool Ai, .int .u64 Ak, .int .u64 Av, .int .i64 An, .slice (some ⟨g9, 0, none⟩) m cap9] g9 m cap9 AL) := ME.out.doc pj5 x5 t5 s5
        have X5 : Hid (NLr w5 bo4 R ∧ NLr w5 bo5 R) := ⟨XE.out.1.gx x5 XE.out.2, n5⟩
        clear pj5 x5 s5 t5 n5 XE ME oc0 oc1 oc2 d0 d1 d2 d3 d4 d5
        obtain ⟨rl, hrl⟩ : ∃ rl, R.length = rl := ⟨_, rfl⟩
        have r5 := R5.out
        have SN : Hid (∀ W, Gw w5 W → Calls Try.prog 12 #[.slice bo4 rl c4, .slice bo5 rl c5] W fun e w' => e = .returned (.bool true) ∧ Gw W w') := fun W g => by
          have := snums23 bo4 bo5 c4 c5 R (by omega) W (X5.out.1.gw g) (X5.out.2.gw g)
          rw [hrl] at this
          exact this
        have SP : Hid (∀ W, Gw w5 W → Calls Try.prog 13 #[.slice (some ⟨g9, 0, none⟩) m cap9, .slice bx m cx] W fun e w' => e = .returned (.bool true) ∧ Gw W w') := fun W g => by
          have := spairs23 (some ⟨g9, 0, none⟩) bx cap9 cx AL (by rw [ML.out]; omega) W ((M5.out.row.ls pc2_len).gw g) (PX.out.gw (M5.out.pj.gw.trans g))
          rw [ML.out] at this
          exact this
        have HW : Hid (∀ w', Gw w5 w' → Gw w5 w' ∧ w'.cell? ⟨bA, 5, none⟩ = some (.slice (some ⟨g9, 0, none⟩) m cap9) ∧ w'.cell? ⟨ab, af + i * 9 + 3 + 5, none⟩ = some (.slice bx m cx)) := fun w' gg => ⟨gg, (gg.cell _ _ (blkl M5.out.box)).trans (blkc M5.out.box rfl), (CEL.out _ (M5.out.pj.gw.trans gg)).2.2.2.2.2.2⟩
        dsimp only
        rw [hrl]
        clear hrl r5
        go_wp2_with fail
        go_region_held3 (fun w' => Gw w5 w' ∧ w'.cell? ⟨bA, 5, none⟩ = some (.slice (some ⟨g9, 0, none⟩) m cap9) ∧ w'.cell? ⟨ab, af + i * 9 + 3 + 5, none⟩ = some (.slice bx m cx))
          ((refine HW.out _ ?_; (repeat (first | exact Gw.refl _ | exact And.left (by assumption) | exact Hid.out (by assumption) | refine Gw.drew ?_ | refine Gw.trans ?_ (by assumption))); done))
          ((first
            | (go_at_call 12; refine (SN.out _ (by repeat (first | exact Gw.refl _ | exact And.left (by assumption) | exact Hid.out (by assumption) | refine Gw.drew ?_ | refine Gw.drewN ?_ _))).mono ?_; rintro ex wP ⟨rfl, gP⟩; have FP : Hid (Gw w5 wP) := (Gw.trans (by repeat (first | exact Gw.refl _ | exact And.left (by assumption) | exact Hid.out (by assumption) | refine Gw.drew ?_ | refine Gw.drewN ?_ _)) gP); clear gP)
            | (go_at_call 13; refine (SP.out _ (by repeat (first | exact Gw.refl _ | exact And.left (by assumption) | exact Hid.out (by assumption) | refine Gw.drew ?_ | refine Gw.drewN ?_ _))).mono ?_; rintro ex wQ ⟨rfl, gQ⟩; have FQ : Hid (Gw w5 wQ) := (Gw.trans (by repeat (first | exact Gw.refl _ | exact And.left (by assumption) | exact Hid.out (by assumption) | refine Gw.drew ?_ | refine Gw.drewN ?_ _)) gQ); clear gQ)))
        obtain ⟨SjQ, mQ⟩ := M5.out.same C FQ.out
        have MQ : Hid (MY HJ w wQ p j Sp5 SjQ most l' l' bA #[.int .i64 Ac, .bool Ai, .int .u64 Ak, .int .u64 Av, .int .i64 An, .slice (some ⟨g9, 0, none⟩) m cap9] g9 m cap9 AL) := mQ
        clear mQ M5 X5 SN SP HW FP FQ SEJ SED
        go_wp2_with fail
        go_loopg [14] m (fun gg s14 wr => ∃ (k : Nat) (Sj : Nat → Prop) (L' : Ps), s14 = .int .i64 (k : Int) ∧ k ≤ m ∧ m - k ≤ gg ∧ Hid (MY HJ w wr p j Sp5 Sj most l' l' bA #[.int .i64 Ac, .bool Ai, .int .u64 Ak, .int .u64 Av, .int .i64 An, .slice (some ⟨g9, 0, none⟩) m cap9] g9 m cap9 L'))
        case atStart => exact ⟨0, _, _, rfl, Nat.zero_le _, by omega, MQ⟩
        case round =>
          clear MQ
          obtain ⟨k, SjK, L', rfl, b1, b2, MK⟩ := hrel
          have f5 : wr.cell? ⟨bA, 5, none⟩ = some (.slice (some ⟨g9, 0, none⟩) m cap9) := blkc MK.out.box rfl
          by_cases klt : k < m
          · have klt' : (k : Int) < (m : Int) := by omega
            obtain ⟨x, hx⟩ : ∃ x, L'[k]? = some x := ⟨L'[k]'(by rw [MK.out.row.len]; exact klt), List.getElem?_eq_getElem _⟩
            obtain ⟨y0, y1⟩ := MK.out.row.two k x hx
            have fz : ∀ o, wr.frozen? ⟨g9, o, none⟩ = false := fun o => MK.out.row.fz o
            have sc : (wr.setCell ⟨g9, k * 2, none⟩ (.int .u64 9)).cell? ⟨g9, k * 2 + 1, none⟩ = some (.int .u64 x.2) := (set_ne23 wr _ (k * 2) (k * 2 + 1) _ (by simp)).trans y1
            obtain ⟨SjN, LN', mN⟩ := MK.out.put C k x hx 9 9
            have MN : Hid (MY HJ w ((wr.setCell ⟨g9, k * 2, none⟩ (.int .u64 9)).setCell ⟨g9, k * 2 + 1, none⟩ (.int .u64 9)) p j Sp5 SjN most l' l' bA #[.int .i64 Ac, .bool Ai, .int .u64 Ak, .int .u64 Av, .int .i64 An, .slice (some ⟨g9, 0, none⟩) m cap9] g9 m cap9 LN') := mN
            clear mN hx
            go_wp2_with fail
            go_roundg (m - (k + 1))
            case measure => omega
            case rel => exact ⟨k + 1, SjN, LN', by go_num, by omega, Nat.le_refl _, MN⟩
          · obtain ⟨nl, hnl⟩ : ∃ nl, l'.length = nl := ⟨_, rfl⟩
            have NL : Hid (l'.length = nl) := hnl
            have nb : nl ≤ 1048577 := by rw [← hnl]; exact L1.out
            have PAI : Hid (Calls Try.prog 14 #[.pointer (some ⟨j, 0, none⟩)] wr fun e w' => ∃ v, e = .returned v ∧ w'.ownsRow wr.heap.size 44 2 v l'.length (pcs l') ∧ Gw wr w') := C.pairs j SjK most l' wr (by have := L1.out; omega) MK.out.pj.hj
            clear hnl
            go_wp2_with fail
            refine PAI.out.mono ?_
            rintro e w7 ⟨v7, rfl, o7, g7⟩
            obtain ⟨bq, cq, rfl, qo, pq⟩ := QO.of o7
            obtain ⟨Sj7, pj7, s7⟩ := MK.out.pj.same C g7
            obtain ⟨bd, cd, DL⟩ := pj7.docL
            obtain ⟨dc, dp⟩ := DL w7 (Gw.refl w7)
            rw [NL.out] at qo dc
            have P7 : Hid (PJ HJ w w7 p j Sp5 Sj7 most l' l' ∧ (∀ q, Sp5 q ∨ Sj7 q → q < wr.heap.size) ∧ w.heap.size ≤ wr.heap.size) := ⟨pj7, fun q hq => MK.out.pj.lt q (hq.imp id (s7 q)), MK.out.pj.gw.size⟩
            obtain ⟨b7, hb7⟩ : ∃ b7, wr.heap.size = b7 := ⟨_, rfl⟩
            rw [hb7] at qo P7
            have Q7 : Hid (QO w7 b7 bq nl cq) := qo
            have SP : Hid (Calls Try.prog 13 #[.slice bq nl cq, .slice bd nl cd] w7 fun e w' => e = .returned (.bool true) ∧ Gw w7 w') := by
              have := spairs23 bq bd cq cd l' (by have := L1.out; omega) w7 pq dp
              rw [NL.out] at this
              exact this
            clear o7 g7 qo pq pj7 s7 DL dp hb7 PAI MK f5
            dsimp only
            rw [NL.out]
            go_wp2_with fail
            refine SP.out.mono ?_
            rintro e w8 ⟨rfl, g8⟩
            obtain ⟨Sj8, pj8, s8⟩ := P7.out.1.same C g8
            have P8 : Hid (PJ HJ w w8 p j Sp5 Sj8 most l' l' ∧ (∀ q, Sp5 q ∨ Sj8 q → q < b7) ∧ w.heap.size ≤ b7) := ⟨pj8, fun q hq => P7.out.2.1 q (hq.imp id (s8 q)), P7.out.2.2⟩
            have Q8 : Hid (QO w8 b7 bq nl cq) := Q7.out.gw g8
            clear g8 pj8 s8 P7 Q7 SP dc
            dsimp only
            go_wp2_with fail
            go_loopg [16] nl (fun gg s16 wr => ∃ (k : Nat) (Sj : Nat → Prop), s16 = .int .i64 (k : Int) ∧ k ≤ nl ∧ nl - k ≤ gg ∧ Hid (PJ HJ w wr p j Sp5 Sj most l' l' ∧ (∀ q, Sp5 q ∨ Sj q → q < b7)) ∧ Hid (QO wr b7 bq nl cq))
            case atStart => exact ⟨0, _, rfl, Nat.zero_le _, by omega, ⟨P8.out.1, P8.out.2.1⟩, Q8⟩
            case round =>
              clear Q8
              obtain ⟨k, SjK, rfl, b1, b2, PK, QK⟩ := hrel
              by_cases klt : k < nl
              · have klt' : (k : Int) < (nl : Int) := by omega
                rcases QK.out with z0 | ⟨gq, Lq, rfl, rq⟩
                · omega
                obtain ⟨x, hx⟩ : ∃ x, Lq[k]? = some x := ⟨Lq[k]'(by rw [rq.len]; exact klt), List.getElem?_eq_getElem _⟩
                obtain ⟨y0, y1⟩ := rq.two k x hx
                have fz : ∀ o, wr.frozen? ⟨gq, o, none⟩ = false := fun o => rq.fz o
                have sc : (wr.setCell ⟨gq, k * 2, none⟩ (.int .u64 8)).cell? ⟨gq, k * 2 + 1, none⟩ = some (.int .u64 x.2) := (set_ne23 wr _ (k * 2) (k * 2 + 1) _ (by simp)).trans y1
                have gx := gx_put (k * 2) (k * 2 + 1) (.int .u64 8) (.int .u64 8) (Gx.refl (fun q => q = gq) wr)
                have gl := rq.lt.1
                obtain ⟨SjN, pN, sN⟩ := PK.out.1.gx C gx (fun q hq => by
                  subst hq
                  have z := P8.out.2.2
                  exact ⟨fun a => by have := PK.out.2 _ (.inl a); omega, fun a => by have := PK.out.2 _ (.inr a); omega, by omega⟩)
                have PN : Hid (PJ HJ w ((wr.setCell ⟨gq, k * 2, none⟩ (.int .u64 8)).setCell ⟨gq, k * 2 + 1, none⟩ (.int .u64 8)) p j Sp5 SjN most l' l' ∧ (∀ q, Sp5 q ∨ SjN q → q < b7)) := ⟨pN, fun q hq => PK.out.2 q (hq.imp id (sN q))⟩
                have QN : Hid (QO ((wr.setCell ⟨gq, k * 2, none⟩ (.int .u64 8)).setCell ⟨gq, k * 2 + 1, none⟩ (.int .u64 8)) b7 (some ⟨gq, 0, none⟩) nl cq) := .inr ⟨gq, _, rfl, rq.put k x hx 8 8⟩
                clear pN sN gx hx rq gl QK
                go_wp2_with fail
                go_roundg (nl - (k + 1))
                case measure => omega
                case rel => exact ⟨k + 1, SjN, by go_num, by omega, Nat.le_refl _, PN, QN⟩
              · go_wp2_with fail
                go_roundg (n - (i + 1))
                case measure => omega
                case rel => exact ⟨i + 1, Sp5, SjK, by go_num, by omega, Nat.le_refl _, by rw [EX.out]; exact PK.out.1⟩
      · have ilt' : ¬ (i : Int) < (n : Int) := by omega
        have PE : Hid (PJ HJ w wr p j Sp Sj most (endP most [] ((z.take i).map Prod.fst)) (endP most [] ((z.take i).map Prod.fst))) := PI
        clear PI
        generalize endP most [] ((z.take i).map Prod.fst) = l at EL PE
        obtain ⟨nl, hnl⟩ : ∃ nl, l.length = nl := ⟨_, rfl⟩
        have NL : Hid (l.length = nl) := hnl
        obtain ⟨bd, cd, DL⟩ := PE.out.docL
        rw [hnl] at DL
        have HW : Hid (∀ w', Gw wr w' → Gw wr w' ∧ w'.cell? ⟨p, 1, none⟩ = some (.slice bd nl cd)) := fun w' gg => ⟨gg, (DL w' gg).1⟩
        have PAI : Hid (∀ W, Gw wr W → Calls Try.prog 14 #[.pointer (some ⟨j, 0, none⟩)] W fun e w' => (∃ bq cq, e = .returned (.slice bq nl cq) ∧ ∀ W', Gw w' W' → PLr W' bq l) ∧ Gw W w') := fun W g => by
          obtain ⟨S1, p1, _⟩ := PE.out.same C g
          refine (C.pairs j S1 most l W (by have := EL.out; omega) p1.hj).mono ?_
          rintro e w' ⟨v, rfl, o7, g7⟩
          obtain ⟨bq, cq, rfl, _, pq⟩ := QO.of o7
          exact ⟨⟨bq, cq, by rw [hnl], fun W' g' => pq.gw g'⟩, g7⟩
        have SP : Hid (∀ W bq cq, Gw wr W → PLr W bq l → Calls Try.prog 13 #[.slice bq nl cq, .slice bd nl cd] W fun e w' => e = .returned (.bool true) ∧ Gw W w') := fun W bq cq g h => by
          have := spairs23 bq bd cq cd l (by have := EL.out; omega) W h (DL W g).2
          rw [hnl] at this
          exact this
        clear DL hnl
        obtain ⟨wS, hwS⟩ : ∃ wS, wS = wr := ⟨_, rfl⟩
        subst hwS
        go_wp2_with fail
        go_region_held3 (fun w' => Gw wS w' ∧ w'.cell? ⟨p, 1, none⟩ = some (.slice bd nl cd))
          ((refine HW.out _ ?_; (repeat (first | exact Gw.refl _ | exact And.left (by assumption) | exact Hid.out (by assumption) | refine Gw.drew ?_ | refine Gw.trans ?_ (by assumption))); done))
          ((first
            | (go_at_call 14; refine (PAI.out _ (by repeat (first | exact Gw.refl _ | exact And.left (by assumption) | exact Hid.out (by assumption) | refine Gw.drew ?_ | refine Gw.drewN ?_ _))).mono ?_; rintro ex wP ⟨⟨bq, cq, rfl, pq⟩, gP⟩; have FP : Hid (Gw wS wP) := (Gw.trans (by repeat (first | exact Gw.refl _ | exact And.left (by assumption) | exact Hid.out (by assumption) | refine Gw.drew ?_ | refine Gw.drewN ?_ _)) gP); have KQ : Hid (∀ W', Gw wP W' → PLr W' bq l) := pq; clear gP pq)
            | (go_at_call 13; refine (SP.out _ bq cq (by repeat (first | exact Gw.refl _ | exact And.left (by assumption) | exact Hid.out (by assumption) | refine Gw.drew ?_ | refine Gw.drewN ?_ _)) (KQ.out _ (by repeat (first | exact Gw.refl _ | refine Gw.drew ?_ | refine Gw.drewN ?_ _)))).mono ?_; rintro ex wQ ⟨rfl, gQ⟩; have FQ : Hid (Gw wS wQ) := (Gw.trans (by repeat (first | exact Gw.refl _ | exact And.left (by assumption) | exact Hid.out (by assumption) | refine Gw.drew ?_ | refine Gw.drewN ?_ _)) gQ); clear gQ)))
        all_goals
          go_wp2_with fail
          refine bodyPost_ret (v := .bool true) (by simp [results, Try.results3, go_sem]) rfl ⟨rfl, PE.out.gw.trans FQ.out⟩
end Go.Proofs.Ytkojcjfjmlompaa
