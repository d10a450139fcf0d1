/- The document's layer 14: Put and Clone. -/
import Derived.Test.YtkofbjdgidaieaaQRef
import Derived.Test.YtkofbjdgidaieaaPEl
import Derived.Deep.RegionLaw
namespace Go.Proofs.Ytkofbjdgidaieaa
open Go.RowKit
set_option linter.unusedVariables false

/-- A row that was made anew is stored into a buffer. -/
theorem anew14 {t : TypeId} {w W : World} {p : Nat} {S : Nat → Prop} {most : Int} {l l' : List Ent} {v : Value} (h : HB t w p S most l) (g : Gw w W) (ho : EO W w.heap.size v l') (r : Rise Ent.k l') (ok : ∀ x ∈ l', x.ok) (rm : (l'.length : Int) ≤ most) : PutOut t w (W.setCell ⟨p, 1, none⟩ v) p S most l' := by
  obtain ⟨v0, h1, h2, h3, h4⟩ := h.lies
  have pl := blkl h1
  have b1 := (g.below.block p pl).trans h1
  have ne : ∀ q, v.ownBlock = some q → q ≠ p := fun q hq => by have := (World.ownsRow.lt ho q hq).1; omega
  refine ⟨fun q => q = p ∨ v.ownBlock = some q, ⟨⟨v, by rw [blk_set b1]; rfl, eo_keep (eo_base ho (Nat.zero_le _)) (fun q hq => Go.Deep.blk_setCell_other _ _ _ _ (ne q hq)), ne, fun q => Iff.rfl⟩, r, ok, rm⟩, (g.gx S).set (.inl h.own) _ _, fun q hq => ?_⟩
  rcases hq with x | x
  · rw [x]; exact .inl h.own
  · exact .inr (World.ownsRow.lt ho q x).1
theorem eo_app {w : World} {base : Nat} {v : Value} {a b : List Ent} {n m : Nat} (h : w.ownsRow base 35 3 v (n + m) (a.flatMap ent3 ++ b.flatMap ent3)) (ha : a.length = n) (hb : b.length = m) : EO w base v (a ++ b) := by
  show World.ownsRow _ _ _ _ _ _ _
  rw [List.length_append, List.flatMap_append, ha, hb]
  exact h
theorem eo_row {w : World} {base : Nat} {v : Value} {l : List Ent} {n : Nat} (h : EO w base v l) (hn : l.length = n) : w.ownsRow base 35 3 v n (l.flatMap ent3) := by
  have := h
  unfold EO at this
  rw [hn] at this
  exact this
theorem eo_shape_n {w : World} {base : Nat} {v : Value} {l : List Ent} {n : Nat} (h : EO w base v l) (hn : l.length = n) : ∃ bo c, v = .slice bo n c ∧ n ≤ c := by
  obtain ⟨bo, c, e, hc, _⟩ := eo_shape h
  exact ⟨bo, c, by rw [← hn]; exact e, by rw [← hn]; exact hc⟩
theorem eo_three {w : World} {base : Nat} {v : Value} {a b : List Ent} {e : Ent} {n m : Nat} (h : w.ownsRow base 35 3 v (n + 1 + m) (a.flatMap ent3 ++ ent3 e ++ b.flatMap ent3)) (ha : a.length = n) (hb : b.length = m) : EO w base v (a ++ e :: b) := by
  show World.ownsRow _ _ _ _ _ _ _
  have e1 : (a ++ e :: b).length = n + 1 + m := by rw [List.length_append, List.length_cons, ha, hb]; omega
  have e2 : (a ++ e :: b).flatMap ent3 = a.flatMap ent3 ++ ent3 e ++ b.flatMap ent3 := by rw [List.flatMap_append, List.flatMap_cons, List.append_assoc]
  rw [e1, e2]
  exact h
set_option maxRecDepth 20000 in
set_option maxHeartbeats 8000000 in
theorem rput14 (p : Nat) (S : Nat → Prop) (most : Int) (l : List Ent) (e : Ent) (hn : l.length ≤ 4000000) (oke : e.ok) (w : World) (h : HB 55 w p S most l) :
    Calls Try.prog 13 #[.pointer (some ⟨p, 0, none⟩), .agg #[.int .u64 e.k, .int .u64 e.v, .bool e.g]] w fun ex w' => ex = .returned (.int .i64 (putR most l e).1) ∧ PutOut 55 w w' p S most (putR most l e).2 := by
  have H : Aside (HB 55 w p S most l) := h
  have FD : Hid (∀ W, Gw w W → Calls Try.prog 25 #[.pointer (some ⟨p, 0, none⟩), .int .u64 e.k] W fun ex w' => ex = .returned (.int .i64 (plc Ent.k e.k l : Int)) ∧ w' = W) := fun W g => rplace14 p S most l e.k hn W (h.gw g)
  have SAME : Hid (∀ W, Gw w W → PutOut 55 w W p S most l) := fun W g => PutOut.same h g
  obtain ⟨bq, hbq⟩ : ∃ b, w.heap.size = b := ⟨_, rfl⟩
  have BQ : Aside (w.heap.size = bq) := hbq
  obtain ⟨u1, hu1⟩ : ∃ u, w.alloc (.cells #[.int .u64 e.k, .int .u64 e.v, .bool e.g] 35) = u := ⟨_, rfl⟩
  have NB : u1.heap[bq]? = some (.cells #[.int .u64 e.k, .int .u64 e.v, .bool e.g] 35 (0, 0)) := by rw [← hu1, ← hbq]; exact heap_alloc_new _ _
  have GG : Aside (Gw w u1) := by rw [← hu1]; exact (Gw.refl w).alloc _ _
  have NBA : Aside (u1.heap[bq]? = some (.cells #[.int .u64 e.k, .int .u64 e.v, .bool e.g] 35 (0, 0))) := NB
  have m0 : u1.cell? ⟨bq, 0, none⟩ = some (.int .u64 e.k) := blkc NB rfl
  have m1 : u1.cell? ⟨bq, 1, none⟩ = some (.int .u64 e.v) := blkc NB rfl
  have m2 : u1.cell? ⟨bq, 2, none⟩ = some (.bool e.g) := blkc NB rfl
  have bl := blkl NB
  by_cases bad : e.g = true ∧ e.v ≠ 0
  · have PR : Aside (putR most l e = (31, l)) := by show _ = _; unfold putR; rw [if_pos bad]
    obtain ⟨ek, ev, eg⟩ := e
    obtain ⟨b1, b2⟩ := bad
    have b1' : eg = true := b1
    have b2' : ((ev : Int) == 0) = false := by simpa using b2
    subst b1'
    clear h FD b1 b2 NB NBA
    simp only at b2' m0 m1 m2 hu1 ⊢
    go_enter Try.func13, Try.ntmps13
    go_wp2_with fail
    go_ret
    rw [PR.out]
    exact ⟨rfl, SAME.out _ GG.out⟩
  · obtain ⟨v, h1, h2, h3, h4⟩ := (h.gw GG.out).lies
    obtain ⟨bo, c, rfl, hc, hz0⟩ := eo_shape h2
    have BO : Aside (bo = none ∨ ∃ b, bo = some ⟨b, 0, none⟩) := by
      rcases h2.2 with ⟨x, _⟩ | ⟨b, cap, cur, x, _⟩
      · injection x with x; exact .inl x
      · injection x with x; exact .inr ⟨b, x⟩
    have c1 : u1.cell? ⟨p, 1, none⟩ = some (.slice bo l.length c) := blkc h1 rfl
    have c0 : u1.cell? ⟨p, 0, none⟩ = some (.int .i64 most) := blkc h1 rfl
    have f1 := blkf (o := 1) h1
    have pl := blkl h1
    have HE : Aside (EL u1 bo l) := eo_el h2 h.ok
    have ppn := plc_le (key := Ent.k) e.k l
    have ANEW : Hid (∀ (W : World) (v' : Value), Gw w W → EO W w.heap.size v' (ins Ent.k e l) → (look Ent.k e.k l = none → ¬ (l.length : Int) = most) → PutOut 55 w (W.setCell ⟨p, 1, none⟩ v') p S most (ins Ent.k e l)) := fun W v' g ho nf => by
      refine anew14 H.out g ho H.out.rise.ins (ins_all oke H.out.ok) ?_
      cases q : look Ent.k e.k l with
      | none => rw [ins_len_new q]; have := nf q; have := H.out.room; omega
      | some y => rw [ins_len_there H.out.rise q]; exact H.out.room
    have KEEP : Hid (∀ W, Gw u1 W → (W.cell? ⟨p, 1, none⟩ = some (.slice bo l.length c) ∧ W.cell? ⟨p, 0, none⟩ = some (.int .i64 most) ∧ W.frozen? ⟨p, 1, none⟩ = false ∧ p < W.heap.size) ∧ (W.cell? ⟨bq, 0, none⟩ = some (.int .u64 e.k) ∧ W.cell? ⟨bq, 1, none⟩ = some (.int .u64 e.v) ∧ W.cell? ⟨bq, 2, none⟩ = some (.bool e.g) ∧ bq < W.heap.size)) := fun W g => by
      have x1 := (g.below.block p (blkl h1)).trans h1
      have x2 := (g.below.block bq (blkl NBA.out)).trans NBA.out
      exact ⟨⟨blkc x1 rfl, blkc x1 rfl, blkf x1, blkl x1⟩, blkc x2 rfl, blkc x2 rfl, blkc x2 rfl, blkl x2⟩
    have NEWS : Hid (∀ (W : World) (i j : Nat), Gw u1 W → ∀ ad, bo = some ad → i + j ≤ l.length → ∀ t u, (((l.drop i).take j).flatMap ent3)[t]? = some u → W.cell? (ad.add (i * 3 + t)) = some u) := fun W i j g ad ea hij t u hu => by
      have hl : (((l.drop i).take j).flatMap ent3).length = j * 3 := by rw [flat_len]; simp; omega
      have ht : t < j * 3 := by have := (List.getElem?_eq_some_iff.1 hu).1; omega
      refine el_news (HE.out.gw g) ad ea (i * 3 + t) u ?_
      rw [flat_take, flat_drop, List.getElem?_take_of_lt ht, List.getElem?_drop] at hu
      exact hu
    have BAD : Aside (e.g = false ∨ (e.g = true ∧ ((e.v : Int) == 0) = true)) := by
      cases eg : e.g with
      | false => exact .inl rfl
      | true =>
        refine .inr ⟨rfl, ?_⟩
        have : ¬ e.v ≠ 0 := fun q => bad ⟨eg, q⟩
        simpa using this
    have BADN : Aside (¬ (e.g = true ∧ e.v ≠ 0)) := bad
    have LEN : Aside (bo = none → l.length = 0 ∧ c = 0) := hz0
    obtain ⟨ii, hii, hz, hs, hby⟩ := info_parts info_e
    clear h h1 h2 h3 h4 NB bad hz0 HE
    obtain ⟨n, hln⟩ : ∃ n, l.length = n := ⟨_, rfl⟩
    have LN : Aside (l.length = n) := hln
    rcases BO.out with rfl | ⟨b, rfl⟩
    · obtain ⟨z1, rfl⟩ := LEN.out rfl
      have z2 : n = 0 := by omega
      subst z2
      have l0 : l = [] := List.eq_nil_of_length_eq_zero z1
      have hk : look Ent.k e.k l = none := by rw [l0]; rfl
      have pz : plc Ent.k e.k l = 0 := by rw [l0]; rfl
      by_cases full : (l.length : Int) = most
      · have PR : Aside (putR most l e = (140, l)) := by show _ = _; unfold putR; rw [if_neg BADN.out, if_pos ⟨hk, full⟩]
        have t1 : ((0 : Int) == most) = true := by rw [hln] at full; simpa using full
        rw [pz] at FD
        rw [hln] at c1 KEEP NEWS
        have IN : Aside True := trivial
        have ANE : Aside True := trivial
        clear ANEW full hk hln pz l0 z1
        obtain ⟨ek, ev, eg⟩ := e
        simp only at m0 m1 m2 hu1 FD IN KEEP BAD PR ANE ⊢
        rcases BAD.out with rfl | ⟨rfl, b2⟩
        · clear BAD BADN
          go_enter Try.func13, Try.ntmps13
          go_wp2_with fail
          refine (FD.out _ GG.out).mono ?_
          rintro ex w2 ⟨rfl, e2⟩
          have e3 := e2.symm
          subst e3
          clear e2 FD
          go_wp2_with fail
          go_quiet (fail)
          go_wp2_with fail
          go_quiet (fail)
          go_wp2_with fail
          go_ret
          rw [PR.out]
          exact ⟨rfl, SAME.out _ ((GG.out.drewN _).drewN _)⟩
        · clear BAD BADN
          go_enter Try.func13, Try.ntmps13
          go_wp2_with fail
          refine (FD.out _ GG.out).mono ?_
          rintro ex w2 ⟨rfl, e2⟩
          have e3 := e2.symm
          subst e3
          clear e2 FD
          go_wp2_with fail
          go_quiet (fail)
          go_wp2_with fail
          go_quiet (fail)
          go_wp2_with fail
          go_ret
          rw [PR.out]
          exact ⟨rfl, SAME.out _ ((GG.out.drewN _).drewN _)⟩
      · have PR : Aside (putR most l e = (0, ins Ent.k e l)) := by show _ = _; unfold putR; rw [if_neg BADN.out, if_neg (fun q => full q.2)]
        have t1 : ((0 : Int) == most) = false := by rw [hln] at full; simpa using full
        have IN : Aside (ins Ent.k e l = l.take 0 ++ e :: l.drop 0) := by have := ins_new hk; rw [pz] at this; exact this
        have ANE : Hid (∀ (W : World) (v' : Value), Gw w W → EO W w.heap.size v' (ins Ent.k e l) → PutOut 55 w (W.setCell ⟨p, 1, none⟩ v') p S most (ins Ent.k e l)) := fun W v' g ho => ANEW.out W v' g ho (fun _ => full)
        rw [pz] at FD
        rw [hln] at c1 KEEP NEWS
        clear ANEW full hk hln pz l0 z1
        obtain ⟨ek, ev, eg⟩ := e
        simp only at m0 m1 m2 hu1 FD IN KEEP BAD PR ANE ⊢
        rcases BAD.out with rfl | ⟨rfl, b2⟩
        · clear BAD BADN
          go_enter Try.func13, Try.ntmps13
          go_wp2_with fail
          refine (FD.out _ GG.out).mono ?_
          rintro ex w2 ⟨rfl, e2⟩
          have e3 := e2.symm
          subst e3
          clear e2 FD
          go_wp2_with fail
          go_quiet (fail)
          go_wp2_with fail
          go_quiet (fail)
          generalize hW2 : World.drewN (World.drewN u1 _) _ = W2
          have G2 : Aside (Gw u1 W2) := by rw [← hW2]; exact ((Gw.refl _).drewN _).drewN _
          obtain ⟨⟨k1, k0, kf, kp⟩, q0, q1, q2, q3⟩ := KEEP.out W2 G2.out
          clear c1 c0 f1 pl m0 m1 m2 bl hW2 hu1 hbq
          have TL : Aside ((l.take 0).length = 0) := by show _ = _; rw [List.length_take, LN.out]; exact Nat.min_eq_left (by omega)
          have TD : Aside ((l.drop (0)).length = 0) := by show _ = _; rw [List.length_drop, LN.out]
          have FL : Aside (((l.take 0).flatMap ent3).length = 0 * 3) := by show _ = _; rw [flat_len, TL.out]
          have FT : Aside (((l.drop (0)).flatMap ent3).length = (0) * 3) := by show _ = _; rw [flat_len, TD.out]
          have NW1 : Hid (∀ ad, (none : Option Addr) = some ad → ∀ j u, ((l.take 0).flatMap ent3)[j]? = some u → W2.cell? (ad.add j) = some u) := fun ad ea j u hu => by
            cases ea
          go_wp2_with (at_builtin; refine wpList_append_src _ rfl _ _ 40 rfl u1.heap.size 35 ii (.agg #[.int .u64 0, .int .u64 0, .bool false]) 3 24 Try.underlying40 hii hz hs hby rfl (by decide) _ 0 [] rfl (World.ownsRow_nil _ _ _ _) _ 0 _ ((l.take 0).flatMap ent3) rfl (fun _ => ⟨rfl, rfl⟩) FL.out NW1.out (flat_ones _) (by simp only [maxLen]; omega) (by omega) G2.out.size ?_)
          intro v' w5 r1 r2 r3
          have E5 : Aside (EO w5 u1.heap.size v' (l.take 0)) := by
            show World.ownsRow _ _ _ _ _ _ _
            rw [TL.out]; simpa using r1
          have G5 : Aside (Gw u1 w5) := G2.out.grown r2 (fun q hq => by cases hq)
          obtain ⟨bo5, c5, ev5, hc5⟩ := eo_shape_n E5.out TL.out
          subst ev5
          obtain ⟨⟨k1', _, kf', kp'⟩, q0', q1', q2', q3'⟩ := KEEP.out w5 G5.out
          clear r1 r2 r3 NW1 G2 k1 k0 kf kp q0 q1 q2 q3
          go_wp2_with (at_builtin; refine wpList_append_own _ rfl _ _ 40 rfl u1.heap.size 35 ii (.agg #[.int .u64 0, .int .u64 0, .bool false]) 3 24 Try.underlying40 hii hz hs hby rfl (by decide) _ 0 ((l.take 0).flatMap ent3) rfl ((eo_row E5.out TL.out).alloc _) ⟨w5.heap.size, 0, none⟩ 1 1 (ent3 ⟨ek, ev, false⟩) rfl rfl (new_ent w5 ⟨ek, ev, false⟩) (ent3_one _) (by simp only [maxLen]; omega) (by omega) (Nat.le_trans G5.out.size ((Gw.refl w5).alloc _ _).size) ?_)
          intro v' w6 r1 r2 r3
          obtain ⟨b6, c6, rfl, hb6, hc6, _⟩ := own_slice r1 (by simpa using r3)
          have O6 : Aside _ := r1
          have G6 : Aside (Gw u1 w6) := (G5.out.alloc _ _).grown r2 (fun q hq => (World.ownsRow.lt E5.out q hq).1)
          obtain ⟨⟨k1, _, kf, kp⟩, q0, q1, q2, q3⟩ := KEEP.out w6 G6.out
          clear r1 r2 r3 k1' kf' kp' q0' q1' q2' q3'
          have NW2 : Hid (∀ ad, (none : Option Addr) = some ad → ∀ t u, ((l.drop (0)).flatMap ent3)[t]? = some u → w6.cell? (ad.add t) = some u) := fun ad ea t u hu => by
            cases ea
          go_wp2_with (at_builtin; refine wpList_append_src _ rfl _ _ 40 rfl u1.heap.size 35 ii (.agg #[.int .u64 0, .int .u64 0, .bool false]) 3 24 Try.underlying40 hii hz hs hby rfl (by decide) _ (0 + 1) _ rfl O6.out _ (0) _ ((l.drop (0)).flatMap ent3) (by first | rfl | (simp; done)) (fun _ => ⟨rfl, rfl⟩) FT.out NW2.out (flat_ones _) (by simp only [maxLen]; omega) (by omega) G6.out.size ?_)
          intro v' w7 r1 r2 r3
          have E7 : Aside (EO w7 u1.heap.size v' (ins Ent.k ⟨ek, ev, false⟩ l)) := by
            show EO _ _ _ _
            rw [IN.out]
            first | exact eo_three r1 TL.out TD.out | exact eo_three (by rw [List.append_assoc]; exact r1) TL.out TD.out
          have G7 : Aside (Gw u1 w7) := G6.out.grown r2 (fun q hq => (World.ownsRow.lt O6.out q hq).1)
          obtain ⟨⟨k1', _, kf', kp'⟩, _⟩ := KEEP.out w7 G7.out
          obtain ⟨bo7, c7, ev7, hc7⟩ := eo_shape_n E7.out rfl
          have FIN : Hid _ := ANE.out _ _ (GG.out.trans G7.out) (eo_base E7.out GG.out.size)
          rw [ev7] at FIN ⊢
          clear r1 r2 r3 k1 kf kp q0 q1 q2 q3 E7 O6 E5 ev7
          generalize (ins Ent.k _ l).length = n7 at FIN ⊢
          go_wp2_with fail
          go_ret
          rw [PR.out]
          exact ⟨rfl, FIN.out⟩
        · clear BAD BADN
          go_enter Try.func13, Try.ntmps13
          go_wp2_with fail
          refine (FD.out _ GG.out).mono ?_
          rintro ex w2 ⟨rfl, e2⟩
          have e3 := e2.symm
          subst e3
          clear e2 FD
          go_wp2_with fail
          go_quiet (fail)
          go_wp2_with fail
          go_quiet (fail)
          generalize hW2 : World.drewN (World.drewN u1 _) _ = W2
          have G2 : Aside (Gw u1 W2) := by rw [← hW2]; exact ((Gw.refl _).drewN _).drewN _
          obtain ⟨⟨k1, k0, kf, kp⟩, q0, q1, q2, q3⟩ := KEEP.out W2 G2.out
          clear c1 c0 f1 pl m0 m1 m2 bl hW2 hu1 hbq
          have TL : Aside ((l.take 0).length = 0) := by show _ = _; rw [List.length_take, LN.out]; exact Nat.min_eq_left (by omega)
          have TD : Aside ((l.drop (0)).length = 0) := by show _ = _; rw [List.length_drop, LN.out]
          have FL : Aside (((l.take 0).flatMap ent3).length = 0 * 3) := by show _ = _; rw [flat_len, TL.out]
          have FT : Aside (((l.drop (0)).flatMap ent3).length = (0) * 3) := by show _ = _; rw [flat_len, TD.out]
          have NW1 : Hid (∀ ad, (none : Option Addr) = some ad → ∀ j u, ((l.take 0).flatMap ent3)[j]? = some u → W2.cell? (ad.add j) = some u) := fun ad ea j u hu => by
            cases ea
          go_wp2_with (at_builtin; refine wpList_append_src _ rfl _ _ 40 rfl u1.heap.size 35 ii (.agg #[.int .u64 0, .int .u64 0, .bool false]) 3 24 Try.underlying40 hii hz hs hby rfl (by decide) _ 0 [] rfl (World.ownsRow_nil _ _ _ _) _ 0 _ ((l.take 0).flatMap ent3) rfl (fun _ => ⟨rfl, rfl⟩) FL.out NW1.out (flat_ones _) (by simp only [maxLen]; omega) (by omega) G2.out.size ?_)
          intro v' w5 r1 r2 r3
          have E5 : Aside (EO w5 u1.heap.size v' (l.take 0)) := by
            show World.ownsRow _ _ _ _ _ _ _
            rw [TL.out]; simpa using r1
          have G5 : Aside (Gw u1 w5) := G2.out.grown r2 (fun q hq => by cases hq)
          obtain ⟨bo5, c5, ev5, hc5⟩ := eo_shape_n E5.out TL.out
          subst ev5
          obtain ⟨⟨k1', _, kf', kp'⟩, q0', q1', q2', q3'⟩ := KEEP.out w5 G5.out
          clear r1 r2 r3 NW1 G2 k1 k0 kf kp q0 q1 q2 q3
          go_wp2_with (at_builtin; refine wpList_append_own _ rfl _ _ 40 rfl u1.heap.size 35 ii (.agg #[.int .u64 0, .int .u64 0, .bool false]) 3 24 Try.underlying40 hii hz hs hby rfl (by decide) _ 0 ((l.take 0).flatMap ent3) rfl ((eo_row E5.out TL.out).alloc _) ⟨w5.heap.size, 0, none⟩ 1 1 (ent3 ⟨ek, ev, true⟩) rfl rfl (new_ent w5 ⟨ek, ev, true⟩) (ent3_one _) (by simp only [maxLen]; omega) (by omega) (Nat.le_trans G5.out.size ((Gw.refl w5).alloc _ _).size) ?_)
          intro v' w6 r1 r2 r3
          obtain ⟨b6, c6, rfl, hb6, hc6, _⟩ := own_slice r1 (by simpa using r3)
          have O6 : Aside _ := r1
          have G6 : Aside (Gw u1 w6) := (G5.out.alloc _ _).grown r2 (fun q hq => (World.ownsRow.lt E5.out q hq).1)
          obtain ⟨⟨k1, _, kf, kp⟩, q0, q1, q2, q3⟩ := KEEP.out w6 G6.out
          clear r1 r2 r3 k1' kf' kp' q0' q1' q2' q3'
          have NW2 : Hid (∀ ad, (none : Option Addr) = some ad → ∀ t u, ((l.drop (0)).flatMap ent3)[t]? = some u → w6.cell? (ad.add t) = some u) := fun ad ea t u hu => by
            cases ea
          go_wp2_with (at_builtin; refine wpList_append_src _ rfl _ _ 40 rfl u1.heap.size 35 ii (.agg #[.int .u64 0, .int .u64 0, .bool false]) 3 24 Try.underlying40 hii hz hs hby rfl (by decide) _ (0 + 1) _ rfl O6.out _ (0) _ ((l.drop (0)).flatMap ent3) (by first | rfl | (simp; done)) (fun _ => ⟨rfl, rfl⟩) FT.out NW2.out (flat_ones _) (by simp only [maxLen]; omega) (by omega) G6.out.size ?_)
          intro v' w7 r1 r2 r3
          have E7 : Aside (EO w7 u1.heap.size v' (ins Ent.k ⟨ek, ev, true⟩ l)) := by
            show EO _ _ _ _
            rw [IN.out]
            first | exact eo_three r1 TL.out TD.out | exact eo_three (by rw [List.append_assoc]; exact r1) TL.out TD.out
          have G7 : Aside (Gw u1 w7) := G6.out.grown r2 (fun q hq => (World.ownsRow.lt O6.out q hq).1)
          obtain ⟨⟨k1', _, kf', kp'⟩, _⟩ := KEEP.out w7 G7.out
          obtain ⟨bo7, c7, ev7, hc7⟩ := eo_shape_n E7.out rfl
          have FIN : Hid _ := ANE.out _ _ (GG.out.trans G7.out) (eo_base E7.out GG.out.size)
          rw [ev7] at FIN ⊢
          clear r1 r2 r3 k1 kf kp q0 q1 q2 q3 E7 O6 E5 ev7
          generalize (ins Ent.k _ l).length = n7 at FIN ⊢
          go_wp2_with fail
          go_ret
          rw [PR.out]
          exact ⟨rfl, FIN.out⟩
    · cases hk : look Ent.k e.k l with
      | none =>
        by_cases full : (l.length : Int) = most
        · have PR : Aside (putR most l e = (140, l)) := by show _ = _; unfold putR; rw [if_neg BADN.out, if_pos ⟨hk, full⟩]
          have t1 : ((n : Int) == most) = true := by rw [← hln]; simpa using full
          have TH : ∀ y, l[plc Ent.k e.k l]? = some y → ¬ y.k = e.k := fun y hy q => by have := plc_there H.out.rise hy q; rw [hk] at this; cases this
          have IN : Aside True := trivial
          have ANE : Aside True := trivial
          generalize plc Ent.k e.k l = pp at FD ppn TH
          rw [hln] at hn c1 hc ppn KEEP NEWS LEN
          clear ANEW full hk hln
          by_cases pn : pp < n
          · obtain ⟨y, hy⟩ : ∃ y, l[pp]? = some y := ⟨_, List.getElem?_eq_getElem (by rw [LN.out]; exact pn)⟩
            have nk := TH y hy
            have kc : u1.cell? ⟨b, pp * 3, none⟩ = some (.int .u64 y.k) := by
              have := NEWS.out u1 pp 1 (Gw.refl _) _ rfl (by omega) 0 (.int .u64 y.k) (by
                have e1 : (l.drop pp).take 1 = [y] := by
                  obtain ⟨z1, z2⟩ := List.getElem?_eq_some_iff.1 hy
                  rw [List.drop_eq_getElem_cons z1, z2]; rfl
                rw [e1]; rfl)
              rw [Addr.add_lit] at this
              simpa using this
            generalize y.k = yk at kc nk
            clear hy TH
            have nk' : (yk == e.k) = false := by simpa using nk
            clear nk
            have p1 : (pp : Int) < (n : Int) := by omega
            have p2 : (pp : Int) ≤ (n : Int) := by omega
            have p3 : (pp : Int) ≤ (c : Int) := by omega
            have p4 : (n : Int) ≤ (c : Int) := by omega
            obtain ⟨ek, ev, eg⟩ := e
            simp only at m0 m1 m2 hu1 FD IN KEEP nk' BAD PR ANE ⊢
            rcases BAD.out with rfl | ⟨rfl, b2⟩
            · clear BAD BADN
              go_enter Try.func13, Try.ntmps13
              go_wp2_with fail
              refine (FD.out _ GG.out).mono ?_
              rintro ex w2 ⟨rfl, e2⟩
              have e3 := e2.symm
              subst e3
              clear e2 FD
              go_wp2_with fail
              go_quiet (fail)
              go_wp2_with fail
              go_quiet (fail)
              go_wp2_with fail
              go_ret
              rw [PR.out]
              exact ⟨rfl, SAME.out _ ((GG.out.drewN _).drewN _)⟩
            · clear BAD BADN
              go_enter Try.func13, Try.ntmps13
              go_wp2_with fail
              refine (FD.out _ GG.out).mono ?_
              rintro ex w2 ⟨rfl, e2⟩
              have e3 := e2.symm
              subst e3
              clear e2 FD
              go_wp2_with fail
              go_quiet (fail)
              go_wp2_with fail
              go_quiet (fail)
              go_wp2_with fail
              go_ret
              rw [PR.out]
              exact ⟨rfl, SAME.out _ ((GG.out.drewN _).drewN _)⟩
          · clear TH
            obtain ⟨ek, ev, eg⟩ := e
            simp only at m0 m1 m2 hu1 FD IN KEEP BAD PR ANE ⊢
            rcases BAD.out with rfl | ⟨rfl, b2⟩
            · clear BAD BADN
              go_enter Try.func13, Try.ntmps13
              go_wp2_with fail
              refine (FD.out _ GG.out).mono ?_
              rintro ex w2 ⟨rfl, e2⟩
              have e3 := e2.symm
              subst e3
              clear e2 FD
              go_wp2_with fail
              go_quiet (fail)
              go_wp2_with fail
              go_quiet (fail)
              go_wp2_with fail
              go_ret
              rw [PR.out]
              exact ⟨rfl, SAME.out _ ((GG.out.drewN _).drewN _)⟩
            · clear BAD BADN
              go_enter Try.func13, Try.ntmps13
              go_wp2_with fail
              refine (FD.out _ GG.out).mono ?_
              rintro ex w2 ⟨rfl, e2⟩
              have e3 := e2.symm
              subst e3
              clear e2 FD
              go_wp2_with fail
              go_quiet (fail)
              go_wp2_with fail
              go_quiet (fail)
              go_wp2_with fail
              go_ret
              rw [PR.out]
              exact ⟨rfl, SAME.out _ ((GG.out.drewN _).drewN _)⟩
        · have PR : Aside (putR most l e = (0, ins Ent.k e l)) := by show _ = _; unfold putR; rw [if_neg BADN.out, if_neg (fun q => full q.2)]
          have t1 : ((n : Int) == most) = false := by rw [← hln]; simpa using full
          have IN : Aside (ins Ent.k e l = l.take (plc Ent.k e.k l) ++ e :: l.drop (plc Ent.k e.k l)) := ins_new hk
          have ANE : Hid (∀ (W : World) (v' : Value), Gw w W → EO W w.heap.size v' (ins Ent.k e l) → PutOut 55 w (W.setCell ⟨p, 1, none⟩ v') p S most (ins Ent.k e l)) := fun W v' g ho => ANEW.out W v' g ho (fun _ => full)
          have TH : ∀ y, l[plc Ent.k e.k l]? = some y → ¬ y.k = e.k := fun y hy q => by have := plc_there H.out.rise hy q; rw [hk] at this; cases this
          generalize plc Ent.k e.k l = pp at FD ppn IN TH
          rw [hln] at hn c1 hc ppn KEEP NEWS LEN
          clear ANEW full hk hln
          by_cases pn : pp < n
          · obtain ⟨y, hy⟩ : ∃ y, l[pp]? = some y := ⟨_, List.getElem?_eq_getElem (by rw [LN.out]; exact pn)⟩
            have nk := TH y hy
            have kc : u1.cell? ⟨b, pp * 3, none⟩ = some (.int .u64 y.k) := by
              have := NEWS.out u1 pp 1 (Gw.refl _) _ rfl (by omega) 0 (.int .u64 y.k) (by
                have e1 : (l.drop pp).take 1 = [y] := by
                  obtain ⟨z1, z2⟩ := List.getElem?_eq_some_iff.1 hy
                  rw [List.drop_eq_getElem_cons z1, z2]; rfl
                rw [e1]; rfl)
              rw [Addr.add_lit] at this
              simpa using this
            generalize y.k = yk at kc nk
            clear hy TH
            have nk' : (yk == e.k) = false := by simpa using nk
            clear nk
            have p1 : (pp : Int) < (n : Int) := by omega
            have p2 : (pp : Int) ≤ (n : Int) := by omega
            have p3 : (pp : Int) ≤ (c : Int) := by omega
            have p4 : (n : Int) ≤ (c : Int) := by omega
            obtain ⟨ek, ev, eg⟩ := e
            simp only at m0 m1 m2 hu1 FD IN KEEP nk' BAD PR ANE ⊢
            have jc : (c = pp) = False := by simp; omega
            rcases BAD.out with rfl | ⟨rfl, b2⟩
            · clear BAD BADN
              go_enter Try.func13, Try.ntmps13
              go_wp2_with fail
              refine (FD.out _ GG.out).mono ?_
              rintro ex w2 ⟨rfl, e2⟩
              have e3 := e2.symm
              subst e3
              clear e2 FD
              go_wp2_with fail
              go_quiet (fail)
              go_wp2_with fail
              go_quiet (fail)
              generalize hW2 : World.drewN (World.drewN u1 _) _ = W2
              have G2 : Aside (Gw u1 W2) := by rw [← hW2]; exact ((Gw.refl _).drewN _).drewN _
              obtain ⟨⟨k1, k0, kf, kp⟩, q0, q1, q2, q3⟩ := KEEP.out W2 G2.out
              clear kc c1 c0 f1 pl m0 m1 m2 bl hW2 hu1 hbq
              have TL : Aside ((l.take pp).length = pp) := by show _ = _; rw [List.length_take, LN.out]; exact Nat.min_eq_left (by omega)
              have TD : Aside ((l.drop (pp)).length = n - (pp)) := by show _ = _; rw [List.length_drop, LN.out]
              have FL : Aside (((l.take pp).flatMap ent3).length = pp * 3) := by show _ = _; rw [flat_len, TL.out]
              have FT : Aside (((l.drop (pp)).flatMap ent3).length = (n - (pp)) * 3) := by show _ = _; rw [flat_len, TD.out]
              have NW1 : Hid (∀ ad, (some ⟨b, 0, none⟩ : Option Addr) = some ad → ∀ j u, ((l.take pp).flatMap ent3)[j]? = some u → W2.cell? (ad.add j) = some u) := fun ad ea j u hu => by
                have := NEWS.out W2 0 pp G2.out ad ea (by omega) j u (by simpa using hu)
                simpa using this
              go_wp2_with (at_builtin; refine wpList_append_src _ rfl _ _ 40 rfl u1.heap.size 35 ii (.agg #[.int .u64 0, .int .u64 0, .bool false]) 3 24 Try.underlying40 hii hz hs hby rfl (by decide) _ 0 [] rfl (World.ownsRow_nil _ _ _ _) _ pp _ ((l.take pp).flatMap ent3) rfl (fun q => by cases q) FL.out NW1.out (flat_ones _) (by simp only [maxLen]; omega) (by omega) G2.out.size ?_)
              intro v' w5 r1 r2 r3
              have E5 : Aside (EO w5 u1.heap.size v' (l.take pp)) := by
                show World.ownsRow _ _ _ _ _ _ _
                rw [TL.out]; simpa using r1
              have G5 : Aside (Gw u1 w5) := G2.out.grown r2 (fun q hq => by cases hq)
              obtain ⟨bo5, c5, ev5, hc5⟩ := eo_shape_n E5.out TL.out
              subst ev5
              obtain ⟨⟨k1', _, kf', kp'⟩, q0', q1', q2', q3'⟩ := KEEP.out w5 G5.out
              clear r1 r2 r3 NW1 G2 k1 k0 kf kp q0 q1 q2 q3
              go_wp2_with (at_builtin; refine wpList_append_own _ rfl _ _ 40 rfl u1.heap.size 35 ii (.agg #[.int .u64 0, .int .u64 0, .bool false]) 3 24 Try.underlying40 hii hz hs hby rfl (by decide) _ pp ((l.take pp).flatMap ent3) rfl ((eo_row E5.out TL.out).alloc _) ⟨w5.heap.size, 0, none⟩ 1 1 (ent3 ⟨ek, ev, false⟩) rfl rfl (new_ent w5 ⟨ek, ev, false⟩) (ent3_one _) (by simp only [maxLen]; omega) (by omega) (Nat.le_trans G5.out.size ((Gw.refl w5).alloc _ _).size) ?_)
              intro v' w6 r1 r2 r3
              obtain ⟨b6, c6, rfl, hb6, hc6, _⟩ := own_slice r1 (by simpa using r3)
              have O6 : Aside _ := r1
              have G6 : Aside (Gw u1 w6) := (G5.out.alloc _ _).grown r2 (fun q hq => (World.ownsRow.lt E5.out q hq).1)
              obtain ⟨⟨k1, _, kf, kp⟩, q0, q1, q2, q3⟩ := KEEP.out w6 G6.out
              clear r1 r2 r3 k1' kf' kp' q0' q1' q2' q3'
              have NW2 : Hid (∀ ad, (some ⟨b, pp * 3, none⟩ : Option Addr) = some ad → ∀ t u, ((l.drop (pp)).flatMap ent3)[t]? = some u → w6.cell? (ad.add t) = some u) := fun ad ea t u hu => by
                cases ea
                have := NEWS.out w6 (pp) (n - (pp)) G6.out _ rfl (by omega) t u (by rw [List.take_of_length_le (by rw [TD.out]; exact Nat.le_refl _)]; exact hu)
                rw [Addr.add_lit] at this ⊢
                simpa using this
              go_wp2_with (at_builtin; refine wpList_append_src _ rfl _ _ 40 rfl u1.heap.size 35 ii (.agg #[.int .u64 0, .int .u64 0, .bool false]) 3 24 Try.underlying40 hii hz hs hby rfl (by decide) _ (pp + 1) _ rfl O6.out _ (n - (pp)) _ ((l.drop (pp)).flatMap ent3) (by first | rfl | (simp; done)) (fun q => by cases q) FT.out NW2.out (flat_ones _) (by simp only [maxLen]; omega) (by omega) G6.out.size ?_)
              intro v' w7 r1 r2 r3
              have E7 : Aside (EO w7 u1.heap.size v' (ins Ent.k ⟨ek, ev, false⟩ l)) := by
                show EO _ _ _ _
                rw [IN.out]
                first | exact eo_three r1 TL.out TD.out | exact eo_three (by rw [List.append_assoc]; exact r1) TL.out TD.out
              have G7 : Aside (Gw u1 w7) := G6.out.grown r2 (fun q hq => (World.ownsRow.lt O6.out q hq).1)
              obtain ⟨⟨k1', _, kf', kp'⟩, _⟩ := KEEP.out w7 G7.out
              obtain ⟨bo7, c7, ev7, hc7⟩ := eo_shape_n E7.out rfl
              have FIN : Hid _ := ANE.out _ _ (GG.out.trans G7.out) (eo_base E7.out GG.out.size)
              rw [ev7] at FIN ⊢
              clear r1 r2 r3 k1 kf kp q0 q1 q2 q3 E7 O6 E5 ev7
              generalize (ins Ent.k _ l).length = n7 at FIN ⊢
              go_wp2_with fail
              go_ret
              rw [PR.out]
              exact ⟨rfl, FIN.out⟩
            · clear BAD BADN
              go_enter Try.func13, Try.ntmps13
              go_wp2_with fail
              refine (FD.out _ GG.out).mono ?_
              rintro ex w2 ⟨rfl, e2⟩
              have e3 := e2.symm
              subst e3
              clear e2 FD
              go_wp2_with fail
              go_quiet (fail)
              go_wp2_with fail
              go_quiet (fail)
              generalize hW2 : World.drewN (World.drewN u1 _) _ = W2
              have G2 : Aside (Gw u1 W2) := by rw [← hW2]; exact ((Gw.refl _).drewN _).drewN _
              obtain ⟨⟨k1, k0, kf, kp⟩, q0, q1, q2, q3⟩ := KEEP.out W2 G2.out
              clear kc c1 c0 f1 pl m0 m1 m2 bl hW2 hu1 hbq
              have TL : Aside ((l.take pp).length = pp) := by show _ = _; rw [List.length_take, LN.out]; exact Nat.min_eq_left (by omega)
              have TD : Aside ((l.drop (pp)).length = n - (pp)) := by show _ = _; rw [List.length_drop, LN.out]
              have FL : Aside (((l.take pp).flatMap ent3).length = pp * 3) := by show _ = _; rw [flat_len, TL.out]
              have FT : Aside (((l.drop (pp)).flatMap ent3).length = (n - (pp)) * 3) := by show _ = _; rw [flat_len, TD.out]
              have NW1 : Hid (∀ ad, (some ⟨b, 0, none⟩ : Option Addr) = some ad → ∀ j u, ((l.take pp).flatMap ent3)[j]? = some u → W2.cell? (ad.add j) = some u) := fun ad ea j u hu => by
                have := NEWS.out W2 0 pp G2.out ad ea (by omega) j u (by simpa using hu)
                simpa using this
              go_wp2_with (at_builtin; refine wpList_append_src _ rfl _ _ 40 rfl u1.heap.size 35 ii (.agg #[.int .u64 0, .int .u64 0, .bool false]) 3 24 Try.underlying40 hii hz hs hby rfl (by decide) _ 0 [] rfl (World.ownsRow_nil _ _ _ _) _ pp _ ((l.take pp).flatMap ent3) rfl (fun q => by cases q) FL.out NW1.out (flat_ones _) (by simp only [maxLen]; omega) (by omega) G2.out.size ?_)
              intro v' w5 r1 r2 r3
              have E5 : Aside (EO w5 u1.heap.size v' (l.take pp)) := by
                show World.ownsRow _ _ _ _ _ _ _
                rw [TL.out]; simpa using r1
              have G5 : Aside (Gw u1 w5) := G2.out.grown r2 (fun q hq => by cases hq)
              obtain ⟨bo5, c5, ev5, hc5⟩ := eo_shape_n E5.out TL.out
              subst ev5
              obtain ⟨⟨k1', _, kf', kp'⟩, q0', q1', q2', q3'⟩ := KEEP.out w5 G5.out
              clear r1 r2 r3 NW1 G2 k1 k0 kf kp q0 q1 q2 q3
              go_wp2_with (at_builtin; refine wpList_append_own _ rfl _ _ 40 rfl u1.heap.size 35 ii (.agg #[.int .u64 0, .int .u64 0, .bool false]) 3 24 Try.underlying40 hii hz hs hby rfl (by decide) _ pp ((l.take pp).flatMap ent3) rfl ((eo_row E5.out TL.out).alloc _) ⟨w5.heap.size, 0, none⟩ 1 1 (ent3 ⟨ek, ev, true⟩) rfl rfl (new_ent w5 ⟨ek, ev, true⟩) (ent3_one _) (by simp only [maxLen]; omega) (by omega) (Nat.le_trans G5.out.size ((Gw.refl w5).alloc _ _).size) ?_)
              intro v' w6 r1 r2 r3
              obtain ⟨b6, c6, rfl, hb6, hc6, _⟩ := own_slice r1 (by simpa using r3)
              have O6 : Aside _ := r1
              have G6 : Aside (Gw u1 w6) := (G5.out.alloc _ _).grown r2 (fun q hq => (World.ownsRow.lt E5.out q hq).1)
              obtain ⟨⟨k1, _, kf, kp⟩, q0, q1, q2, q3⟩ := KEEP.out w6 G6.out
              clear r1 r2 r3 k1' kf' kp' q0' q1' q2' q3'
              have NW2 : Hid (∀ ad, (some ⟨b, pp * 3, none⟩ : Option Addr) = some ad → ∀ t u, ((l.drop (pp)).flatMap ent3)[t]? = some u → w6.cell? (ad.add t) = some u) := fun ad ea t u hu => by
                cases ea
                have := NEWS.out w6 (pp) (n - (pp)) G6.out _ rfl (by omega) t u (by rw [List.take_of_length_le (by rw [TD.out]; exact Nat.le_refl _)]; exact hu)
                rw [Addr.add_lit] at this ⊢
                simpa using this
              go_wp2_with (at_builtin; refine wpList_append_src _ rfl _ _ 40 rfl u1.heap.size 35 ii (.agg #[.int .u64 0, .int .u64 0, .bool false]) 3 24 Try.underlying40 hii hz hs hby rfl (by decide) _ (pp + 1) _ rfl O6.out _ (n - (pp)) _ ((l.drop (pp)).flatMap ent3) (by first | rfl | (simp; done)) (fun q => by cases q) FT.out NW2.out (flat_ones _) (by simp only [maxLen]; omega) (by omega) G6.out.size ?_)
              intro v' w7 r1 r2 r3
              have E7 : Aside (EO w7 u1.heap.size v' (ins Ent.k ⟨ek, ev, true⟩ l)) := by
                show EO _ _ _ _
                rw [IN.out]
                first | exact eo_three r1 TL.out TD.out | exact eo_three (by rw [List.append_assoc]; exact r1) TL.out TD.out
              have G7 : Aside (Gw u1 w7) := G6.out.grown r2 (fun q hq => (World.ownsRow.lt O6.out q hq).1)
              obtain ⟨⟨k1', _, kf', kp'⟩, _⟩ := KEEP.out w7 G7.out
              obtain ⟨bo7, c7, ev7, hc7⟩ := eo_shape_n E7.out rfl
              have FIN : Hid _ := ANE.out _ _ (GG.out.trans G7.out) (eo_base E7.out GG.out.size)
              rw [ev7] at FIN ⊢
              clear r1 r2 r3 k1 kf kp q0 q1 q2 q3 E7 O6 E5 ev7
              generalize (ins Ent.k _ l).length = n7 at FIN ⊢
              go_wp2_with fail
              go_ret
              rw [PR.out]
              exact ⟨rfl, FIN.out⟩
          · have pe : pp = n := by omega
            subst pe
            clear TH
            obtain ⟨ek, ev, eg⟩ := e
            simp only at m0 m1 m2 hu1 FD IN KEEP BAD PR ANE ⊢
            have p4 : (pp : Int) ≤ (c : Int) := by omega
            by_cases jc : c = pp
            · subst jc
              rcases BAD.out with rfl | ⟨rfl, b2⟩
              · clear BAD BADN
                go_enter Try.func13, Try.ntmps13
                go_wp2_with fail
                refine (FD.out _ GG.out).mono ?_
                rintro ex w2 ⟨rfl, e2⟩
                have e3 := e2.symm
                subst e3
                clear e2 FD
                go_wp2_with fail
                go_quiet (fail)
                go_wp2_with fail
                go_quiet (fail)
                generalize hW2 : World.drewN (World.drewN u1 _) _ = W2
                have G2 : Aside (Gw u1 W2) := by rw [← hW2]; exact ((Gw.refl _).drewN _).drewN _
                obtain ⟨⟨k1, k0, kf, kp⟩, q0, q1, q2, q3⟩ := KEEP.out W2 G2.out
                clear c1 c0 f1 pl m0 m1 m2 bl hW2 hu1 hbq
                have TL : Aside ((l.take c).length = c) := by show _ = _; rw [List.length_take, LN.out]; exact Nat.min_eq_left (by omega)
                have TD : Aside ((l.drop (c)).length = c - (c)) := by show _ = _; rw [List.length_drop, LN.out]
                have FL : Aside (((l.take c).flatMap ent3).length = c * 3) := by show _ = _; rw [flat_len, TL.out]
                have FT : Aside (((l.drop (c)).flatMap ent3).length = (c - (c)) * 3) := by show _ = _; rw [flat_len, TD.out]
                have NW1 : Hid (∀ ad, (some ⟨b, 0, none⟩ : Option Addr) = some ad → ∀ j u, ((l.take c).flatMap ent3)[j]? = some u → W2.cell? (ad.add j) = some u) := fun ad ea j u hu => by
                  have := NEWS.out W2 0 c G2.out ad ea (by omega) j u (by simpa using hu)
                  simpa using this
                go_wp2_with (at_builtin; refine wpList_append_src _ rfl _ _ 40 rfl u1.heap.size 35 ii (.agg #[.int .u64 0, .int .u64 0, .bool false]) 3 24 Try.underlying40 hii hz hs hby rfl (by decide) _ 0 [] rfl (World.ownsRow_nil _ _ _ _) _ c _ ((l.take c).flatMap ent3) rfl (fun q => by cases q) FL.out NW1.out (flat_ones _) (by simp only [maxLen]; omega) (by omega) G2.out.size ?_)
                intro v' w5 r1 r2 r3
                have E5 : Aside (EO w5 u1.heap.size v' (l.take c)) := by
                  show World.ownsRow _ _ _ _ _ _ _
                  rw [TL.out]; simpa using r1
                have G5 : Aside (Gw u1 w5) := G2.out.grown r2 (fun q hq => by cases hq)
                obtain ⟨bo5, c5, ev5, hc5⟩ := eo_shape_n E5.out TL.out
                subst ev5
                obtain ⟨⟨k1', _, kf', kp'⟩, q0', q1', q2', q3'⟩ := KEEP.out w5 G5.out
                clear r1 r2 r3 NW1 G2 k1 k0 kf kp q0 q1 q2 q3
                go_wp2_with (at_builtin; refine wpList_append_own _ rfl _ _ 40 rfl u1.heap.size 35 ii (.agg #[.int .u64 0, .int .u64 0, .bool false]) 3 24 Try.underlying40 hii hz hs hby rfl (by decide) _ c ((l.take c).flatMap ent3) rfl ((eo_row E5.out TL.out).alloc _) ⟨w5.heap.size, 0, none⟩ 1 1 (ent3 ⟨ek, ev, false⟩) rfl rfl (new_ent w5 ⟨ek, ev, false⟩) (ent3_one _) (by simp only [maxLen]; omega) (by omega) (Nat.le_trans G5.out.size ((Gw.refl w5).alloc _ _).size) ?_)
                intro v' w6 r1 r2 r3
                obtain ⟨b6, c6, rfl, hb6, hc6, _⟩ := own_slice r1 (by simpa using r3)
                have O6 : Aside _ := r1
                have G6 : Aside (Gw u1 w6) := (G5.out.alloc _ _).grown r2 (fun q hq => (World.ownsRow.lt E5.out q hq).1)
                obtain ⟨⟨k1, _, kf, kp⟩, q0, q1, q2, q3⟩ := KEEP.out w6 G6.out
                clear r1 r2 r3 k1' kf' kp' q0' q1' q2' q3'
                have FIN : Hid _ := ANE.out w6 (.slice (some ⟨b6, 0, none⟩) (c + 1) c6) (GG.out.trans G6.out) (eo_base (by rw [IN.out, List.drop_eq_nil_of_le (by rw [LN.out]; exact Nat.le_refl _)]; exact eo_more (by rw [TL.out]; exact O6.out)) GG.out.size)
                clear O6 E5 q0 q1 q2 q3
                go_wp2_with fail
                go_ret
                rw [PR.out]
                exact ⟨rfl, FIN.out⟩
              · clear BAD BADN
                go_enter Try.func13, Try.ntmps13
                go_wp2_with fail
                refine (FD.out _ GG.out).mono ?_
                rintro ex w2 ⟨rfl, e2⟩
                have e3 := e2.symm
                subst e3
                clear e2 FD
                go_wp2_with fail
                go_quiet (fail)
                go_wp2_with fail
                go_quiet (fail)
                generalize hW2 : World.drewN (World.drewN u1 _) _ = W2
                have G2 : Aside (Gw u1 W2) := by rw [← hW2]; exact ((Gw.refl _).drewN _).drewN _
                obtain ⟨⟨k1, k0, kf, kp⟩, q0, q1, q2, q3⟩ := KEEP.out W2 G2.out
                clear c1 c0 f1 pl m0 m1 m2 bl hW2 hu1 hbq
                have TL : Aside ((l.take c).length = c) := by show _ = _; rw [List.length_take, LN.out]; exact Nat.min_eq_left (by omega)
                have TD : Aside ((l.drop (c)).length = c - (c)) := by show _ = _; rw [List.length_drop, LN.out]
                have FL : Aside (((l.take c).flatMap ent3).length = c * 3) := by show _ = _; rw [flat_len, TL.out]
                have FT : Aside (((l.drop (c)).flatMap ent3).length = (c - (c)) * 3) := by show _ = _; rw [flat_len, TD.out]
                have NW1 : Hid (∀ ad, (some ⟨b, 0, none⟩ : Option Addr) = some ad → ∀ j u, ((l.take c).flatMap ent3)[j]? = some u → W2.cell? (ad.add j) = some u) := fun ad ea j u hu => by
                  have := NEWS.out W2 0 c G2.out ad ea (by omega) j u (by simpa using hu)
                  simpa using this
                go_wp2_with (at_builtin; refine wpList_append_src _ rfl _ _ 40 rfl u1.heap.size 35 ii (.agg #[.int .u64 0, .int .u64 0, .bool false]) 3 24 Try.underlying40 hii hz hs hby rfl (by decide) _ 0 [] rfl (World.ownsRow_nil _ _ _ _) _ c _ ((l.take c).flatMap ent3) rfl (fun q => by cases q) FL.out NW1.out (flat_ones _) (by simp only [maxLen]; omega) (by omega) G2.out.size ?_)
                intro v' w5 r1 r2 r3
                have E5 : Aside (EO w5 u1.heap.size v' (l.take c)) := by
                  show World.ownsRow _ _ _ _ _ _ _
                  rw [TL.out]; simpa using r1
                have G5 : Aside (Gw u1 w5) := G2.out.grown r2 (fun q hq => by cases hq)
                obtain ⟨bo5, c5, ev5, hc5⟩ := eo_shape_n E5.out TL.out
                subst ev5
                obtain ⟨⟨k1', _, kf', kp'⟩, q0', q1', q2', q3'⟩ := KEEP.out w5 G5.out
                clear r1 r2 r3 NW1 G2 k1 k0 kf kp q0 q1 q2 q3
                go_wp2_with (at_builtin; refine wpList_append_own _ rfl _ _ 40 rfl u1.heap.size 35 ii (.agg #[.int .u64 0, .int .u64 0, .bool false]) 3 24 Try.underlying40 hii hz hs hby rfl (by decide) _ c ((l.take c).flatMap ent3) rfl ((eo_row E5.out TL.out).alloc _) ⟨w5.heap.size, 0, none⟩ 1 1 (ent3 ⟨ek, ev, true⟩) rfl rfl (new_ent w5 ⟨ek, ev, true⟩) (ent3_one _) (by simp only [maxLen]; omega) (by omega) (Nat.le_trans G5.out.size ((Gw.refl w5).alloc _ _).size) ?_)
                intro v' w6 r1 r2 r3
                obtain ⟨b6, c6, rfl, hb6, hc6, _⟩ := own_slice r1 (by simpa using r3)
                have O6 : Aside _ := r1
                have G6 : Aside (Gw u1 w6) := (G5.out.alloc _ _).grown r2 (fun q hq => (World.ownsRow.lt E5.out q hq).1)
                obtain ⟨⟨k1, _, kf, kp⟩, q0, q1, q2, q3⟩ := KEEP.out w6 G6.out
                clear r1 r2 r3 k1' kf' kp' q0' q1' q2' q3'
                have FIN : Hid _ := ANE.out w6 (.slice (some ⟨b6, 0, none⟩) (c + 1) c6) (GG.out.trans G6.out) (eo_base (by rw [IN.out, List.drop_eq_nil_of_le (by rw [LN.out]; exact Nat.le_refl _)]; exact eo_more (by rw [TL.out]; exact O6.out)) GG.out.size)
                clear O6 E5 q0 q1 q2 q3
                go_wp2_with fail
                go_ret
                rw [PR.out]
                exact ⟨rfl, FIN.out⟩
            · have jc2 : (c = pp) = False := by simp; omega
              rcases BAD.out with rfl | ⟨rfl, b2⟩
              · clear BAD BADN
                go_enter Try.func13, Try.ntmps13
                go_wp2_with fail
                refine (FD.out _ GG.out).mono ?_
                rintro ex w2 ⟨rfl, e2⟩
                have e3 := e2.symm
                subst e3
                clear e2 FD
                go_wp2_with fail
                go_quiet (fail)
                go_wp2_with fail
                go_quiet (fail)
                generalize hW2 : World.drewN (World.drewN u1 _) _ = W2
                have G2 : Aside (Gw u1 W2) := by rw [← hW2]; exact ((Gw.refl _).drewN _).drewN _
                obtain ⟨⟨k1, k0, kf, kp⟩, q0, q1, q2, q3⟩ := KEEP.out W2 G2.out
                clear c1 c0 f1 pl m0 m1 m2 bl hW2 hu1 hbq
                have TL : Aside ((l.take pp).length = pp) := by show _ = _; rw [List.length_take, LN.out]; exact Nat.min_eq_left (by omega)
                have TD : Aside ((l.drop (pp)).length = pp - (pp)) := by show _ = _; rw [List.length_drop, LN.out]
                have FL : Aside (((l.take pp).flatMap ent3).length = pp * 3) := by show _ = _; rw [flat_len, TL.out]
                have FT : Aside (((l.drop (pp)).flatMap ent3).length = (pp - (pp)) * 3) := by show _ = _; rw [flat_len, TD.out]
                have NW1 : Hid (∀ ad, (some ⟨b, 0, none⟩ : Option Addr) = some ad → ∀ j u, ((l.take pp).flatMap ent3)[j]? = some u → W2.cell? (ad.add j) = some u) := fun ad ea j u hu => by
                  have := NEWS.out W2 0 pp G2.out ad ea (by omega) j u (by simpa using hu)
                  simpa using this
                go_wp2_with (at_builtin; refine wpList_append_src _ rfl _ _ 40 rfl u1.heap.size 35 ii (.agg #[.int .u64 0, .int .u64 0, .bool false]) 3 24 Try.underlying40 hii hz hs hby rfl (by decide) _ 0 [] rfl (World.ownsRow_nil _ _ _ _) _ pp _ ((l.take pp).flatMap ent3) rfl (fun q => by cases q) FL.out NW1.out (flat_ones _) (by simp only [maxLen]; omega) (by omega) G2.out.size ?_)
                intro v' w5 r1 r2 r3
                have E5 : Aside (EO w5 u1.heap.size v' (l.take pp)) := by
                  show World.ownsRow _ _ _ _ _ _ _
                  rw [TL.out]; simpa using r1
                have G5 : Aside (Gw u1 w5) := G2.out.grown r2 (fun q hq => by cases hq)
                obtain ⟨bo5, c5, ev5, hc5⟩ := eo_shape_n E5.out TL.out
                subst ev5
                obtain ⟨⟨k1', _, kf', kp'⟩, q0', q1', q2', q3'⟩ := KEEP.out w5 G5.out
                clear r1 r2 r3 NW1 G2 k1 k0 kf kp q0 q1 q2 q3
                go_wp2_with (at_builtin; refine wpList_append_own _ rfl _ _ 40 rfl u1.heap.size 35 ii (.agg #[.int .u64 0, .int .u64 0, .bool false]) 3 24 Try.underlying40 hii hz hs hby rfl (by decide) _ pp ((l.take pp).flatMap ent3) rfl ((eo_row E5.out TL.out).alloc _) ⟨w5.heap.size, 0, none⟩ 1 1 (ent3 ⟨ek, ev, false⟩) rfl rfl (new_ent w5 ⟨ek, ev, false⟩) (ent3_one _) (by simp only [maxLen]; omega) (by omega) (Nat.le_trans G5.out.size ((Gw.refl w5).alloc _ _).size) ?_)
                intro v' w6 r1 r2 r3
                obtain ⟨b6, c6, rfl, hb6, hc6, _⟩ := own_slice r1 (by simpa using r3)
                have O6 : Aside _ := r1
                have G6 : Aside (Gw u1 w6) := (G5.out.alloc _ _).grown r2 (fun q hq => (World.ownsRow.lt E5.out q hq).1)
                obtain ⟨⟨k1, _, kf, kp⟩, q0, q1, q2, q3⟩ := KEEP.out w6 G6.out
                clear r1 r2 r3 k1' kf' kp' q0' q1' q2' q3'
                have FIN : Hid _ := ANE.out w6 (.slice (some ⟨b6, 0, none⟩) (pp + 1) c6) (GG.out.trans G6.out) (eo_base (by rw [IN.out, List.drop_eq_nil_of_le (by rw [LN.out]; exact Nat.le_refl _)]; exact eo_more (by rw [TL.out]; exact O6.out)) GG.out.size)
                clear O6 E5 q0 q1 q2 q3
                go_wp2_with fail
                go_ret
                rw [PR.out]
                exact ⟨rfl, FIN.out⟩
              · clear BAD BADN
                go_enter Try.func13, Try.ntmps13
                go_wp2_with fail
                refine (FD.out _ GG.out).mono ?_
                rintro ex w2 ⟨rfl, e2⟩
                have e3 := e2.symm
                subst e3
                clear e2 FD
                go_wp2_with fail
                go_quiet (fail)
                go_wp2_with fail
                go_quiet (fail)
                generalize hW2 : World.drewN (World.drewN u1 _) _ = W2
                have G2 : Aside (Gw u1 W2) := by rw [← hW2]; exact ((Gw.refl _).drewN _).drewN _
                obtain ⟨⟨k1, k0, kf, kp⟩, q0, q1, q2, q3⟩ := KEEP.out W2 G2.out
                clear c1 c0 f1 pl m0 m1 m2 bl hW2 hu1 hbq
                have TL : Aside ((l.take pp).length = pp) := by show _ = _; rw [List.length_take, LN.out]; exact Nat.min_eq_left (by omega)
                have TD : Aside ((l.drop (pp)).length = pp - (pp)) := by show _ = _; rw [List.length_drop, LN.out]
                have FL : Aside (((l.take pp).flatMap ent3).length = pp * 3) := by show _ = _; rw [flat_len, TL.out]
                have FT : Aside (((l.drop (pp)).flatMap ent3).length = (pp - (pp)) * 3) := by show _ = _; rw [flat_len, TD.out]
                have NW1 : Hid (∀ ad, (some ⟨b, 0, none⟩ : Option Addr) = some ad → ∀ j u, ((l.take pp).flatMap ent3)[j]? = some u → W2.cell? (ad.add j) = some u) := fun ad ea j u hu => by
                  have := NEWS.out W2 0 pp G2.out ad ea (by omega) j u (by simpa using hu)
                  simpa using this
                go_wp2_with (at_builtin; refine wpList_append_src _ rfl _ _ 40 rfl u1.heap.size 35 ii (.agg #[.int .u64 0, .int .u64 0, .bool false]) 3 24 Try.underlying40 hii hz hs hby rfl (by decide) _ 0 [] rfl (World.ownsRow_nil _ _ _ _) _ pp _ ((l.take pp).flatMap ent3) rfl (fun q => by cases q) FL.out NW1.out (flat_ones _) (by simp only [maxLen]; omega) (by omega) G2.out.size ?_)
                intro v' w5 r1 r2 r3
                have E5 : Aside (EO w5 u1.heap.size v' (l.take pp)) := by
                  show World.ownsRow _ _ _ _ _ _ _
                  rw [TL.out]; simpa using r1
                have G5 : Aside (Gw u1 w5) := G2.out.grown r2 (fun q hq => by cases hq)
                obtain ⟨bo5, c5, ev5, hc5⟩ := eo_shape_n E5.out TL.out
                subst ev5
                obtain ⟨⟨k1', _, kf', kp'⟩, q0', q1', q2', q3'⟩ := KEEP.out w5 G5.out
                clear r1 r2 r3 NW1 G2 k1 k0 kf kp q0 q1 q2 q3
                go_wp2_with (at_builtin; refine wpList_append_own _ rfl _ _ 40 rfl u1.heap.size 35 ii (.agg #[.int .u64 0, .int .u64 0, .bool false]) 3 24 Try.underlying40 hii hz hs hby rfl (by decide) _ pp ((l.take pp).flatMap ent3) rfl ((eo_row E5.out TL.out).alloc _) ⟨w5.heap.size, 0, none⟩ 1 1 (ent3 ⟨ek, ev, true⟩) rfl rfl (new_ent w5 ⟨ek, ev, true⟩) (ent3_one _) (by simp only [maxLen]; omega) (by omega) (Nat.le_trans G5.out.size ((Gw.refl w5).alloc _ _).size) ?_)
                intro v' w6 r1 r2 r3
                obtain ⟨b6, c6, rfl, hb6, hc6, _⟩ := own_slice r1 (by simpa using r3)
                have O6 : Aside _ := r1
                have G6 : Aside (Gw u1 w6) := (G5.out.alloc _ _).grown r2 (fun q hq => (World.ownsRow.lt E5.out q hq).1)
                obtain ⟨⟨k1, _, kf, kp⟩, q0, q1, q2, q3⟩ := KEEP.out w6 G6.out
                clear r1 r2 r3 k1' kf' kp' q0' q1' q2' q3'
                have FIN : Hid _ := ANE.out w6 (.slice (some ⟨b6, 0, none⟩) (pp + 1) c6) (GG.out.trans G6.out) (eo_base (by rw [IN.out, List.drop_eq_nil_of_le (by rw [LN.out]; exact Nat.le_refl _)]; exact eo_more (by rw [TL.out]; exact O6.out)) GG.out.size)
                clear O6 E5 q0 q1 q2 q3
                go_wp2_with fail
                go_ret
                rw [PR.out]
                exact ⟨rfl, FIN.out⟩
      | some y =>
        have PR : Aside (putR most l e = (0, ins Ent.k e l)) := by show _ = _; unfold putR; rw [if_neg BADN.out, if_neg (fun q => by rw [hk] at q; cases q.1)]
        have IN : Aside (ins Ent.k e l = l.take (plc Ent.k e.k l) ++ e :: l.drop (plc Ent.k e.k l + 1)) := ins_there' H.out.rise hk
        have ANE : Hid (∀ (W : World) (v' : Value), Gw w W → EO W w.heap.size v' (ins Ent.k e l) → PutOut 55 w (W.setCell ⟨p, 1, none⟩ v') p S most (ins Ent.k e l)) := fun W v' g ho => ANEW.out W v' g ho (fun q => by rw [hk] at q; cases q)
        have pn := plc_found_lt H.out.rise hk
        rw [hln] at pn
        obtain ⟨hy, hyk⟩ := plc_found H.out.rise hk
        generalize plc Ent.k e.k l = pp at FD ppn IN hy pn
        rw [hln] at hn c1 hc ppn KEEP NEWS LEN
        have TH : ∀ y', l[pp]? = some y' → y'.k = e.k := fun y' hy' => by rw [hy] at hy'; cases hy'; exact hyk
        clear ANEW hk hln hy hyk
        obtain ⟨y, hy⟩ : ∃ y, l[pp]? = some y := ⟨_, List.getElem?_eq_getElem (by rw [LN.out]; exact pn)⟩
        have nk := TH y hy
        have kc : u1.cell? ⟨b, pp * 3, none⟩ = some (.int .u64 y.k) := by
          have := NEWS.out u1 pp 1 (Gw.refl _) _ rfl (by omega) 0 (.int .u64 y.k) (by
            have e1 : (l.drop pp).take 1 = [y] := by
              obtain ⟨z1, z2⟩ := List.getElem?_eq_some_iff.1 hy
              rw [List.drop_eq_getElem_cons z1, z2]; rfl
            rw [e1]; rfl)
          rw [Addr.add_lit] at this
          simpa using this
        generalize y.k = yk at kc nk
        clear hy TH
        subst nk
        have p1 : (pp : Int) < (n : Int) := by omega
        have p2 : (pp : Int) ≤ (n : Int) := by omega
        have p3 : (pp : Int) ≤ (c : Int) := by omega
        have p4 : (n : Int) ≤ (c : Int) := by omega
        have w1 : IntKind.i64.wrap ((pp : Int) + 1) = (pp : Int) + 1 := by rw [IntKind.wrap_i64]; omega
        have w2 : (pp : Int) + 1 ≤ (n : Int) := by omega
        have w3 : (pp : Int) + 1 ≤ (c : Int) := by omega
        have w4 : 0 ≤ (pp : Int) + 1 := by omega
        obtain ⟨ek, ev, eg⟩ := e
        simp only at m0 m1 m2 hu1 FD IN KEEP BAD PR ANE ⊢
        by_cases jc : c = pp + 1
        · have je : n = pp + 1 := by omega
          subst je
          subst jc
          have pz1 : (pp : Int) < (pp : Int) + 1 := by omega
          have pz2 : (pp : Int) ≤ (pp : Int) + 1 := by omega
          rcases BAD.out with rfl | ⟨rfl, b2⟩
          · clear BAD BADN
            go_enter Try.func13, Try.ntmps13
            go_wp2_with fail
            refine (FD.out _ GG.out).mono ?_
            rintro ex w2 ⟨rfl, e2⟩
            have e3 := e2.symm
            subst e3
            clear e2 FD
            go_wp2_with fail
            go_quiet (fail)
            go_wp2_with fail
            go_quiet (fail)
            generalize hW2 : World.drewN (World.drewN u1 _) _ = W2
            have G2 : Aside (Gw u1 W2) := by rw [← hW2]; exact ((Gw.refl _).drewN _).drewN _
            obtain ⟨⟨k1, k0, kf, kp⟩, q0, q1, q2, q3⟩ := KEEP.out W2 G2.out
            clear kc c1 c0 f1 pl m0 m1 m2 bl hW2 hu1 hbq
            have TL : Aside ((l.take pp).length = pp) := by show _ = _; rw [List.length_take, LN.out]; exact Nat.min_eq_left (by omega)
            have TD : Aside ((l.drop (pp + 1)).length = pp + 1 - (pp + 1)) := by show _ = _; rw [List.length_drop, LN.out]
            have FL : Aside (((l.take pp).flatMap ent3).length = pp * 3) := by show _ = _; rw [flat_len, TL.out]
            have FT : Aside (((l.drop (pp + 1)).flatMap ent3).length = (pp + 1 - (pp + 1)) * 3) := by show _ = _; rw [flat_len, TD.out]
            have NW1 : Hid (∀ ad, (some ⟨b, 0, none⟩ : Option Addr) = some ad → ∀ j u, ((l.take pp).flatMap ent3)[j]? = some u → W2.cell? (ad.add j) = some u) := fun ad ea j u hu => by
              have := NEWS.out W2 0 pp G2.out ad ea (by omega) j u (by simpa using hu)
              simpa using this
            go_wp2_with (at_builtin; refine wpList_append_src _ rfl _ _ 40 rfl u1.heap.size 35 ii (.agg #[.int .u64 0, .int .u64 0, .bool false]) 3 24 Try.underlying40 hii hz hs hby rfl (by decide) _ 0 [] rfl (World.ownsRow_nil _ _ _ _) _ pp _ ((l.take pp).flatMap ent3) rfl (fun q => by cases q) FL.out NW1.out (flat_ones _) (by simp only [maxLen]; omega) (by omega) G2.out.size ?_)
            intro v' w5 r1 r2 r3
            have E5 : Aside (EO w5 u1.heap.size v' (l.take pp)) := by
              show World.ownsRow _ _ _ _ _ _ _
              rw [TL.out]; simpa using r1
            have G5 : Aside (Gw u1 w5) := G2.out.grown r2 (fun q hq => by cases hq)
            obtain ⟨bo5, c5, ev5, hc5⟩ := eo_shape_n E5.out TL.out
            subst ev5
            obtain ⟨⟨k1', _, kf', kp'⟩, q0', q1', q2', q3'⟩ := KEEP.out w5 G5.out
            clear r1 r2 r3 NW1 G2 k1 k0 kf kp q0 q1 q2 q3
            go_wp2_with (at_builtin; refine wpList_append_own _ rfl _ _ 40 rfl u1.heap.size 35 ii (.agg #[.int .u64 0, .int .u64 0, .bool false]) 3 24 Try.underlying40 hii hz hs hby rfl (by decide) _ pp ((l.take pp).flatMap ent3) rfl ((eo_row E5.out TL.out).alloc _) ⟨w5.heap.size, 0, none⟩ 1 1 (ent3 ⟨ek, ev, false⟩) rfl rfl (new_ent w5 ⟨ek, ev, false⟩) (ent3_one _) (by simp only [maxLen]; omega) (by omega) (Nat.le_trans G5.out.size ((Gw.refl w5).alloc _ _).size) ?_)
            intro v' w6 r1 r2 r3
            obtain ⟨b6, c6, rfl, hb6, hc6, _⟩ := own_slice r1 (by simpa using r3)
            have O6 : Aside _ := r1
            have G6 : Aside (Gw u1 w6) := (G5.out.alloc _ _).grown r2 (fun q hq => (World.ownsRow.lt E5.out q hq).1)
            obtain ⟨⟨k1, _, kf, kp⟩, q0, q1, q2, q3⟩ := KEEP.out w6 G6.out
            clear r1 r2 r3 k1' kf' kp' q0' q1' q2' q3'
            have FIN : Hid _ := ANE.out w6 (.slice (some ⟨b6, 0, none⟩) (pp + 1) c6) (GG.out.trans G6.out) (eo_base (by rw [IN.out, List.drop_eq_nil_of_le (by rw [LN.out]; exact Nat.le_refl _)]; exact eo_more (by rw [TL.out]; exact O6.out)) GG.out.size)
            clear O6 E5 q0 q1 q2 q3
            go_wp2_with fail
            go_ret
            rw [PR.out]
            exact ⟨rfl, FIN.out⟩
          · clear BAD BADN
            go_enter Try.func13, Try.ntmps13
            go_wp2_with fail
            refine (FD.out _ GG.out).mono ?_
            rintro ex w2 ⟨rfl, e2⟩
            have e3 := e2.symm
            subst e3
            clear e2 FD
            go_wp2_with fail
            go_quiet (fail)
            go_wp2_with fail
            go_quiet (fail)
            generalize hW2 : World.drewN (World.drewN u1 _) _ = W2
            have G2 : Aside (Gw u1 W2) := by rw [← hW2]; exact ((Gw.refl _).drewN _).drewN _
            obtain ⟨⟨k1, k0, kf, kp⟩, q0, q1, q2, q3⟩ := KEEP.out W2 G2.out
            clear kc c1 c0 f1 pl m0 m1 m2 bl hW2 hu1 hbq
            have TL : Aside ((l.take pp).length = pp) := by show _ = _; rw [List.length_take, LN.out]; exact Nat.min_eq_left (by omega)
            have TD : Aside ((l.drop (pp + 1)).length = pp + 1 - (pp + 1)) := by show _ = _; rw [List.length_drop, LN.out]
            have FL : Aside (((l.take pp).flatMap ent3).length = pp * 3) := by show _ = _; rw [flat_len, TL.out]
            have FT : Aside (((l.drop (pp + 1)).flatMap ent3).length = (pp + 1 - (pp + 1)) * 3) := by show _ = _; rw [flat_len, TD.out]
            have NW1 : Hid (∀ ad, (some ⟨b, 0, none⟩ : Option Addr) = some ad → ∀ j u, ((l.take pp).flatMap ent3)[j]? = some u → W2.cell? (ad.add j) = some u) := fun ad ea j u hu => by
              have := NEWS.out W2 0 pp G2.out ad ea (by omega) j u (by simpa using hu)
              simpa using this
            go_wp2_with (at_builtin; refine wpList_append_src _ rfl _ _ 40 rfl u1.heap.size 35 ii (.agg #[.int .u64 0, .int .u64 0, .bool false]) 3 24 Try.underlying40 hii hz hs hby rfl (by decide) _ 0 [] rfl (World.ownsRow_nil _ _ _ _) _ pp _ ((l.take pp).flatMap ent3) rfl (fun q => by cases q) FL.out NW1.out (flat_ones _) (by simp only [maxLen]; omega) (by omega) G2.out.size ?_)
            intro v' w5 r1 r2 r3
            have E5 : Aside (EO w5 u1.heap.size v' (l.take pp)) := by
              show World.ownsRow _ _ _ _ _ _ _
              rw [TL.out]; simpa using r1
            have G5 : Aside (Gw u1 w5) := G2.out.grown r2 (fun q hq => by cases hq)
            obtain ⟨bo5, c5, ev5, hc5⟩ := eo_shape_n E5.out TL.out
            subst ev5
            obtain ⟨⟨k1', _, kf', kp'⟩, q0', q1', q2', q3'⟩ := KEEP.out w5 G5.out
            clear r1 r2 r3 NW1 G2 k1 k0 kf kp q0 q1 q2 q3
            go_wp2_with (at_builtin; refine wpList_append_own _ rfl _ _ 40 rfl u1.heap.size 35 ii (.agg #[.int .u64 0, .int .u64 0, .bool false]) 3 24 Try.underlying40 hii hz hs hby rfl (by decide) _ pp ((l.take pp).flatMap ent3) rfl ((eo_row E5.out TL.out).alloc _) ⟨w5.heap.size, 0, none⟩ 1 1 (ent3 ⟨ek, ev, true⟩) rfl rfl (new_ent w5 ⟨ek, ev, true⟩) (ent3_one _) (by simp only [maxLen]; omega) (by omega) (Nat.le_trans G5.out.size ((Gw.refl w5).alloc _ _).size) ?_)
            intro v' w6 r1 r2 r3
            obtain ⟨b6, c6, rfl, hb6, hc6, _⟩ := own_slice r1 (by simpa using r3)
            have O6 : Aside _ := r1
            have G6 : Aside (Gw u1 w6) := (G5.out.alloc _ _).grown r2 (fun q hq => (World.ownsRow.lt E5.out q hq).1)
            obtain ⟨⟨k1, _, kf, kp⟩, q0, q1, q2, q3⟩ := KEEP.out w6 G6.out
            clear r1 r2 r3 k1' kf' kp' q0' q1' q2' q3'
            have FIN : Hid _ := ANE.out w6 (.slice (some ⟨b6, 0, none⟩) (pp + 1) c6) (GG.out.trans G6.out) (eo_base (by rw [IN.out, List.drop_eq_nil_of_le (by rw [LN.out]; exact Nat.le_refl _)]; exact eo_more (by rw [TL.out]; exact O6.out)) GG.out.size)
            clear O6 E5 q0 q1 q2 q3
            go_wp2_with fail
            go_ret
            rw [PR.out]
            exact ⟨rfl, FIN.out⟩
        · have jc2 : (c = pp + 1) = False := by simp; omega
          rcases BAD.out with rfl | ⟨rfl, b2⟩
          · clear BAD BADN
            go_enter Try.func13, Try.ntmps13
            go_wp2_with fail
            refine (FD.out _ GG.out).mono ?_
            rintro ex w2 ⟨rfl, e2⟩
            have e3 := e2.symm
            subst e3
            clear e2 FD
            go_wp2_with fail
            go_quiet (fail)
            go_wp2_with fail
            go_quiet (fail)
            generalize hW2 : World.drewN (World.drewN u1 _) _ = W2
            have G2 : Aside (Gw u1 W2) := by rw [← hW2]; exact ((Gw.refl _).drewN _).drewN _
            obtain ⟨⟨k1, k0, kf, kp⟩, q0, q1, q2, q3⟩ := KEEP.out W2 G2.out
            clear kc c1 c0 f1 pl m0 m1 m2 bl hW2 hu1 hbq
            have TL : Aside ((l.take pp).length = pp) := by show _ = _; rw [List.length_take, LN.out]; exact Nat.min_eq_left (by omega)
            have TD : Aside ((l.drop (pp + 1)).length = n - (pp + 1)) := by show _ = _; rw [List.length_drop, LN.out]
            have FL : Aside (((l.take pp).flatMap ent3).length = pp * 3) := by show _ = _; rw [flat_len, TL.out]
            have FT : Aside (((l.drop (pp + 1)).flatMap ent3).length = (n - (pp + 1)) * 3) := by show _ = _; rw [flat_len, TD.out]
            have NW1 : Hid (∀ ad, (some ⟨b, 0, none⟩ : Option Addr) = some ad → ∀ j u, ((l.take pp).flatMap ent3)[j]? = some u → W2.cell? (ad.add j) = some u) := fun ad ea j u hu => by
              have := NEWS.out W2 0 pp G2.out ad ea (by omega) j u (by simpa using hu)
              simpa using this
            go_wp2_with (at_builtin; refine wpList_append_src _ rfl _ _ 40 rfl u1.heap.size 35 ii (.agg #[.int .u64 0, .int .u64 0, .bool false]) 3 24 Try.underlying40 hii hz hs hby rfl (by decide) _ 0 [] rfl (World.ownsRow_nil _ _ _ _) _ pp _ ((l.take pp).flatMap ent3) rfl (fun q => by cases q) FL.out NW1.out (flat_ones _) (by simp only [maxLen]; omega) (by omega) G2.out.size ?_)
            intro v' w5 r1 r2 r3
            have E5 : Aside (EO w5 u1.heap.size v' (l.take pp)) := by
              show World.ownsRow _ _ _ _ _ _ _
              rw [TL.out]; simpa using r1
            have G5 : Aside (Gw u1 w5) := G2.out.grown r2 (fun q hq => by cases hq)
            obtain ⟨bo5, c5, ev5, hc5⟩ := eo_shape_n E5.out TL.out
            subst ev5
            obtain ⟨⟨k1', _, kf', kp'⟩, q0', q1', q2', q3'⟩ := KEEP.out w5 G5.out
            clear r1 r2 r3 NW1 G2 k1 k0 kf kp q0 q1 q2 q3
            go_wp2_with (at_builtin; refine wpList_append_own _ rfl _ _ 40 rfl u1.heap.size 35 ii (.agg #[.int .u64 0, .int .u64 0, .bool false]) 3 24 Try.underlying40 hii hz hs hby rfl (by decide) _ pp ((l.take pp).flatMap ent3) rfl ((eo_row E5.out TL.out).alloc _) ⟨w5.heap.size, 0, none⟩ 1 1 (ent3 ⟨ek, ev, false⟩) rfl rfl (new_ent w5 ⟨ek, ev, false⟩) (ent3_one _) (by simp only [maxLen]; omega) (by omega) (Nat.le_trans G5.out.size ((Gw.refl w5).alloc _ _).size) ?_)
            intro v' w6 r1 r2 r3
            obtain ⟨b6, c6, rfl, hb6, hc6, _⟩ := own_slice r1 (by simpa using r3)
            have O6 : Aside _ := r1
            have G6 : Aside (Gw u1 w6) := (G5.out.alloc _ _).grown r2 (fun q hq => (World.ownsRow.lt E5.out q hq).1)
            obtain ⟨⟨k1, _, kf, kp⟩, q0, q1, q2, q3⟩ := KEEP.out w6 G6.out
            clear r1 r2 r3 k1' kf' kp' q0' q1' q2' q3'
            have NW2 : Hid (∀ ad, (some ⟨b, (pp + 1) * 3, none⟩ : Option Addr) = some ad → ∀ t u, ((l.drop (pp + 1)).flatMap ent3)[t]? = some u → w6.cell? (ad.add t) = some u) := fun ad ea t u hu => by
              cases ea
              have := NEWS.out w6 (pp + 1) (n - (pp + 1)) G6.out _ rfl (by omega) t u (by rw [List.take_of_length_le (by rw [TD.out]; exact Nat.le_refl _)]; exact hu)
              rw [Addr.add_lit] at this ⊢
              simpa using this
            go_wp2_with (at_builtin; refine wpList_append_src _ rfl _ _ 40 rfl u1.heap.size 35 ii (.agg #[.int .u64 0, .int .u64 0, .bool false]) 3 24 Try.underlying40 hii hz hs hby rfl (by decide) _ (pp + 1) _ rfl O6.out _ (n - (pp + 1)) _ ((l.drop (pp + 1)).flatMap ent3) (by first | rfl | (simp; done)) (fun q => by cases q) FT.out NW2.out (flat_ones _) (by simp only [maxLen]; omega) (by omega) G6.out.size ?_)
            intro v' w7 r1 r2 r3
            have E7 : Aside (EO w7 u1.heap.size v' (ins Ent.k ⟨ek, ev, false⟩ l)) := by
              show EO _ _ _ _
              rw [IN.out]
              first | exact eo_three r1 TL.out TD.out | exact eo_three (by rw [List.append_assoc]; exact r1) TL.out TD.out
            have G7 : Aside (Gw u1 w7) := G6.out.grown r2 (fun q hq => (World.ownsRow.lt O6.out q hq).1)
            obtain ⟨⟨k1', _, kf', kp'⟩, _⟩ := KEEP.out w7 G7.out
            obtain ⟨bo7, c7, ev7, hc7⟩ := eo_shape_n E7.out rfl
            have FIN : Hid _ := ANE.out _ _ (GG.out.trans G7.out) (eo_base E7.out GG.out.size)
            rw [ev7] at FIN ⊢
            clear r1 r2 r3 k1 kf kp q0 q1 q2 q3 E7 O6 E5 ev7
            generalize (ins Ent.k _ l).length = n7 at FIN ⊢
            go_wp2_with fail
            go_ret
            rw [PR.out]
            exact ⟨rfl, FIN.out⟩
          · clear BAD BADN
            go_enter Try.func13, Try.ntmps13
            go_wp2_with fail
            refine (FD.out _ GG.out).mono ?_
            rintro ex w2 ⟨rfl, e2⟩
            have e3 := e2.symm
            subst e3
            clear e2 FD
            go_wp2_with fail
            go_quiet (fail)
            go_wp2_with fail
            go_quiet (fail)
            generalize hW2 : World.drewN (World.drewN u1 _) _ = W2
            have G2 : Aside (Gw u1 W2) := by rw [← hW2]; exact ((Gw.refl _).drewN _).drewN _
            obtain ⟨⟨k1, k0, kf, kp⟩, q0, q1, q2, q3⟩ := KEEP.out W2 G2.out
            clear kc c1 c0 f1 pl m0 m1 m2 bl hW2 hu1 hbq
            have TL : Aside ((l.take pp).length = pp) := by show _ = _; rw [List.length_take, LN.out]; exact Nat.min_eq_left (by omega)
            have TD : Aside ((l.drop (pp + 1)).length = n - (pp + 1)) := by show _ = _; rw [List.length_drop, LN.out]
            have FL : Aside (((l.take pp).flatMap ent3).length = pp * 3) := by show _ = _; rw [flat_len, TL.out]
            have FT : Aside (((l.drop (pp + 1)).flatMap ent3).length = (n - (pp + 1)) * 3) := by show _ = _; rw [flat_len, TD.out]
            have NW1 : Hid (∀ ad, (some ⟨b, 0, none⟩ : Option Addr) = some ad → ∀ j u, ((l.take pp).flatMap ent3)[j]? = some u → W2.cell? (ad.add j) = some u) := fun ad ea j u hu => by
              have := NEWS.out W2 0 pp G2.out ad ea (by omega) j u (by simpa using hu)
              simpa using this
            go_wp2_with (at_builtin; refine wpList_append_src _ rfl _ _ 40 rfl u1.heap.size 35 ii (.agg #[.int .u64 0, .int .u64 0, .bool false]) 3 24 Try.underlying40 hii hz hs hby rfl (by decide) _ 0 [] rfl (World.ownsRow_nil _ _ _ _) _ pp _ ((l.take pp).flatMap ent3) rfl (fun q => by cases q) FL.out NW1.out (flat_ones _) (by simp only [maxLen]; omega) (by omega) G2.out.size ?_)
            intro v' w5 r1 r2 r3
            have E5 : Aside (EO w5 u1.heap.size v' (l.take pp)) := by
              show World.ownsRow _ _ _ _ _ _ _
              rw [TL.out]; simpa using r1
            have G5 : Aside (Gw u1 w5) := G2.out.grown r2 (fun q hq => by cases hq)
            obtain ⟨bo5, c5, ev5, hc5⟩ := eo_shape_n E5.out TL.out
            subst ev5
            obtain ⟨⟨k1', _, kf', kp'⟩, q0', q1', q2', q3'⟩ := KEEP.out w5 G5.out
            clear r1 r2 r3 NW1 G2 k1 k0 kf kp q0 q1 q2 q3
            go_wp2_with (at_builtin; refine wpList_append_own _ rfl _ _ 40 rfl u1.heap.size 35 ii (.agg #[.int .u64 0, .int .u64 0, .bool false]) 3 24 Try.underlying40 hii hz hs hby rfl (by decide) _ pp ((l.take pp).flatMap ent3) rfl ((eo_row E5.out TL.out).alloc _) ⟨w5.heap.size, 0, none⟩ 1 1 (ent3 ⟨ek, ev, true⟩) rfl rfl (new_ent w5 ⟨ek, ev, true⟩) (ent3_one _) (by simp only [maxLen]; omega) (by omega) (Nat.le_trans G5.out.size ((Gw.refl w5).alloc _ _).size) ?_)
            intro v' w6 r1 r2 r3
            obtain ⟨b6, c6, rfl, hb6, hc6, _⟩ := own_slice r1 (by simpa using r3)
            have O6 : Aside _ := r1
            have G6 : Aside (Gw u1 w6) := (G5.out.alloc _ _).grown r2 (fun q hq => (World.ownsRow.lt E5.out q hq).1)
            obtain ⟨⟨k1, _, kf, kp⟩, q0, q1, q2, q3⟩ := KEEP.out w6 G6.out
            clear r1 r2 r3 k1' kf' kp' q0' q1' q2' q3'
            have NW2 : Hid (∀ ad, (some ⟨b, (pp + 1) * 3, none⟩ : Option Addr) = some ad → ∀ t u, ((l.drop (pp + 1)).flatMap ent3)[t]? = some u → w6.cell? (ad.add t) = some u) := fun ad ea t u hu => by
              cases ea
              have := NEWS.out w6 (pp + 1) (n - (pp + 1)) G6.out _ rfl (by omega) t u (by rw [List.take_of_length_le (by rw [TD.out]; exact Nat.le_refl _)]; exact hu)
              rw [Addr.add_lit] at this ⊢
              simpa using this
            go_wp2_with (at_builtin; refine wpList_append_src _ rfl _ _ 40 rfl u1.heap.size 35 ii (.agg #[.int .u64 0, .int .u64 0, .bool false]) 3 24 Try.underlying40 hii hz hs hby rfl (by decide) _ (pp + 1) _ rfl O6.out _ (n - (pp + 1)) _ ((l.drop (pp + 1)).flatMap ent3) (by first | rfl | (simp; done)) (fun q => by cases q) FT.out NW2.out (flat_ones _) (by simp only [maxLen]; omega) (by omega) G6.out.size ?_)
            intro v' w7 r1 r2 r3
            have E7 : Aside (EO w7 u1.heap.size v' (ins Ent.k ⟨ek, ev, true⟩ l)) := by
              show EO _ _ _ _
              rw [IN.out]
              first | exact eo_three r1 TL.out TD.out | exact eo_three (by rw [List.append_assoc]; exact r1) TL.out TD.out
            have G7 : Aside (Gw u1 w7) := G6.out.grown r2 (fun q hq => (World.ownsRow.lt O6.out q hq).1)
            obtain ⟨⟨k1', _, kf', kp'⟩, _⟩ := KEEP.out w7 G7.out
            obtain ⟨bo7, c7, ev7, hc7⟩ := eo_shape_n E7.out rfl
            have FIN : Hid _ := ANE.out _ _ (GG.out.trans G7.out) (eo_base E7.out GG.out.size)
            rw [ev7] at FIN ⊢
            clear r1 r2 r3 k1 kf kp q0 q1 q2 q3 E7 O6 E5 ev7
            generalize (ins Ent.k _ l).length = n7 at FIN ⊢
            go_wp2_with fail
            go_ret
            rw [PR.out]
            exact ⟨rfl, FIN.out⟩
end Go.Proofs.Ytkofbjdgidaieaa
