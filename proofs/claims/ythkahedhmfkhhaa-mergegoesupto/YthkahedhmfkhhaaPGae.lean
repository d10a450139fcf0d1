/- Package merge: what lists have is gathered. -/
import Derived.Test.YthkahedhmfkhhaaPRng
import Derived.Test.YthkahedhmfkhhaaPRge
import Derived.Shelf.RegionOpen
namespace Go.Proofs.Ythkahedhmfkhhaa
open Go.RowKit Go.Shelf
set_option linter.unusedVariables false

attribute [local go_sem] Oper.semAt_some

set_option maxRecDepth 100000 in
set_option maxHeartbeats 4000000 in
theorem gath_e (xs : List (List Ent)) (fv : Nat → Nat × Array Value) (R Wr : Nat → Prop) (St : Nat → World → Prop) (FM : Fam encE xs R Wr St fv) (ao : Option Addr) (n c : Nat) (hx : xs.length = n) (hn : n ≤ 2000000) (hs : sizes xs ≤ 2000000) (hok : ∀ l ∈ xs, ∀ x ∈ l, Ent.ok x) (w : World) (hrow : FRow fv w ao n Wr) (hSt : St 0 w) (hR : ∀ q, R q ∨ Wr q → q < w.heap.size) :
    Calls Try.prog 27 #[.slice ao n c] w fun e w' => (∃ bo, e = .returned (.slice bo n n) ∧ ∃ L : List (Lst Ent), L.map Lst.l = xs ∧ LV w' bo L ∧ (∀ s ∈ L, LOk Ent.ok w'.heap.size s) ∧ (∀ s ∈ L, s.l ≠ [] → ElE w' s) ∧ (∀ s ∈ L, s.l ≠ [] → w.heap.size ≤ s.b)) ∧ St n w' ∧ Gx Wr w w' := by
  refine (callsIn_wide (n := 3)).1 ?_
  have h1 : 1 ≤ 3 := by omega
  have hro : Fence.wide.round = none := rfl
  refine callsIn_of_wp_marks Try.func27 rfl trivial ?_ hro
  simp only [Try.ntmps27, List.size_toArray, List.length_cons, List.length_nil, Nat.reduceAdd, Nat.reduceSub, Array.replicate_succ, Array.replicate_zero, List.push_toArray, List.append_toArray, List.nil_append, List.cons_append]
  have mk := made_se n (n : Int) rfl (by omega)
  have FMH : Hid (Fam encE xs R Wr St fv) := FM
  have ROW : Hid (FRow fv w ao n Wr) := hrow
  have RH : Hid (∀ q, R q ∨ Wr q → q < w.heap.size) := hR
  have OKH : Hid (∀ l ∈ xs, ∀ x ∈ l, Ent.ok x) := hok
  have XL : Aside (xs.length = n) := hx
  have SZ : Aside (sizes xs ≤ 2000000) := hs
  obtain ⟨W0, E0⟩ : ∃ W0, (w.alloc (.cells (madeCells #[.slice none 0 0] n) 24)).alloc (.cells #[.slice (some ⟨w.heap.size, 0, none⟩) n n] 22) = W0 := ⟨_, rfl⟩
  have I0 : Hid (GaI 24 22 (ElE) Ent.ok w xs n 0 Wr St [] (madeCells #[.slice none 0 0] n) [] W0) := by
    have g0 : Gw w W0 := by rw [← E0]; exact ((Gw.refl w).alloc _ _).alloc _ _
    refine ⟨FM.keep 0 w W0 hSt g0.size (fun q hq => g0.below.block q (hR q hq)), g0.gx _, ?_, by simp [madeCells], (fun j h => by simp at h), fun j _ hj => ?_, ?_, by simp, (fun s h => by simp at h), (fun D h => by simp at h), List.nodup_nil⟩
    · rw [← E0]; exact (Below.heap_alloc _ _ _ (by simp)).trans (heap_alloc_new w _)
    · simp [madeCells, hj, Nat.mod_one]
    · rw [← E0]
      have := heap_alloc_new (w.alloc (.cells (madeCells #[.slice none 0 0] n) 24)) (.cells #[.slice (some ⟨w.heap.size, 0, none⟩) n n] 22)
      simpa using this
  clear hx hs hok FM hrow hR hSt
  gi_wp2
  clear E0 mk
  refine wpIn_loop (fun a' w' => ∃ (i : Nat) (u4 u5 u13 u14 u15 u16 u17 u18 u19 u31 : Value) (Ld : List (Lst Ent)) (cur : Array Value) (Ds : List Nat), i ≤ n ∧ Hid (GaI 24 22 (ElE) Ent.ok w xs n i Wr St Ld cur Ds w') ∧ a' = ⟨#[.slice ao n c, undef, .slice none 0 0, .pointer (some ⟨w.heap.size + 1, 0, none⟩), u4, u5, undef, .slice ao n c, .int .i64 (n : Int), .slice (some ⟨w.heap.size, 0, none⟩) n n, .slice ao n c, .int .i64 (n : Int), .int .i64 (i : Int), u13, u14, u15, u16, u17, u18, u19, undef, undef, undef, undef, undef, undef, undef, undef, undef, undef, undef, u31, undef], Ds.map mark⟩) (fun a' _ => n - (intOf (a'.tmps.getD 12 undef)).toNat) ?_ ?_
  · exact ⟨0, _, _, _, _, _, _, _, _, _, _, [], _, [], Nat.zero_le _, I0, rfl⟩
  · clear I0
    rintro a' wr ⟨i, u4, u5, u13, u14, u15, u16, u17, u18, u19, u31, Ld, cur, Ds, hin, GG, rfl⟩
    by_cases il : i < n
    · have il' : (i : Int) < (n : Int) := by omega
      obtain ⟨fb, fo, efo, fbl, nfb, fcs⟩ := ROW.out.cells (by omega)
      subst efo
      have fc := (World.cell?_of_block (a := ⟨fb, fo + i, none⟩) (GG.out.gx.block fb fbl nfb)).trans (fcs i il)
      obtain ⟨gf, lb, hfv⟩ : ∃ gf lb, fv i = (gf, lb) := ⟨_, _, rfl⟩
      have ixl : i < xs.length := by rw [XL.out]; exact il
      have SQ := FMH.out.seq i ixl
      have EN := FMH.out.ent i ixl
      rw [hfv] at SQ EN fc
      dsimp only at SQ EN fc
      obtain ⟨Wi, EI⟩ : ∃ Wi, wr.alloc (.cells #[.int .i64 (i : Int)] 3) = Wi := ⟨_, rfl⟩
      have gi : Gw wr Wi := by rw [← EI]; exact (Gw.refl wr).alloc _ _
      have bi : Wi.heap[wr.heap.size]? = some (.cells #[.int .i64 (i : Int)] 3 (0, 0)) := by rw [← EI]; exact heap_alloc_new wr _
      have GI2 : Hid (GaI 24 22 (ElE) Ent.ok w xs n i Wr St Ld cur Ds Wi) := GG.out.gw (elpE) (R := R) (FMH.out.keep i) RH.out gi
      have BIH : Hid _ := bi
      have GIH : Hid (Gw wr Wi) := gi
      have wz : w.heap.size + 2 ≤ wr.heap.size := by have := blkl GG.out.ba; omega
      clear fcs hfv gi bi GG
      have SQH : Hid _ := SQ
      have ENH : Hid _ := EN
      have nn : ∀ W : World, (binOp .eql 28 (.func (.func gf) #[] lb) .nilFunc).run Try.prog W = .ok (.bool false) W := fun W => by kernel_rfl
      clear SQ EN
      gi_wp2
      clear EI fc
      refine range_out (ps := #[20]) hro h1 (gf := gf) (lb := lb) rfl trivial ENH.out SQH.out (fun W g => FMH.out.keep i Wi W GI2.out.st g.size (fun q hq => g.below.block q (by have := RH.out q hq; have := GI2.out.gx.size; omega))) (fun _ => rfl)
        (fun q => q = w.heap.size) (fun q hq => ⟨by have := RH.out q hq; have := GI2.out.gx.size; omega, by have := RH.out q hq; omega⟩) (fun q hq => by have := GIH.out.size; omega)
        (fun pre O W => ∃ v cur', GaJ 24 32 3 ent3 w Wi n i Wr cur pre O v cur' W) (fun _ _ _ _ => False)
        (fun pre O X Y h k => by obtain ⟨v, cur', h⟩ := h; exact ⟨v, cur', h.ko (fun q hq => RH.out q (.inr hq)) k⟩) (fun _ _ _ _ _ h _ => h)
        (fun W W' z zs k => FMH.out.keep (i + 1) W W' z zs (fun q hq => k q (by have := RH.out q hq; have := GI2.out.gx.size; omega)))
        ⟨_, _, GI2.out.toJ il⟩ ?round ?done (fun _ _ _ _ _ _ _ _ _ h _ _ => h.elim)
      case round =>
        intro l n1 hl hn1 pre x O W hi hn hr ho hx
        have plen : pre.length + 1 ≤ 2000000 := by
          have h1 := hx.length_le
          have h2 := rows_sz xs i ixl
          have h3 := SZ.out
          simp at h1
          omega
        obtain ⟨ii, hii, hz', hsz', hby'⟩ := info_parts info_e
        obtain ⟨xk, xv, xg⟩ := x
        simp only [encE]
        gi_wp2
        refine ⟨(Gw.refl _).alloc _ _, ?_⟩
        intro W2 i2 r2 k2 z2
        have yb : W2.heap[W.heap.size]? = some (.cells #[.int .u64 xk, .int .u64 xv, .bool xg] 32 (0, 0)) := (k2 _ (by omega)).trans (heap_alloc_new W _)
        have y0 : W2.cell? ⟨W.heap.size, 0, none⟩ = some (.int .u64 xk) := blkc yb rfl
        have y1 : W2.cell? ⟨W.heap.size, 1, none⟩ = some (.int .u64 xv) := blkc yb rfl
        have y2 : W2.cell? ⟨W.heap.size, 2, none⟩ = some (.bool xg) := blkc yb rfl
        simp only [World.size_alloc] at z2
        clear yb
        obtain ⟨v, cur', hJ⟩ := i2
        have HJ : Hid _ := hJ
        obtain ⟨vo, vc, hv⟩ : ∃ vo vc, v = .slice vo pre.length vc := by
          rcases hJ.ow.2 with ⟨e, z⟩ | ⟨b, cap, cu, e, _⟩
          · exact ⟨none, 0, by rw [e, z]⟩
          · exact ⟨_, cap, e⟩
        subst hv
        have s2 := hJ.sz
        have gsz := GIH.out.size
        have wil : wr.heap.size < Wi.heap.size := blkl BIH.out
        have cb : W2.cell? ⟨w.heap.size + 1, 0, none⟩ = some (.slice (some ⟨w.heap.size, 0, none⟩) n n) := blkc ((hJ.kp _ (by omega) (by omega)).trans GI2.out.ba) rfl
        have cI : W2.cell? ⟨wr.heap.size, 0, none⟩ = some (.int .i64 (i : Int)) := blkc ((hJ.kp _ wil (by omega)).trans BIH.out) rfl
        have cv : W2.cell? ⟨w.heap.size, i, none⟩ = some (.slice vo pre.length vc) := blkc hJ.ab hJ.ci
        have fz : W2.frozen? ⟨w.heap.size, i, none⟩ = false := blkf hJ.ab
        obtain ⟨W3, E3⟩ : ∃ W3, W2.drew.alloc (.cells #[.int .u64 xk, .int .u64 xv, .bool xg] 32) = W3 := ⟨_, rfl⟩
        have g3 : Gw W2 W3 := by rw [← E3]; exact ((Gw.refl W2).drew).alloc _ _
        have s3 : W3.heap.size = W2.heap.size + 1 := by rw [← E3]; simp
        obtain ⟨v', w7, hrun, q1, q2, q3, q4⟩ := run_append_own_at (P := Try.prog) W3 (w.heap.size + 2) 24 24 32 ii (.agg #[.int .u64 0, .int .u64 0, .bool false]) 3 24 Try.underlying24 hii hz' hsz' hby' rfl (by decide) (.slice vo pre.length vc) pre.length (pre.flatMap ent3) (by rw [← E3]; exact World.ownsRow.alloc (w := W2.drew) hJ.ow _) ⟨W2.heap.size, 0, none⟩ 1 1 (ent3 (⟨xk, xv, xg⟩ : Ent)) rfl (by rw [← E3]; exact new_ent W2.drew ⟨xk, xv, xg⟩) (ent3_one ⟨xk, xv, xg⟩) (by simp only [maxLen]; omega) (by omega) (by omega)
        have pl1 : IntKind.i64.wrap ((pre.length : Int) + 1) = pre.length + 1 := by rw [IntKind.wrap_i64]; omega
        obtain ⟨b8, cap8, ev, _, _, _⟩ := own_slice q1 (by simpa using q3)
        subst ev
        obtain ⟨b7, J7, G7⟩ := hJ.step (z := W.heap.size) (x := (⟨xk, xv, xg⟩ : Ent)) il (fun q hq => by have := ho q hq; omega) ⟨by omega, by omega⟩ g3 q1 q2 q4
        have JH : Hid _ := And.intro J7 G7
        have k7 := blkc (o := i) b7 hJ.ci
        have f7 := blkf (o := i) b7
        have l7 := blkl b7
        have vn : ∀ q, q < Wi.heap.size → some q ≠ (Value.slice vo pre.length vc).ownBlock := fun q hq e => by have := ho q (hJ.vo q e.symm); omega
        have cb3 := (g3.cell _ _ (blkl ((hJ.kp _ (by omega) (by omega)).trans GI2.out.ba))).trans cb
        have cI3 := (g3.cell _ _ (blkl ((hJ.kp _ wil (by omega)).trans BIH.out))).trans cI
        have cv3 := (g3.cell _ _ (blkl hJ.ab)).trans cv
        have cb7 := (World.cell?_of_block (a := ⟨w.heap.size + 1, 0, none⟩) (q2.block (w.heap.size + 1) (by omega) (vn (w.heap.size + 1) (by omega)))).trans cb3
        have cI7 := (World.cell?_of_block (a := ⟨wr.heap.size, 0, none⟩) (q2.block wr.heap.size (by omega) (vn wr.heap.size wil))).trans cI3
        skip
        gi_wp2
        refine wpIn_region_any (by kernel_rfl) ?_
        refine reg8_e l _ n i w.heap.size (w.heap.size + 1) wr.heap.size pre.length vc b8 cap8 xk xv xg W.heap.size vo W2 W3 w7 _ _ _ _ _ _ _ _ _ _ _ _ _ _ _ _ _ _ _ _ _ _ _ _ _ _ _ _ _ _ _ il cb cI cv cb3 cI3 cv3 y0 y1 y2 E3 hrun cb7 cI7 k7 f7 l7 ?_ (by kernel_rfl) rfl rfl rfl rfl rfl rfl rfl rfl rfl rfl rfl
        exact ⟨fun q => (O q ∨ W.heap.size ≤ q) ∧ q < w7.heap.size, fun q h => ⟨h.1, by have := h.2; simpa [World.setCell] using this⟩, JH.out.2, ⟨_, _, JH.out.1⟩⟩
      case done =>
        rintro D O W hD nD hO ⟨v, cur', hJ⟩ hZ bD
        have sz2 := rows_sz xs i ixl
        have h3 := SZ.out
        obtain ⟨Ld', hL⟩ := hJ.over (elpE) (D := D) GI2.out ixl hO (by omega) (OKH.out _ (List.getElem_mem ixl)) hZ hD nD bD (fun b hp hc cc => ex_e hc)
        have HL : Hid (GaI 24 22 (ElE) Ent.ok w xs n (i + 1) Wr St Ld' cur' (D :: Ds) W) := hL
        clear hL hJ hZ bD nD hO
        gi_wp2
        refine ⟨⟨i + 1, .pointer (some ⟨wr.heap.size, 0, none⟩), .func (.func gf) #[] lb, .bool true, .int .i64 (i : Int), .pointer (some ⟨fb, fo + i, none⟩), .func (.func gf) #[] lb, .func (.func gf) #[] lb, .bool false, .func (.func gf) #[] lb, .int .i64 ((i : Int) + 1), Ld', cur', D :: Ds, by omega, HL, ?_⟩, ?_⟩
        · simp [mark]
        · simp [intOf]; omega
    · have ei : i = n := by omega
      subst ei
      have il' : ¬ ((i : Int) < (i : Int)) := by omega
      have cb := blkc (o := 0) GG.out.ba rfl
      have GF : Hid _ := GG.out
      clear GG
      gi_wp2
      refine leaves_marks Ds wr GF.out.nd (fun D hD => (GF.out.ds D hD).2) (fun W' k1 k2 k3 k4 k5 => ?_)
      have kk : ∀ q, q < w.heap.size + 2 → W'.heap[q]? = wr.heap[q]? := fun q hq => k1 q (fun e => by have := (GF.out.ds q e).1; omega)
      have ll : Ld.length = i := by have := congrArg List.length GF.out.ld; simp [XL.out] at this; omega
      have sw := GF.out.gx.size
      refine ⟨.slice (some ⟨w.heap.size, 0, none⟩) i i, by simp [results, Try.f27, go_sem], ⟨_, rfl, Ld, ?_, ⟨fun _ => ⟨w.heap.size, 0, rfl, by rw [k2]; exact blkl GF.out.ab, fun j hj => ?_⟩⟩, fun s hs => ?_, fun s hs ne => ?_, fun s hs ne => ?_⟩, ?_, ?_⟩
      · rw [GF.out.ld, List.take_of_length_le (by rw [XL.out]; exact Nat.le_refl _)]
      · obtain ⟨bo, c', q1, q2⟩ := GF.out.cl j hj
        refine ⟨bo, c', ?_, q2⟩
        rw [Nat.zero_add]
        exact blkc ((kk _ (by omega)).trans GF.out.ab) q1
      · have := (GF.out.lo s hs).1
        rw [k2]; exact this
      · have := (GF.out.lo s hs).2 ne
        exact this.2.2.keep (k1 _ this.2.1)
      · have := ((GF.out.lo s hs).2 ne).1; omega
      · exact FMH.out.keep i wr W' GF.out.st (Nat.le_of_eq k2.symm) (fun q hq => kk q (by have := RH.out q hq; omega))
      · exact ⟨k3.trans GF.out.gx.os, k4.trans GF.out.gx.tape, k5.trans GF.out.gx.output, by rw [k2]; exact sw, fun q hq hs => (kk q (by omega)).trans (GF.out.gx.block q hq hs)⟩
end Go.Proofs.Ythkahedhmfkhhaa
