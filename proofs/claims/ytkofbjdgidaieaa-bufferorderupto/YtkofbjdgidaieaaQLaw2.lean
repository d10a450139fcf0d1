/- Layer 14's statements' own: shown, alike. -/
import Derived.Test.YtkofbjdgidaieaaQLaw
namespace Go.Proofs.Ytkofbjdgidaieaa
open Go.RowKit
set_option linter.unusedVariables false

/-- A buffer that was put into stays clear of what another one is. -/
theorem PutOut.apart {t : TypeId} {w w' : World} {p : Nat} {S T : Nat → Prop} {most : Int} {l : List Ent} (h : PutOut t w w' p S most l) (hT : ∀ q, T q → q < w.heap.size) (d : ∀ q, T q → ¬ S q) : ∃ S', HB t w' p S' most l ∧ Gx S w w' ∧ (∀ q, S' q → S q ∨ w.heap.size ≤ q) ∧ ∀ q, T q → ¬ S' q := by
  obtain ⟨S', h1, h2, h3⟩ := h
  refine ⟨S', h1, h2, h3, fun q hq hs => ?_⟩
  rcases h3 q hs with x | x
  · exact d q hq x
  · have := hT q hq; omega
def ex1 : Ent := ⟨5, 1, false⟩
def ex2 : Ent := ⟨3, 0, true⟩
def ex3 : Ent := ⟨4, 1, false⟩
set_option maxRecDepth 20000 in
set_option maxHeartbeats 4000000 in
theorem shown14 (w : World) : Calls Try.prog 6 #[] w fun e w' => e = .returned (.bool true) ∧ Gw w w' := by
  have N : Hid (Calls Try.prog 7 #[.int .i64 2] w fun e w' => (e = .returned (.tuple #[.pointer (some ⟨w.heap.size, 0, none⟩), .int .i64 0]) ∧ HB 53 w' w.heap.size (fun q => q = w.heap.size) 2 []) ∧ Gw w w') := new14_ok 2 (by decide) (by decide) w
  have r1 : putR 2 [] ex1 = (0, [ex1]) := rfl
  have r2 : putR 2 [ex1] ex2 = (0, [ex2, ex1]) := rfl
  have r3 : putR 2 [ex2, ex1] ex3 = (140, [ex2, ex1]) := rfl
  obtain ⟨p, hp⟩ : ∃ p, w.heap.size = p := ⟨_, rfl⟩
  have HP : Aside (w.heap.size = p) := hp
  have P1 : Hid (∀ (W : World) (S : Nat → Prop), HB 53 W p S 2 [] → Calls Try.prog 12 #[.pointer (some ⟨p, 0, none⟩), .agg #[.int .u64 5, .int .u64 1, .bool false]] W fun ex w' => ex = .returned (.int .i64 0) ∧ PutOut 53 W w' p S 2 [ex1]) := fun W S h => by
    have := put14 p S 2 [] ex1 (by decide) ⟨by decide, by decide⟩ W h
    rw [r1] at this; exact this
  have P2 : Hid (∀ (W : World) (S : Nat → Prop), HB 53 W p S 2 [ex1] → Calls Try.prog 12 #[.pointer (some ⟨p, 0, none⟩), .agg #[.int .u64 3, .int .u64 0, .bool true]] W fun ex w' => ex = .returned (.int .i64 0) ∧ PutOut 53 W w' p S 2 [ex2, ex1]) := fun W S h => by
    have := put14 p S 2 [ex1] ex2 (by decide) ⟨by decide, by decide⟩ W h
    rw [r2] at this; exact this
  have P3 : Hid (∀ (W : World) (S : Nat → Prop), HB 53 W p S 2 [ex2, ex1] → Calls Try.prog 12 #[.pointer (some ⟨p, 0, none⟩), .agg #[.int .u64 4, .int .u64 1, .bool false]] W fun ex w' => ex = .returned (.int .i64 140) ∧ PutOut 53 W w' p S 2 [ex2, ex1]) := fun W S h => by
    have := put14 p S 2 [ex2, ex1] ex3 (by decide) ⟨by decide, by decide⟩ W h
    rw [r3] at this; exact this
  have LI : Hid (∀ (W : World) (S : Nat → Prop), HB 53 W p S 2 [ex2, ex1] → Calls Try.prog 14 #[.pointer (some ⟨p, 0, none⟩)] W fun e w' => (∃ v', e = .returned v' ∧ EO w' W.heap.size v' [ex2, ex1]) ∧ Gw W w') := fun W S h => list14 p S 2 [ex2, ex1] (by decide) W h
  have FU : Hid (∀ (W : World) (S : Nat → Prop), HB 53 W p S 2 [ex2, ex1] → Calls Try.prog 22 #[.pointer (some ⟨p, 0, none⟩)] W fun e w' => e = .returned (.bool true) ∧ Gw W w') := fun W S h => full14 p S 2 [ex2, ex1] W h
  rw [hp] at N
  clear r1 r2 r3 hp
  go_enter Try.func6, Try.ntmps6
  go_wp2_with fail
  refine N.out.mono ?_
  rintro e w1 ⟨⟨rfl, h1⟩, g1⟩
  have H1 : Aside (HB 53 w1 p (fun q => q = p) 2 []) := h1
  have G1 : Aside (Gw w w1) := g1
  clear h1 g1 N
  have hq : ∀ W : World, (binOp .eql 24 (.pointer (some ⟨p, 0, none⟩)) (.pointer none)).run Try.prog W = .ok (.bool false) W := fun _ => by kernel_rfl
  go_wp2_with fail
  refine (P1.out _ _ H1.out).mono ?_
  rintro e w2 ⟨rfl, S2, h2, g2, s2⟩
  have H2 : Aside (HB 53 w2 p S2 2 [ex1]) := h2
  have G2 : Aside (Gw w w2) := Gx.gw G1.out g2 (fun q hq => by have := HP.out; have hq' : q = p := hq; omega)
  have S2N : Aside (∀ q, S2 q → w.heap.size ≤ q) := fun q hq => by
    rcases s2 q hq with x | x
    · have := HP.out; have x' : q = p := x; omega
    · exact Nat.le_trans G1.out.size x
  clear h2 g2 s2 P1 H1 G1
  go_wp2_with fail
  refine (P2.out _ _ H2.out).mono ?_
  rintro e w3 ⟨rfl, S3, h3, g3, s3⟩
  have H3 : Aside (HB 53 w3 p S3 2 [ex2, ex1]) := h3
  have G3 : Aside (Gw w w3) := Gx.gw G2.out g3 S2N.out
  have S3N : Aside (∀ q, S3 q → w.heap.size ≤ q) := fun q hq => (s3 q hq).elim (S2N.out q) (fun x => Nat.le_trans G2.out.size x)
  clear h3 g3 s3 P2 H2 G2 S2N
  go_wp2_with fail
  refine (P3.out _ _ H3.out).mono ?_
  rintro e w4 ⟨rfl, S4, h4, g4, s4⟩
  have H4 : Aside (HB 53 w4 p S4 2 [ex2, ex1]) := h4
  have G4 : Aside (Gw w w4) := Gx.gw G3.out g4 S3N.out
  clear h4 g4 s4 P3 H3 G3 S3N
  go_wp2_with fail
  refine (LI.out _ _ H4.out).mono ?_
  rintro e w5 ⟨⟨v5, rfl, o5⟩, g5⟩
  have G5 : Aside (Gw w w5) := G4.out.trans g5
  have H5 : Aside (HB 53 w5 p S4 2 [ex2, ex1]) := H4.out.gw g5
  obtain ⟨bo, c, ev, hc, _⟩ := eo_shape o5
  subst ev
  have ROW : Hid (∀ W, Gw w5 W → EO W w4.heap.size (.slice bo 2 c) [ex2, ex1]) := fun W g => eo_gw o5 g
  obtain ⟨b, rfl, _, _, _, _⟩ := eo_form o5 rfl (by decide)
  clear o5 g5 H4 G4 LI
  go_wp2_with fail
  refine (FU.out _ _ H5.out).mono ?_
  rintro e w6 ⟨rfl, g6⟩
  have G6 : Aside (Gw w w6) := G5.out.trans g6
  obtain ⟨b', eb, _, _, _, cc⟩ := eo_form (ROW.out w6 g6) rfl (by decide)
  cases eb
  obtain ⟨c0, c1, c2⟩ := cc 0 (by decide)
  obtain ⟨d0, d1, d2⟩ := cc 1 (by decide)
  have c0' : w6.cell? ⟨b, 0, none⟩ = some (.int .u64 3) := c0
  have c1' : w6.cell? ⟨b, 1, none⟩ = some (.int .u64 0) := c1
  have c2' : w6.cell? ⟨b, 2, none⟩ = some (.bool true) := c2
  have d0' : w6.cell? ⟨b, 3, none⟩ = some (.int .u64 5) := d0
  have d1' : w6.cell? ⟨b, 4, none⟩ = some (.int .u64 1) := d1
  have d2' : w6.cell? ⟨b, 5, none⟩ = some (.bool false) := d2
  clear c0 c1 c2 d0 d1 d2 cc g6 G5 H5 ROW FU
  go_wp2_with fail
  go_ret
  exact ⟨rfl, G6.out⟩
set_option maxRecDepth 20000 in
set_option maxHeartbeats 4000000 in
theorem alike14 (p q : Nat) (S T : Nat → Prop) (most : Int) (l : List Ent) (x : Int) (hn : l.length ≤ 4000000) (w : World) (h : HB 53 w p S most l) (h' : HB 55 w q T most l) :
    Calls Try.prog 19 #[.pointer (some ⟨p, 0, none⟩), .pointer (some ⟨q, 0, none⟩), .int .u64 x] w fun e w' => e = .returned (.bool true) ∧ Gw w w' := by
  obtain ⟨k, hk⟩ : ∃ k, look Ent.k x l = k := ⟨_, rfl⟩
  have GB : Hid (∀ W, Gw w W → Calls Try.prog 20 #[.pointer (some ⟨p, 0, none⟩), .int .u64 x] W fun e w' => e = .returned (.tuple #[.agg #[.int .u64 (k.getD ent0).k, .int .u64 (k.getD ent0).v, .bool (k.getD ent0).g], .bool k.isSome]) ∧ Gw W w') := fun W g => by
    have := get14 p S most l x hn W (h.gw g)
    rw [hk] at this; exact this
  have GR : Hid (∀ W, Gw w W → Calls Try.prog 27 #[.pointer (some ⟨q, 0, none⟩), .int .u64 x] W fun e w' => e = .returned (.tuple #[.agg #[.int .u64 (k.getD ent0).k, .int .u64 (k.getD ent0).v, .bool (k.getD ent0).g], .bool k.isSome]) ∧ Gw W w') := fun W g => by
    have := rget14 q T most l x hn W (h'.gw g)
    rw [hk] at this; exact this
  have LI : Hid (∀ W, Gw w W → Calls Try.prog 14 #[.pointer (some ⟨p, 0, none⟩)] W fun e w' => (∃ v', e = .returned v' ∧ EO w' W.heap.size v' l) ∧ Gw W w') := fun W g => list14 p S most l hn W (h.gw g)
  have LE : Hid (∀ W, Gw w W → Calls Try.prog 21 #[.pointer (some ⟨p, 0, none⟩)] W fun e w' => e = .returned (.int .i64 (l.length : Int)) ∧ Gw W w') := fun W g => len14 p S most l W (h.gw g)
  have FU : Hid (∀ W, Gw w W → Calls Try.prog 22 #[.pointer (some ⟨p, 0, none⟩)] W fun e w' => e = .returned (.bool ((l.length : Int) == most)) ∧ Gw W w') := fun W g => full14 p S most l W (h.gw g)
  have FR : Hid (∀ W, Gw w W → Calls Try.prog 28 #[.pointer (some ⟨q, 0, none⟩)] W fun e w' => e = .returned (.bool ((l.length : Int) == most)) ∧ Gw W w') := fun W g => rfull14 q T most l W (h'.gw g)
  obtain ⟨v, i1, i2, i3, i4⟩ := h'.lies
  obtain ⟨bo, c, ev, hc, _⟩ := eo_shape i2
  subst ev
  have RB : Hid (∀ W, Gw w W → W.cell? ⟨q, 1, none⟩ = some (.slice bo l.length c) ∧ q < W.heap.size ∧ EL W bo l) := fun W g => by
    have z := (g.below.block q (blkl i1)).trans i1
    exact ⟨blkc z rfl, blkl z, eo_el (eo_gw i2 g) h'.ok⟩
  have SM : Hid (∀ W ao ca cb, EL W ao l → EL W bo l → Calls Try.prog 18 #[.slice ao l.length ca, .slice bo l.length cb] W fun e w' => e = .returned (.bool true) ∧ Gw W w') := fun W ao ca cb ha hb => same14 ao bo ca cb l hn W ha hb
  have OKL : Aside (∀ e ∈ l, e.ok) := h.ok
  generalize hln : l.length = n at LE FU FR RB SM hn hc
  generalize ((n : Int) == most) = fb at FU FR
  generalize k.isSome = kb at GB GR
  generalize k.getD ent0 = y at GB GR
  obtain ⟨yk, yv, yg⟩ := y
  have LN : Aside (l.length = n) := hln
  have BX : Hid (∀ u W : World, Gw (u.alloc (.cells #[.int .u64 yk, .int .u64 yv, .bool yg] 35)) W → (W.cell? ⟨u.heap.size, 0, none⟩ = some (.int .u64 yk) ∧ W.cell? ⟨u.heap.size, 1, none⟩ = some (.int .u64 yv) ∧ W.cell? ⟨u.heap.size, 2, none⟩ = some (.bool yg)) ∧ u.heap.size < W.heap.size) := fun u W g => by
    have z := (g.below.block _ (by simp)).trans (heap_alloc_new u (.cells #[.int .u64 yk, .int .u64 yv, .bool yg] 35))
    exact ⟨⟨blkc z rfl, blkc z rfl, blkc z rfl⟩, blkl z⟩
  clear h h' i1 i2 i3 i4 hk hln
  go_enter Try.func19, Try.ntmps19
  go_wp2_with fail
  refine (GB.out _ (Gw.refl w)).mono ?_
  rintro e w1 ⟨rfl, g1⟩
  have G1 : Aside (Gw w w1) := g1
  clear g1 GB
  go_wp2_with fail
  refine (GR.out _ (G1.out.alloc _ _)).mono ?_
  rintro e w2 ⟨rfl, g2⟩
  have G2 : Aside (Gw w w2) := (G1.out.alloc _ _).trans g2
  obtain ⟨b1, hb1⟩ : ∃ b, w1.heap.size = b := ⟨_, rfl⟩
  have X1 : Hid (∀ W, Gw w2 W → (W.cell? ⟨b1, 0, none⟩ = some (.int .u64 yk) ∧ W.cell? ⟨b1, 1, none⟩ = some (.int .u64 yv) ∧ W.cell? ⟨b1, 2, none⟩ = some (.bool yg)) ∧ b1 < W.heap.size) := fun W g => by rw [← hb1]; exact BX.out w1 W (g2.trans g)
  rw [hb1]
  clear g2 GR G1 hb1
  go_wp2_with fail
  refine (LI.out _ (G2.out.alloc _ _)).mono ?_
  rintro e w3 ⟨⟨v3, rfl, o3⟩, g3⟩
  have G3 : Aside (Gw w w3) := (G2.out.alloc _ _).trans g3
  obtain ⟨b2, hb2⟩ : ∃ b, w2.heap.size = b := ⟨_, rfl⟩
  have X2 : Hid (∀ W, Gw w3 W → (W.cell? ⟨b2, 0, none⟩ = some (.int .u64 yk) ∧ W.cell? ⟨b2, 1, none⟩ = some (.int .u64 yv) ∧ W.cell? ⟨b2, 2, none⟩ = some (.bool yg)) ∧ b2 < W.heap.size) := fun W g => by rw [← hb2]; exact BX.out w2 W (g3.trans g)
  have X1' : Hid (∀ W, Gw w3 W → (W.cell? ⟨b1, 0, none⟩ = some (.int .u64 yk) ∧ W.cell? ⟨b1, 1, none⟩ = some (.int .u64 yv) ∧ W.cell? ⟨b1, 2, none⟩ = some (.bool yg)) ∧ b1 < W.heap.size) := fun W g => X1.out W ((((Gw.refl w2).alloc _ _).trans g3).trans g)
  obtain ⟨bo3, c3, ev3, hc3⟩ := eo_shape_n o3 LN.out
  subst ev3
  have EL3 : Aside (EL w3 bo3 l) := eo_el (by rw [LN.out]; exact o3) OKL.out
  rw [hb2]
  clear o3 g3 LI X1 G2 hb2
  obtain ⟨r1, r2, r3⟩ := RB.out w3 G3.out
  have R3 : Aside (EL w3 bo l) := r3
  clear r3
  go_wp2_with fail
  refine (SM.out w3 bo3 c3 c EL3.out R3.out).mono ?_
  rintro e w4 ⟨rfl, g4⟩
  have G4 : Aside (Gw w w4) := G3.out.trans g4
  obtain ⟨⟨x0, x1, x2⟩, x3⟩ := X1'.out w4 g4
  obtain ⟨⟨y0, y1, y2⟩, y3⟩ := X2.out w4 g4
  obtain ⟨z1, z2, _⟩ := RB.out w4 G4.out
  have QX0 := GX.cell x0 x3
  have QX1 := GX.cell x1 x3
  have QX2 := GX.cell x2 x3
  have QY0 := GX.cell y0 y3
  have QY1 := GX.cell y1 y3
  have QY2 := GX.cell y2 y3
  have Z1 := GX.cell z1 z2
  have ne := GX.some w4
  clear g4 G3 EL3 R3 SM X1' X2 BX RB x0 x1 x2 y0 y1 y2 z1 r1 r2
  go_wp2_with fail
  refine wp_region_growx (by kernel_rfl) (by kernel_rfl) ?_
  repeat (go_big_quiet_step (fail))
  go_big_quiet_want
  go_big_quiet_op
  go_big_quiet_call (exact growx_of (LE.out _ (G4.out.trans (GX.gw _))))
  repeat (go_big_quiet_step (fail))
  go_big_quiet_want
  go_big_quiet_op
  go_big_quiet_call (exact growx_of (FU.out _ (G4.out.trans (GX.gw _))))
  repeat (go_big_quiet_step (fail))
  go_big_quiet_want
  go_big_quiet_op
  go_big_quiet_call (exact growx_of (FR.out _ (G4.out.trans (GX.gw _))))
  repeat (go_big_quiet_step (fail))
  refine wpQuiet_nil ?_
  rintro _ ⟨gw, rfl⟩
  go_wp2_with fail
  go_ret
  exact ⟨rfl, G4.out.trans gw.gw⟩
end Go.Proofs.Ytkofbjdgidaieaa
