/- Clone: a Fit that goes its own way. -/
import Derived.Test.YtocahgiabeifeaaCFit
import Derived.LoopN
namespace Go.Proofs.Ytocahgiabeifeaa
open Go.RowKit
set_option linter.unusedVariables false

theorem pcells_one (f : Nat → Int) (c : Nat → Nat) (h : Int) (m : Nat) : ∀ u ∈ pcells f c h m, u.oneCell' = true := by
  induction m with
  | zero => intro u hu; cases hu
  | succ m ih =>
    intro u hu
    rcases List.mem_append.1 hu with r | r
    · exact ih u r
    · exact pt_one _ _ u r

set_option maxRecDepth 10000 in
set_option maxHeartbeats 1000000 in
theorem sclone_any {w : World} {v : Value} {m : Nat} {f : Nat → Int} {c : Nat → Nat} {h : Int} (own : w.ownsRow 0 65 2 v m (pcells f c h m)) (hm : m ≤ 4000) :
    Calls Try.prog 42 #[v] w fun e w' => (∃ v', e = .returned v' ∧ w'.ownsRow w.heap.size 65 2 v' m (pcells f c h m) ∧ (v = .slice none 0 0 → v' = .slice none 0 0)) ∧ Gw w w' := by
  rcases own.2 with ⟨rfl, rfl⟩ | ⟨g, cap, cur, rfl, _, hg, hnc, hcm, _⟩
  · clear own
    have hq : ∀ W : World, (binOp .eql 58 (.slice none 0 0) (.slice none 0 0)).run Try.prog W = .ok (.bool true) W := fun _ => by kernel_rfl
    go_enter Try.func42, Try.ntmps42
    go_wp2_with fail
    go_ret
    exact ⟨⟨_, rfl, World.ownsRow_nil _ _ _ _, fun _ => rfl⟩, Gw.refl w⟩
  · have CE := own.cells (g := g) rfl
    have OW : Hid (∀ ad, (some ⟨g, 0, none⟩ : Option Addr) = some ad → ∀ j u, (pcells f c h m)[j]? = some u → (w.alloc (.cells #[] 65)).cell? (ad.add j) = some u) := by
      intro ad e j u hu
      cases e
      have := CE j u hu
      rw [Addr.add_lit] at this ⊢
      exact (((Gw.refl w).alloc _ _).cell _ _ (own.lt g rfl).2).trans this
    have O0 : Hid ((w.alloc (.cells #[] 65)).ownsRow w.heap.size 65 2 (.slice (some ⟨w.heap.size, 0, none⟩) 0 0) 0 []) := World.ownsRow_made w #[] 0 (Nat.le_refl _) (Nat.zero_le _) rfl
    obtain ⟨ii, hii, hz, hs, hby⟩ := info_parts info_pt
    clear CE own hg
    have hq : ∀ W : World, (binOp .eql 58 (.slice (some ⟨g, 0, none⟩) m cap) (.slice none 0 0)).run Try.prog W = .ok (.bool false) W := fun _ => by kernel_rfl
    go_enter Try.func42, Try.ntmps42
    go_wp2_with (at_builtin; refine wpList_append_src _ rfl _ _ 58 rfl w.heap.size 65 ii (.agg #[.int .u64 0, .int .i64 0]) 2 16 Try.underlying58 hii hz hs hby rfl (by decide) _ 0 [] rfl O0.out (some ⟨g, 0, none⟩) m cap (pcells f c h m) rfl (fun q => by cases q) (pcells_len f c h m) OW.out (pcells_one f c h m) (by simp only [maxLen]; omega) (by omega) (by simp) ?_)
    intro v' w7 q1 q2 q3
    have Q1 : Hid (w7.ownsRow w.heap.size 65 2 v' m (pcells f c h m)) := by
      show w7.ownsRow w.heap.size 65 2 v' m (pcells f c h m)
      simpa using q1
    have G7 : Hid (Gw w w7) := ((Gw.refl w).alloc _ _).grown q2 (fun k hk => by cases hk; exact Nat.le_refl _)
    clear q1 q2 q3 hii hz hs hby
    go_wp2_with fail
    go_ret
    exact ⟨⟨_, rfl, Q1.out, fun q => by cases q⟩, G7.out⟩

theorem own_weak {w : World} {base base' e size n : Nat} {v : Value} {xs : List Value} (h : w.ownsRow base e size v n xs) (hb : base' ≤ base) : w.ownsRow base' e size v n xs := by
  refine ⟨h.1, ?_⟩
  rcases h.2 with q | ⟨g, cap, cur, rfl, hg, r⟩
  · exact .inl q
  · exact .inr ⟨g, cap, cur, rfl, by omega, r⟩
theorem own_shape {w : World} {base e size n : Nat} {v : Value} {xs : List Value} (h : w.ownsRow base e size v n xs) : ∃ ao l cap, v = .slice ao l cap := by
  rcases h.2 with ⟨rfl, _⟩ | ⟨g, cap, cur, rfl, _⟩
  · exact ⟨_, _, _, rfl⟩
  · exact ⟨_, _, _, rfl⟩

set_option maxHeartbeats 4000000 in
theorem cclone_any {w : World} {b o : Nat} {s : Int} {v : Value} {m : Nat} {f : Nat → Int} {c : Nat → Nat} {h : Int} (lb : b < w.heap.size) (k0 : w.cell? ⟨b, o, none⟩ = some (.int .i64 s)) (k1 : w.cell? ⟨b, o + 1, none⟩ = some v) (own : w.ownsRow 0 65 2 v m (pcells f c h m)) (hm : m ≤ 4000) :
    Calls Try.prog 29 #[.pointer (some ⟨b, o, none⟩)] w fun e w' => (∃ v', e = .returned (.agg #[.int .i64 s, v']) ∧ w'.ownsRow w.heap.size 65 2 v' m (pcells f c h m) ∧ (v = .slice none 0 0 → v' = .slice none 0 0)) ∧ Gw w w' := by
  have G0 : Gw w (w.alloc (.cells #[.int .i64 0, .slice none 0 0] 60)) := (Gw.refl w).alloc _ _
  have SC : Hid (∀ W, Gw (w.alloc (.cells #[.int .i64 0, .slice none 0 0] 60)) W → Calls Try.prog 42 #[v] W fun e w' => (∃ v', e = .returned v' ∧ w'.ownsRow (w.heap.size + 1) 65 2 v' m (pcells f c h m) ∧ (v = .slice none 0 0 → v' = .slice none 0 0)) ∧ Gw W w') := by
    intro W G
    refine (sclone_any (own_keep own fun q hq => (G0.trans G).below.block q (own.lt q hq).2) hm).mono ?_
    rintro e w' ⟨⟨v', rfl, ho, hz⟩, g⟩
    exact ⟨⟨v', rfl, own_weak ho (by have := G.size; simpa using this), hz⟩, g⟩
  have FX : Hid (∀ W, Gw (w.alloc (.cells #[.int .i64 0, .slice none 0 0] 60)) W → W.cell? ⟨b, o, none⟩ = some (.int .i64 s) ∧ Bx W w.heap.size 60 (.int .i64 0) (.slice none 0 0) ∧ Gw w W) := fun W G => ⟨((G0.trans G).cell _ _ lb).trans k0, (Bx.new _ _ _ _).gw G, G0.trans G⟩
  clear G0 own
  go_enter Try.func29, Try.ntmps29
  go_wp2_with fail
  go_region_with (go_at_call 42; refine (SC.out _ ((Gw.refl _).drew)).mono ?_; rintro e w4 ⟨⟨v', rfl, hO⟩, g4⟩; obtain ⟨ao', l', cap', rfl⟩ := own_shape hO.1; obtain ⟨F0, F2, F3⟩ := FX.out w4 ((Gw.drew (Gw.refl _)).trans g4); have HO : Hid (w4.ownsRow (w.heap.size + 1) 65 2 (.slice ao' l' cap') m (pcells f c h m) ∧ (v = .slice none 0 0 → Value.slice ao' l' cap' = .slice none 0 0)) := hO; have j4 := F2.c0; have j5 := F2.c1; have j6 := F2.fz 0; have j7 := F2.fz 1; have F2' : Hid (Bx w4 w.heap.size 60 (.int .i64 0) (.slice none 0 0)) := F2; have F3' : Hid (Gw w w4) := F3; clear F2 F3 hO g4)
  all_goals
    clear F0 j4 j5 j6 j7 k0 k1
    have Y := F2'.out.set (.int .i64 s) (.slice ao' l' cap')
    have y0 := Y.c0
    have y1 := Y.c1
    have FG : Hid (Gw w ((w4.setCell ⟨w.heap.size, 0, none⟩ (.int .i64 s)).setCell ⟨w.heap.size, 1, none⟩ (.slice ao' l' cap'))) := (F3'.out.setCell (by simp) _).setCell (by simp) _
    have FO : Hid (((w4.setCell ⟨w.heap.size, 0, none⟩ (.int .i64 s)).setCell ⟨w.heap.size, 1, none⟩ (.slice ao' l' cap')).ownsRow w.heap.size 65 2 (.slice ao' l' cap') m (pcells f c h m)) := by
      refine own_weak (own_keep HO.out.1 fun q hq => ?_) (Nat.le_succ _)
      have := (HO.out.1.lt q hq).1
      rw [Go.Deep.blk_setCell_other _ _ _ _ (show q ≠ w.heap.size by omega), Go.Deep.blk_setCell_other _ _ _ _ (show q ≠ w.heap.size by omega)]
    clear Y
    go_wp2
    refine bodyPost_ret (v := .agg #[.int .i64 s, .slice ao' l' cap']) (by simp [results, Try.results29, go_sem, y0, y1]) rfl ⟨⟨_, rfl, FO.out, HO.out.2⟩, FG.out⟩

set_option maxRecDepth 10000 in
set_option maxHeartbeats 8000000 in
theorem hclone {w : World} {p : Nat} {S : Nat → Prop} {e : Int} {n : Nat} {f : Nat → Int} (h : HFit w p S e n f) (hn : n ≤ 3001) :
    Calls Try.prog 15 #[.pointer (some ⟨p, 0, none⟩)] w fun ex w' => (∃ p' S', ex = .returned (.pointer (some ⟨p', 0, none⟩)) ∧ (∀ q, S' q → w.heap.size ≤ q) ∧ HFit w' p' S' e n f) ∧ Gw w w' := by
  obtain ⟨v0, v1, lr, lf, mr, mf, m0, m1, c0, c1, F, hS⟩ := h
  obtain ⟨a0, l0, q0, rfl⟩ := own_shape F.own0
  obtain ⟨a1, l1, q1, rfl⟩ := own_shape F.own1
  have M0 : m0 ≤ 4000 := by
    by_cases z : n = 0
    · have := F.own0
      rw [(F.z z).1] at this
      have := own_zero this
      omega
    · have := (F.ch0 (by omega)).len
      omega
  have M1 : m1 ≤ 4000 := by
    by_cases z : n = 0
    · have := F.own1
      rw [(F.z z).2] at this
      have := own_zero this
      omega
    · have := (F.ch1 (by omega)).len
      omega
  have HF : Hid (FT w p (.slice a0 l0 q0) (.slice a1 l1 q1) e n f lr lf mr mf m0 m1 c0 c1) := F
  have k0 := F.blk.cell (o := 0) (v := .int .i64 e) rfl
  have k1 := F.blk.cell (o := 1) (v := .int .i64 n) rfl
  have k2 := F.blk.cell (o := 2) (v := .int .i64 lr) rfl
  have k3 := F.blk.cell (o := 3) (v := .int .u64 lf) rfl
  have k4 := F.blk.cell (o := 4) (v := .int .i64 mr) rfl
  have k5 := F.blk.cell (o := 5) (v := .int .u64 mf) rfl
  have k6 := F.blk.cell (o := 6) (v := .int .i64 (-1)) rfl
  have k7 := F.blk.cell (o := 7) (v := .slice a0 l0 q0) rfl
  have k8 := F.blk.cell (o := 8) (v := .int .i64 1) rfl
  have k9 := F.blk.cell (o := 9) (v := .slice a1 l1 q1) rfl
  have lp := F.blk.lt
  have hi0 : ∀ W : World, (Instr.index 61 (.agg #[.int .i64 (-1), .slice a0 l0 q0, .int .i64 1, .slice a1 l1 q1]) (.int .i64 0)).run Try.prog W = .ok (.agg #[.int .i64 (-1), .slice a0 l0 q0]) W := fun _ => by kernel_rfl
  have hi1 : ∀ W : World, (Instr.index 61 (.agg #[.int .i64 (-1), .slice a0 l0 q0, .int .i64 1, .slice a1 l1 q1]) (.int .i64 1)).run Try.prog W = .ok (.agg #[.int .i64 1, .slice a1 l1 q1]) W := fun _ => by kernel_rfl
  have CC0 : Hid (∀ W b, Gw w W → Bx W b 60 (.int .i64 (-1)) (.slice a0 l0 q0) → Calls Try.prog 29 #[.pointer (some ⟨b, 0, none⟩)] W fun ex w' => (∃ ao l cap, ex = .returned (.agg #[.int .i64 (-1), .slice ao l cap]) ∧ w'.ownsRow W.heap.size 65 2 (.slice ao l cap) m0 (pcells f c0 (-e) m0) ∧ (Value.slice a0 l0 q0 = .slice none 0 0 → Value.slice ao l cap = .slice none 0 0)) ∧ Gw W w') := by
    intro W b G X
    refine (cclone_any X.lt X.c0 X.c1 (own_keep HF.out.own0 fun q hq => G.below.block q (HF.out.own0.lt q hq).2) M0).mono ?_
    rintro ex w' ⟨⟨v', rfl, ho, hz⟩, g⟩
    obtain ⟨ao, l, cap, rfl⟩ := own_shape ho
    exact ⟨⟨ao, l, cap, rfl, ho, hz⟩, g⟩
  have CC1 : Hid (∀ W b, Gw w W → Bx W b 60 (.int .i64 1) (.slice a1 l1 q1) → Calls Try.prog 29 #[.pointer (some ⟨b, 0, none⟩)] W fun ex w' => (∃ ao l cap, ex = .returned (.agg #[.int .i64 1, .slice ao l cap]) ∧ w'.ownsRow W.heap.size 65 2 (.slice ao l cap) m1 (pcells f c1 e m1) ∧ (Value.slice a1 l1 q1 = .slice none 0 0 → Value.slice ao l cap = .slice none 0 0)) ∧ Gw W w') := by
    intro W b G X
    refine (cclone_any X.lt X.c0 X.c1 (own_keep HF.out.own1 fun q hq => G.below.block q (HF.out.own1.lt q hq).2) M1).mono ?_
    rintro ex w' ⟨⟨v', rfl, ho, hz⟩, g⟩
    obtain ⟨ao, l, cap, rfl⟩ := own_shape ho
    exact ⟨⟨ao, l, cap, rfl, ho, hz⟩, g⟩
  clear F hS
  go_enter Try.func15, Try.ntmps15
  go_wp2_with fail
  have NB : Hid (Blk (w.alloc (.cells #[.int .i64 e, .int .i64 n, .int .i64 lr, .int .u64 lf, .int .i64 mr, .int .u64 mf, .int .i64 (-1), .slice a0 l0 q0, .int .i64 1, .slice a1 l1 q1] 63)) w.heap.size (fcells e n lr lf mr mf (.slice a0 l0 q0) (.slice a1 l1 q1)) 63) := heap_alloc_new w _
  have G0 : Hid (Gw w (w.alloc (.cells #[.int .i64 e, .int .i64 n, .int .i64 lr, .int .u64 lf, .int .i64 mr, .int .u64 mf, .int .i64 (-1), .slice a0 l0 q0, .int .i64 1, .slice a1 l1 q1] 63))) := (Gw.refl w).alloc _ _
  have sz0 : (w.alloc (.cells #[.int .i64 e, .int .i64 n, .int .i64 lr, .int .u64 lf, .int .i64 mr, .int .u64 mf, .int .i64 (-1), .slice a0 l0 q0, .int .i64 1, .slice a1 l1 q1] 63)).heap.size = w.heap.size + 1 := by simp
  generalize w.alloc (.cells #[.int .i64 e, .int .i64 n, .int .i64 lr, .int .u64 lf, .int .i64 mr, .int .u64 mf, .int .i64 (-1), .slice a0 l0 q0, .int .i64 1, .slice a1 l1 q1] 63) = W at NB G0 sz0 ⊢
  have SZ : Hid (W.heap.size = w.heap.size + 1) := sz0
  clear sz0 k0 k1 k2 k3 k4 k5 k6 k7 k8 k9
  refine wp_loop_rounds 3 ?_
  rw [rounds_succ]
  go_wp2_with fail
  refine (CC0.out _ _ (G0.out.alloc _ _) (Bx.new _ _ _ _)).mono ?_
  rintro ex w1 ⟨⟨b0, n0, r0, rfl, hO, hZ⟩, g1⟩
  have OW0 : Hid (w1.ownsRow (W.heap.size + 1) 65 2 (.slice b0 n0 r0) m0 (pcells f c0 (-e) m0) ∧ (Value.slice a0 l0 q0 = .slice none 0 0 → Value.slice b0 n0 r0 = .slice none 0 0)) := ⟨by simpa using hO, hZ⟩
  have G1 : Hid (Gw W w1) := ((Gw.refl W).alloc _ _).trans g1
  have B1 : Hid (Blk w1 w.heap.size (fcells e n lr lf mr mf (.slice a0 l0 q0) (.slice a1 l1 q1)) 63) := NB.out.gw G1.out
  have y6 := B1.out.cell (o := 6) (v := .int .i64 (-1)) rfl
  have y7 := B1.out.cell (o := 7) (v := .slice a0 l0 q0) rfl
  have z6 := B1.out.fz 6
  have z7 := B1.out.fz 7
  clear hO hZ g1
  go_wp2_with fail
  have GA : Gw w ((w1.setCell ⟨w.heap.size, 6, none⟩ (.int .i64 (-1))).setCell ⟨w.heap.size, 7, none⟩ (.slice b0 n0 r0)) := ((G0.out.trans G1.out).setCell (Nat.le_refl _) _).setCell (Nat.le_refl _) _
  have BA : Blk ((w1.setCell ⟨w.heap.size, 6, none⟩ (.int .i64 (-1))).setCell ⟨w.heap.size, 7, none⟩ (.slice b0 n0 r0)) w.heap.size (fcells e n lr lf mr mf (.slice b0 n0 r0) (.slice a1 l1 q1)) 63 := (B1.out.set 6 _).set 7 _
  have OA : ((w1.setCell ⟨w.heap.size, 6, none⟩ (.int .i64 (-1))).setCell ⟨w.heap.size, 7, none⟩ (.slice b0 n0 r0)).ownsRow (w.heap.size + 1) 65 2 (.slice b0 n0 r0) m0 (pcells f c0 (-e) m0) := by
    have sz := SZ.out
    refine own_weak (own_keep OW0.out.1 fun q hq => ?_) (by omega)
    have := (OW0.out.1.lt q hq).1
    rw [Go.Deep.blk_setCell_other _ _ _ _ (show q ≠ w.heap.size by omega), Go.Deep.blk_setCell_other _ _ _ _ (show q ≠ w.heap.size by omega)]
  have GA' : Hid (Gw w ((w1.setCell ⟨w.heap.size, 6, none⟩ (.int .i64 (-1))).setCell ⟨w.heap.size, 7, none⟩ (.slice b0 n0 r0))) := GA
  have BA' : Hid (Blk ((w1.setCell ⟨w.heap.size, 6, none⟩ (.int .i64 (-1))).setCell ⟨w.heap.size, 7, none⟩ (.slice b0 n0 r0)) w.heap.size (fcells e n lr lf mr mf (.slice b0 n0 r0) (.slice a1 l1 q1)) 63) := BA
  have OA' : Hid (((w1.setCell ⟨w.heap.size, 6, none⟩ (.int .i64 (-1))).setCell ⟨w.heap.size, 7, none⟩ (.slice b0 n0 r0)).ownsRow (w.heap.size + 1) 65 2 (.slice b0 n0 r0) m0 (pcells f c0 (-e) m0)) := OA
  clear GA BA OA y6 y7 z6 z7
  generalize (w1.setCell ⟨w.heap.size, 6, none⟩ (.int .i64 (-1))).setCell ⟨w.heap.size, 7, none⟩ (.slice b0 n0 r0) = W2 at GA' BA' OA' ⊢
  rw [rounds_succ]
  go_wp2_with fail
  refine (CC1.out _ _ (GA'.out.alloc _ _) (Bx.new _ _ _ _)).mono ?_
  rintro ex w3 ⟨⟨b1, n1, r1, rfl, hO, hZ⟩, g3⟩
  have OW1 : Hid (w3.ownsRow (W2.heap.size + 1) 65 2 (.slice b1 n1 r1) m1 (pcells f c1 e m1) ∧ (Value.slice a1 l1 q1 = .slice none 0 0 → Value.slice b1 n1 r1 = .slice none 0 0)) := ⟨by simpa using hO, hZ⟩
  have G3 : Hid (Gw W2 w3) := ((Gw.refl W2).alloc _ _).trans g3
  have B3 : Hid (Blk w3 w.heap.size (fcells e n lr lf mr mf (.slice b0 n0 r0) (.slice a1 l1 q1)) 63) := BA'.out.gw G3.out
  have y6 := B3.out.cell (o := 8) (v := .int .i64 1) rfl
  have y7 := B3.out.cell (o := 9) (v := .slice a1 l1 q1) rfl
  have z6 := B3.out.fz 8
  have z7 := B3.out.fz 9
  clear hO hZ g3
  go_wp2_with fail
  have FIN : Hid ((∀ q, FitS w.heap.size (.slice b0 n0 r0) (.slice b1 n1 r1) q → w.heap.size ≤ q) ∧ HFit ((w3.setCell ⟨w.heap.size, 8, none⟩ (.int .i64 1)).setCell ⟨w.heap.size, 9, none⟩ (.slice b1 n1 r1)) w.heap.size (FitS w.heap.size (.slice b0 n0 r0) (.slice b1 n1 r1)) e n f ∧ Gw w ((w3.setCell ⟨w.heap.size, 8, none⟩ (.int .i64 1)).setCell ⟨w.heap.size, 9, none⟩ (.slice b1 n1 r1))) := by
    have l2 : w.heap.size < W2.heap.size := BA'.out.lt
    have bA : ∀ q, (Value.slice b0 n0 r0).ownBlock = some q → w.heap.size + 1 ≤ q ∧ q < W2.heap.size := fun q hq => OA'.out.lt q hq
    have bB : ∀ q, (Value.slice b1 n1 r1).ownBlock = some q → W2.heap.size + 1 ≤ q := fun q hq => (OW1.out.1.lt q hq).1
    refine ⟨fun q hq => ?_, ⟨.slice b0 n0 r0, .slice b1 n1 r1, lr, lf, mr, mf, m0, m1, c0, c1, ⟨(B3.out.set 8 _).set 9 _, ?_, ?_, fun q hq => ?_, fun q hq => ?_, fun q h0 h1 => ?_, fun z => ⟨OW0.out.2 (HF.out.z z).1, OW1.out.2 (HF.out.z z).2⟩, HF.out.ch0, HF.out.ch1, HF.out.up, HF.out.bd, HF.out.low, HF.out.top, HF.out.fit, HF.out.e1, HF.out.sb⟩, fun q => Iff.rfl⟩, ((GA'.out.trans G3.out).setCell (Nat.le_refl _) _).setCell (Nat.le_refl _) _⟩
    · rcases hq with rfl | r | r
      · exact Nat.le_refl _
      · have := bA q r; omega
      · have := bB q r; omega
    · refine own_weak (own_keep OA'.out fun q hq => ?_) (Nat.zero_le _)
      have := bA q hq
      rw [Go.Deep.blk_setCell_other _ _ _ _ (show q ≠ w.heap.size by omega), Go.Deep.blk_setCell_other _ _ _ _ (show q ≠ w.heap.size by omega)]
      exact G3.out.below.block q this.2
    · refine own_weak (own_keep OW1.out.1 fun q hq => ?_) (Nat.zero_le _)
      have := bB q hq
      rw [Go.Deep.blk_setCell_other _ _ _ _ (show q ≠ w.heap.size by omega), Go.Deep.blk_setCell_other _ _ _ _ (show q ≠ w.heap.size by omega)]
    · have := bA q hq; omega
    · have := bB q hq; omega
    · have := bA q h0; have := bB q h1; omega
  clear y6 y7 z6 z7
  generalize (w3.setCell ⟨w.heap.size, 8, none⟩ (.int .i64 1)).setCell ⟨w.heap.size, 9, none⟩ (.slice b1 n1 r1) = W4 at FIN ⊢
  rw [rounds_succ]
  go_wp2_with fail
  go_ret
  exact ⟨⟨w.heap.size, _, rfl, FIN.out.1, FIN.out.2.1⟩, FIN.out.2.2⟩

end Go.Proofs.Ytocahgiabeifeaa
