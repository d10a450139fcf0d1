/- JudgeKeeps. -/
import Derived.Test.YtkojcjfjmlompaaS3JK
import Derived.Test.YtkojcjfjmlompaaS3WAll
import Derived.StillTailTactics
import Derived.Deep.RegionHeld3
import Derived.Deep.CutBlock
namespace Go.Proofs.Ytkojcjfjmlompaa
open Go.RowKit
set_option linter.unusedVariables false
theorem rise_end (most : Int) : ∀ (x : List Ot) (l : Ps), RiseP l → RiseP (endP most l x) := by
  intro x
  induction x with
  | nil => intro l h; exact h
  | cons o x ih => intro l h; exact ih _ (rise_nxt h most o.1 o.2.1 o.2.2)
theorem len_end (most : Int) : ∀ (x : List Ot) (l : Ps), (l.length : Int) ≤ most → ((endP most l x).length : Int) ≤ most := by
  intro x
  induction x with
  | nil => intro l h; exact h
  | cons o x ih => intro l h; exact ih _ (len_nxt most o.1 o.2.1 o.2.2 h)
theorem zip_fs : ∀ z : List (Ot × Aw), (z.map Prod.fst).zip (z.map Prod.snd) = z := by
  intro z
  induction z with
  | nil => rfl
  | cons x z ih => simp only [List.map_cons, List.zip_cons_cons, ih]
theorem tells_z (most : Int) (z : List (Ot × Aw)) : tellsP most (z.map Prod.fst) (z.map Prod.snd) = allP most [] 0 z := by
  unfold tellsP
  rw [zip_fs, List.length_map, List.length_map, if_pos rfl, List.append_nil]
set_option maxRecDepth 100000 in
set_option maxHeartbeats 8000000 in
theorem keeps_walk (HJ : World → Nat → (Nat → Prop) → Int → Ps → Prop) (C : JudgeC HJ) (most : Int) (ao : Option Addr) (ac : Nat) (z : List (Ot × Aw)) (at_ : Int) (w : World) (hz : z.length ≤ 1048576) (hat : -9223372036854775808 ≤ at_ ∧ at_ < 9223372036854775808) (bo : ∀ x ∈ z, BdO x.1 ∧ x.2.L.length ≤ 1048576) (hz0 : SLr w ao z) :
    Calls Try.prog 6 #[.int .i64 most, .slice ao z.length ac, .int .i64 at_] w fun e w' => e = .returned (.bool true) ∧ Gw w w' := by
  have SH : Hid (∀ W, Calls Try.prog 7 #[] W fun e w' => e = .returned (.bool true) ∧ Gw W w') := fun W => shown23 HJ C W
  by_cases q : most < 1 ∨ 4294967296 < most
  · have NP : Hid (∀ W, Calls Try.prog 8 #[.int .i64 most] W fun e w' => e = .returned (.tuple #[.pointer none, .int .i64 1]) ∧ Gw W w') := fun W => C.bad most W q
    have e1 : ∀ W : World, (binOp .eql 24 (.pointer none) (.pointer none)).run Try.prog W = .ok (.bool true) W := fun _ => by kernel_rfl
    obtain ⟨b1, hb1⟩ : ∃ b1 : Bool, decide (most < 1) = b1 := ⟨_, rfl⟩
    have B1 : Hid (b1 = false → decide (most > 4294967296) = true) := fun h => by
      rw [h] at hb1
      have := of_decide_eq_false hb1
      exact decide_eq_true (by omega)
    clear q hz bo hz0 hat
    go_enter Try.func6, Try.ntmps6
    go_wp2_with fail
    refine (SH.out _).mono ?_
    rintro e w1 ⟨rfl, g1⟩
    have G1 : Hid (Gw w w1) := g1
    clear g1
    dsimp only
    go_wp2_with fail
    refine (NP.out _).mono ?_
    rintro e w2 ⟨rfl, g2⟩
    have G2 : Hid (Gw w w2) := G1.out.trans g2
    clear g2
    dsimp only
    cases b1 with
    | true =>
      go_wp2_with fail
      refine bodyPost_ret (v := .bool true) (by simp [results, Try.results6, go_sem]) rfl ⟨rfl, G2.out⟩
    | false =>
      have b2 := B1.out rfl
      have b3 : (4294967296 : Int) < most := by simpa using b2
      go_wp2_with fail
      refine bodyPost_ret (v := .bool true) (by simp [results, Try.results6, go_sem]) rfl ⟨rfl, G2.out⟩
  · have q1 : 1 ≤ most := by omega
    have q2 : most ≤ 4294967296 := by omega
    have NP : Hid (∀ W, Calls Try.prog 8 #[.int .i64 most] W fun e w' => NewJ HJ W w' e most) := fun W => C.new most W q1 q2
    have MQ : Hid (1 ≤ most ∧ most ≤ 4294967296) := ⟨q1, q2⟩
    obtain ⟨io, ho1, ho2, ho3, ho4⟩ := info_parts info_op
    obtain ⟨ia, ha1, ha2, ha3, ha4⟩ := info_parts info_ans
    have BO : Hid (∀ x ∈ z, BdO x.1 ∧ x.2.L.length ≤ 1048576) := bo
    have OH : Hid (SLr w ao z) := hz0
    have AT : Hid (-9223372036854775808 ≤ at_ ∧ at_ < 9223372036854775808) := hat
    obtain ⟨n, hn⟩ : ∃ n, z.length = n := ⟨_, rfl⟩
    have LN : Hid (z.length = n) := hn
    rw [hn] at hz ⊢
    clear q q1 q2 bo hz0 hn hat
    go_enter Try.func6, Try.ntmps6
    go_wp2_with fail
    refine (SH.out _).mono ?_
    rintro e w1 ⟨rfl, g1⟩
    have G1 : Hid (Gw w w1) := g1
    clear g1
    dsimp only
    go_wp2_with fail
    refine (NP.out _).mono ?_
    rintro e w2 ⟨j, Sj, rfl, j1, j2, g2⟩
    have e1 : ∀ W : World, (binOp .eql 24 (.pointer (some ⟨j, 0, none⟩)) (.pointer none)).run Try.prog W = .ok (.bool false) W := fun _ => by kernel_rfl
    have J0 : Hid (∃ Sj', JK HJ w (((w2.alloc (.cells #[] 33)).alloc (.cells #[] 36)).alloc (.cells #[] 44)) j Sj' most (endP most [] ((z.take 0).map Prod.fst)) w2.heap.size 0 0 ((z.take 0).map Prod.fst) (w2.heap.size + 1) 0 0 [] (some ⟨w2.heap.size + 2, 0, none⟩) (endP most [] ((z.take 0).map Prod.fst))) := by
      have z1 := G1.out.size
      have z2 := g2.size
      have ga : Gw w2 (((w2.alloc (.cells #[] 33)).alloc (.cells #[] 36)).alloc (.cells #[] 44)) := (((Gw.refl w2).alloc _ _).alloc _ _).alloc _ _
      have r1 := RowG.new 33 3 oc3 w2 w.heap.size _ rfl (by omega)
      have r2 := RowG.new 36 6 ac6 (w2.alloc (.cells #[] 33)) w.heap.size (w2.heap.size + 1) (by simp) (by omega)
      exact ⟨_, C.keep j1 (fun q _ hl => ga.below.block q hl), fun q a => by have := j2 q a.1; omega, fun q a => Nat.lt_of_lt_of_le a.2 ga.size, (G1.out.trans g2).trans ga, r1.gw ((((Gw.refl _).alloc _ _).alloc _ _)), r2.gw ((Gw.refl _).alloc _ _), ⟨by omega, fun a => by have := a.2; omega, fun a => by have := a.2; omega⟩, pl_nil _ _, fun a e h0 => by simp [endP] at h0⟩
    clear j1 j2 g2 G1
    dsimp only
    go_wp2_with fail
    obtain ⟨SjI, jI⟩ := J0.out
    have JI : Hid _ := jI
    clear jI J0
    go_loopg [10, 11, 12, 13] n (fun gg s10 s11 s12 s13 wr => ∃ (i go co ga ca cw : Nat) (Sj : Nat → Prop) (L6 : List A6) (bw : Option Addr), s13 = .int .i64 (i : Int) ∧ s10 = .slice (some ⟨go, 0, none⟩) i co ∧ s11 = .slice (some ⟨ga, 0, none⟩) i ca ∧ s12 = .slice bw (endP most [] ((z.take i).map Prod.fst)).length cw ∧ i ≤ n ∧ n - i ≤ gg ∧ Hid (JK HJ w wr j Sj most (endP most [] ((z.take i).map Prod.fst)) go i co ((z.take i).map Prod.fst) ga i ca L6 bw (endP most [] ((z.take i).map Prod.fst))) ∧ Hid (L6.map Prod.fst = (z.take i).map Prod.snd ∧ ∀ x ∈ L6, PLr w x.2.1 x.1.L ∧ (x.2.1 = none → x.1.L.length = 0 ∧ x.2.2 = 0)))
    case atStart => exact ⟨0, _, 0, _, 0, 0, _, [], _, rfl, rfl, rfl, rfl, Nat.zero_le _, by omega, JI, ⟨rfl, fun x hx => by cases hx⟩⟩
    case round =>
      clear JI
      obtain ⟨i, go, co, ga, ca, cw, Sj, L6, bw, rfl, rfl, rfl, rfl, a1, a2, JI, LI⟩ := hrel
      have EL : Hid ((endP most [] ((z.take i).map Prod.fst)).length ≤ 1048576) := by
        have h1 := end_len most ((z.take i).map Prod.fst) []
        rw [List.length_map, List.length_take] at h1
        simp only [List.length_nil] at h1
        show _ ≤ _
        omega
      by_cases ilt : i < n
      · have ilt' : (i : Int) < (n : Int) := by omega
        obtain ⟨x, hx⟩ : ∃ x, z[i]? = some x := ⟨z[i]'(by rw [LN.out]; exact ilt), List.getElem?_eq_getElem _⟩
        have EX : Hid (endP most [] ((z.take (i + 1)).map Prod.fst) = nxtP most (endP most [] ((z.take i).map Prod.fst)) x.1.1 x.1.2.1 x.1.2.2) := end_step most z i x.1 x.2 hx
        have RS : Hid (RiseP (nxtP most (endP most [] ((z.take i).map Prod.fst)) x.1.1 x.1.2.1 x.1.2.2)) := rise_nxt (rise_end most _ [] List.Pairwise.nil) most _ _ _
        have LM : Hid (((nxtP most (endP most [] ((z.take i).map Prod.fst)) x.1.1 x.1.2.1 x.1.2.2).length : Int) ≤ most) := len_nxt most _ _ _ (len_end most _ [] (by have := MQ.out; simp; omega))
        have T1 : Hid ((z.take (i + 1)).map Prod.fst = (z.take i).map Prod.fst ++ [x.1]) := by show _ = _; rw [List.take_add_one, hx, List.map_append]; rfl
        have T2 : Hid ((z.take (i + 1)).map Prod.snd = (z.take i).map Prod.snd ++ [x.2]) := by show _ = _; rw [List.take_add_one, hx, List.map_append]; rfl
        have BX : Hid (BdO x.1 ∧ x.2.L.length ≤ 1048576) := BO.out x (List.mem_of_getElem? hx)
        generalize endP most [] ((z.take i).map Prod.fst) = l at EX EL RS LM JI ⊢
        generalize (z.take i).map Prod.fst = os0 at T1 JI
        generalize (z.take i).map Prod.snd = as0 at T2 LI
        obtain ⟨ab, af, rfl, hab, hac⟩ := OH.out.cells (by rw [LN.out]; omega)
        obtain ⟨⟨oc0, oc1, oc2⟩, bx, cx, plx, nox, d0, d1, d2, d3, d4, d5⟩ := hac i x hx
        have l1 := len_one l most x.1.1 x.1.2.1 x.1.2.2
        obtain ⟨⟨o1, o2, o3⟩, Ac, Ai, Ak, Av, An, AL⟩ := x
        dsimp only at *
        obtain ⟨m, hm⟩ : ∃ m, AL.length = m := ⟨_, rfl⟩
        have ML : Hid (AL.length = m) := hm
        rw [hm] at d5
        have PX : Hid (PLr w bx AL ∧ (bx = none → AL.length = 0 ∧ cx = 0)) := ⟨plx, nox⟩
        obtain ⟨l', hl'⟩ : ∃ l', nxtP most l o1 o2 o3 = l' := ⟨_, rfl⟩
        have SM : Hid (¬ o1 = 1 → ¬ o1 = 2 → l' = l) := fun h1 h2 => by rw [← hl']; exact same_nxt l most o1 o2 o3 h1 h2
        rw [hl'] at EX RS LM l1
        have L1 : Hid (l'.length ≤ 1048577) := by have := EL.out; show _ ≤ _; omega
        have SEJ : Hid (∀ (wr : World) (Sj : Nat → Prop), HJ wr j Sj most l → Gw w wr → (∀ q, Sj q → w.heap.size ≤ q) → Calls Try.prog 10 #[.pointer (some ⟨j, 0, none⟩), .agg #[.int .i64 o1, .int .u64 o2, .int .u64 o3], .agg #[.int .i64 Ac, .bool Ai, .int .u64 Ak, .int .u64 Av, .int .i64 An, .slice bx m cx]] wr fun e w' => ∃ L, SeeJ HJ wr w' e j Sj most l' L) := fun wr Sj h1 h2 h3 => by
          have := C.see j Sj most l (o1, o2, o3) ⟨Ac, Ai, Ak, Av, An, AL⟩ bx cx wr BX.out.1 (by have := EL.out; omega) (by have := BX.out.2; dsimp only; omega) h1 (PX.out.1.gw h2) (fun a e h0 hs => by
            have k1 := PLr.lt PX.out.1 a e h0
            have k2 := h3 _ hs
            omega)
          dsimp only [awV] at this
          rw [hm, hl'] at this
          exact this.mono (fun e w' k => ⟨_, k⟩)
        have CEL : Hid (∀ W, Gw w W → (W.cell? ⟨ab, af + i * 9, none⟩ = some (.int .i64 o1) ∧ W.cell? ⟨ab, af + i * 9 + 1, none⟩ = some (.int .u64 o2) ∧ W.cell? ⟨ab, af + i * 9 + 2, none⟩ = some (.int .u64 o3)) ∧ W.cell? ⟨ab, af + i * 9 + 3, none⟩ = some (.int .i64 Ac) ∧ W.cell? ⟨ab, af + i * 9 + 3 + 1, none⟩ = some (.bool Ai) ∧ W.cell? ⟨ab, af + i * 9 + 3 + 2, none⟩ = some (.int .u64 Ak) ∧ W.cell? ⟨ab, af + i * 9 + 3 + 3, none⟩ = some (.int .u64 Av) ∧ W.cell? ⟨ab, af + i * 9 + 3 + 4, none⟩ = some (.int .i64 An) ∧ W.cell? ⟨ab, af + i * 9 + 3 + 5, none⟩ = some (.slice bx m cx)) := fun W g => by
          have k := fun j => g.cell ab j hab
          exact ⟨⟨(k _).trans oc0, (k _).trans oc1, (k _).trans oc2⟩, (k _).trans d0, (k _).trans d1, (k _).trans d2, (k _).trans d3, (k _).trans d4, (k _).trans d5⟩
        clear hac hx plx nox hm hl' d0 d1 d2 d3 d4 d5 oc0 oc1 oc2 l1
        obtain ⟨ln, hln⟩ : ∃ ln, l.length = ln := ⟨_, rfl⟩
        have LL : Hid (l.length = ln) := hln
        rw [hln]
        obtain ⟨wD, hwD⟩ : ∃ wD, World.drew wr = wD := ⟨_, rfl⟩
        obtain ⟨SjD, jD, _⟩ := JI.out.same C ((Gw.refl wr).drew)
        rw [hwD] at jD
        have JD : Hid (JK HJ w wD j SjD most l go i co os0 ga i ca L6 bw l) := jD
        obtain ⟨⟨oc0, oc1, oc2⟩, d0, d1, d2, d3, d4, d5⟩ := CEL.out wD jD.gw
        clear jD JI hln
        go_upto_region 13 with fail
        refine wp_region_still_tail 11 (by kernel_rfl) (by kernel_rfl) ?_
        change wpStill _ _ (World.drew wr) (fun a' => wpList _ _ _ _ a' (World.drew wr)) _ _
        simp only [List.take_succ_cons, List.take_zero, List.drop_succ_cons, List.drop_zero]
        rw [hwD]
        clear hwD
        repeat still_step
        refine wpStill_nil ?_
        go_wp2_with fail
        refine (SEJ.out wD SjD JD.out.hj JD.out.gw JD.out.lo).mono ?_
        rintro e w4 ⟨LL0, S4, ⟨b4, c4, rfl, _, _⟩, j4, x4, y4⟩
        obtain ⟨Sj4, k4⟩ := JD.out.see C j4 x4 y4
        have J4 : Hid (JK HJ w w4 j Sj4 most l' go i co os0 ga i ca L6 bw l) := k4
        have PAI : Hid (Calls Try.prog 14 #[.pointer (some ⟨j, 0, none⟩)] w4 fun e w' => ∃ v, e = .returned v ∧ w'.ownsRow w4.heap.size 44 2 v l'.length (pcs l') ∧ Gw w4 w') := C.pairs j Sj4 most l' w4 (by have := L1.out; omega) k4.hj
        clear k4 j4 x4 y4 JD oc0 oc1 oc2 d0 d1 d2 d3 d4 d5
        dsimp only
        go_wp2_with fail
        refine PAI.out.mono ?_
        rintro e w5 ⟨v5, rfl, o5, g5⟩
        obtain ⟨Sj5, bn, cn, rfl, pn, k5, k5'⟩ := J4.out.now C g5 o5
        obtain ⟨nl, hnl⟩ : ∃ nl, l'.length = nl := ⟨_, rfl⟩
        have NL : Hid (l'.length = nl) := hnl
        have J5 : Hid (JK HJ w w5 j Sj5 most l' go i co os0 ga i ca L6 bn l') := k5'
        have WL : Hid (PLr w5 bn l' ∧ PLr w5 bw l) := ⟨pn, k5.wl⟩
        have lm : ¬ most < (nl : Int) := by have := LM.out; rw [hnl] at this; omega
        have nlb : nl ≤ 1048577 := by rw [← hnl]; exact L1.out
        have c0 : w5.cell? ⟨ab, af + i * 9, none⟩ = some (.int .i64 o1) := (CEL.out w5 k5.gw).1.1
        clear o5 g5 pn k5 k5' J4 PAI
        dsimp only
        rw [hnl]
        clear hnl
        go_upto_region 15 with fail
        go_cut [98] from 51 to 133 (fun s98 wx => s98 = .bool false ∧ Hid (Gw w5 wx))
        case first =>
          have lm' : decide ((nl : Int) > most) = false := by simpa using lm
          by_cases y1 : o1 = 1
          · have y1' : (o1 != 1) = false := by simpa using y1
            clear y1
            go_wp2_with fail
            go_meet
            exact ⟨rfl, Gw.refl _⟩
          · have y1' : (o1 != 1) = true := by simpa using y1
            by_cases y2 : o1 = 2
            · have y2' : (o1 != 2) = false := by simpa using y2
              clear y1 y2
              go_wp2_with fail
              go_meet
              exact ⟨rfl, Gw.refl _⟩
            · have y2' : (o1 != 2) = true := by simpa using y2
              have SP : Hid (Calls Try.prog 13 #[.slice bn nl cn, .slice bw ln cw] w5 fun e w' => e = .returned (.bool true) ∧ Gw w5 w') := by
                have e := SM.out y1 y2
                have := spairs23 bn bw cn cw l (by have := EL.out; omega) w5 (by rw [← e]; exact WL.out.1) WL.out.2
                rw [LL.out] at this
                have e2 : nl = ln := by rw [← NL.out, ← LL.out, e]
                rw [e2]
                exact this
              clear y1 y2
              go_wp2_with fail
              refine SP.out.mono ?_
              rintro e w6 ⟨rfl, g6⟩
              have G6 : Hid (Gw w5 w6) := g6
              clear g6
              dsimp only
              go_wp2_with fail
              go_meet
              exact ⟨rfl, G6⟩
        case rest =>
          obtain ⟨rfl, G6⟩ := hcut
          have CN : Hid (∀ W, Gw w5 W → PLr W bn l') := fun W g => WL.out.1.gw g
          clear WL c0 lm
          go_wp2_with fail
          go_loopg [15] (nl + 1) (fun gg s15 wr => ∃ k : Nat, s15 = .int .i64 (k : Int) ∧ 1 ≤ k ∧ k ≤ nl + 1 ∧ nl + 1 - k ≤ gg ∧ Hid (Gw w5 wr))
          case atStart => exact ⟨1, rfl, Nat.le_refl _, by omega, by omega, G6⟩
          case round =>
            obtain ⟨k, rfl, k1, k2, k3, GK⟩ := hrel
            by_cases klt : k < nl
            · have klt' : (k : Int) < (nl : Int) := by omega
              obtain ⟨km, hkm⟩ : ∃ km : Nat, (k : Int) - 1 = (km : Int) := ⟨k - 1, by omega⟩
              have wkm : IntKind.i64.wrap (km : Int) = (km : Int) := by rw [IntKind.wrap_i64]; omega
              have kml : (km : Int) < (nl : Int) := by omega
              obtain ⟨nb, nf, rfl, _, nc⟩ := (CN.out wr GK.out).cells (by rw [NL.out]; omega)
              obtain ⟨x, hx⟩ : ∃ x, l'[k]? = some x := ⟨l'[k]'(by rw [NL.out]; exact klt), List.getElem?_eq_getElem _⟩
              obtain ⟨y, hy⟩ : ∃ y, l'[km]? = some y := ⟨l'[km]'(by rw [NL.out]; omega), List.getElem?_eq_getElem _⟩
              have xy : y.1 < x.1 := rise_get RS.out hy hx (by omega)
              have cx0 := nc k x hx 0 _ rfl
              have cy0 := nc km y hy 0 _ rfl
              rw [Nat.add_zero] at cx0 cy0
              obtain ⟨xk, xv⟩ := x
              obtain ⟨yk, yv⟩ := y
              dsimp only at cx0 cy0 xy
              have xy' : decide (yk ≥ xk) = false := by simp; omega
              clear nc hx hy xy
              go_wp2_with fail
              go_quiet (fail)
              go_wp2_with fail
              go_roundg (nl + 1 - (k + 1))
              case measure => omega
              case rel => exact ⟨k + 1, by go_num, by omega, by omega, Nat.le_refl _, GK.out.drewN _⟩
            · obtain ⟨Sj7, k7, _⟩ := J5.out.same C GK.out
              have J7 : Hid (JK HJ w wr j Sj7 most l' go i co os0 ga i ca L6 bn l') := k7
              clear k7 J5 GK CN G6
              obtain ⟨⟨oc0, oc1, oc2⟩, _⟩ := CEL.out wr J7.out.gw
              go_upto_region 24 with (at_builtin; refine app4_w _ rfl _ _ 49 rfl w.heap.size 33 io _ 3 24 Try.underlying49 ho1 ho2 ho3 ho4 rfl (by decide) oc3 oc3_len go i co os0 rfl (J7.out.ro.gw ((Gw.refl _).alloc _ _)) (some ⟨wr.heap.size, 0, none⟩) 1 1 [(o1, o2, o3)] rfl (fun e => by cases e) rfl (fun ad e => by cases e; exact newc wr #[.int .i64 o1, .int .u64 o2, .int .u64 o3] _) (oc_one _) (by simp only [maxLen]; omega) (by omega) ?_; intro g8 cap8 w8 r1 r2 r3; obtain ⟨Sj8, k8⟩ := J7.out.opA C ((Gw.refl _).alloc _ _) r1 r2 r3; have J8 : Hid (JK HJ w w8 j Sj8 most l' g8 (i + 1) cap8 (os0 ++ [(o1, o2, o3)]) ga i ca L6 bn l') := k8; clear k8 r1 r2 r3)
              clear oc0 oc1 oc2
              obtain ⟨_, d0, d1, d2, d3, d4, d5⟩ := CEL.out w8 J8.out.gw
              have ACN : Hid (∀ j u, ([((⟨Ac, Ai, Ak, Av, An, AL⟩ : Aw), bx, cx)].flatMap ac6)[j]? = some u → (w8.alloc (.cells #[.int .i64 Ac, .bool Ai, .int .u64 Ak, .int .u64 Av, .int .i64 An, .slice bx m cx] 36)).cell? ((⟨w8.heap.size, 0, none⟩ : Addr).add j) = some u) := fun j u hu => newc w8 #[.int .i64 Ac, .bool Ai, .int .u64 Ak, .int .u64 Av, .int .i64 An, .slice bx m cx] _ j u (by rw [← ML.out]; simpa [ac6] using hu)
              go_wp2_with (at_builtin; refine app4_w _ rfl _ _ 50 rfl w.heap.size 36 ia _ 6 64 Try.underlying50 ha1 ha2 ha3 ha4 rfl (by decide) ac6 ac6_len ga i ca L6 rfl (J8.out.ra.gw ((Gw.refl _).alloc _ _)) (some ⟨w8.heap.size, 0, none⟩) 1 1 [((⟨Ac, Ai, Ak, Av, An, AL⟩ : Aw), bx, cx)] rfl (fun e => by cases e) rfl (fun ad e => by cases e; exact ACN.out) (ac_one _) (by simp only [maxLen]; omega) (by omega) ?_; intro g9 cap9 w9 r1 r2 r3; obtain ⟨Sj9, k9⟩ := J8.out.ansA C ((Gw.refl _).alloc _ _) r1 r2 r3; have J9 : Hid (JK HJ w w9 j Sj9 most l' g8 (i + 1) cap8 (os0 ++ [(o1, o2, o3)]) g9 (i + 1) cap9 (L6 ++ [((⟨Ac, Ai, Ak, Av, An, AL⟩ : Aw), bx, cx)]) bn l') := k9; clear k9 r1 r2 r3)
              have LI' : Hid ((L6 ++ [((⟨Ac, Ai, Ak, Av, An, AL⟩ : Aw), bx, cx)]).map Prod.fst = (z.take (i + 1)).map Prod.snd ∧ ∀ x ∈ L6 ++ [((⟨Ac, Ai, Ak, Av, An, AL⟩ : Aw), bx, cx)], PLr w x.2.1 x.1.L ∧ (x.2.1 = none → x.1.L.length = 0 ∧ x.2.2 = 0)) := ⟨by rw [List.map_append, LI.out.1, T2.out]; rfl, fun x hx => by
                rcases List.mem_append.1 hx with a | a
                · exact LI.out.2 x a
                · simp only [List.mem_cons, List.not_mem_nil, or_false] at a
                  subst a
                  exact PX.out⟩
              go_roundg (n - (i + 1))
              case measure => omega
              case rel =>
                refine ⟨i + 1, g8, cap8, g9, cap9, cn, Sj9, _, bn, by go_num, rfl, rfl, ?_, by omega, Nat.le_refl _, ?_, LI'⟩
                · rw [EX.out, NL.out]
                · rw [EX.out, T1.out]; exact J9
      · have ilt' : ¬ (i : Int) < (n : Int) := by omega
        have ei : i = n := by omega
        subst ei
        have TZ : z.take i = z := List.take_of_length_le (by rw [LN.out]; exact Nat.le_refl _)
        rw [TZ] at JI LI
        obtain ⟨os, hos⟩ : ∃ os, z.map Prod.fst = os := ⟨_, rfl⟩
        rw [hos] at JI
        generalize endP most [] ((z.take i).map Prod.fst) = lx at *
        have JE : Hid (OLr wr (some ⟨go, 0, none⟩) os ∧ LsR 6 ac6 wr (some ⟨ga, 0, none⟩) L6 ∧ os.length = i ∧ L6.length = i ∧ i ≤ co ∧ i ≤ ca ∧ Gw w wr) := ⟨JI.out.ro.ls oc3_len, JI.out.ra.ls ac6_len, JI.out.ro.len, JI.out.ra.len, JI.out.ro.cap, JI.out.ra.cap, JI.out.gw⟩
        have AL : Hid (∀ W x, Gw wr W → ALr W (some ⟨ga, 0, none⟩) ((L6.take x).map Prod.fst)) := fun W x g => al_ls ((JE.out.2.1.gw g).take x) (fun y hy => by
          obtain ⟨h1, h2⟩ := LI.out.2 y (List.mem_of_mem_take hy)
          exact ⟨h1.gw (JE.out.2.2.2.2.2.2.trans g), h2⟩)
        have BOs : Hid (∀ o ∈ os, BdO o) := fun o ho => by
          rw [← hos] at ho
          obtain ⟨x, hx, rfl⟩ := List.mem_map.1 ho
          exact (BO.out x hx).1
        have BAs : Hid (∀ A ∈ L6.map Prod.fst, A.L.length ≤ 4000000) := fun A hA => by
          rw [LI.out.1] at hA
          obtain ⟨x, hx, rfl⟩ := List.mem_map.1 hA
          have := (BO.out x hx).2
          omega
        have AK : Hid (∀ (W : World) (k : Nat), Gw wr W → k ≤ i → Calls Try.prog 15 #[.int .i64 most, .slice (some ⟨go, 0, none⟩) k co, .slice (some ⟨ga, 0, none⟩) k ca] W fun e w' => AllJ W w' e (allP most [] 0 (z.take k))) := fun W k g hk => by
          obtain ⟨h1, _, h3, h4, h5, h6, h7⟩ := JE.out
          have lo : (os.take k).length = k := by rw [List.length_take]; omega
          have la : ((L6.take k).map Prod.fst).length = k := by rw [List.length_map, List.length_take]; omega
          have := C.all most (some ⟨go, 0, none⟩) (some ⟨ga, 0, none⟩) co ca (os.take k) ((L6.take k).map Prod.fst) W MQ.out.1 MQ.out.2 (by omega) (by omega) (by omega) (by omega) (fun o ho => BOs.out o (List.mem_of_mem_take ho)) (fun A hA => BAs.out A (by rw [List.map_take] at hA; exact List.mem_of_mem_take hA)) ((h1.gw g).take k) (AL.out W k g)
          rw [lo, la] at this
          have e : tellsP most (os.take k) ((L6.take k).map Prod.fst) = allP most [] 0 (z.take k) := by
            rw [List.map_take, LI.out.1, ← List.map_take, ← hos, ← List.map_take]
            exact tells_z most (z.take k)
          rw [e] at this
          exact this
        have CC : Hid (i ≤ co ∧ i ≤ ca) := ⟨JE.out.2.2.2.2.1, JE.out.2.2.2.2.2.1⟩
        have GE : Hid (Gw w wr) := JE.out.2.2.2.2.2.2
        clear JI LI TZ hos JE AL BOs BAs SH NP
        go_upto_if 135 with fail
        go_cut [2] (fun s2 wx => ∃ a : Int, s2 = .int .i64 a ∧ 0 ≤ a ∧ a < 9223372036854775808 ∧ wx = wr)
        case first =>
          by_cases na : at_ < 0
          · have t1 : IntKind.i64.wrap (at_ + 1) = at_ + 1 := by have := AT.out; rw [IntKind.wrap_i64]; omega
            have t2 : IntKind.i64.wrap (-(at_ + 1)) = -(at_ + 1) := by have := AT.out; rw [IntKind.wrap_i64]; omega
            have NA : Hid (at_ < 0) := na
            go_wp2_with fail
            go_meet
            exact ⟨-(at_ + 1), rfl, by have := NA.out; omega, by have := AT.out; omega, rfl⟩
          · have NA : Hid (¬ at_ < 0) := na
            go_wp2_with fail
            go_meet
            exact ⟨at_, rfl, by have := NA.out; omega, AT.out.2, rfl⟩
        case rest =>
          obtain ⟨a, rfl, p1, p2, rfl⟩ := hcut
          obtain ⟨k, hk⟩ : ∃ k : Nat, a % ((i : Int) + 1) = (k : Int) := ⟨(a % ((i : Int) + 1)).toNat, by have := Int.emod_nonneg a (show (i : Int) + 1 ≠ 0 by omega); omega⟩
          have kb : k ≤ i := by have := Int.emod_lt_of_pos a (show (0 : Int) < (i : Int) + 1 by omega); omega
          have hk' : a.tmod ((i : Int) + 1) = (k : Int) := by rw [Int.tmod_eq_emod_of_nonneg p1]; exact hk
          have t1 : IntKind.i64.wrap ((i : Int) + 1) = (i : Int) + 1 := by rw [IntKind.wrap_i64]; omega
          have A1 : Hid (Calls Try.prog 15 #[.int .i64 most, .slice (some ⟨go, 0, none⟩) i co, .slice (some ⟨ga, 0, none⟩) i ca] wc fun e w' => AllJ wc w' e (allP most [] 0 (z.take i))) := AK.out wc i (Gw.refl _) (Nat.le_refl _)
          have UB := all_len most (z.take k) [] 0
          rw [List.length_take] at UB
          obtain ⟨T, hT⟩ : ∃ T, allP most [] 0 (z.take i) = T := ⟨_, rfl⟩
          obtain ⟨U, hU⟩ : ∃ U, allP most [] 0 (z.take k) = U := ⟨_, rfl⟩
          have TU : Hid (∃ V, T = U ++ V ∧ ∀ f ∈ V, (k : Int) ≤ f.1) := by
            refine ⟨allP most (endP most [] ((z.take k).map Prod.fst)) (0 + (z.take k).length) (z.drop k), ?_, fun f hf => ?_⟩
            · rw [← hT, ← hU, ← all_app, List.take_append_drop, List.take_of_length_le (by rw [LN.out]; exact Nat.le_refl _)]
            · have h1 := all_at most _ _ _ f hf
              have h2 : (z.take k).length = k := by rw [List.length_take, LN.out]; omega
              rw [h2] at h1
              omega
          rw [hT] at A1
          rw [hU] at UB
          have A2 : Hid (∀ W, Gw wc W → Calls Try.prog 15 #[.int .i64 most, .slice (some ⟨go, 0, none⟩) k co, .slice (some ⟨ga, 0, none⟩) k ca] W fun e w' => AllJ W w' e U) := fun W g => by
            have := AK.out W k g kb
            rw [hU] at this
            exact this
          have ko : k ≤ co := by have := CC.out; omega
          have ka : k ≤ ca := by have := CC.out; omega
          have so : ∀ W : World, (Instr.slice 49 (.slice (some ⟨go, 0, none⟩) i co) none (some (.int .i64 (k : Int))) none).run Try.prog W = .ok (.slice (some ⟨go, 0, none⟩) k co) W := fun W => by simp [go_sem, Instr.slice, ko]
          have sa : ∀ W : World, (Instr.slice 50 (.slice (some ⟨ga, 0, none⟩) i ca) none (some (.int .i64 (k : Int))) none).run Try.prog W = .ok (.slice (some ⟨ga, 0, none⟩) k ca) W := fun W => by simp [go_sem, Instr.slice, ka]
          clear hT hU CC AK
          go_wp2_with fail
          refine A1.out.mono ?_
          rintro e w1 ⟨b1, c1, rfl, f1, l1, n1, g1⟩
          obtain ⟨tl, htl⟩ : ∃ tl, T.length = tl := ⟨_, rfl⟩
          obtain ⟨ul, hul⟩ : ∃ ul, U.length = ul := ⟨_, rfl⟩
          have LTU : Hid (T.length = tl ∧ U.length = ul ∧ ul ≤ tl) := by
            obtain ⟨V, h1, _⟩ := TU.out
            refine ⟨htl, hul, ?_⟩
            rw [← htl, ← hul, h1, List.length_append]
            omega
          have F1 : Hid (FLr w1 b1 T ∧ Gw wc w1 ∧ (b1 = none → c1 = 0) ∧ tl ≤ c1) := ⟨f1, g1, n1, by rw [← htl]; exact l1⟩
          rw [hul] at UB
          dsimp only
          rw [htl]
          clear f1 g1 n1 l1 A1 htl hk hk' t1
          go_upto_region 29 with fail
          have F11 : Hid (Gw wc w1) := F1.out.2.1
          have HW : Hid (∀ w', Gw wc w' → Gw wc w' ∧ True) := fun w' gg => ⟨gg, trivial⟩
          go_region_held3 (fun w' => Gw wc w' ∧ True)
            ((refine HW.out _ ?_; (repeat (first | exact Gw.refl _ | exact And.left (by assumption) | exact Hid.out (by assumption) | refine Gw.drew ?_ | refine Gw.trans ?_ (by assumption))); done))
            ((first
              | (go_at_call 15; refine (A2.out _ (by repeat (first | exact Gw.refl _ | exact And.left (by assumption) | exact Hid.out (by assumption) | refine Gw.drew ?_ | refine Gw.drewN ?_ _))).mono ?_; rintro ex w2 ⟨b2, c2, rfl, f2, _, _, g2⟩; have K2 : Hid (FLr w2 b2 U ∧ Gw w1 w2) := ⟨f2, Gw.trans (by repeat (first | exact Gw.refl _ | refine Gw.drew ?_ | refine Gw.drewN ?_ _)) g2⟩; have F12 : Hid (Gw wc w2) := F11.out.trans K2.out.2; clear f2 g2; dsimp only; rw [hul])))
          have F2 : Hid (FLr w2 b1 T ∧ FLr w2 b2 U ∧ Gw w w2) := ⟨F1.out.1.gw K2.out.2, K2.out.1, GE.out.trans F12.out⟩
          have ltu := LTU.out.2.2
          have uc : ul ≤ c1 := Nat.le_trans ltu F1.out.2.2.2
          have s1 : ∀ W : World, (Instr.slice 51 (.slice b1 tl c1) none (some (.int .i64 (ul : Int))) none).run Try.prog W = .ok (.slice b1 ul c1) W := fun W => by
            cases hb : b1 with
            | none =>
              have h1 := F1.out.2.2.1 hb
              have h2 : tl = 0 := by have := F1.out.2.2.2; omega
              have h3 : ul = 0 := by omega
              rw [h1, h2, h3]
              simp [go_sem, Instr.slice]
            | some ad => 
              obtain ⟨ab, af, as_⟩ := ad
              simp [go_sem, Instr.slice, uc]
          have TT : Hid (T.take ul = U) := by
            obtain ⟨V, h1, _⟩ := TU.out
            show _ = _
            rw [h1, ← LTU.out.2.1]
            simp
          have SF : Hid (Calls Try.prog 17 #[.slice b2 ul c2, .slice b1 ul c1] w2 fun e w' => e = .returned (.bool true) ∧ Gw w2 w') := by
            have h1 := F2.out.1.take ul
            rw [TT.out] at h1
            have := sfaults23 b2 b1 c2 c1 U (by rw [LTU.out.2.1]; omega) w2 F2.out.2.1 h1
            rw [LTU.out.2.1] at this
            exact this
          have z1 : ¬ (tl : Int) < (ul : Int) := by omega
          clear A2 so sa hul
          go_wp2_with fail
          refine SF.out.mono ?_
          rintro e w3 ⟨rfl, g3⟩
          have G3 : Hid (Gw w w3) := F2.out.2.2.trans g3
          have F3 : Hid (FLr w3 b1 T) := F2.out.1.gw g3
          clear g3 s1
          dsimp only
          by_cases eq : ul = tl
          · have eq' : ((ul : Int) == (tl : Int)) = true := by rw [eq]; simp
            clear eq
            go_wp2_with fail
            refine bodyPost_ret (v := .bool true) (by simp [results, Try.results6, go_sem]) rfl ⟨rfl, G3.out⟩
          · have eq' : ((ul : Int) == (tl : Int)) = false := by simp; omega
            have lt2 : (ul : Int) < (tl : Int) := by omega
            obtain ⟨f, hf⟩ : ∃ f, T[ul]? = some f := ⟨T[ul]'(by rw [LTU.out.1]; omega), List.getElem?_eq_getElem _⟩
            have fk : (k : Int) ≤ f.1 := by
              obtain ⟨V, h1, h2⟩ := TU.out
              rw [h1, List.getElem?_append_right (by rw [LTU.out.2.1]; exact Nat.le_refl _)] at hf
              exact h2 f (List.mem_of_getElem? hf)
            obtain ⟨fb, ff, rfl, _, fc⟩ := F3.out.cells (by rw [LTU.out.1]; omega)
            have y0 := fc ul f hf 0 _ rfl
            rw [Nat.add_zero] at y0
            obtain ⟨f1, f2⟩ := f
            dsimp only at y0 fk
            have fk' : decide (f1 ≥ (k : Int)) = true := by simpa using fk
            clear fc hf eq
            go_wp2_with fail
            refine bodyPost_ret (v := .bool true) (by simp [results, Try.results6, go_sem]) rfl ⟨rfl, G3.out⟩
end Go.Proofs.Ytkojcjfjmlompaa
