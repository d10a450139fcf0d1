/- JudgeFinds. -/
import Derived.Test.YtkojcjfjmlompaaS3PJ
import Derived.Test.YtkojcjfjmlompaaS3Turn
import Derived.Test.YtkojcjfjmlompaaS3All
import Derived.Deep.RegionHeld3
namespace Go.Proofs.Ytkojcjfjmlompaa
open Go.RowKit
set_option linter.unusedVariables false
theorem end_snoc (most : Int) (os : List Ot) (i : Nat) (o : Ot) (h : os[i]? = some o) : endP most [] (os.take (i + 1)) = nxtP most (endP most [] (os.take i)) o.1 o.2.1 o.2.2 := by
  rw [List.take_add_one, h]
  have k : ∀ (x : List Ot) (l : Ps), endP most l (x ++ [o]) = nxtP most (endP most l x) o.1 o.2.1 o.2.2 := by
    intro x
    induction x with
    | nil => intro l; rfl
    | cons y x ih => intro l; exact ih _
  exact k _ _
theorem turn_len (A : Aw) (rule y : Int) : (turnP A rule y).1.L.length ≤ A.L.length + 1 := by
  unfold turnP turnL
  repeat' split
  all_goals simp
  all_goals omega
set_option maxRecDepth 100000 in
set_option maxHeartbeats 8000000 in
theorem finds_walk (HJ : World → Nat → (Nat → Prop) → Int → Ps → Prop) (C : JudgeC HJ) (most : Int) (lo : Option Addr) (lc : Nat) (os : List Ot) (o : Ot) (rule y : Int) (w : World) (hos : os.length ≤ 1048576) (bo : ∀ o ∈ os, BdO o) (hbo : BdO o) (hy : 0 ≤ y ∧ y < 18446744073709551616) (ho : OLr w lo os) :
    Calls Try.prog 5 #[.int .i64 most, .slice lo os.length lc, .agg #[.int .i64 o.1, .int .u64 o.2.1, .int .u64 o.2.2], .int .i64 rule, .int .u64 y] w fun e w' => e = .returned (.bool true) ∧ Gw w w' := by
  have SH : Hid (∀ W, Calls Try.prog 7 #[] W fun e w' => e = .returned (.bool true) ∧ Gw W w') := fun W => shown23 HJ C W
  by_cases q : most < 1 ∨ 4294967296 < most
  · have NP : Hid (∀ W, Calls Try.prog 8 #[.int .i64 most] W fun e w' => e = .returned (.tuple #[.pointer none, .int .i64 1]) ∧ Gw W w') := fun W => C.bad most W q
    have ND : Hid (∀ W, Calls Try.prog 9 #[.int .i64 most] W fun e w' => e = .returned (.tuple #[.pointer none, .int .i64 1]) ∧ w' = W) := fun W => rnew23_no most q W
    have e1 : ∀ W : World, (binOp .eql 24 (.pointer none) (.pointer none)).run Try.prog W = .ok (.bool true) W := fun _ => by kernel_rfl
    have e2 : ∀ W : World, (binOp .eql 28 (.pointer none) (.pointer none)).run Try.prog W = .ok (.bool true) W := fun _ => by kernel_rfl
    clear q hos bo hbo hy ho
    go_enter Try.func5, Try.ntmps5
    go_wp2_with fail
    refine (SH.out _).mono ?_
    rintro e w1 ⟨rfl, g1⟩
    have G1 : Hid (Gw w w1) := ((Gw.refl w).alloc _ _).trans g1
    clear g1
    dsimp only
    go_wp2_with fail
    refine (NP.out _).mono ?_
    rintro e w2 ⟨rfl, g2⟩
    have G2 : Hid (Gw w w2) := G1.out.trans g2
    clear g2
    dsimp only
    go_wp2_with fail
    refine (ND.out _).mono ?_
    rintro e w3 ⟨rfl, g3⟩
    have G3 : Hid (Gw w w3) := by rw [g3]; exact G2.out
    clear g3
    dsimp only
    go_wp2_with fail
    refine bodyPost_ret (v := .bool true) (by simp [results, Try.results5, go_sem]) rfl ⟨rfl, G3.out⟩
  · have q1 : 1 ≤ most := by omega
    have q2 : most ≤ 4294967296 := by omega
    have NP : Hid (∀ W, Calls Try.prog 8 #[.int .i64 most] W fun e w' => NewJ HJ W w' e most) := fun W => C.new most W q1 q2
    have ND : Hid (∀ W, Calls Try.prog 9 #[.int .i64 most] W fun e w' => e = .returned (.tuple #[.pointer (some ⟨W.heap.size, 0, none⟩), .int .i64 0]) ∧ HPl w' W.heap.size (fun q => q = W.heap.size) most [] ∧ Gw W w') := fun W => rnew23 most q1 q2 W
    have BO : Hid (∀ o ∈ os, BdO o) := bo
    have HO : Hid (BdO o) := hbo
    have YY : Hid (0 ≤ y ∧ y < 18446744073709551616) := hy
    have OH : Hid (OLr w lo os) := ho
    obtain ⟨n, hn⟩ : ∃ n, os.length = n := ⟨_, rfl⟩
    have LN : Hid (os.length = n) := hn
    rw [hn] at hos ⊢
    obtain ⟨w0, hw0⟩ : ∃ w0, w.alloc (.cells #[.int .i64 o.1, .int .u64 o.2.1, .int .u64 o.2.2] 33) = w0 := ⟨_, rfl⟩
    have G0 : Hid (Gw w w0) := by rw [← hw0]; exact (Gw.refl w).alloc _ _
    have B0 : Hid (w0.heap[w.heap.size]? = some (.cells #[.int .i64 o.1, .int .u64 o.2.1, .int .u64 o.2.2] 33 (0, 0))) := by rw [← hw0]; exact heap_alloc_new w _
    obtain ⟨b0, hb0⟩ : ∃ b0, w.heap.size = b0 := ⟨_, rfl⟩
    rw [hb0] at B0
    clear q q1 q2 bo hbo hy ho hn
    go_enter Try.func5, Try.ntmps5
    go_wp2_with fail
    clear hw0 hb0
    refine (SH.out _).mono ?_
    rintro e w1 ⟨rfl, g1⟩
    have G1 : Hid (Gw w0 w1) := g1
    clear g1
    dsimp only
    go_wp2_with fail
    refine (NP.out _).mono ?_
    rintro e w2 ⟨j, Sj, rfl, j1, j2, g2⟩
    have J2 : Hid (HJ w2 j Sj most [] ∧ (∀ q, Sj q → w1.heap.size ≤ q) ∧ Gw w1 w2) := ⟨j1, j2, g2⟩
    clear j1 j2 g2
    dsimp only
    go_wp2_with fail
    refine (ND.out _).mono ?_
    rintro e w3 ⟨rfl, h3, g3⟩
    obtain ⟨Sp, Sj', PJ0⟩ := PJ.new C G1.out J2.out.1 J2.out.2.1 J2.out.2.2 h3 g3
    obtain ⟨p, hp⟩ : ∃ p, w2.heap.size = p := ⟨_, rfl⟩
    rw [hp] at PJ0
    dsimp only
    rw [hp]
    have P0 : Hid (PJ HJ w0 w3 p j Sp Sj' most (endP most [] (os.take 0)) (endP most [] (os.take 0))) := PJ0
    have e1 : ∀ W : World, (binOp .eql 24 (.pointer (some ⟨j, 0, none⟩)) (.pointer none)).run Try.prog W = .ok (.bool false) W := fun _ => by kernel_rfl
    have e2 : ∀ W : World, (binOp .eql 28 (.pointer (some ⟨p, 0, none⟩)) (.pointer none)).run Try.prog W = .ok (.bool false) W := fun _ => by kernel_rfl
    clear h3 g3 hp PJ0 J2 G1
    go_wp2_with fail
    go_loopg [16] n (fun gg s16 wr => ∃ (i : Nat) (Sp Sj : Nat → Prop), s16 = .int .i64 (i : Int) ∧ i ≤ n ∧ n - i ≤ gg ∧ Hid (PJ HJ w0 wr p j Sp Sj most (endP most [] (os.take i)) (endP most [] (os.take i))))
    case atStart => exact ⟨0, _, _, rfl, Nat.zero_le _, by omega, P0⟩
    case round =>
      clear P0
      obtain ⟨i, Sp, Sj, rfl, a1, a2, PI⟩ := hrel
      have EL : Hid ((endP most [] (os.take i)).length ≤ 3999999) := by
        have h1 := end_len most (os.take i) []
        rw [List.length_take] at h1
        simp only [List.length_nil] at h1
        show _ ≤ _
        omega
      by_cases ilt : i < n
      · have ilt' : (i : Int) < (n : Int) := by omega
        obtain ⟨oi, hoi⟩ : ∃ oi, os[i]? = some oi := ⟨os[i]'(by rw [LN.out]; exact ilt), List.getElem?_eq_getElem _⟩
        have ES : Hid (endP most [] (os.take (i + 1)) = nxtP most (endP most [] (os.take i)) oi.1 oi.2.1 oi.2.2) := end_snoc most os i oi hoi
        have BI : Hid (BdO oi) := BO.out oi (List.mem_of_getElem? hoi)
        generalize endP most [] (os.take i) = l at ES EL PI
        obtain ⟨lb, lf, rfl, hlb, hlc⟩ := (OH.out.gw G0.out).cells (by rw [LN.out]; omega)
        have c0 := hlc i oi hoi 0 _ rfl
        have c1 := hlc i oi hoi 1 _ rfl
        have c2 := hlc i oi hoi 2 _ rfl
        rw [Nat.add_zero] at c0
        obtain ⟨wS, hwS⟩ : ∃ wS, wS = wr := ⟨_, rfl⟩
        subst hwS
        obtain ⟨o1, o2, o3⟩ := oi
        dsimp only at c0 c1 c2
        have HW : Hid (∀ w', Gw w0 w' → Gw w0 w' ∧ w'.cell? ⟨lb, lf + i * 3, none⟩ = some (.int .i64 o1) ∧ w'.cell? ⟨lb, lf + i * 3 + 1, none⟩ = some (.int .u64 o2) ∧ w'.cell? ⟨lb, lf + i * 3 + 2, none⟩ = some (.int .u64 o3)) := fun w' gg => ⟨gg, (gg.cell _ _ hlb).trans c0, (gg.cell _ _ hlb).trans c1, (gg.cell _ _ hlb).trans c2⟩
        obtain ⟨A, hA⟩ : ∃ A, ansP most l o1 o2 o3 = A := ⟨_, rfl⟩
        have AL : Hid (A.L.length ≤ 4000000) := by
          have h1 := ans_len most l o1 o2 o3
          have h2 := EL.out
          rw [hA] at h1
          show _ ≤ _
          omega
        have DH : Hid (∀ W, Gw wS W → Calls Try.prog 18 #[.pointer (some ⟨p, 0, none⟩), .agg #[.int .i64 o1, .int .u64 o2, .int .u64 o3]] W fun e w' => DoJ HJ w0 w' e p j most (nxtP most l o1 o2 o3) l A) := fun W g => by
          have := PI.out.doo C (o1, o2, o3) BI.out (by have := EL.out; omega) W g
          dsimp only at this
          rw [hA] at this
          exact this
        have SE : Hid (∀ (w4 : World) (bo : Option Addr) (c : Nat) (Sp Sj : Nat → Prop), PJ HJ w0 w4 p j Sp Sj most (nxtP most l o1 o2 o3) l → PLr w4 bo A.L → (∀ a, bo = some a → 0 < A.L.length → ¬ Sj a.block) → ∀ W, Gw w4 W → Calls Try.prog 10 #[.pointer (some ⟨j, 0, none⟩), .agg #[.int .i64 o1, .int .u64 o2, .int .u64 o3], awV A bo c] W fun e w' => SeK HJ w0 W w' e p j Sp Sj most (nxtP most l o1 o2 o3) (nxtP most l o1 o2 o3) []) := fun w4 bo c Sp Sj h1 h2 h3 W g => by
          have := h1.see C (o1, o2, o3) BI.out EL.out A bo c AL.out h2 h3 W g
          dsimp only at this
          rw [hA, seeP_self] at this
          exact this
        have GS : Hid (Gw w0 wS) := PI.out.gw
        clear hoi hlc c0 c1 c2 hA PI
        unfold awV at SE
        go_wp2_with fail
        go_region_held3 (fun w' => Gw w0 w' ∧ w'.cell? ⟨lb, lf + i * 3, none⟩ = some (.int .i64 o1) ∧ w'.cell? ⟨lb, lf + i * 3 + 1, none⟩ = some (.int .u64 o2) ∧ w'.cell? ⟨lb, lf + i * 3 + 2, none⟩ = some (.int .u64 o3))
          ((refine HW.out _ ?_; (repeat (first | exact Gw.refl _ | exact And.left (by assumption) | exact Hid.out (by assumption) | refine Gw.drew ?_ | refine Gw.trans ?_ (by assumption))); done))
          ((first
            | (go_at_call 18; refine (DH.out _ (by repeat (first | exact Gw.refl _ | refine Gw.drew ?_ | refine Gw.drewN ?_ _))).mono ?_; rintro ex w4 ⟨bo4, c4, Sp4, Sj4, rfl, pj4, pl4, ap4, _⟩; have K4 : Hid (PJ HJ w0 w4 p j Sp4 Sj4 most (nxtP most l o1 o2 o3) l ∧ PLr w4 bo4 A.L ∧ ∀ a, bo4 = some a → 0 < A.L.length → ¬ Sj4 a.block) := ⟨pj4, pl4, ap4⟩; have F4 : Hid (Gw w0 w4) := pj4.gw; clear pj4 pl4 ap4; unfold awV)
            | (go_at_call 10; refine (SE.out w4 bo4 c4 Sp4 Sj4 K4.out.1 K4.out.2.1 K4.out.2.2 _ (by repeat (first | exact Gw.refl _ | refine Gw.drew ?_ | refine Gw.drewN ?_ _))).mono ?_; rintro ex w5 ⟨Sp5, Sj5, ⟨bo5, c5, rfl, _, _⟩, pj5, _⟩; have K5 : Hid (PJ HJ w0 w5 p j Sp5 Sj5 most (nxtP most l o1 o2 o3) (nxtP most l o1 o2 o3)) := pj5; have F5 : Hid (Gw w0 w5) := pj5.gw; clear pj5)))
        all_goals
          go_wp2_with fail
          go_roundg (n - (i + 1))
          case measure => omega
          case rel => exact ⟨i + 1, Sp5, Sj5, by go_num, by omega, Nat.le_refl _, by rw [ES.out]; exact K5⟩
      · have PE : Hid (PJ HJ w0 wr p j Sp Sj most (endP most [] (os.take i)) (endP most [] (os.take i))) := PI
        clear PI
        generalize endP most [] (os.take i) = l at EL PE
        have BX := (PE.out.gw.below.block b0 (blkl B0.out)).trans B0.out
        obtain ⟨o1, o2, o3⟩ := o
        dsimp only at BX
        have c0 : wr.cell? ⟨b0, 0, none⟩ = some (.int .i64 o1) := blkc BX rfl
        have c1 : wr.cell? ⟨b0, 1, none⟩ = some (.int .u64 o2) := blkc BX rfl
        have c2 : wr.cell? ⟨b0, 2, none⟩ = some (.int .u64 o3) := blkc BX rfl
        obtain ⟨A, hA⟩ : ∃ A, ansP most l o1 o2 o3 = A := ⟨_, rfl⟩
        have BD := ans_bd PE.out.hp.bd most o1 o2 o3
        have AN := ans_len most l o1 o2 o3
        rw [hA] at BD AN
        have AB : Hid ((0 ≤ A.k ∧ A.k < 18446744073709551616) ∧ (0 ≤ A.v ∧ A.v < 18446744073709551616) ∧ BdP A.L ∧ A.L.length ≤ 3999999 ∧ (0 ≤ A.n ∧ A.n ≤ 4000000) ∧ (0 ≤ A.c ∧ A.c ≤ 161)) := by
          obtain ⟨a1, a2, a3, a4, a5, a6⟩ := BD
          have := EL.out
          exact ⟨a1, a2, a3, by omega, ⟨a5.1, by omega⟩, a6⟩
        have ST : Hid (seeP A (turnP A rule y).1 = if (turnP A rule y).2 = true then [rule] else []) := see_turn YY.out.1 YY.out.2 AB.out.1 AB.out.2.1 (fun p hp => (AB.out.2.2.1 p hp).2)
        have TLn : Hid ((turnP A rule y).1.L.length ≤ 4000000) := Nat.le_trans (turn_len A rule y) (by have := AB.out.2.2.2.1; omega)
        have DH : Hid (Calls Try.prog 18 #[.pointer (some ⟨p, 0, none⟩), .agg #[.int .i64 o1, .int .u64 o2, .int .u64 o3]] wr fun e w' => DoJ HJ w0 w' e p j most (nxtP most l o1 o2 o3) l A) := by
          have := PE.out.doo C (o1, o2, o3) HO.out (by have := EL.out; omega) wr (Gw.refl wr)
          dsimp only at this
          rw [hA] at this
          exact this
        have TU : Hid (∀ (W : World) (bo : Option Addr) (c : Nat), PLr W bo A.L → (bo = none → c = 0) → Calls Try.prog 19 #[awV A bo c, .int .i64 rule, .int .u64 y] W fun e w' => TurnO W w' e (turnP A rule y).1 (turnP A rule y).2) := fun W bo c h1 h2 => turned23 A bo c (by have := AB.out.2.2.2.1; omega) AB.out.2.2.2.2.2 AB.out.2.2.2.2.1 rule y YY.out W h1 h2
        obtain ⟨A', hA'⟩ : ∃ A', (turnP A rule y).1 = A' := ⟨_, rfl⟩
        obtain ⟨is, his⟩ : ∃ is, (turnP A rule y).2 = is := ⟨_, rfl⟩
        rw [hA', his] at TU ST
        rw [hA'] at TLn
        have SE : Hid (∀ (w4 : World) (bo : Option Addr) (c : Nat) (Sp Sj : Nat → Prop), PJ HJ w0 w4 p j Sp Sj most (nxtP most l o1 o2 o3) l → PLr w4 bo A'.L → (∀ a, bo = some a → 0 < A'.L.length → ¬ Sj a.block) → Calls Try.prog 10 #[.pointer (some ⟨j, 0, none⟩), .agg #[.int .i64 o1, .int .u64 o2, .int .u64 o3], awV A' bo c] w4 fun e w' => SeK HJ w0 w4 w' e p j Sp Sj most (nxtP most l o1 o2 o3) (nxtP most l o1 o2 o3) (if is = true then [rule] else [])) := fun w4 bo c Sp Sj h1 h2 h3 => by
          have := h1.see C (o1, o2, o3) HO.out EL.out A' bo c TLn.out h2 h3 w4 (Gw.refl w4)
          dsimp only at this
          rw [hA, ST.out] at this
          exact this
        have ilt' : ¬ (i : Int) < (n : Int) := by omega
        clear hA BD AN hA' his BX
        unfold awV at SE TU
        go_wp2_with fail
        refine DH.out.mono ?_
        rintro e w4 ⟨bo4, c4, Sp4, Sj4, rfl, pj4, pl4, ap4, bn4⟩
        have K4 : Hid (PJ HJ w0 w4 p j Sp4 Sj4 most (nxtP most l o1 o2 o3) l) := pj4
        have B4 := (pj4.gw.below.block b0 (blkl B0.out)).trans B0.out
        have L4 : Hid (PLr w4 bo4 A.L ∧ (bo4 = none → c4 = 0)) := ⟨pl4, bn4⟩
        clear pj4 pl4 ap4 bn4 c0 c1 c2
        unfold awV
        dsimp only
        go_wp2_with fail
        refine (TU.out _ bo4 c4 L4.out.1 L4.out.2).mono ?_
        rintro e w5 ⟨bo5, c5, rfl, pl5, g5, fr5⟩
        obtain ⟨Sj5, pj5, sj5⟩ := K4.out.same C g5
        have K5 : Hid (PJ HJ w0 w5 p j Sp4 Sj5 most (nxtP most l o1 o2 o3) l ∧ PLr w5 bo5 A'.L ∧ ∀ a, bo5 = some a → 0 < A'.L.length → ¬ Sj5 a.block) := ⟨pj5, pl5, fun a e h0 hs => by
          have k1 := fr5 a e
          have k2 := K4.out.lt _ (.inr (sj5 _ hs))
          omega⟩
        clear pl5 g5 fr5 pj5 sj5 B4 L4
        unfold awV
        dsimp only
        obtain ⟨c', is', k', v', n', L'⟩ := A'
        dsimp only at *
        obtain ⟨m', hm'⟩ : ∃ m', L'.length = m' := ⟨_, rfl⟩
        have MM : Hid (L'.length = m') := hm'
        rw [hm']
        rw [hm'] at SE
        obtain ⟨w6, hw6⟩ : ∃ w6, w5.alloc (.cells #[.int .i64 c', .bool is', .int .u64 k', .int .u64 v', .int .i64 n', .slice bo5 m' c5] 36) = w6 := ⟨_, rfl⟩
        have g6 : Gw w5 w6 := by rw [← hw6]; exact (Gw.refl w5).alloc _ _
        obtain ⟨Sj6, pj6, sj6⟩ := K5.out.1.same C g6
        have K6 : Hid (PJ HJ w0 w6 p j Sp4 Sj6 most (nxtP most l o1 o2 o3) l ∧ PLr w6 bo5 L' ∧ ∀ a, bo5 = some a → 0 < m' → ¬ Sj6 a.block) := ⟨pj6, K5.out.2.1.gw g6, fun a e h0 hs => K5.out.2.2 a e (by rw [hm']; exact h0) (sj6 _ hs)⟩
        have B6 := (pj6.gw.below.block b0 (blkl B0.out)).trans B0.out
        have c0 : w6.cell? ⟨b0, 0, none⟩ = some (.int .i64 o1) := blkc B6 rfl
        have c1 : w6.cell? ⟨b0, 1, none⟩ = some (.int .u64 o2) := blkc B6 rfl
        have c2 : w6.cell? ⟨b0, 2, none⟩ = some (.int .u64 o3) := blkc B6 rfl
        have N6 : w6.heap[w5.heap.size]? = some (.cells #[.int .i64 c', .bool is', .int .u64 k', .int .u64 v', .int .i64 n', .slice bo5 m' c5] 36 (0, 0)) := by rw [← hw6]; exact heap_alloc_new w5 _
        obtain ⟨b5, hb5⟩ : ∃ b5, w5.heap.size = b5 := ⟨_, rfl⟩
        rw [hb5] at N6
        have d0 : w6.cell? ⟨b5, 0, none⟩ = some (.int .i64 c') := blkc N6 rfl
        have d1 : w6.cell? ⟨b5, 1, none⟩ = some (.bool is') := blkc N6 rfl
        have d2 : w6.cell? ⟨b5, 2, none⟩ = some (.int .u64 k') := blkc N6 rfl
        have d3 : w6.cell? ⟨b5, 3, none⟩ = some (.int .u64 v') := blkc N6 rfl
        have d4 : w6.cell? ⟨b5, 4, none⟩ = some (.int .i64 n') := blkc N6 rfl
        have d5 : w6.cell? ⟨b5, 5, none⟩ = some (.slice bo5 m' c5) := blkc N6 rfl
        clear hm' g6 pj6 sj6 B6 N6
        go_wp2_with fail
        refine (SE.out w6 bo5 c5 Sp4 Sj6 K6.out.1 K6.out.2.1 K6.out.2.2).mono ?_
        rintro e w7 ⟨Sp7, Sj7, ⟨bo7, c7, rfl, nl7, _⟩, pj7, _⟩
        have G7 : Hid (Gw w w7) := G0.out.trans pj7.gw
        clear pj7 d0 d1 d2 d3 d4 d5 c0 c1 c2 hw6 hb5
        cases is with
        | false =>
          have z : (if false = true then [rule] else ([] : List Int)) = [] := by simp
          rw [z] at nl7 ⊢
          dsimp only [List.length_nil]
          go_wp2_with fail
          refine bodyPost_ret (v := .bool true) (by simp [results, Try.results5, go_sem]) rfl ⟨rfl, G7.out⟩
        | true =>
          have z : (if true = true then [rule] else ([] : List Int)) = [rule] := by simp
          rw [z] at nl7 ⊢
          obtain ⟨nb, nf, rfl, _, nc⟩ := nl7.cells (by simp)
          have x0 := nc 0 rule rfl 0 _ rfl
          simp only [Nat.zero_mul, Nat.add_zero] at x0
          clear nc nl7
          dsimp only [List.length_cons, List.length_nil]
          go_wp2_with fail
          refine bodyPost_ret (v := .bool true) (by simp [results, Try.results5, go_sem]) rfl ⟨rfl, G7.out⟩
end Go.Proofs.Ytkojcjfjmlompaa
