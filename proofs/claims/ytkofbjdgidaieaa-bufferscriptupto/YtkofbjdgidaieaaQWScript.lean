/- Layer 14: any steps. -/
import Derived.Test.YtkofbjdgidaieaaQLaw2
import Derived.Test.YtkofbjdgidaieaaQFour
namespace Go.Proofs.Ytkofbjdgidaieaa
open Go.RowKit
set_option linter.unusedVariables false

theorem below8 {r : Int} (h0 : 0 ≤ r) (h1 : r < 8) : r = 0 ∨ r = 1 ∨ r = 2 ∨ r = 3 ∨ r = 4 ∨ r = 5 ∨ r = 6 ∨ r = 7 := by omega
set_option maxRecDepth 20000 in
set_option maxHeartbeats 16000000 in
theorem script_walk (most : Int) (ao : Option Addr) (c : Nat) (sl : List (Int × Ent)) (hn : sl.length ≤ 2000000) (w : World) (h : OPL w ao sl) :
    Calls Try.prog 3 #[.int .i64 most, .slice ao sl.length c] w fun e w' => e = .returned (.bool true) ∧ Gw w w' := by
  have SC : Aside (OPL w ao sl) := h
  obtain ⟨n, hln⟩ : ∃ n, sl.length = n := ⟨_, rfl⟩
  have LN : Aside (sl.length = n) := hln
  rw [hln] at hn ⊢
  have hqb : ∀ (b : Nat) (W : World), (binOp .eql 24 (.pointer (some ⟨b, 0, none⟩)) (.pointer none)).run Try.prog W = .ok (.bool false) W := fun _ _ => by kernel_rfl
  have hqr : ∀ (b : Nat) (W : World), (binOp .eql 28 (.pointer (some ⟨b, 0, none⟩)) (.pointer none)).run Try.prog W = .ok (.bool false) W := fun _ _ => by kernel_rfl
  have AL : Hid (∀ (W : World) (p : Nat) (S : Nat → Prop) (q : Nat) (T : Nat → Prop) (l : List Ent), l.length ≤ 4000000 → HB 53 W p S most l → HB 55 W q T most l → ∀ x : Int, Calls Try.prog 19 #[.pointer (some ⟨p, 0, none⟩), .pointer (some ⟨q, 0, none⟩), .int .u64 x] W fun e w' => e = .returned (.bool true) ∧ Gw W w') := fun W p S q T l hl ha hb x => alike14 p q S T most l x hl W ha hb
  clear h hln
  by_cases mo : 1 ≤ most ∧ most ≤ 4294967296
  · go_enter Try.func3, Try.ntmps3
    go_wp2_with fail
    refine (shown14 w).mono ?_
    rintro ex w1 ⟨rfl, g1⟩
    have G1 : Aside (Gw w w1) := g1
    clear g1
    go_wp2_with fail
    refine (new14_ok most mo.1 mo.2 w1).mono ?_
    rintro ex w2 ⟨⟨rfl, h2⟩, g2⟩
    obtain ⟨p1, hp1⟩ : ∃ p, w1.heap.size = p := ⟨_, rfl⟩
    rw [hp1] at h2 ⊢
    have H2 : Aside (HB 53 w2 p1 (fun q => q = p1) most []) := h2
    have G2 : Aside (Gw w w2) := G1.out.trans g2
    have N1 : Aside (w.heap.size ≤ p1) := by show _ ≤ _; rw [← hp1]; exact G1.out.size
    clear h2 g2 G1 hp1
    go_wp2_with fail
    refine (rnew14_ok most mo.1 mo.2 w2).mono ?_
    rintro ex w3 ⟨⟨rfl, h3⟩, g3⟩
    obtain ⟨q1, hq1⟩ : ∃ p, w2.heap.size = p := ⟨_, rfl⟩
    rw [hq1] at h3 ⊢
    have H3 : Aside (HB 55 w3 q1 (fun q => q = q1) most []) := h3
    have H2' : Aside (HB 53 w3 p1 (fun q => q = p1) most []) := H2.out.gw g3
    have G3 : Aside (Gw w w3) := G2.out.trans g3
    have N2 : Aside (w.heap.size ≤ q1 ∧ p1 < q1) := ⟨by rw [← hq1]; exact G2.out.size, by rw [← hq1]; exact H2.out.lt p1 rfl⟩
    have M0 : Aside (1 ≤ most) := mo.1
    clear h3 g3 G2 H2 hq1 mo
    go_wp2_with fail
    refine (clone14 p1 _ most [] (by simp) w3 H2'.out).mono ?_
    rintro ex w4 ⟨⟨p2, S2, rfl, h4, s4⟩, g4⟩
    have H4 : Aside (HB 53 w4 p2 S2 most []) := h4
    have S4 : Aside (∀ q, S2 q → w3.heap.size ≤ q) := s4
    have G4 : Aside (Gw w3 w4) := g4
    clear h4 s4 g4
    go_wp2_with fail
    refine (rclone14 q1 _ most [] (by simp) w4 (H3.out.gw G4.out)).mono ?_
    rintro ex w5 ⟨⟨q2, T2, rfl, h5, s5⟩, g5⟩
    have Q5 : Aside (Q4 53 55 most w.heap.size w5 p1 (fun q => q = p1) [] q1 (fun q => q = q1) [] p2 S2 [] q2 T2 []) := by
      have x0 := H2'.out.lt p1 rfl
      have x1 := H3.out.lt q1 rfl
      have x2 := G4.out.size
      have x3 := G3.out.size
      have x4 := N1.out
      have x5 := N2.out
      exact ⟨H2'.out.gw (G4.out.trans g5), H3.out.gw (G4.out.trans g5), H4.out.gw g5, h5, fun q a b => by have a' : q = p1 := a; have b' : q = q1 := b; omega, fun q a b => by have a' : q = p1 := a; have := S4.out q b; omega, fun q a b => by have a' : q = p1 := a; have := s5 q b; omega, fun q a b => by have a' : q = q1 := a; have := S4.out q b; omega, fun q a b => by have a' : q = q1 := a; have := s5 q b; omega, fun q a b => by have := H4.out.lt q a; have := s5 q b; omega, fun q a => by have a' : q = p1 := a; omega, fun q a => by have a' : q = q1 := a; omega, fun q a => by have := S4.out q a; omega, fun q a => by have := s5 q a; omega, by have := g5.size; omega⟩
    have G5 : Aside (Gw w w5) := (G3.out.trans G4.out).trans g5
    clear h5 s5 g5 H2' H3 H4 S4 G3 G4 N1 N2
    go_wp2_with fail
    go_loopg [6, 8, 10, 11, 12] n (fun gg s6 s8 s10 s11 s12 wr => ∃ (i p1 q1 p2 q2 : Nat) (S1 T1 S2 T2 : Nat → Prop) (l1 l2 : List Ent), s6 = .pointer (some ⟨p1, 0, none⟩) ∧ s8 = .pointer (some ⟨q1, 0, none⟩) ∧ s10 = .pointer (some ⟨p2, 0, none⟩) ∧ s11 = .pointer (some ⟨q2, 0, none⟩) ∧ s12 = .int .i64 (i : Int) ∧ i ≤ n ∧ n - i ≤ gg ∧ Aside (l1.length ≤ i ∧ l2.length ≤ i) ∧ Aside (Q4 53 55 most w.heap.size wr p1 S1 l1 q1 T1 l1 p2 S2 l2 q2 T2 l2) ∧ Aside (Gw w wr))
    case atStart => exact ⟨0, p1, q1, p2, q2, _, _, S2, T2, [], [], rfl, rfl, rfl, rfl, rfl, Nat.zero_le _, by omega, (show Aside _ from ⟨by simp, by simp⟩), Q5, G5⟩
    case round =>
      clear Q5 G5
      obtain ⟨i, p1, q1, p2, q2, S1, T1, S2, T2, l1, l2, rfl, rfl, rfl, rfl, rfl, a1, a2, LL, Q, G⟩ := hrel
      by_cases hlt : i < n
      · have hlt' : (i : Int) < (n : Int) := by omega
        obtain ⟨sb, soff, rfl, hsb, hsc⟩ := (SC.out.gw G.out).cells (by rw [LN.out]; omega)
        obtain ⟨⟨kd, ⟨ek, ev, eg⟩⟩, hx⟩ : ∃ x, sl[i]? = some x := ⟨_, List.getElem?_eq_getElem (by rw [LN.out]; exact hlt)⟩
        obtain ⟨c0, c1, c2, c3⟩ := hsc i _ hx
        obtain ⟨kb, oke⟩ := SC.out.bd _ (List.mem_of_getElem? hx)
        have c0' : wr.cell? ⟨sb, soff + i * 4, none⟩ = some (.int .i64 kd) := c0
        have c1' : wr.cell? ⟨sb, soff + i * 4 + 1, none⟩ = some (.int .u64 ek) := c1
        have c2' : wr.cell? ⟨sb, soff + i * 4 + 2, none⟩ = some (.int .u64 ev) := c2
        have c3' : wr.cell? ⟨sb, soff + i * 4 + 3, none⟩ = some (.bool eg) := c3
        have KB : Aside (-9223372036854775808 ≤ kd ∧ kd < 9223372036854775808) := kb
        have OKE : Aside ((⟨ek, ev, eg⟩ : Ent).ok) := oke
        obtain ⟨bq, hbq⟩ : ∃ b, wr.heap.size = b := ⟨_, rfl⟩
        obtain ⟨W0, hW0⟩ : ∃ W, wr.alloc (.cells #[.int .i64 kd, .int .u64 ek, .int .u64 ev, .bool eg] 37) = W := ⟨_, rfl⟩
        have BX : Aside (W0.heap[bq]? = some (.cells #[.int .i64 kd, .int .u64 ek, .int .u64 ev, .bool eg] 37 (0, 0))) := by show _ = _; rw [← hW0, ← hbq]; exact heap_alloc_new _ _
        have GW0 : Gw wr W0 := by rw [← hW0]; exact (Gw.refl wr).alloc _ _
        have Q0 : Aside (Q4 53 55 most w.heap.size W0 p1 S1 l1 q1 T1 l1 p2 S2 l2 q2 T2 l2) := Q.out.gw GW0
        have G0 : Aside (Gw w W0) := G.out.trans GW0
        have NI : Aside (¬ S1 bq ∧ ¬ T1 bq) := ⟨fun x => by have := Q.out.a.lt bq x; omega, fun x => by have := Q.out.b.lt bq x; omega⟩
        have LA := LL.out.1
        have LB := LL.out.2
        have HM := M0.out
        have m0 : W0.cell? ⟨bq, 0, none⟩ = some (.int .i64 kd) := blkc BX.out rfl
        have m1 : W0.cell? ⟨bq, 1, none⟩ = some (.int .u64 ek) := blkc BX.out rfl
        have m2 : W0.cell? ⟨bq, 2, none⟩ = some (.int .u64 ev) := blkc BX.out rfl
        have m3 : W0.cell? ⟨bq, 3, none⟩ = some (.bool eg) := blkc BX.out rfl
        have bl := blkl BX.out
        clear c0 c1 c2 c3 hsc hx kb oke GW0 Q G LL
        go_wp2_with fail
        refine (kind14 kd KB.out.1 KB.out.2 _).mono ?_
        rintro ex wk ⟨⟨r, rfl, r0, r1⟩, ek1⟩
        have ek2 := ek1.symm
        subst ek2
        clear ek1 c0' c1' c2' c3' hW0 KB
        obtain ⟨rv, hrv⟩ : ∃ x, (putR most l1 ⟨ek, ev, eg⟩).1 = x := ⟨_, rfl⟩
        obtain ⟨lv, hlv⟩ : ∃ x, (putR most l1 ⟨ek, ev, eg⟩).2 = x := ⟨_, rfl⟩
        have LV : Aside (lv.length ≤ l1.length + 1) := by show _ ≤ _; rw [← hlv]; exact put_len Q0.out.a.rise
        have PX : Hid (∀ (W : World) (S : Nat → Prop), HB 53 W p1 S most l1 → Calls Try.prog 12 #[.pointer (some ⟨p1, 0, none⟩), .agg #[.int .u64 ek, .int .u64 ev, .bool eg]] W fun ex w' => ex = .returned (.int .i64 rv) ∧ PutOut 53 W w' p1 S most lv) := fun W S hb => by
          have := put14 p1 S most l1 ⟨ek, ev, eg⟩ (by omega) OKE.out W hb
          rw [hrv, hlv] at this; exact this
        have PY : Hid (∀ (W : World) (S : Nat → Prop), HB 55 W q1 S most l1 → Calls Try.prog 13 #[.pointer (some ⟨q1, 0, none⟩), .agg #[.int .u64 ek, .int .u64 ev, .bool eg]] W fun ex w' => ex = .returned (.int .i64 rv) ∧ PutOut 55 W w' q1 S most lv) := fun W S hb => by
          have := rput14 q1 S most l1 ⟨ek, ev, eg⟩ (by omega) OKE.out W hb
          rw [hrv, hlv] at this; exact this
        clear hrv hlv OKE
        rcases below8 r0 r1 with rfl | rfl | rfl | rfl | rfl | rfl | rfl | rfl
        · clear r0 r1
          have LVL := LV.out
          go_wp2_with fail
          refine (PX.out W0 S1 Q0.out.a).mono ?_
          rintro ex W1 ⟨rfl, S1', o1, g1, s1⟩
          have QA : Aside (Q4 53 55 most w.heap.size W1 p1 S1' lv q1 T1 l1 p2 S2 l2 q2 T2 l2) := Q0.out.first o1 g1 s1
          have GA : Aside (Gw w W1) := Gx.gw G0.out g1 Q0.out.na
          have BX1 : Aside (W1.heap[bq]? = some (.cells #[.int .i64 kd, .int .u64 ek, .int .u64 ev, .bool eg] 37 (0, 0))) := (g1.block bq bl NI.out.1).trans BX.out
          clear o1 g1 s1 Q0 G0 m0 m1 m2 m3 bl BX
          have BX := BX1
          clear BX1
          have m0 : W1.cell? ⟨bq, 0, none⟩ = some (.int .i64 kd) := blkc BX.out rfl
          have m1 : W1.cell? ⟨bq, 1, none⟩ = some (.int .u64 ek) := blkc BX.out rfl
          have m2 : W1.cell? ⟨bq, 2, none⟩ = some (.int .u64 ev) := blkc BX.out rfl
          have m3 : W1.cell? ⟨bq, 3, none⟩ = some (.bool eg) := blkc BX.out rfl
          have bl := blkl BX.out
          go_wp2_with fail
          refine (PY.out W1 T1 QA.out.b).mono ?_
          rintro ex W2 ⟨rfl, T1', o2, g2, s2⟩
          have QF : Aside (Q4 53 55 most w.heap.size W2 p1 S1' lv q1 T1' lv p2 S2 l2 q2 T2 l2) := QA.out.second o2 g2 s2
          have GF : Aside (Gw w W2) := Gx.gw GA.out g2 QA.out.nb
          have BX2 : Aside (W2.heap[bq]? = some (.cells #[.int .i64 kd, .int .u64 ek, .int .u64 ev, .bool eg] 37 (0, 0))) := (g2.block bq bl NI.out.2).trans BX.out
          clear o2 g2 s2 QA GA m0 m1 m2 m3 bl BX
          have BX := BX2
          clear BX2
          have m0 : W2.cell? ⟨bq, 0, none⟩ = some (.int .i64 kd) := blkc BX.out rfl
          have m1 : W2.cell? ⟨bq, 1, none⟩ = some (.int .u64 ek) := blkc BX.out rfl
          have m2 : W2.cell? ⟨bq, 2, none⟩ = some (.int .u64 ev) := blkc BX.out rfl
          have m3 : W2.cell? ⟨bq, 3, none⟩ = some (.bool eg) := blkc BX.out rfl
          have bl := blkl BX.out
          go_wp2_with fail
          refine (AL.out W2 p1 S1' q1 T1' lv (by omega) QF.out.a QF.out.b _).mono ?_
          rintro ex V1 ⟨rfl, v1⟩
          have QV : Aside _ := QF.out.gw v1
          have GV : Aside (Gw w V1) := GF.out.trans v1
          have BX1 : Aside (V1.heap[bq]? = some (.cells #[.int .i64 kd, .int .u64 ek, .int .u64 ev, .bool eg] 37 (0, 0))) := (v1.below.block bq bl).trans BX.out
          clear QF GF m0 m1 m2 m3 bl BX
          have BX := BX1
          clear BX1
          have m0 : V1.cell? ⟨bq, 0, none⟩ = some (.int .i64 kd) := blkc BX.out rfl
          have m1 : V1.cell? ⟨bq, 1, none⟩ = some (.int .u64 ek) := blkc BX.out rfl
          have m2 : V1.cell? ⟨bq, 2, none⟩ = some (.int .u64 ev) := blkc BX.out rfl
          have m3 : V1.cell? ⟨bq, 3, none⟩ = some (.bool eg) := blkc BX.out rfl
          have bl := blkl BX.out
          clear v1
          go_wp2_with fail
          refine (AL.out V1 p2 S2 q2 T2 l2 (by omega) QV.out.c QV.out.d _).mono ?_
          rintro ex V2 ⟨rfl, v2⟩
          have QW : Aside _ := QV.out.gw v2
          have GW : Aside (Gw w V2) := GV.out.trans v2
          clear QV GV v2
          go_wp2_with fail
          go_roundg (n - (i + 1))
          case measure => omega
          case rel => exact ⟨i + 1, p1, q1, p2, q2, S1', T1', S2, T2, lv, l2, rfl, rfl, rfl, rfl, by go_num, by omega, Nat.le_refl _, (show Aside _ from ⟨by omega, by omega⟩), QW, GW⟩
        · clear r0 r1
          have LVL := LV.out
          go_wp2_with fail
          refine (PX.out W0 S1 Q0.out.a).mono ?_
          rintro ex W1 ⟨rfl, S1', o1, g1, s1⟩
          have QA : Aside (Q4 53 55 most w.heap.size W1 p1 S1' lv q1 T1 l1 p2 S2 l2 q2 T2 l2) := Q0.out.first o1 g1 s1
          have GA : Aside (Gw w W1) := Gx.gw G0.out g1 Q0.out.na
          have BX1 : Aside (W1.heap[bq]? = some (.cells #[.int .i64 kd, .int .u64 ek, .int .u64 ev, .bool eg] 37 (0, 0))) := (g1.block bq bl NI.out.1).trans BX.out
          clear o1 g1 s1 Q0 G0 m0 m1 m2 m3 bl BX
          have BX := BX1
          clear BX1
          have m0 : W1.cell? ⟨bq, 0, none⟩ = some (.int .i64 kd) := blkc BX.out rfl
          have m1 : W1.cell? ⟨bq, 1, none⟩ = some (.int .u64 ek) := blkc BX.out rfl
          have m2 : W1.cell? ⟨bq, 2, none⟩ = some (.int .u64 ev) := blkc BX.out rfl
          have m3 : W1.cell? ⟨bq, 3, none⟩ = some (.bool eg) := blkc BX.out rfl
          have bl := blkl BX.out
          go_wp2_with fail
          refine (PY.out W1 T1 QA.out.b).mono ?_
          rintro ex W2 ⟨rfl, T1', o2, g2, s2⟩
          have QF : Aside (Q4 53 55 most w.heap.size W2 p1 S1' lv q1 T1' lv p2 S2 l2 q2 T2 l2) := QA.out.second o2 g2 s2
          have GF : Aside (Gw w W2) := Gx.gw GA.out g2 QA.out.nb
          have BX2 : Aside (W2.heap[bq]? = some (.cells #[.int .i64 kd, .int .u64 ek, .int .u64 ev, .bool eg] 37 (0, 0))) := (g2.block bq bl NI.out.2).trans BX.out
          clear o2 g2 s2 QA GA m0 m1 m2 m3 bl BX
          have BX := BX2
          clear BX2
          have m0 : W2.cell? ⟨bq, 0, none⟩ = some (.int .i64 kd) := blkc BX.out rfl
          have m1 : W2.cell? ⟨bq, 1, none⟩ = some (.int .u64 ek) := blkc BX.out rfl
          have m2 : W2.cell? ⟨bq, 2, none⟩ = some (.int .u64 ev) := blkc BX.out rfl
          have m3 : W2.cell? ⟨bq, 3, none⟩ = some (.bool eg) := blkc BX.out rfl
          have bl := blkl BX.out
          go_wp2_with fail
          refine (AL.out W2 p1 S1' q1 T1' lv (by omega) QF.out.a QF.out.b _).mono ?_
          rintro ex V1 ⟨rfl, v1⟩
          have QV : Aside _ := QF.out.gw v1
          have GV : Aside (Gw w V1) := GF.out.trans v1
          have BX1 : Aside (V1.heap[bq]? = some (.cells #[.int .i64 kd, .int .u64 ek, .int .u64 ev, .bool eg] 37 (0, 0))) := (v1.below.block bq bl).trans BX.out
          clear QF GF m0 m1 m2 m3 bl BX
          have BX := BX1
          clear BX1
          have m0 : V1.cell? ⟨bq, 0, none⟩ = some (.int .i64 kd) := blkc BX.out rfl
          have m1 : V1.cell? ⟨bq, 1, none⟩ = some (.int .u64 ek) := blkc BX.out rfl
          have m2 : V1.cell? ⟨bq, 2, none⟩ = some (.int .u64 ev) := blkc BX.out rfl
          have m3 : V1.cell? ⟨bq, 3, none⟩ = some (.bool eg) := blkc BX.out rfl
          have bl := blkl BX.out
          clear v1
          go_wp2_with fail
          refine (AL.out V1 p2 S2 q2 T2 l2 (by omega) QV.out.c QV.out.d _).mono ?_
          rintro ex V2 ⟨rfl, v2⟩
          have QW : Aside _ := QV.out.gw v2
          have GW : Aside (Gw w V2) := GV.out.trans v2
          clear QV GV v2
          go_wp2_with fail
          go_roundg (n - (i + 1))
          case measure => omega
          case rel => exact ⟨i + 1, p1, q1, p2, q2, S1', T1', S2, T2, lv, l2, rfl, rfl, rfl, rfl, by go_num, by omega, Nat.le_refl _, (show Aside _ from ⟨by omega, by omega⟩), QW, GW⟩
        · clear r0 r1
          have LVL := LV.out
          go_wp2_with fail
          refine (PX.out W0 S1 Q0.out.a).mono ?_
          rintro ex W1 ⟨rfl, S1', o1, g1, s1⟩
          have QA : Aside (Q4 53 55 most w.heap.size W1 p1 S1' lv q1 T1 l1 p2 S2 l2 q2 T2 l2) := Q0.out.first o1 g1 s1
          have GA : Aside (Gw w W1) := Gx.gw G0.out g1 Q0.out.na
          have BX1 : Aside (W1.heap[bq]? = some (.cells #[.int .i64 kd, .int .u64 ek, .int .u64 ev, .bool eg] 37 (0, 0))) := (g1.block bq bl NI.out.1).trans BX.out
          clear o1 g1 s1 Q0 G0 m0 m1 m2 m3 bl BX
          have BX := BX1
          clear BX1
          have m0 : W1.cell? ⟨bq, 0, none⟩ = some (.int .i64 kd) := blkc BX.out rfl
          have m1 : W1.cell? ⟨bq, 1, none⟩ = some (.int .u64 ek) := blkc BX.out rfl
          have m2 : W1.cell? ⟨bq, 2, none⟩ = some (.int .u64 ev) := blkc BX.out rfl
          have m3 : W1.cell? ⟨bq, 3, none⟩ = some (.bool eg) := blkc BX.out rfl
          have bl := blkl BX.out
          go_wp2_with fail
          refine (PY.out W1 T1 QA.out.b).mono ?_
          rintro ex W2 ⟨rfl, T1', o2, g2, s2⟩
          have QF : Aside (Q4 53 55 most w.heap.size W2 p1 S1' lv q1 T1' lv p2 S2 l2 q2 T2 l2) := QA.out.second o2 g2 s2
          have GF : Aside (Gw w W2) := Gx.gw GA.out g2 QA.out.nb
          have BX2 : Aside (W2.heap[bq]? = some (.cells #[.int .i64 kd, .int .u64 ek, .int .u64 ev, .bool eg] 37 (0, 0))) := (g2.block bq bl NI.out.2).trans BX.out
          clear o2 g2 s2 QA GA m0 m1 m2 m3 bl BX
          have BX := BX2
          clear BX2
          have m0 : W2.cell? ⟨bq, 0, none⟩ = some (.int .i64 kd) := blkc BX.out rfl
          have m1 : W2.cell? ⟨bq, 1, none⟩ = some (.int .u64 ek) := blkc BX.out rfl
          have m2 : W2.cell? ⟨bq, 2, none⟩ = some (.int .u64 ev) := blkc BX.out rfl
          have m3 : W2.cell? ⟨bq, 3, none⟩ = some (.bool eg) := blkc BX.out rfl
          have bl := blkl BX.out
          go_wp2_with fail
          refine (AL.out W2 p1 S1' q1 T1' lv (by omega) QF.out.a QF.out.b _).mono ?_
          rintro ex V1 ⟨rfl, v1⟩
          have QV : Aside _ := QF.out.gw v1
          have GV : Aside (Gw w V1) := GF.out.trans v1
          have BX1 : Aside (V1.heap[bq]? = some (.cells #[.int .i64 kd, .int .u64 ek, .int .u64 ev, .bool eg] 37 (0, 0))) := (v1.below.block bq bl).trans BX.out
          clear QF GF m0 m1 m2 m3 bl BX
          have BX := BX1
          clear BX1
          have m0 : V1.cell? ⟨bq, 0, none⟩ = some (.int .i64 kd) := blkc BX.out rfl
          have m1 : V1.cell? ⟨bq, 1, none⟩ = some (.int .u64 ek) := blkc BX.out rfl
          have m2 : V1.cell? ⟨bq, 2, none⟩ = some (.int .u64 ev) := blkc BX.out rfl
          have m3 : V1.cell? ⟨bq, 3, none⟩ = some (.bool eg) := blkc BX.out rfl
          have bl := blkl BX.out
          clear v1
          go_wp2_with fail
          refine (AL.out V1 p2 S2 q2 T2 l2 (by omega) QV.out.c QV.out.d _).mono ?_
          rintro ex V2 ⟨rfl, v2⟩
          have QW : Aside _ := QV.out.gw v2
          have GW : Aside (Gw w V2) := GV.out.trans v2
          clear QV GV v2
          go_wp2_with fail
          go_roundg (n - (i + 1))
          case measure => omega
          case rel => exact ⟨i + 1, p1, q1, p2, q2, S1', T1', S2, T2, lv, l2, rfl, rfl, rfl, rfl, by go_num, by omega, Nat.le_refl _, (show Aside _ from ⟨by omega, by omega⟩), QW, GW⟩
        · clear r0 r1
          have QF : Aside _ := Q0.out
          have GF : Aside (Gw w W0) := G0.out
          clear Q0 G0
          go_wp2_with fail
          refine (AL.out W0 p1 S1 q1 T1 l1 (by omega) QF.out.a QF.out.b _).mono ?_
          rintro ex V1 ⟨rfl, v1⟩
          have QV : Aside _ := QF.out.gw v1
          have GV : Aside (Gw w V1) := GF.out.trans v1
          have BX1 : Aside (V1.heap[bq]? = some (.cells #[.int .i64 kd, .int .u64 ek, .int .u64 ev, .bool eg] 37 (0, 0))) := (v1.below.block bq bl).trans BX.out
          clear QF GF m0 m1 m2 m3 bl BX
          have BX := BX1
          clear BX1
          have m0 : V1.cell? ⟨bq, 0, none⟩ = some (.int .i64 kd) := blkc BX.out rfl
          have m1 : V1.cell? ⟨bq, 1, none⟩ = some (.int .u64 ek) := blkc BX.out rfl
          have m2 : V1.cell? ⟨bq, 2, none⟩ = some (.int .u64 ev) := blkc BX.out rfl
          have m3 : V1.cell? ⟨bq, 3, none⟩ = some (.bool eg) := blkc BX.out rfl
          have bl := blkl BX.out
          clear v1
          go_wp2_with fail
          refine (AL.out V1 p2 S2 q2 T2 l2 (by omega) QV.out.c QV.out.d _).mono ?_
          rintro ex V2 ⟨rfl, v2⟩
          have QW : Aside _ := QV.out.gw v2
          have GW : Aside (Gw w V2) := GV.out.trans v2
          clear QV GV v2
          go_wp2_with fail
          go_roundg (n - (i + 1))
          case measure => omega
          case rel => exact ⟨i + 1, p1, q1, p2, q2, S1, T1, S2, T2, l1, l2, rfl, rfl, rfl, rfl, by go_num, by omega, Nat.le_refl _, (show Aside _ from ⟨by omega, by omega⟩), QW, GW⟩
        · clear r0 r1
          go_wp2_with fail
          refine (list14 p1 S1 most l1 (by omega) W0 Q0.out.a).mono ?_
          rintro ex W1 ⟨⟨v, rfl, o⟩, g⟩
          obtain ⟨vo, vc, vev, _⟩ := eo_shape_n o rfl
          have OV : Aside (EO W1 W0.heap.size v l1) := o
          have QA : Aside (Q4 53 55 most w.heap.size W1 p1 S1 l1 q1 T1 l1 p2 S2 l2 q2 T2 l2) := Q0.out.gw g
          have GA : Aside (Gw w W1) := G0.out.trans g
          have AP : Aside (∀ A : Nat → Prop, (∀ q, A q → q < W0.heap.size) → Apart A (fun q => v.ownBlock = some q)) := fun A hA q a b => by have := (World.ownsRow.lt o q b).1; have := hA q a; omega
          have LT : Aside ((∀ q, S1 q → q < W0.heap.size) ∧ (∀ q, T1 q → q < W0.heap.size) ∧ (∀ q, S2 q → q < W0.heap.size) ∧ (∀ q, T2 q → q < W0.heap.size)) := ⟨Q0.out.a.lt, Q0.out.b.lt, Q0.out.c.lt, Q0.out.d.lt⟩
          have NV : Aside (∀ q, v.ownBlock = some q → w.heap.size ≤ q ∧ q ≠ bq) := fun q hq => by
            have h1 := (World.ownsRow.lt o q hq).1
            have h2 := G0.out.size
            exact ⟨by omega, by omega⟩
          have BX1 : Aside (W1.heap[bq]? = some (.cells #[.int .i64 kd, .int .u64 ek, .int .u64 ev, .bool eg] 37 (0, 0))) := (g.below.block bq bl).trans BX.out
          have MK : Hid (Calls Try.prog 15 #[v] W1 fun e w' => e = .returned (.tuple #[]) ∧ Gx (fun q => v.ownBlock = some q) W1 w') := mark14 v l1 (by omega) W1 (eo_base o (Nat.zero_le _))
          clear o g Q0 G0 m0 m1 m2 m3 bl BX
          have BX := BX1
          clear BX1
          have m0 : W1.cell? ⟨bq, 0, none⟩ = some (.int .i64 kd) := blkc BX.out rfl
          have m1 : W1.cell? ⟨bq, 1, none⟩ = some (.int .u64 ek) := blkc BX.out rfl
          have m2 : W1.cell? ⟨bq, 2, none⟩ = some (.int .u64 ev) := blkc BX.out rfl
          have m3 : W1.cell? ⟨bq, 3, none⟩ = some (.bool eg) := blkc BX.out rfl
          have bl := blkl BX.out
          rw [vev] at MK ⊢
          go_wp2_with fail
          refine MK.out.mono ?_
          rintro ex W2 ⟨rfl, g2⟩
          rw [← vev] at g2
          have QF : Aside (Q4 53 55 most w.heap.size W2 p1 S1 l1 q1 T1 l1 p2 S2 l2 q2 T2 l2) := QA.out.far g2 (AP.out _ LT.out.1) (AP.out _ LT.out.2.1) (AP.out _ LT.out.2.2.1) (AP.out _ LT.out.2.2.2)
          have GF : Aside (Gw w W2) := Gx.gw GA.out g2 (fun q hq => (NV.out q hq).1)
          have BX2 : Aside (W2.heap[bq]? = some (.cells #[.int .i64 kd, .int .u64 ek, .int .u64 ev, .bool eg] 37 (0, 0))) := (g2.block bq bl (fun hq => (NV.out bq hq).2 rfl)).trans BX.out
          clear g2 QA GA AP LT NV MK OV m0 m1 m2 m3 bl BX
          have BX := BX2
          clear BX2
          have m0 : W2.cell? ⟨bq, 0, none⟩ = some (.int .i64 kd) := blkc BX.out rfl
          have m1 : W2.cell? ⟨bq, 1, none⟩ = some (.int .u64 ek) := blkc BX.out rfl
          have m2 : W2.cell? ⟨bq, 2, none⟩ = some (.int .u64 ev) := blkc BX.out rfl
          have m3 : W2.cell? ⟨bq, 3, none⟩ = some (.bool eg) := blkc BX.out rfl
          have bl := blkl BX.out
          clear vev
          go_wp2_with fail
          refine (AL.out W2 p1 S1 q1 T1 l1 (by omega) QF.out.a QF.out.b _).mono ?_
          rintro ex V1 ⟨rfl, v1⟩
          have QV : Aside _ := QF.out.gw v1
          have GV : Aside (Gw w V1) := GF.out.trans v1
          have BX1 : Aside (V1.heap[bq]? = some (.cells #[.int .i64 kd, .int .u64 ek, .int .u64 ev, .bool eg] 37 (0, 0))) := (v1.below.block bq bl).trans BX.out
          clear QF GF m0 m1 m2 m3 bl BX
          have BX := BX1
          clear BX1
          have m0 : V1.cell? ⟨bq, 0, none⟩ = some (.int .i64 kd) := blkc BX.out rfl
          have m1 : V1.cell? ⟨bq, 1, none⟩ = some (.int .u64 ek) := blkc BX.out rfl
          have m2 : V1.cell? ⟨bq, 2, none⟩ = some (.int .u64 ev) := blkc BX.out rfl
          have m3 : V1.cell? ⟨bq, 3, none⟩ = some (.bool eg) := blkc BX.out rfl
          have bl := blkl BX.out
          clear v1
          go_wp2_with fail
          refine (AL.out V1 p2 S2 q2 T2 l2 (by omega) QV.out.c QV.out.d _).mono ?_
          rintro ex V2 ⟨rfl, v2⟩
          have QW : Aside _ := QV.out.gw v2
          have GW : Aside (Gw w V2) := GV.out.trans v2
          clear QV GV v2
          go_wp2_with fail
          go_roundg (n - (i + 1))
          case measure => omega
          case rel => exact ⟨i + 1, p1, q1, p2, q2, S1, T1, S2, T2, l1, l2, rfl, rfl, rfl, rfl, by go_num, by omega, Nat.le_refl _, (show Aside _ from ⟨by omega, by omega⟩), QW, GW⟩
        · clear r0 r1
          go_wp2_with fail
          refine (empty14 p1 S1 most l1 (by omega) W0 Q0.out.a).mono ?_
          rintro ex W1 ⟨⟨v, rfl, o, ob, o1⟩, g⟩
          obtain ⟨vo, vc, vev, _⟩ := eo_shape_n o rfl
          have QA : Aside (Q4 53 55 most w.heap.size W1 p1 (fun q => q = p1) [] q1 T1 l1 p2 S2 l2 q2 T2 l2) := Q0.out.first o1 g (fun q hq => .inl (by rw [show q = p1 from hq]; exact Q0.out.a.own))
          have GA : Aside (Gw w W1) := Gx.gw G0.out g Q0.out.na
          have OV : Aside (EO W1 0 v l1) := o
          have OB : Aside (∀ q, v.ownBlock = some q → S1 q ∧ q ≠ p1) := ob
          have AP : Aside (Apart S1 T1 ∧ Apart S1 S2 ∧ Apart S1 T2) := ⟨Q0.out.ab, Q0.out.ac, Q0.out.ad⟩
          have NA : Aside (∀ q, S1 q → w.heap.size ≤ q) := Q0.out.na
          have OKL : Aside (∀ e ∈ l1, e.ok) := Q0.out.a.ok
          have BX1 : Aside (W1.heap[bq]? = some (.cells #[.int .i64 kd, .int .u64 ek, .int .u64 ev, .bool eg] 37 (0, 0))) := (g.block bq bl NI.out.1).trans BX.out
          clear o ob o1 g Q0 G0 m0 m1 m2 m3 bl BX
          have BX := BX1
          clear BX1
          have m0 : W1.cell? ⟨bq, 0, none⟩ = some (.int .i64 kd) := blkc BX.out rfl
          have m1 : W1.cell? ⟨bq, 1, none⟩ = some (.int .u64 ek) := blkc BX.out rfl
          have m2 : W1.cell? ⟨bq, 2, none⟩ = some (.int .u64 ev) := blkc BX.out rfl
          have m3 : W1.cell? ⟨bq, 3, none⟩ = some (.bool eg) := blkc BX.out rfl
          have bl := blkl BX.out
          rw [vev]
          go_wp2_with fail
          refine (rempty14 q1 T1 most l1 (by omega) W1 QA.out.b).mono ?_
          rintro ex W2 ⟨⟨u, rfl, o, ob, o1⟩, g⟩
          obtain ⟨uo, uc, uev, _⟩ := eo_shape_n o rfl
          have QB : Aside (Q4 53 55 most w.heap.size W2 p1 (fun q => q = p1) [] q1 (fun q => q = q1) [] p2 S2 l2 q2 T2 l2) := QA.out.second o1 g (fun q hq => .inl (by rw [show q = q1 from hq]; exact QA.out.b.own))
          have GB : Aside (Gw w W2) := Gx.gw GA.out g QA.out.nb
          have OV2 : Aside (EO W2 0 v l1) := eo_keep OV.out (fun q hq => g.block q (World.ownsRow.lt OV.out q hq).2 (fun x => AP.out.1 q (OB.out q hq).1 x))
          have SM : Hid (Calls Try.prog 18 #[v, u] W2 fun e w' => e = .returned (.bool true) ∧ Gw W2 w') := by
            have h1 := eo_el (by rw [← vev]; exact OV2.out) OKL.out
            have h2 := eo_el (by rw [← uev]; exact o) OKL.out
            rw [vev, uev]
            exact same14 vo uo vc uc l1 (by omega) W2 h1 h2
          have Q1T : Aside (T1 q1) := QA.out.b.own
          have BX2 : Aside (W2.heap[bq]? = some (.cells #[.int .i64 kd, .int .u64 ek, .int .u64 ev, .bool eg] 37 (0, 0))) := (g.block bq bl NI.out.2).trans BX.out
          clear o ob o1 g QA GA OV m0 m1 m2 m3 bl BX
          have BX := BX2
          clear BX2
          have m0 : W2.cell? ⟨bq, 0, none⟩ = some (.int .i64 kd) := blkc BX.out rfl
          have m1 : W2.cell? ⟨bq, 1, none⟩ = some (.int .u64 ek) := blkc BX.out rfl
          have m2 : W2.cell? ⟨bq, 2, none⟩ = some (.int .u64 ev) := blkc BX.out rfl
          have m3 : W2.cell? ⟨bq, 3, none⟩ = some (.bool eg) := blkc BX.out rfl
          have bl := blkl BX.out
          rw [uev]
          rw [vev, uev] at SM
          go_wp2_with fail
          refine SM.out.mono ?_
          rintro ex W3 ⟨rfl, g⟩
          have QC : Aside _ := QB.out.gw g
          have GC : Aside (Gw w W3) := GB.out.trans g
          have MK : Hid (Calls Try.prog 15 #[v] W3 fun e w' => e = .returned (.tuple #[]) ∧ Gx (fun q => v.ownBlock = some q) W3 w') := mark14 v l1 (by omega) W3 (eo_gw OV2.out g)
          have BX3 : Aside (W3.heap[bq]? = some (.cells #[.int .i64 kd, .int .u64 ek, .int .u64 ev, .bool eg] 37 (0, 0))) := (g.below.block bq bl).trans BX.out
          clear g QB GB SM OV2 m0 m1 m2 m3 bl BX
          have BX := BX3
          clear BX3
          have m0 : W3.cell? ⟨bq, 0, none⟩ = some (.int .i64 kd) := blkc BX.out rfl
          have m1 : W3.cell? ⟨bq, 1, none⟩ = some (.int .u64 ek) := blkc BX.out rfl
          have m2 : W3.cell? ⟨bq, 2, none⟩ = some (.int .u64 ev) := blkc BX.out rfl
          have m3 : W3.cell? ⟨bq, 3, none⟩ = some (.bool eg) := blkc BX.out rfl
          have bl := blkl BX.out
          rw [vev] at MK
          go_wp2_with fail
          refine MK.out.mono ?_
          rintro ex W4 ⟨rfl, g2⟩
          rw [← vev] at g2
          have QF : Aside (Q4 53 55 most w.heap.size W4 p1 (fun q => q = p1) [] q1 (fun q => q = q1) [] p2 S2 l2 q2 T2 l2) := QC.out.far g2 (fun q a b => (OB.out q b).2 a) (fun q a b => AP.out.1 q (OB.out q b).1 (by rw [show q = q1 from a]; exact Q1T.out)) (fun q a b => AP.out.2.1 q (OB.out q b).1 a) (fun q a b => AP.out.2.2 q (OB.out q b).1 a)
          have GF : Aside (Gw w W4) := Gx.gw GC.out g2 (fun q hq => NA.out q (OB.out q hq).1)
          have BX4 : Aside (W4.heap[bq]? = some (.cells #[.int .i64 kd, .int .u64 ek, .int .u64 ev, .bool eg] 37 (0, 0))) := (g2.block bq bl (fun hq => NI.out.1 (OB.out bq hq).1)).trans BX.out
          clear g2 QC GC AP OB NA Q1T MK OKL m0 m1 m2 m3 bl BX
          have BX := BX4
          clear BX4
          have m0 : W4.cell? ⟨bq, 0, none⟩ = some (.int .i64 kd) := blkc BX.out rfl
          have m1 : W4.cell? ⟨bq, 1, none⟩ = some (.int .u64 ek) := blkc BX.out rfl
          have m2 : W4.cell? ⟨bq, 2, none⟩ = some (.int .u64 ev) := blkc BX.out rfl
          have m3 : W4.cell? ⟨bq, 3, none⟩ = some (.bool eg) := blkc BX.out rfl
          have bl := blkl BX.out
          clear vev uev
          go_wp2_with fail
          refine (AL.out W4 p1 (fun q => q = p1) q1 (fun q => q = q1) [] (by simp) QF.out.a QF.out.b _).mono ?_
          rintro ex V1 ⟨rfl, v1⟩
          have QV : Aside _ := QF.out.gw v1
          have GV : Aside (Gw w V1) := GF.out.trans v1
          have BX1 : Aside (V1.heap[bq]? = some (.cells #[.int .i64 kd, .int .u64 ek, .int .u64 ev, .bool eg] 37 (0, 0))) := (v1.below.block bq bl).trans BX.out
          clear QF GF m0 m1 m2 m3 bl BX
          have BX := BX1
          clear BX1
          have m0 : V1.cell? ⟨bq, 0, none⟩ = some (.int .i64 kd) := blkc BX.out rfl
          have m1 : V1.cell? ⟨bq, 1, none⟩ = some (.int .u64 ek) := blkc BX.out rfl
          have m2 : V1.cell? ⟨bq, 2, none⟩ = some (.int .u64 ev) := blkc BX.out rfl
          have m3 : V1.cell? ⟨bq, 3, none⟩ = some (.bool eg) := blkc BX.out rfl
          have bl := blkl BX.out
          clear v1
          go_wp2_with fail
          refine (AL.out V1 p2 S2 q2 T2 l2 (by omega) QV.out.c QV.out.d _).mono ?_
          rintro ex V2 ⟨rfl, v2⟩
          have QW : Aside _ := QV.out.gw v2
          have GW : Aside (Gw w V2) := GV.out.trans v2
          clear QV GV v2
          go_wp2_with fail
          go_roundg (n - (i + 1))
          case measure => omega
          case rel => exact ⟨i + 1, p1, q1, p2, q2, (fun q => q = p1), (fun q => q = q1), S2, T2, [], l2, rfl, rfl, rfl, rfl, by go_num, by omega, Nat.le_refl _, (show Aside _ from ⟨by simp, by omega⟩), QW, GW⟩
        · clear r0 r1
          go_wp2_with fail
          refine (clone14 p1 S1 most l1 (by omega) W0 Q0.out.a).mono ?_
          rintro ex W1 ⟨⟨p3, S3, rfl, o1, s1⟩, g1⟩
          have O1 : Aside (HB 53 W1 p3 S3 most l1) := o1
          have N1 : Aside (∀ q, S3 q → W0.heap.size ≤ q) := s1
          have GA : Aside (Gw W0 W1) := g1
          have BX1 : Aside (W1.heap[bq]? = some (.cells #[.int .i64 kd, .int .u64 ek, .int .u64 ev, .bool eg] 37 (0, 0))) := (g1.below.block bq bl).trans BX.out
          clear o1 s1 g1 m0 m1 m2 m3 bl BX
          have BX := BX1
          clear BX1
          have m0 : W1.cell? ⟨bq, 0, none⟩ = some (.int .i64 kd) := blkc BX.out rfl
          have m1 : W1.cell? ⟨bq, 1, none⟩ = some (.int .u64 ek) := blkc BX.out rfl
          have m2 : W1.cell? ⟨bq, 2, none⟩ = some (.int .u64 ev) := blkc BX.out rfl
          have m3 : W1.cell? ⟨bq, 3, none⟩ = some (.bool eg) := blkc BX.out rfl
          have bl := blkl BX.out
          go_wp2_with fail
          refine (rclone14 q1 T1 most l1 (by omega) W1 (Q0.out.gw GA.out).b).mono ?_
          rintro ex W2 ⟨⟨q3, T3, rfl, o2, s2⟩, g2⟩
          have QF : Aside (Q4 53 55 most w.heap.size W2 p3 S3 l1 q3 T3 l1 p1 S1 l1 q1 T1 l1) := Q0.out.cloned GA.out O1.out N1.out g2 o2 s2
          have GF : Aside (Gw w W2) := (G0.out.trans GA.out).trans g2
          have BX2 : Aside (W2.heap[bq]? = some (.cells #[.int .i64 kd, .int .u64 ek, .int .u64 ev, .bool eg] 37 (0, 0))) := (g2.below.block bq bl).trans BX.out
          clear o2 s2 g2 Q0 G0 O1 N1 GA m0 m1 m2 m3 bl BX
          have BX := BX2
          clear BX2
          have m0 : W2.cell? ⟨bq, 0, none⟩ = some (.int .i64 kd) := blkc BX.out rfl
          have m1 : W2.cell? ⟨bq, 1, none⟩ = some (.int .u64 ek) := blkc BX.out rfl
          have m2 : W2.cell? ⟨bq, 2, none⟩ = some (.int .u64 ev) := blkc BX.out rfl
          have m3 : W2.cell? ⟨bq, 3, none⟩ = some (.bool eg) := blkc BX.out rfl
          have bl := blkl BX.out
          go_wp2_with fail
          refine (AL.out W2 p3 S3 q3 T3 l1 (by omega) QF.out.a QF.out.b _).mono ?_
          rintro ex V1 ⟨rfl, v1⟩
          have QV : Aside _ := QF.out.gw v1
          have GV : Aside (Gw w V1) := GF.out.trans v1
          have BX1 : Aside (V1.heap[bq]? = some (.cells #[.int .i64 kd, .int .u64 ek, .int .u64 ev, .bool eg] 37 (0, 0))) := (v1.below.block bq bl).trans BX.out
          clear QF GF m0 m1 m2 m3 bl BX
          have BX := BX1
          clear BX1
          have m0 : V1.cell? ⟨bq, 0, none⟩ = some (.int .i64 kd) := blkc BX.out rfl
          have m1 : V1.cell? ⟨bq, 1, none⟩ = some (.int .u64 ek) := blkc BX.out rfl
          have m2 : V1.cell? ⟨bq, 2, none⟩ = some (.int .u64 ev) := blkc BX.out rfl
          have m3 : V1.cell? ⟨bq, 3, none⟩ = some (.bool eg) := blkc BX.out rfl
          have bl := blkl BX.out
          clear v1
          go_wp2_with fail
          refine (AL.out V1 p1 S1 q1 T1 l1 (by omega) QV.out.c QV.out.d _).mono ?_
          rintro ex V2 ⟨rfl, v2⟩
          have QW : Aside _ := QV.out.gw v2
          have GW : Aside (Gw w V2) := GV.out.trans v2
          clear QV GV v2
          go_wp2_with fail
          go_roundg (n - (i + 1))
          case measure => omega
          case rel => exact ⟨i + 1, p3, q3, p1, q1, S3, T3, S1, T1, l1, l1, rfl, rfl, rfl, rfl, by go_num, by omega, Nat.le_refl _, (show Aside _ from ⟨by omega, by omega⟩), QW, GW⟩
        · clear r0 r1
          have QF : Aside _ := Q0.out.swap
          have GF : Aside (Gw w W0) := G0.out
          clear Q0 G0
          go_wp2_with fail
          refine (AL.out W0 p2 S2 q2 T2 l2 (by omega) QF.out.a QF.out.b _).mono ?_
          rintro ex V1 ⟨rfl, v1⟩
          have QV : Aside _ := QF.out.gw v1
          have GV : Aside (Gw w V1) := GF.out.trans v1
          have BX1 : Aside (V1.heap[bq]? = some (.cells #[.int .i64 kd, .int .u64 ek, .int .u64 ev, .bool eg] 37 (0, 0))) := (v1.below.block bq bl).trans BX.out
          clear QF GF m0 m1 m2 m3 bl BX
          have BX := BX1
          clear BX1
          have m0 : V1.cell? ⟨bq, 0, none⟩ = some (.int .i64 kd) := blkc BX.out rfl
          have m1 : V1.cell? ⟨bq, 1, none⟩ = some (.int .u64 ek) := blkc BX.out rfl
          have m2 : V1.cell? ⟨bq, 2, none⟩ = some (.int .u64 ev) := blkc BX.out rfl
          have m3 : V1.cell? ⟨bq, 3, none⟩ = some (.bool eg) := blkc BX.out rfl
          have bl := blkl BX.out
          clear v1
          go_wp2_with fail
          refine (AL.out V1 p1 S1 q1 T1 l1 (by omega) QV.out.c QV.out.d _).mono ?_
          rintro ex V2 ⟨rfl, v2⟩
          have QW : Aside _ := QV.out.gw v2
          have GW : Aside (Gw w V2) := GV.out.trans v2
          clear QV GV v2
          go_wp2_with fail
          go_roundg (n - (i + 1))
          case measure => omega
          case rel => exact ⟨i + 1, p2, q2, p1, q1, S2, T2, S1, T1, l2, l1, rfl, rfl, rfl, rfl, by go_num, by omega, Nat.le_refl _, (show Aside _ from ⟨by omega, by omega⟩), QW, GW⟩
      · go_wp2_with fail
        go_ret
        exact ⟨rfl, G.out⟩
  · go_enter Try.func3, Try.ntmps3
    go_wp2_with fail
    refine (shown14 w).mono ?_
    rintro ex w1 ⟨rfl, g1⟩
    have G1 : Aside (Gw w w1) := g1
    clear g1
    go_wp2_with fail
    refine (new14_no most mo w1).mono ?_
    rintro ex w2 ⟨rfl, g2⟩
    have G2 : Aside (Gw w w2) := G1.out.trans g2
    clear g2 G1
    go_wp2_with fail
    refine (rnew14_no most mo w2).mono ?_
    rintro ex w3 ⟨rfl, g3⟩
    have G3 : Aside (Gw w w3) := G2.out.trans g3
    clear g3 G2
    have hn1 : ∀ W : World, (binOp .eql 24 (.pointer none) (.pointer none)).run Try.prog W = .ok (.bool true) W := fun _ => by kernel_rfl
    have hn2 : ∀ W : World, (binOp .eql 28 (.pointer none) (.pointer none)).run Try.prog W = .ok (.bool true) W := fun _ => by kernel_rfl
    go_wp2_with fail
    go_ret
    exact ⟨rfl, G3.out⟩
end Go.Proofs.Ytkofbjdgidaieaa
