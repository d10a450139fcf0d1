/- RunPlaces' walk. -/
import Derived.Test.YtdikiaeagcokdaaGreatPSh
import Derived.Test.YtdikiaeagcokdaaGreatR1Ans
import Derived.Test.YtdikiaeagcokdaaGreatPBs
import Derived.Laws.StructEq
namespace Go.Proofs.YtdikiaeagcokdaaGreat
open Go.RowKit
set_option linter.unusedVariables false

set_option maxRecDepth 10000 in
set_option maxHeartbeats 8000000 in
theorem places_walk {HR : World → Nat → (Nat → Prop) → Int → (Nat → Int) → (Nat → Int) → (Nat → Bool) → Nat → List (List Sg) → Prop} (H : RunC HR) (ao : Option Addr) (n cp : Nat) (k v : Nat → Int) (g : Nat → Bool) (eps : Int) (e0 : -9223372036854775808 ≤ eps) (e1 : eps < 9223372036854775808) (q z : Int) (q0 : 0 ≤ q) (q1 : q < 18446744073709551616) (z0 : 0 ≤ z) (z1 : z < 18446744073709551616) (hn : n ≤ 2000000) (hcp : n ≤ cp) (hz : ao = none → n = 0 ∧ cp = 0) (w : World) (h : ES w ao n k v g) :
    Calls Tryz.prog 8 #[.slice ao n cp, .int .i64 eps, .int .u64 q, .int .u64 z] w fun e w' => e = .returned (.bool true) ∧ Gw w w' := by
  have HE : Aside (ES w ao n k v g) := h
  have HH : Aside (RunC HR) := H
  have SH : Hid (Calls Tryz.prog 9 #[] w fun e w' => e = .returned (.bool true) ∧ Gw w w') := shown11 H w
  have NW : Hid (∀ W, Gw w W → Calls Tryz.prog 10 #[.slice ao n cp, .int .i64 eps] W fun ex w' => RunOut HR W w' ex eps k v g n ∧ Gw W w') := fun W gg => H.new eps ao n cp k v g e0 e1 hn hcp hz W (h.gw gg)
  have CK : Hid (∀ W, Gw w W → Calls Tryz.prog 21 #[.slice ao n cp] W fun e w' => (∃ r : Int, e = .returned (.int .i64 r) ∧ ChkR k v g n r) ∧ Gw W w') := fun W gg => rcheck3_any ao n cp k v g (by omega) W (h.gw gg)
  clear h H hz hcp
  go_enter Tryz.func8, Tryz.ntmps8
  go_wp2_with fail
  refine Calls.mono SH.out ?_
  rintro e w1 ⟨rfl, g1⟩
  have G1 : Aside (Gw w w1) := g1
  clear g1 SH
  go_wp2_with fail
  refine Calls.mono (NW.out _ G1.out) ?_
  rintro e w2 ⟨⟨E, ne, x⟩, g2⟩
  have G2 : Aside (Gw w w2) := G1.out.trans g2
  have NE : Aside (NewE eps k v g n E) := ne
  clear g2 ne G1 NW
  rcases x with ⟨x0, rfl⟩ | ⟨rfl, p, S, L, rfl, hS, br, hr⟩
  · have X0 : Aside (E ≠ 0) := x0
    clear x0
    go_wp2_with fail
    refine Calls.mono (CK.out _ G2.out) ?_
    rintro e w3 ⟨⟨r, rfl, cr⟩, g3⟩
    have G3 : Aside (Gw w w3) := G2.out.trans g3
    clear g3
    by_cases r0 : r = 0
    · subst r0
      have nb : ¬ (2 ≤ eps ∧ eps ≤ 64) := fun b => by
        rcases NE.out with ⟨nb, _⟩ | ⟨_, c⟩
        · exact nb b
        · exact X0.out (c.one cr)
      clear cr
      by_cases c : eps < 2
      · have t1 : decide (eps < 2) = true := by simpa using c
        clear nb c
        go_wp2_with fail
        go_ret
        exact ⟨rfl, G3.out⟩
      · have t1 : decide (eps < 2) = false := by simpa using c
        have t2 : decide (64 < eps) = true := decide_eq_true (by omega)
        clear nb c
        go_wp2_with fail
        go_ret
        exact ⟨rfl, G3.out⟩
    · have r0' : (r != 0) = true := by simpa using r0
      clear r0 cr
      go_wp2_with fail
      go_ret
      exact ⟨rfl, G3.out⟩
  · have UP : Aside (Up k n) := (NewE.up NE.out).2
    have R2 : Aside (HR w2 p S eps k v g n L) := hr
    have AT : Hid (∀ (W : World) (i : Nat), Gw w2 W → i < n → Calls Tryz.prog 23 #[.pointer (some ⟨p, 0, none⟩), .int .i64 (i : Int)] W fun e w' => e = .returned (.tuple #[.agg #[.int .u64 (k i), .int .u64 (v i), .bool (g i)], .int .i64 0]) ∧ Gw W w') := fun W i gg hi => by
      have := HH.out.at_ (HH.out.gw R2.out gg) (i : Int) (by omega) (by omega)
      have e : atV k v g n (i : Int) = (entV (k i) (v i) (g i), 0) := by
        unfold atV
        rw [if_pos (by omega)]
        simp
      rw [e] at this
      exact this
    have GT : Hid (∀ (W : World) (i : Nat), Gw w2 W → i < n → Calls Tryz.prog 24 #[.pointer (some ⟨p, 0, none⟩), .int .u64 (k i)] W fun e w' => e = .returned (.tuple #[.agg #[.int .u64 (k i), .int .u64 (v i), .bool (g i)], .bool true]) ∧ Gw W w') := fun W i gg hi => by
      obtain ⟨b0, b1⟩ := (HE.out.bd i hi).1
      have := HH.out.get (HH.out.gw R2.out gg) (k i) b0 b1
      have e : getV k v g n (k i) = (entV (k i) (v i) (g i), true) := by
        unfold getV
        rw [cntb_key UP.out hi, if_pos ⟨hi, rfl⟩]
      rw [e] at this
      exact this
    have RK : Hid (∀ (W : World) (i : Nat), Gw w2 W → i < n → Calls Tryz.prog 25 #[.pointer (some ⟨p, 0, none⟩), .int .u64 (k i)] W fun e w' => e = .returned (.int .i64 (i : Int)) ∧ Gw W w') := fun W i gg hi => by
      obtain ⟨b0, b1⟩ := (HE.out.bd i hi).1
      have := HH.out.rank (HH.out.gw R2.out gg) (k i) b0 b1
      rw [cntb_key UP.out hi] at this
      exact this
    have RQ : Hid (∀ (W : World) (y : Int), Gw w2 W → 0 ≤ y → y < 18446744073709551616 → Calls Tryz.prog 25 #[.pointer (some ⟨p, 0, none⟩), .int .u64 y] W fun e w' => e = .returned (.int .i64 (cntb k y n : Nat)) ∧ Gw W w') := fun W y gg y0 y1 => HH.out.rank (HH.out.gw R2.out gg) y y0 y1
    have GQ : Hid (∀ W, Gw w2 W → Calls Tryz.prog 24 #[.pointer (some ⟨p, 0, none⟩), .int .u64 q] W fun e w' => e = .returned (.tuple #[(getV k v g n q).1, .bool (getV k v g n q).2]) ∧ Gw W w') := fun W gg => HH.out.get (HH.out.gw R2.out gg) q q0 q1
    clear hr hS br CK NE
    go_wp2_with fail
    go_loopg [12] n (fun gg s12 wr => ∃ i : Nat, s12 = .int .i64 (i : Int) ∧ i ≤ n ∧ n - i ≤ gg ∧ Aside (Gw w2 wr))
    case atStart => exact ⟨0, rfl, Nat.zero_le _, by omega, (show Aside _ from Gw.refl w2)⟩
    case round =>
      obtain ⟨i, rfl, a1, a2, G⟩ := hrel
      obtain ⟨wS, hwS⟩ : ∃ wx, wx = wr := ⟨_, rfl⟩
      subst hwS
      by_cases hlt : i < n
      · obtain ⟨kb, ko, rfl, hkb, hkc⟩ := (HE.out.gw (G2.out.trans G.out)).cells (by omega)
        obtain ⟨c0, c1, c2⟩ := hkc i hlt
        have A1 : Hid (Calls Tryz.prog 23 #[.pointer (some ⟨p, 0, none⟩), .int .i64 (i : Int)] wS fun e w' => e = .returned (.tuple #[.agg #[.int .u64 (k i), .int .u64 (v i), .bool (g i)], .int .i64 0]) ∧ Gw wS w') := AT.out wS i G.out hlt
        have A2 : Hid (∀ W, Gw w2 W → Calls Tryz.prog 24 #[.pointer (some ⟨p, 0, none⟩), .int .u64 (k i)] W fun e w' => e = .returned (.tuple #[.agg #[.int .u64 (k i), .int .u64 (v i), .bool (g i)], .bool true]) ∧ Gw W w') := fun W gg => GT.out W i gg hlt
        have A3 : Hid (∀ W, Gw w2 W → Calls Tryz.prog 25 #[.pointer (some ⟨p, 0, none⟩), .int .u64 (k i)] W fun e w' => e = .returned (.int .i64 (i : Int)) ∧ Gw W w') := fun W gg => RK.out W i gg hlt
        generalize k i = ki at c0 A1 A2 A3
        generalize v i = vi at c1 A1 A2
        generalize g i = gi at c2 A1 A2
        have hlt' : (i : Int) < (n : Int) := by omega
        have CC : Aside ((wS.cell? ⟨kb, ko + i * 3, none⟩ = some (.int .u64 ki) ∧ wS.cell? ⟨kb, ko + i * 3 + 1, none⟩ = some (.int .u64 vi) ∧ wS.cell? ⟨kb, ko + i * 3 + 2, none⟩ = some (.bool gi)) ∧ kb < wS.heap.size) := ⟨⟨c0, c1, c2⟩, hkb⟩
        clear hkc c0 c1 c2 hkb
        go_wp2_with fail
        refine Calls.mono A1.out ?_
        rintro e u1 ⟨rfl, gg⟩
        have B1 : Aside (Bxs wS [(u1.heap.size, #[.int .u64 ki, .int .u64 vi, .bool gi], 26)] (u1.alloc (.cells #[.int .u64 ki, .int .u64 vi, .bool gi] 26))) := (Bxs.nil gg).add _ _
        obtain ⟨bx, hbx⟩ : ∃ b, u1.heap.size = b := ⟨_, rfl⟩
        rw [hbx] at B1
        have d0 : (u1.alloc (.cells #[.int .u64 ki, .int .u64 vi, .bool gi] 26)).cell? ⟨kb, ko + i * 3, none⟩ = some (.int .u64 ki) := (B1.out.gw0.cell _ _ CC.out.2).trans CC.out.1.1
        have d1 : kb < (u1.alloc (.cells #[.int .u64 ki, .int .u64 vi, .bool gi] 26)).heap.size := Nat.lt_of_lt_of_le CC.out.2 B1.out.gw0.size
        clear gg A1
        go_wp2_with fail
        try rw [hbx]
        generalize u1.alloc (.cells #[.int .u64 ki, .int .u64 vi, .bool gi] 26) = v1 at B1 d0 d1 ⊢
        clear d0 d1 hbx
        refine Calls.mono (A2.out v1 (G.out.trans B1.out.gw0)) ?_
        rintro e u2 ⟨rfl, gg⟩
        have B2 : Aside (Bxs wS [(u2.heap.size, #[.int .u64 ki, .int .u64 vi, .bool gi], 26), (bx, #[.int .u64 ki, .int .u64 vi, .bool gi], 26)] (u2.alloc (.cells #[.int .u64 ki, .int .u64 vi, .bool gi] 26))) := (B1.out.gw gg).add _ _
        obtain ⟨by', hby⟩ : ∃ b, u2.heap.size = b := ⟨_, rfl⟩
        rw [hby] at B2
        clear gg A2 B1
        go_wp2_with fail
        try rw [hby]
        generalize u2.alloc (.cells #[.int .u64 ki, .int .u64 vi, .bool gi] 26) = v2 at B2 ⊢
        clear hby
        have ne := GX.some v2
        have lx := (Array.getElem?_eq_some_iff.1 (B2.out.lie (bx, #[.int .u64 ki, .int .u64 vi, .bool gi], 26) (by simp))).1
        have ly := (Array.getElem?_eq_some_iff.1 (B2.out.lie (by', #[.int .u64 ki, .int .u64 vi, .bool gi], 26) (by simp))).1
        have lk : kb < v2.heap.size := Nat.lt_of_lt_of_le CC.out.2 B2.out.gw0.size
        have x0 := GX.cell (B2.out.cell (b := bx) (c := #[.int .u64 ki, .int .u64 vi, .bool gi]) (t := 26) (i := 0) (by simp) rfl) lx
        have x1 := GX.cell (B2.out.cell (b := bx) (c := #[.int .u64 ki, .int .u64 vi, .bool gi]) (t := 26) (i := 1) (by simp) rfl) lx
        have x2 := GX.cell (B2.out.cell (b := bx) (c := #[.int .u64 ki, .int .u64 vi, .bool gi]) (t := 26) (i := 2) (by simp) rfl) lx
        have y0 := GX.cell (B2.out.cell (b := by') (c := #[.int .u64 ki, .int .u64 vi, .bool gi]) (t := 26) (i := 0) (by simp) rfl) ly
        have y1 := GX.cell (B2.out.cell (b := by') (c := #[.int .u64 ki, .int .u64 vi, .bool gi]) (t := 26) (i := 1) (by simp) rfl) ly
        have y2 := GX.cell (B2.out.cell (b := by') (c := #[.int .u64 ki, .int .u64 vi, .bool gi]) (t := 26) (i := 2) (by simp) rfl) ly
        have c0 := GX.cell ((B2.out.gw0.cell _ _ CC.out.2).trans CC.out.1.1) lk
        have c1 := GX.cell ((B2.out.gw0.cell _ _ CC.out.2).trans CC.out.1.2.1) lk
        have c2 := GX.cell ((B2.out.gw0.cell _ _ CC.out.2).trans CC.out.1.2.2) lk
        clear lx ly lk
        refine wp_region_growx (by kernel_rfl) (by kernel_rfl) ?_
        repeat (go_big_quiet_step (fail))
        go_big_quiet_want
        go_big_quiet_op
        go_big_quiet_call (exact growx_of (A3.out _ ((G.out.trans B2.out.gw0).trans (GX.gw _))))
        repeat (go_big_quiet_step (fail))
        refine wpQuiet_nil ?_
        rintro _ ⟨gw, rfl⟩
        have G9 : Aside (Gw w2 gw.1) := (G.out.trans B2.out.gw0).trans gw.gw
        clear x0 x1 x2 y0 y1 y2 c0 c1 c2 B2 CC A3
        go_wp2_with fail
        go_roundg (n - (i + 1))
        case measure => omega
        case rel => exact ⟨i + 1, by go_num, by omega, Nat.le_refl _, G9⟩
      · have ei : i = n := by omega
        subst ei
        go_wp2_with fail
        refine Calls.mono (RQ.out _ q G.out q0 q1) ?_
        rintro e u1 ⟨rfl, gg⟩
        have H1 : Aside (Gw w2 u1) := G.out.trans gg
        clear gg
        have lc := cntb_le k q i
        have NX : Aside (cntb k (q + 1) i = cntb k q i + (if cntb k q i < i ∧ k (cntb k q i) = q then 1 else 0)) := cntb_next UP.out q
        have MO : Aside ((z ≤ q → cntb k z i ≤ cntb k q i) ∧ (q ≤ z → cntb k q i ≤ cntb k z i)) := ⟨fun a => cntb_mono k a i, fun a => cntb_mono k a i⟩
        obtain ⟨dd, hdd⟩ : ∃ d, cntb k z i = d := ⟨_, rfl⟩
        have ZQ : Hid (∀ W, Gw w2 W → Calls Tryz.prog 25 #[.pointer (some ⟨p, 0, none⟩), .int .u64 z] W fun e w' => e = .returned (.int .i64 (dd : Int)) ∧ Gw W w') := fun W gg => by rw [← hdd]; exact RQ.out W z gg z0 z1
        have GV : Aside (getV k v g i q = if cntb k q i < i ∧ k (cntb k q i) = q then (entV (k (cntb k q i)) (v (cntb k q i)) (g (cntb k q i)), true) else (entV 0 0 false, false)) := rfl
        obtain ⟨cc, hcc⟩ : ∃ d, cntb k q i = d := ⟨_, rfl⟩
        rw [hdd, hcc] at MO
        rw [hcc] at GV NX lc ⊢
        clear hdd hcc
        have wc : IntKind.i64.wrap ((cc : Int) + 1) = (cc : Int) + 1 := by rw [IntKind.wrap_i64]; omega
        have t1 : ¬ i < cc := by omega
        by_cases b : cc < i ∧ k cc = q
        · have GQ1 : Hid (∀ W, Gw w2 W → Calls Tryz.prog 24 #[.pointer (some ⟨p, 0, none⟩), .int .u64 q] W fun e w' => e = .returned (.tuple #[.agg #[.int .u64 q, .int .u64 (v cc), .bool (g cc)], .bool true]) ∧ Gw W w') := fun W gg => by
            have := GQ.out W gg
            rw [GV.out, if_pos b, b.2] at this
            exact this
          have N1 : Aside (cntb k (q + 1) i = cc + 1) := by have := NX.out; rw [if_pos b] at this; exact this
          clear GQ GV NX b
          generalize v cc = vv at GQ1
          generalize g cc = gv at GQ1
          go_wp2_with fail
          refine Calls.mono (GQ1.out _ H1.out) ?_
          rintro e u2 ⟨rfl, gg⟩
          have B2 : Aside (Bxs u1 [(u2.heap.size, #[.int .u64 q, .int .u64 vv, .bool gv], 26)] (u2.alloc (.cells #[.int .u64 q, .int .u64 vv, .bool gv] 26))) := (Bxs.nil gg).add _ _
          obtain ⟨bx, hbx⟩ : ∃ b, u2.heap.size = b := ⟨_, rfl⟩
          rw [hbx] at B2
          have x0 : (u2.alloc (.cells #[.int .u64 q, .int .u64 vv, .bool gv] 26)).cell? ⟨bx, 0, none⟩ = some (.int .u64 q) := B2.out.cell (c := #[.int .u64 q, .int .u64 vv, .bool gv]) (t := 26) (by simp) rfl
          clear gg GQ1
          by_cases qm : q = 18446744073709551615
          · have t2 : decide (q < 18446744073709551615) = false := decide_eq_false (by omega)
            clear qm
            clear N1
            go_wp2_with fail
            try rw [hbx]
            generalize u2.alloc (.cells #[.int .u64 q, .int .u64 vv, .bool gv] 26) = v2 at B2 x0 ⊢
            refine Calls.mono (ZQ.out _ (H1.out.trans B2.out.gw0)) ?_
            rintro e u3 ⟨rfl, gg⟩
            have H3 : Aside (Gw w u3) := (G2.out.trans (H1.out.trans B2.out.gw0)).trans gg
            clear gg x0
            by_cases l1 : q < z
            · have s1 : decide (q < z) = true := by simpa using l1
              have s2 : decide (z < q) = false := decide_eq_false (by omega)
              have s3 : cc ≤ dd := MO.out.2 (by omega)
              go_wp2_with fail
              go_ret
              exact ⟨rfl, H3.out⟩
            · have s1 : decide (q < z) = false := by simpa using l1
              have s3 : dd ≤ cc := MO.out.1 (by omega)
              by_cases l2 : z < q
              · have s2 : decide (z < q) = true := by simpa using l2
                go_wp2_with fail
                go_ret
                exact ⟨rfl, H3.out⟩
              · have s2 : decide (z < q) = false := by simpa using l2
                have s4 : cc ≤ dd := MO.out.2 (by omega)
                go_wp2_with fail
                go_ret
                exact ⟨rfl, H3.out⟩
          · have t2 : decide (q < 18446744073709551615) = true := decide_eq_true (by omega)
            have wq : IntKind.u64.wrap (q + 1) = q + 1 := by rw [IntKind.wrap_u64]; omega
            have RN : Hid (∀ W, Gw w2 W → Calls Tryz.prog 25 #[.pointer (some ⟨p, 0, none⟩), .int .u64 (q + 1)] W fun e w' => e = .returned (.int .i64 ((cc : Int) + 1)) ∧ Gw W w') := fun W gg => by
              have := RQ.out W (q + 1) gg (by omega) (by omega)
              rw [N1.out] at this
              exact this
            clear N1 qm
            go_wp2_with fail
            try rw [hbx]
            generalize u2.alloc (.cells #[.int .u64 q, .int .u64 vv, .bool gv] 26) = v2 at B2 x0 ⊢
            refine Calls.mono (RN.out _ (H1.out.trans B2.out.gw0)) ?_
            rintro e u4 ⟨rfl, g4⟩
            have H4 : Aside (Gw w2 u4) := (H1.out.trans B2.out.gw0).trans g4
            clear g4 x0 B2
            go_wp2_with fail
            refine Calls.mono (ZQ.out _ H4.out) ?_
            rintro e u3 ⟨rfl, gg⟩
            have H3 : Aside (Gw w u3) := (G2.out.trans H4.out).trans gg
            clear gg
            by_cases l1 : q < z
            · have s1 : decide (q < z) = true := by simpa using l1
              have s2 : decide (z < q) = false := decide_eq_false (by omega)
              have s3 : cc ≤ dd := MO.out.2 (by omega)
              go_wp2_with fail
              go_ret
              exact ⟨rfl, H3.out⟩
            · have s1 : decide (q < z) = false := by simpa using l1
              have s3 : dd ≤ cc := MO.out.1 (by omega)
              by_cases l2 : z < q
              · have s2 : decide (z < q) = true := by simpa using l2
                go_wp2_with fail
                go_ret
                exact ⟨rfl, H3.out⟩
              · have s2 : decide (z < q) = false := by simpa using l2
                have s4 : cc ≤ dd := MO.out.2 (by omega)
                go_wp2_with fail
                go_ret
                exact ⟨rfl, H3.out⟩
        · have GQ1 : Hid (∀ W, Gw w2 W → Calls Tryz.prog 24 #[.pointer (some ⟨p, 0, none⟩), .int .u64 q] W fun e w' => e = .returned (.tuple #[.agg #[.int .u64 0, .int .u64 0, .bool false], .bool false]) ∧ Gw W w') := fun W gg => by
            have := GQ.out W gg
            rw [GV.out, if_neg b] at this
            exact this
          have N1 : Aside (cntb k (q + 1) i = cc) := by have := NX.out; rw [if_neg b] at this; exact this
          clear GQ GV NX b
          go_wp2_with fail
          refine Calls.mono (GQ1.out _ H1.out) ?_
          rintro e u2 ⟨rfl, gg⟩
          have B2 : Aside (Bxs u1 [(u2.heap.size, #[.int .u64 0, .int .u64 0, .bool false], 26)] (u2.alloc (.cells #[.int .u64 0, .int .u64 0, .bool false] 26))) := (Bxs.nil gg).add _ _
          obtain ⟨bx, hbx⟩ : ∃ b, u2.heap.size = b := ⟨_, rfl⟩
          rw [hbx] at B2
          have x0 : (u2.alloc (.cells #[.int .u64 0, .int .u64 0, .bool false] 26)).cell? ⟨bx, 0, none⟩ = some (.int .u64 0) := B2.out.cell (c := #[.int .u64 0, .int .u64 0, .bool false]) (t := 26) (by simp) rfl
          have x1 : (u2.alloc (.cells #[.int .u64 0, .int .u64 0, .bool false] 26)).cell? ⟨bx, 1, none⟩ = some (.int .u64 0) := B2.out.cell (c := #[.int .u64 0, .int .u64 0, .bool false]) (t := 26) (by simp) rfl
          have x2 : (u2.alloc (.cells #[.int .u64 0, .int .u64 0, .bool false] 26)).cell? ⟨bx, 2, none⟩ = some (.bool false) := B2.out.cell (c := #[.int .u64 0, .int .u64 0, .bool false]) (t := 26) (by simp) rfl
          clear gg GQ1
          by_cases qm : q = 18446744073709551615
          · have t2 : decide (q < 18446744073709551615) = false := decide_eq_false (by omega)
            clear qm
            clear N1
            go_wp2_with fail
            try rw [hbx]
            generalize u2.alloc (.cells #[.int .u64 0, .int .u64 0, .bool false] 26) = v2 at B2 x0 x1 x2 ⊢
            refine Calls.mono (ZQ.out _ (H1.out.trans B2.out.gw0)) ?_
            rintro e u3 ⟨rfl, gg⟩
            have H3 : Aside (Gw w u3) := (G2.out.trans (H1.out.trans B2.out.gw0)).trans gg
            clear gg x0 x1 x2
            by_cases l1 : q < z
            · have s1 : decide (q < z) = true := by simpa using l1
              have s2 : decide (z < q) = false := decide_eq_false (by omega)
              have s3 : cc ≤ dd := MO.out.2 (by omega)
              go_wp2_with fail
              go_ret
              exact ⟨rfl, H3.out⟩
            · have s1 : decide (q < z) = false := by simpa using l1
              have s3 : dd ≤ cc := MO.out.1 (by omega)
              by_cases l2 : z < q
              · have s2 : decide (z < q) = true := by simpa using l2
                go_wp2_with fail
                go_ret
                exact ⟨rfl, H3.out⟩
              · have s2 : decide (z < q) = false := by simpa using l2
                have s4 : cc ≤ dd := MO.out.2 (by omega)
                go_wp2_with fail
                go_ret
                exact ⟨rfl, H3.out⟩
          · have t2 : decide (q < 18446744073709551615) = true := decide_eq_true (by omega)
            have wq : IntKind.u64.wrap (q + 1) = q + 1 := by rw [IntKind.wrap_u64]; omega
            have c1 : ((cc : Int) == (cc : Int) + 1) = false := by rw [beq_eq_false_iff_ne]; omega
            have RN : Hid (∀ W, Gw w2 W → Calls Tryz.prog 25 #[.pointer (some ⟨p, 0, none⟩), .int .u64 (q + 1)] W fun e w' => e = .returned (.int .i64 (cc : Int)) ∧ Gw W w') := fun W gg => by
              have := RQ.out W (q + 1) gg (by omega) (by omega)
              rw [N1.out] at this
              exact this
            clear N1 qm
            go_wp2_with fail
            try rw [hbx]
            generalize u2.alloc (.cells #[.int .u64 0, .int .u64 0, .bool false] 26) = v2 at B2 x0 x1 x2 ⊢
            refine Calls.mono (RN.out _ (H1.out.trans B2.out.gw0)) ?_
            rintro e u4 ⟨rfl, g4⟩
            have H4 : Aside (Gw w2 u4) := (H1.out.trans B2.out.gw0).trans g4
            clear g4 x0 x1 x2 B2
            go_wp2_with fail
            refine Calls.mono (RN.out _ H4.out) ?_
            rintro e u5 ⟨rfl, g5⟩
            have H5 : Aside (Gw w2 u5) := H4.out.trans g5
            clear g5
            go_wp2_with fail
            refine Calls.mono (ZQ.out _ H5.out) ?_
            rintro e u3 ⟨rfl, gg⟩
            have H3 : Aside (Gw w u3) := (G2.out.trans H5.out).trans gg
            clear gg
            by_cases l1 : q < z
            · have s1 : decide (q < z) = true := by simpa using l1
              have s2 : decide (z < q) = false := decide_eq_false (by omega)
              have s3 : cc ≤ dd := MO.out.2 (by omega)
              go_wp2_with fail
              go_ret
              exact ⟨rfl, H3.out⟩
            · have s1 : decide (q < z) = false := by simpa using l1
              have s3 : dd ≤ cc := MO.out.1 (by omega)
              by_cases l2 : z < q
              · have s2 : decide (z < q) = true := by simpa using l2
                go_wp2_with fail
                go_ret
                exact ⟨rfl, H3.out⟩
              · have s2 : decide (z < q) = false := by simpa using l2
                have s4 : cc ≤ dd := MO.out.2 (by omega)
                go_wp2_with fail
                go_ret
                exact ⟨rfl, H3.out⟩

end Go.Proofs.YtdikiaeagcokdaaGreat
