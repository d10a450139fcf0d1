/- OctetsCut, walked. -/
import Derived.Test.YtmioagkmedcflaaOLay
namespace Go.Proofs.Ytmioagkmedcflaa
open Go.RowKit
set_option linter.unusedVariables false

set_option maxRecDepth 10000 in
set_option maxHeartbeats 4000000 in
theorem cut10_walk (ao : Option Addr) (n c : Nat) (f : Nat → Int) (x : Int) (x0 : -9223372036854775808 ≤ x) (x1 : x < 9223372036854775808) (hn : n * 8 ≤ 140737488351232) (w : World) (h : KS w ao n f) :
    Calls Try.prog 6 #[.slice ao n c, .int .i64 x] w fun e w' => e = .returned (.bool true) ∧ Gw w w' := by
  have HK : Aside (KS w ao n f) := h
  clear h
  go_enter Try.func6, Try.ntmps6
  go_wp2_with fail
  refine Calls.mono (shown10 w) ?_
  rintro e w1 ⟨rfl, g1⟩
  have G1 : Aside (Gw w w1) := g1
  clear g1
  go_wp2_with fail
  go_loopg [6, 7] n (fun gg s6 s7 wr => ∃ (i : Nat) (bo : Option Addr), s6 = .slice bo (8 * i) (8 * i) ∧ s7 = .int .i64 (i : Int) ∧ i ≤ n ∧ n - i ≤ gg ∧ Aside (BS wr bo (8 * i) (layF f)) ∧ Aside (Gw w wr))
  case atStart => exact ⟨0, none, rfl, rfl, Nat.zero_le _, by omega, (show Aside _ from ⟨fun h => by omega, fun i hi => by omega⟩), G1⟩
  case round =>
    clear G1
    obtain ⟨i, bo, rfl, rfl, a1, a2, BI, GI⟩ := hrel
    obtain ⟨wS, hwS⟩ : ∃ wx, wx = wr := ⟨_, rfl⟩
    subst hwS
    by_cases hlt : i < n
    · obtain ⟨kb, ko, rfl, hkb, hkc⟩ := HK.out.cells (by omega)
      have c1 : wS.cell? ⟨kb, ko + i, none⟩ = some (.int .u64 (f i)) := (GI.out.cell _ _ hkb).trans (hkc i hlt)
      have fi := HK.out.bd i hlt
      have hlt' : (i : Int) < (n : Int) := by omega
      have PT : Hid (Calls Try.prog 10 #[.slice bo (8 * i) (8 * i), .int .u64 (f i)] wS fun e w' => (∃ b, e = .returned (.slice (some ⟨b, 0, none⟩) (8 * (i + 1)) (8 * (i + 1))) ∧ BS w' (some ⟨b, 0, none⟩) (8 * (i + 1)) (layF f)) ∧ Gw wS w') := (xput_any bo (8 * i) (8 * i) (layF f) (f i) fi.1 fi.2 (by omega) wS BI.out).mono fun e w' ⟨⟨b, e1, _, R⟩, g⟩ => ⟨⟨b, e1, bs_of_row (n := 8 * (i + 1)) (R.congr fun j hj => by rw [layF_cat f i j hj]) (by omega) (fun j _ => layF_bd f j)⟩, g⟩
      generalize f i = y at c1 PT fi
      clear hkc BI
      go_wp2_with fail
      refine Calls.mono PT.out ?_
      rintro e w2 ⟨⟨b, rfl, b2⟩, g2⟩
      have B2 : Aside (BS w2 (some ⟨b, 0, none⟩) (8 * (i + 1)) (layF f)) := b2
      have G2 : Aside (Gw w w2) := GI.out.trans g2
      clear PT b2 g2 GI
      go_wp2_with fail
      go_roundg (n - (i + 1))
      case measure => omega
      case rel => exact ⟨i + 1, _, rfl, by go_num, by omega, Nat.le_refl _, B2, G2⟩
    · have ei : i = n := by omega
      subst ei
      obtain ⟨q, hq⟩ : ∃ m : Nat, (if x < 0 then -(x + 1) else x) = (m : Int) := ⟨(if x < 0 then -(x + 1) else x).toNat, by split <;> omega⟩
      obtain ⟨k, hk⟩ : ∃ k : Nat, (q : Int) % (8 * (i : Int) + 1) = (k : Int) := ⟨((q : Int) % (8 * (i : Int) + 1)).toNat, by
        have := Int.emod_nonneg (q : Int) (show (8 * (i : Int) + 1) ≠ 0 by omega)
        omega⟩
      have k1 : k ≤ 8 * i := by
        have := Int.emod_lt_of_pos (q : Int) (show (0 : Int) < 8 * (i : Int) + 1 by omega)
        omega
      have k2 : (k : Int) ≤ 8 * (i : Int) := by omega
      have NW : Hid (Calls Try.prog 16 #[.slice bo k (8 * i)] wS fun e w' => (∃ p S, e = .returned (.pointer (some ⟨p, 0, none⟩)) ∧ RRd 61 w' p S (fun j => layF f (8 * 0 + j)) (k - 8 * 0) ∧ w.heap.size ≤ p) ∧ Gw wS w') := (xnew_any bo k (8 * i) (layF f) (by omega) wS (BI.out.part k1)).mono fun e w' ⟨⟨p, S, e1, r, hs⟩, g⟩ => ⟨⟨p, S, e1, by simpa using r, Nat.le_trans GI.out.size (hs p r.own)⟩, g⟩
      clear BI
      by_cases neg : x < 0
      · have h0 : decide (x < 0) = true := by simpa using neg
        rw [if_pos neg] at hq
        have q9 : q < 9223372036854775808 := by omega
        have e1 : IntKind.i64.wrap (x + 1) = x + 1 := by rw [IntKind.wrap_i64]; omega
        have e2 : IntKind.i64.wrap (-(x + 1)) = (q : Int) := by rw [IntKind.wrap_i64]; omega
        go_wp2_with fail
        rw [hk]
        clear hk hq q9 e1 e2 h0 neg
        refine Calls.mono NW.out ?_
        rintro e w2 ⟨⟨p, S, rfl, RD, hp⟩, g⟩
        have G2 : Aside (Gw w w2) := GI.out.trans g
        have R2 : Aside (RRd 61 w2 p S (fun j => layF f (8 * 0 + j)) (k - 8 * 0)) := RD
        have P2 : Aside (w.heap.size ≤ p) := hp
        clear NW g RD hp GI
        go_wp2_with fail
        go_loopg [9] (k / 8) (fun gg s9 wr => ∃ (t : Nat) (S : Nat → Prop), s9 = .int .i64 (t : Int) ∧ t ≤ k / 8 ∧ k / 8 - t ≤ gg ∧ Aside (RRd 61 wr p S (fun j => layF f (8 * t + j)) (k - 8 * t)) ∧ Aside (Gw w wr))
        case atStart => exact ⟨0, S, rfl, Nat.zero_le _, by omega, R2, G2⟩
        case round =>
          clear R2 G2
          obtain ⟨t, S', rfl, b1, b2, RT, GT⟩ := hrel
          obtain ⟨wT, hwT⟩ : ∃ wx, wx = wr := ⟨_, rfl⟩
          subst hwT
          by_cases hlt2 : t < k / 8
          · have ti : t < i := by omega
            obtain ⟨kb, ko, rfl, hkb, hkc⟩ := HK.out.cells (by omega)
            have fi := HK.out.bd t ti
            have NU : Hid (Calls Try.prog 19 #[.pointer (some ⟨p, 0, none⟩)] wT fun e w' => e = .returned (.tuple #[.int .u64 (f t), .int .i64 0]) ∧ (∃ S, RRd 61 w' p S (fun j => layF f (8 * (t + 1) + j)) (k - 8 * (t + 1))) ∧ Gw w w' ∧ w'.cell? ⟨kb, ko + t, none⟩ = some (.int .u64 (f t))) := by
              have X := xnumber_any (by omega) RT.out
              unfold numA at X
              rw [if_neg (by omega), layF_num f t fi.1 fi.2] at X
              refine X.mono fun e w' ⟨e1, U, S5, R5, _⟩ => ⟨e1, ⟨S5, ?_⟩, U.gw w P2.out GT.out, ((U.gw w P2.out GT.out).cell _ _ hkb).trans (hkc t ti)⟩
              have R6 : RRd 61 w' p S5 (fun j => layF f (8 * t + (8 + j))) (k - 8 * t - 8) := R5
              rw [layF_next, show k - 8 * t - 8 = k - 8 * (t + 1) by omega] at R6
              exact R6
            have hlt3 : (t : Int) < (k : Int) / 8 := by omega
            generalize f t = y at NU fi
            clear RT GT hkc
            go_wp2_with fail
            refine Calls.mono NU.out ?_
            rintro e w3 ⟨rfl, ⟨S3, r3⟩, g3, c3⟩
            have R3 : Aside (∃ S, RRd 61 w3 p S (fun j => layF f (8 * (t + 1) + j)) (k - 8 * (t + 1))) := ⟨S3, r3⟩
            have G3 : Aside (Gw w w3) := g3
            clear NU r3 g3
            go_wp2_with fail
            go_roundg (k / 8 - (t + 1))
            case measure => omega
            case rel =>
              obtain ⟨S3, r3⟩ := R3.out
              exact ⟨t + 1, S3, by go_num, by omega, Nat.le_refl _, r3, G3⟩
          · have et : t = k / 8 := by omega
            have hlt3 : ¬ (t : Int) < (k : Int) / 8 := by omega
            have nN : numA (fun j => layF f (8 * t + j)) (k - 8 * t) = (0, 100, 0) := by unfold numA; rw [if_pos (by omega)]
            have nF : floatA (fun j => layF f (8 * t + j)) (k - 8 * t) = (0, 100, 0) := by unfold floatA; rw [if_pos (by omega)]
            have nC : countA (fun j => layF f (8 * t + j)) (k - 8 * t) 5 = (0, 100, 0) := by unfold countA; rw [if_pos (by omega)]
            have RN : Hid (∀ W S, RRd 61 W p S (fun j => layF f (8 * t + j)) (k - 8 * t) → Calls Try.prog 19 #[.pointer (some ⟨p, 0, none⟩)] W fun e w' => e = .returned (.tuple #[.int .u64 0, .int .i64 100]) ∧ (Gw w W → Gw w w') ∧ ∃ S, RRd 61 w' p S (fun j => layF f (8 * t + j)) (k - 8 * t)) := fun W S r => by
              have X := xnumber_any (by omega) r
              rw [nN] at X
              exact X.mono fun e w' ⟨e1, U, S5, R5, _⟩ => ⟨e1, U.gw w P2.out, S5, by simpa using R5⟩
            have RF : Hid (∀ W S, RRd 61 W p S (fun j => layF f (8 * t + j)) (k - 8 * t) → Calls Try.prog 23 #[.pointer (some ⟨p, 0, none⟩)] W fun e w' => e = .returned (.tuple #[.float .f64 0, .int .i64 100]) ∧ (Gw w W → Gw w w') ∧ ∃ S, RRd 61 w' p S (fun j => layF f (8 * t + j)) (k - 8 * t)) := fun W S r => by
              have X := xfloat_any (by omega) r
              rw [nF] at X
              exact X.mono fun e w' ⟨e1, U, S5, R5, _⟩ => ⟨e1, U.gw w P2.out, S5, by simpa using R5⟩
            have RC : Hid (∀ W S, RRd 61 W p S (fun j => layF f (8 * t + j)) (k - 8 * t) → Calls Try.prog 21 #[.pointer (some ⟨p, 0, none⟩), .int .i64 5] W fun e w' => e = .returned (.tuple #[.int .i64 0, .int .i64 100]) ∧ (Gw w W → Gw w w') ∧ ∃ S, RRd 61 w' p S (fun j => layF f (8 * t + j)) (k - 8 * t)) := fun W S r => by
              have X := xcount_any 5 (by decide) (by decide) (by omega) r
              rw [nC] at X
              exact X.mono fun e w' ⟨e1, U, S5, R5, _⟩ => ⟨e1, U.gw w P2.out, S5, by simpa using R5⟩
            obtain ⟨r, hr⟩ : ∃ r, k - 8 * t = r := ⟨_, rfl⟩
            have km : ((r : Int) == (k : Int) % 8) = true := by simp; omega
            clear nN nF nC et
            go_wp2_with fail
            refine Calls.mono (RN.out _ _ RT.out) ?_
            rintro e w4 ⟨rfl, g4, S4, r4⟩
            have G4 : Aside (Gw w w4) := g4 GT.out
            have R4 : Aside (RRd 61 w4 p S4 (fun j => layF f (8 * t + j)) (k - 8 * t)) := r4
            clear g4 r4 RT GT RN
            go_wp2_with fail
            refine Calls.mono (RF.out _ _ R4.out) ?_
            rintro e w5 ⟨rfl, g5, S5, r5⟩
            have G5 : Aside (Gw w w5) := g5 G4.out
            have R5 : Aside (RRd 61 w5 p S5 (fun j => layF f (8 * t + j)) (k - 8 * t)) := r5
            clear g5 r5 R4 G4 RF
            go_wp2_with fail
            refine Calls.mono (RC.out _ _ R5.out) ?_
            rintro e w6 ⟨rfl, g6, S6, r6⟩
            have G6 : Aside (Gw w w6) := g6 G5.out
            have LF : Hid (Calls Try.prog 30 #[.pointer (some ⟨p, 0, none⟩)] w6 fun e w' => e = .returned (.int .i64 (r : Int)) ∧ w' = w6) := by
              have := xleft_any r6
              rw [hr] at this
              exact this
            clear g6 r6 R5 G5 RC
            go_wp2_with fail
            refine Calls.mono LF.out ?_
            rintro e w7 ⟨rfl, rfl⟩
            clear LF
            go_wp2_with fail
            go_ret
            exact ⟨rfl, G6.out⟩
      · have h0 : decide (x < 0) = false := by simpa using neg
        rw [if_neg neg] at hq
        subst hq
        have q9 : q < 9223372036854775808 := by omega
        go_wp2_with fail
        clear hk q9 h0 neg
        refine Calls.mono NW.out ?_
        rintro e w2 ⟨⟨p, S, rfl, RD, hp⟩, g⟩
        have G2 : Aside (Gw w w2) := GI.out.trans g
        have R2 : Aside (RRd 61 w2 p S (fun j => layF f (8 * 0 + j)) (k - 8 * 0)) := RD
        have P2 : Aside (w.heap.size ≤ p) := hp
        clear NW g RD hp GI
        go_wp2_with fail
        go_loopg [9] (k / 8) (fun gg s9 wr => ∃ (t : Nat) (S : Nat → Prop), s9 = .int .i64 (t : Int) ∧ t ≤ k / 8 ∧ k / 8 - t ≤ gg ∧ Aside (RRd 61 wr p S (fun j => layF f (8 * t + j)) (k - 8 * t)) ∧ Aside (Gw w wr))
        case atStart => exact ⟨0, S, rfl, Nat.zero_le _, by omega, R2, G2⟩
        case round =>
          clear R2 G2
          obtain ⟨t, S', rfl, b1, b2, RT, GT⟩ := hrel
          obtain ⟨wT, hwT⟩ : ∃ wx, wx = wr := ⟨_, rfl⟩
          subst hwT
          by_cases hlt2 : t < k / 8
          · have ti : t < i := by omega
            obtain ⟨kb, ko, rfl, hkb, hkc⟩ := HK.out.cells (by omega)
            have fi := HK.out.bd t ti
            have NU : Hid (Calls Try.prog 19 #[.pointer (some ⟨p, 0, none⟩)] wT fun e w' => e = .returned (.tuple #[.int .u64 (f t), .int .i64 0]) ∧ (∃ S, RRd 61 w' p S (fun j => layF f (8 * (t + 1) + j)) (k - 8 * (t + 1))) ∧ Gw w w' ∧ w'.cell? ⟨kb, ko + t, none⟩ = some (.int .u64 (f t))) := by
              have X := xnumber_any (by omega) RT.out
              unfold numA at X
              rw [if_neg (by omega), layF_num f t fi.1 fi.2] at X
              refine X.mono fun e w' ⟨e1, U, S5, R5, _⟩ => ⟨e1, ⟨S5, ?_⟩, U.gw w P2.out GT.out, ((U.gw w P2.out GT.out).cell _ _ hkb).trans (hkc t ti)⟩
              have R6 : RRd 61 w' p S5 (fun j => layF f (8 * t + (8 + j))) (k - 8 * t - 8) := R5
              rw [layF_next, show k - 8 * t - 8 = k - 8 * (t + 1) by omega] at R6
              exact R6
            have hlt3 : (t : Int) < (k : Int) / 8 := by omega
            generalize f t = y at NU fi
            clear RT GT hkc
            go_wp2_with fail
            refine Calls.mono NU.out ?_
            rintro e w3 ⟨rfl, ⟨S3, r3⟩, g3, c3⟩
            have R3 : Aside (∃ S, RRd 61 w3 p S (fun j => layF f (8 * (t + 1) + j)) (k - 8 * (t + 1))) := ⟨S3, r3⟩
            have G3 : Aside (Gw w w3) := g3
            clear NU r3 g3
            go_wp2_with fail
            go_roundg (k / 8 - (t + 1))
            case measure => omega
            case rel =>
              obtain ⟨S3, r3⟩ := R3.out
              exact ⟨t + 1, S3, by go_num, by omega, Nat.le_refl _, r3, G3⟩
          · have et : t = k / 8 := by omega
            have hlt3 : ¬ (t : Int) < (k : Int) / 8 := by omega
            have nN : numA (fun j => layF f (8 * t + j)) (k - 8 * t) = (0, 100, 0) := by unfold numA; rw [if_pos (by omega)]
            have nF : floatA (fun j => layF f (8 * t + j)) (k - 8 * t) = (0, 100, 0) := by unfold floatA; rw [if_pos (by omega)]
            have nC : countA (fun j => layF f (8 * t + j)) (k - 8 * t) 5 = (0, 100, 0) := by unfold countA; rw [if_pos (by omega)]
            have RN : Hid (∀ W S, RRd 61 W p S (fun j => layF f (8 * t + j)) (k - 8 * t) → Calls Try.prog 19 #[.pointer (some ⟨p, 0, none⟩)] W fun e w' => e = .returned (.tuple #[.int .u64 0, .int .i64 100]) ∧ (Gw w W → Gw w w') ∧ ∃ S, RRd 61 w' p S (fun j => layF f (8 * t + j)) (k - 8 * t)) := fun W S r => by
              have X := xnumber_any (by omega) r
              rw [nN] at X
              exact X.mono fun e w' ⟨e1, U, S5, R5, _⟩ => ⟨e1, U.gw w P2.out, S5, by simpa using R5⟩
            have RF : Hid (∀ W S, RRd 61 W p S (fun j => layF f (8 * t + j)) (k - 8 * t) → Calls Try.prog 23 #[.pointer (some ⟨p, 0, none⟩)] W fun e w' => e = .returned (.tuple #[.float .f64 0, .int .i64 100]) ∧ (Gw w W → Gw w w') ∧ ∃ S, RRd 61 w' p S (fun j => layF f (8 * t + j)) (k - 8 * t)) := fun W S r => by
              have X := xfloat_any (by omega) r
              rw [nF] at X
              exact X.mono fun e w' ⟨e1, U, S5, R5, _⟩ => ⟨e1, U.gw w P2.out, S5, by simpa using R5⟩
            have RC : Hid (∀ W S, RRd 61 W p S (fun j => layF f (8 * t + j)) (k - 8 * t) → Calls Try.prog 21 #[.pointer (some ⟨p, 0, none⟩), .int .i64 5] W fun e w' => e = .returned (.tuple #[.int .i64 0, .int .i64 100]) ∧ (Gw w W → Gw w w') ∧ ∃ S, RRd 61 w' p S (fun j => layF f (8 * t + j)) (k - 8 * t)) := fun W S r => by
              have X := xcount_any 5 (by decide) (by decide) (by omega) r
              rw [nC] at X
              exact X.mono fun e w' ⟨e1, U, S5, R5, _⟩ => ⟨e1, U.gw w P2.out, S5, by simpa using R5⟩
            obtain ⟨r, hr⟩ : ∃ r, k - 8 * t = r := ⟨_, rfl⟩
            have km : ((r : Int) == (k : Int) % 8) = true := by simp; omega
            clear nN nF nC et
            go_wp2_with fail
            refine Calls.mono (RN.out _ _ RT.out) ?_
            rintro e w4 ⟨rfl, g4, S4, r4⟩
            have G4 : Aside (Gw w w4) := g4 GT.out
            have R4 : Aside (RRd 61 w4 p S4 (fun j => layF f (8 * t + j)) (k - 8 * t)) := r4
            clear g4 r4 RT GT RN
            go_wp2_with fail
            refine Calls.mono (RF.out _ _ R4.out) ?_
            rintro e w5 ⟨rfl, g5, S5, r5⟩
            have G5 : Aside (Gw w w5) := g5 G4.out
            have R5 : Aside (RRd 61 w5 p S5 (fun j => layF f (8 * t + j)) (k - 8 * t)) := r5
            clear g5 r5 R4 G4 RF
            go_wp2_with fail
            refine Calls.mono (RC.out _ _ R5.out) ?_
            rintro e w6 ⟨rfl, g6, S6, r6⟩
            have G6 : Aside (Gw w w6) := g6 G5.out
            have LF : Hid (Calls Try.prog 30 #[.pointer (some ⟨p, 0, none⟩)] w6 fun e w' => e = .returned (.int .i64 (r : Int)) ∧ w' = w6) := by
              have := xleft_any r6
              rw [hr] at this
              exact this
            clear g6 r6 R5 G5 RC
            go_wp2_with fail
            refine Calls.mono LF.out ?_
            rintro e w7 ⟨rfl, rfl⟩
            clear LF
            go_wp2_with fail
            go_ret
            exact ⟨rfl, G6.out⟩

end Go.Proofs.Ytmioagkmedcflaa
