/- OctetsBack, walked. -/
import Derived.Test.YtmioagkmedcflaaOLay
import Derived.Test.YtmioagkmedcflaaMBase
namespace Go.Proofs.Ytmioagkmedcflaa
open Go.RowKit
set_option linter.unusedVariables false
attribute [local go_sem] f64from f64bits

/-- Things to be laid down, in memory. -/
structure IT (w : World) (ao : Option Addr) (n : Nat) (k f : Nat → Int) : Prop where
  cells : 0 < n → ∃ b off, ao = some ⟨b, off, none⟩ ∧ b < w.heap.size ∧ ∀ i, i < n → w.cell? ⟨b, off + i * 2, none⟩ = some (.int .i64 (k i)) ∧ w.cell? ⟨b, off + i * 2 + 1, none⟩ = some (.int .u64 (f i))
  bd : ∀ i, i < n → (-9223372036854775808 ≤ k i ∧ k i < 9223372036854775808) ∧ 0 ≤ f i ∧ f i < 18446744073709551616

/-- A reader ahead of number t of n. -/
def AtB (T : TypeId) (f : Nat → Int) (p n : Nat) (W : World) (t : Nat) : Prop := ∃ S, RRd T W p S (fun j => layF f (8 * t + j)) (8 * n - 8 * t)
theorem AtB.gw {T : TypeId} {f : Nat → Int} {p n t : Nat} {W W' : World} (h : AtB T f p n W t) (g : Gw W W') : AtB T f p n W' t := by
  obtain ⟨S, r⟩ := h
  exact ⟨S, r.gw g⟩
theorem AtB.next {T : TypeId} {f : Nat → Int} {p n t : Nat} {W : World} {S : Nat → Prop} (h : RRd T W p S (fun j => layF f (8 * t + (8 + j))) (8 * n - 8 * t - 8)) : AtB T f p n W (t + 1) := by
  rw [layF_next, show 8 * n - 8 * t - 8 = 8 * n - 8 * (t + 1) by omega] at h
  exact ⟨S, h⟩
/-- What is no finite number, in its bits. -/
theorem wild_iff {x : Nat} (h : x < 18446744073709551616) : 9218868437227405312 ≤ rg x ↔ (x : Int) / 4503599627370496 % 2048 = 2047 := by
  unfold rg
  omega
theorem atb_left {f : Nat → Int} {p n t : Nat} {W : World} (h : AtB 61 f p n W t) :
    Calls Try.prog 30 #[.pointer (some ⟨p, 0, none⟩)] W fun e w' => e = .returned (.int .i64 ((8 * n - 8 * t : Nat) : Int)) ∧ w' = W := by
  obtain ⟨S, h⟩ := h
  exact xleft_any h
theorem atb_num {f : Nat → Int} {p n t : Nat} {w W : World} (hp : w.heap.size ≤ p) (hn : 8 * n ≤ 140737488355000) (ht : t < n) (f0 : 0 ≤ f t) (f1 : f t < 18446744073709551616) (g : Gw w W) (h : AtB 61 f p n W t) :
    Calls Try.prog 19 #[.pointer (some ⟨p, 0, none⟩)] W fun e w' => e = .returned (.tuple #[.int .u64 (f t), .int .i64 0]) ∧ AtB 61 f p n w' (t + 1) ∧ Gw w w' := by
  obtain ⟨S, h⟩ := h
  have X := xnumber_any (by omega) h
  unfold numA at X
  rw [if_neg (by omega), layF_num f t f0 f1] at X
  exact X.mono fun e w' ⟨e1, U, S5, R5, _⟩ => ⟨e1, AtB.next R5, U.gw w hp g⟩
theorem atb_short {f : Nat → Int} {p n : Nat} {w W : World} (hp : w.heap.size ≤ p) (g : Gw w W) (h : AtB 61 f p n W n) :
    Calls Try.prog 19 #[.pointer (some ⟨p, 0, none⟩)] W fun e w' => e = .returned (.tuple #[.int .u64 0, .int .i64 100]) ∧ AtB 61 f p n w' n ∧ Gw w w' := by
  obtain ⟨S, h⟩ := h
  have X := xnumber_any (by omega) h
  unfold numA at X
  rw [if_pos (by omega)] at X
  exact X.mono fun e w' ⟨e1, U, S5, R5, _⟩ => ⟨e1, ⟨S5, by simpa using R5⟩, U.gw w hp g⟩
theorem atb_float {f : Nat → Int} {p n t : Nat} {w W : World} (hp : w.heap.size ≤ p) (hn : 8 * n ≤ 140737488355000) (ht : t < n) (f0 : 0 ≤ f t) (f1 : f t < 18446744073709551616) (fin : ¬ 9218868437227405312 ≤ rg (f t).toNat) (g : Gw w W) (h : AtB 61 f p n W t) :
    Calls Try.prog 23 #[.pointer (some ⟨p, 0, none⟩)] W fun e w' => e = .returned (.tuple #[.float .f64 (f t).toNat, .int .i64 0]) ∧ AtB 61 f p n w' (t + 1) ∧ Gw w w' := by
  obtain ⟨S, h⟩ := h
  have X := xfloat_any (by omega) h
  unfold floatA at X
  rw [wild_iff (by omega), show (((f t).toNat : Nat) : Int) = f t by omega] at fin
  rw [if_neg (by omega), layF_num f t f0 f1, if_neg fin] at X
  exact X.mono fun e w' ⟨e1, U, S5, R5, _⟩ => ⟨e1, AtB.next R5, U.gw w hp g⟩
theorem atb_wild {f : Nat → Int} {p n t : Nat} {w W : World} (hp : w.heap.size ≤ p) (hn : 8 * n ≤ 140737488355000) (ht : t < n) (f0 : 0 ≤ f t) (f1 : f t < 18446744073709551616) (bad : 9218868437227405312 ≤ rg (f t).toNat) (g : Gw w W) (h : AtB 61 f p n W t) :
    Calls Try.prog 23 #[.pointer (some ⟨p, 0, none⟩)] W fun e w' => e = .returned (.tuple #[.float .f64 0, .int .i64 101]) ∧ AtB 61 f p n w' t ∧ Gw w w' := by
  obtain ⟨S, h⟩ := h
  have X := xfloat_any (by omega) h
  unfold floatA at X
  rw [wild_iff (by omega), show (((f t).toNat : Nat) : Int) = f t by omega] at bad
  rw [if_neg (by omega), layF_num f t f0 f1, if_pos bad] at X
  exact X.mono fun e w' ⟨e1, U, S5, R5, _⟩ => ⟨e1, ⟨S5, by simpa using R5⟩, U.gw w hp g⟩
set_option maxRecDepth 10000 in
set_option maxHeartbeats 4000000 in
theorem back10_walk (ao : Option Addr) (n c : Nat) (kd f : Nat → Int) (hn : n * 16 ≤ 140737488351232) (w : World) (h : IT w ao n kd f) :
    Calls Try.prog 5 #[.slice ao n c] w fun e w' => e = .returned (.bool true) ∧ Gw w w' := by
  have HK : Aside (IT w ao n kd f) := h
  clear h
  go_enter Try.func5, Try.ntmps5
  go_wp2_with fail
  refine Calls.mono (shown10 w) ?_
  rintro e w1 ⟨rfl, g1⟩
  have G1 : Aside (Gw w w1) := g1
  clear g1
  go_wp2_with fail
  go_loopg [4, 5] n (fun gg s4 s5 wr => ∃ (i : Nat) (bo : Option Addr), s4 = .slice bo (8 * i) (8 * i) ∧ s5 = .int .i64 (i : Int) ∧ i ≤ n ∧ n - i ≤ gg ∧ Aside (BS wr bo (8 * i) (layF f)) ∧ Aside (Gw w wr))
  case atStart => exact ⟨0, none, rfl, rfl, Nat.zero_le _, by omega, (show Aside _ from ⟨fun h => by omega, fun i hi => by omega⟩), G1⟩
  case round =>
    clear G1
    obtain ⟨i, bo, rfl, rfl, a1, a2, BI, GI⟩ := hrel
    obtain ⟨wS, hwS⟩ : ∃ wx, wx = wr := ⟨_, rfl⟩
    subst hwS
    by_cases hlt : i < n
    · obtain ⟨kb, ko, rfl, hkb, hkc⟩ := HK.out.cells (by omega)
      have CC : Hid (∀ W, Gw w W → W.cell? ⟨kb, ko + i * 2, none⟩ = some (.int .i64 (kd i)) ∧ W.cell? ⟨kb, ko + i * 2 + 1, none⟩ = some (.int .u64 (f i))) := fun W g => ⟨(g.cell _ _ hkb).trans (hkc i hlt).1, (g.cell _ _ hkb).trans (hkc i hlt).2⟩
      obtain ⟨kbd, fi⟩ := HK.out.bd i hlt
      have hlt' : (i : Int) < (n : Int) := by omega
      have PT : Hid (∀ W, Gw w W → Gw wS W → Calls Try.prog 10 #[.slice bo (8 * i) (8 * i), .int .u64 (f i)] W fun e w' => (∃ b, e = .returned (.slice (some ⟨b, 0, none⟩) (8 * (i + 1)) (8 * (i + 1))) ∧ BS w' (some ⟨b, 0, none⟩) (8 * (i + 1)) (layF f)) ∧ Gw w w') := fun W g1 g2 => (xput_any bo (8 * i) (8 * i) (layF f) (f i) fi.1 fi.2 (by omega) W (BI.out.gw g2)).mono fun e w' ⟨⟨b, e1, _, R⟩, g⟩ => ⟨⟨b, e1, bs_of_row (n := 8 * (i + 1)) (R.congr fun j hj => by rw [layF_cat f i j hj]) (by omega) (fun j _ => layF_bd f j)⟩, g1.trans g⟩
      have PF : Hid (∀ W, Gw w W → Gw wS W → Calls Try.prog 11 #[.slice bo (8 * i) (8 * i), .float .f64 (f i).toNat] W fun e w' => (∃ b, e = .returned (.slice (some ⟨b, 0, none⟩) (8 * (i + 1)) (8 * (i + 1))) ∧ BS w' (some ⟨b, 0, none⟩) (8 * (i + 1)) (layF f)) ∧ Gw w w') := fun W g1 g2 => (xputf_any bo (8 * i) (8 * i) (layF f) (f i).toNat (by omega) (by omega) W (BI.out.gw g2)).mono fun e w' ⟨⟨b, e1, _, R⟩, g⟩ => by
        rw [show (((f i).toNat : Nat) : Int) = f i by omega] at R
        exact ⟨⟨b, e1, bs_of_row (n := 8 * (i + 1)) (R.congr fun j hj => by rw [layF_cat f i j hj]) (by omega) (fun j _ => layF_bd f j)⟩, g1.trans g⟩
      obtain ⟨c1, c2⟩ := CC.out wS GI.out
      obtain ⟨y, hy⟩ : ∃ y, f i = y := ⟨_, rfl⟩
      rw [hy] at PT PF c2 fi CC
      obtain ⟨k, hk⟩ : ∃ k, kd i = k := ⟨_, rfl⟩
      rw [hk] at c1 kbd CC
      clear hkc BI hy hk
      by_cases ev : k.tmod 2 = 0
      · have ev' : (k.tmod 2 == 0) = true := by simpa using ev
        clear PF ev
        go_wp2_with fail
        refine Calls.mono (PT.out _ GI.out (Gw.refl _)) ?_
        rintro e w2 ⟨⟨b, rfl, b2⟩, g2⟩
        have B2 : Aside (BS w2 (some ⟨b, 0, none⟩) (8 * (i + 1)) (layF f)) := b2
        have G2 : Aside (Gw w w2) := g2
        clear PT b2 g2 GI CC
        go_wp2_with fail
        go_roundg (n - (i + 1))
        case measure => omega
        case rel => exact ⟨i + 1, _, rfl, by go_num, by omega, Nat.le_refl _, B2, G2⟩
      · have ev' : (k.tmod 2 == 0) = false := by simpa using ev
        by_cases bad : 9218868437227405312 ≤ rg y.toNat
        · have k1 : ∀ w, (binOp .sub 25 (.float .f64 y.toNat) (.float .f64 y.toNat)).run Try.prog w = .ok (.float .f64 (nanw y.toNat y.toNat w)) w.drew := fun w => run_sub_none _ _ _ (sub_none bad) w
          have k2 : ∀ w, (FloatKind.f64.format.order (nanw y.toNat y.toNat w) 0 != some .eq) = true := fun w => nan_ne (nanw_rg _ _ _)
          clear PF ev bad
          go_wp2_with fail
          refine Calls.mono (PT.out _ GI.out.drew (Gw.refl _).drew) ?_
          rintro e w2 ⟨⟨b, rfl, b2⟩, g2⟩
          have B2 : Aside (BS w2 (some ⟨b, 0, none⟩) (8 * (i + 1)) (layF f)) := b2
          have G2 : Aside (Gw w w2) := g2
          clear PT b2 g2 GI CC
          go_wp2_with fail
          go_roundg (n - (i + 1))
          case measure => omega
          case rel => exact ⟨i + 1, _, rfl, by go_num, by omega, Nat.le_refl _, B2, G2⟩
        · obtain ⟨z, e, hz⟩ := sub_self (x := y.toNat) (by omega)
          have k1 : ∀ w, (binOp .sub 25 (.float .f64 y.toNat) (.float .f64 y.toNat)).run Try.prog w = .ok (.float .f64 z) w := fun w => run_float_arith w .sub _ _ _ _ _ e
          clear PT ev bad e
          go_wp2_with fail
          refine Calls.mono (PF.out _ GI.out (Gw.refl _)) ?_
          rintro e w2 ⟨⟨b, rfl, b2⟩, g2⟩
          have B2 : Aside (BS w2 (some ⟨b, 0, none⟩) (8 * (i + 1)) (layF f)) := b2
          have G2 : Aside (Gw w w2) := g2
          clear PF b2 g2 GI CC
          go_wp2_with fail
          go_roundg (n - (i + 1))
          case measure => omega
          case rel => exact ⟨i + 1, _, rfl, by go_num, by omega, Nat.le_refl _, B2, G2⟩
    · have ei : i = n := by omega
      subst ei
      go_wp2_with fail
      have NW : Hid (Calls Try.prog 16 #[.slice bo (8 * i) (8 * i)] wS fun e w' => (∃ p, e = .returned (.pointer (some ⟨p, 0, none⟩)) ∧ AtB 61 f p i w' 0 ∧ w.heap.size ≤ p) ∧ Gw wS w') := (xnew_any bo (8 * i) (8 * i) (layF f) (by omega) wS BI.out).mono fun e w' ⟨⟨p, S, e1, r, hs⟩, g⟩ => ⟨⟨p, e1, ⟨S, by simpa using r⟩, Nat.le_trans GI.out.size (hs p r.own)⟩, g⟩
      clear BI
      refine Calls.mono NW.out ?_
      rintro e w2 ⟨⟨p, rfl, RD, hp⟩, g⟩
      have G2 : Aside (Gw w w2) := GI.out.trans g
      have R2 : Aside (AtB 61 f p i w2 0) := RD
      have P2 : Aside (w.heap.size ≤ p) := hp
      clear NW g RD hp GI
      go_wp2_with fail
      go_loopg [8] i (fun gg s8 wr => ∃ (t : Nat), s8 = .int .i64 (t : Int) ∧ t ≤ i ∧ i - t ≤ gg ∧ Aside (AtB 61 f p i wr t) ∧ Aside (Gw w wr))
      case atStart => exact ⟨0, rfl, Nat.zero_le _, by omega, R2, G2⟩
      case round =>
        clear R2 G2
        obtain ⟨t, rfl, b1, b2, RT, GT⟩ := hrel
        obtain ⟨wT, hwT⟩ : ∃ wx, wx = wr := ⟨_, rfl⟩
        subst hwT
        by_cases hlt2 : t < i
        · obtain ⟨kb, ko, rfl, hkb, hkc⟩ := HK.out.cells (by omega)
          have CC : Hid (∀ W, Gw w W → W.cell? ⟨kb, ko + t * 2, none⟩ = some (.int .i64 (kd t)) ∧ W.cell? ⟨kb, ko + t * 2 + 1, none⟩ = some (.int .u64 (f t))) := fun W g => ⟨(g.cell _ _ hkb).trans (hkc t hlt2).1, (g.cell _ _ hkb).trans (hkc t hlt2).2⟩
          obtain ⟨kbd, fi⟩ := HK.out.bd t hlt2
          have hlt' : (t : Int) < (i : Int) := by omega
          obtain ⟨l8, hl8⟩ : ∃ l8, 8 * i - 8 * t = l8 := ⟨_, rfl⟩
          have el : 8 * ((i : Int) - (t : Int)) = (l8 : Int) := by omega
          have LF : Hid (∀ W, AtB 61 f p i W t → Calls Try.prog 30 #[.pointer (some ⟨p, 0, none⟩)] W fun e w' => e = .returned (.int .i64 (l8 : Int)) ∧ w' = W) := fun W h => by
            have := atb_left h
            rw [hl8] at this
            exact this
          have NU : Hid (∀ W, Gw w W → AtB 61 f p i W t → Calls Try.prog 19 #[.pointer (some ⟨p, 0, none⟩)] W fun e w' => e = .returned (.tuple #[.int .u64 (f t), .int .i64 0]) ∧ AtB 61 f p i w' (t + 1) ∧ Gw w w') := fun W g h => atb_num P2.out (by omega) hlt2 fi.1 fi.2 g h
          have FO : Hid (∀ W, ¬ 9218868437227405312 ≤ rg (f t).toNat → Gw w W → AtB 61 f p i W t → Calls Try.prog 23 #[.pointer (some ⟨p, 0, none⟩)] W fun e w' => e = .returned (.tuple #[.float .f64 (f t).toNat, .int .i64 0]) ∧ AtB 61 f p i w' (t + 1) ∧ Gw w w') := fun W b g h => atb_float P2.out (by omega) hlt2 fi.1 fi.2 b g h
          have FW : Hid (∀ W, 9218868437227405312 ≤ rg (f t).toNat → Gw w W → AtB 61 f p i W t → Calls Try.prog 23 #[.pointer (some ⟨p, 0, none⟩)] W fun e w' => e = .returned (.tuple #[.float .f64 0, .int .i64 101]) ∧ AtB 61 f p i w' t ∧ Gw w w') := fun W b g h => atb_wild P2.out (by omega) hlt2 fi.1 fi.2 b g h
          obtain ⟨c1, c2⟩ := CC.out wT GT.out
          obtain ⟨y, hy⟩ : ∃ y, f t = y := ⟨_, rfl⟩
          rw [hy] at NU FO FW c2 fi CC
          obtain ⟨k, hk⟩ : ∃ k, kd t = k := ⟨_, rfl⟩
          rw [hk] at c1 kbd CC
          clear hkc hy hk hl8
          go_wp2_with fail
          refine Calls.mono (LF.out _ RT.out) ?_
          rintro e wL ⟨rfl, rfl⟩
          by_cases ev : k.tmod 2 = 0
          · have ev' : (k.tmod 2 != 0) = false := by simpa [bne] using ev
            clear FO FW LF ev
            go_wp2_with fail
            refine Calls.mono (NU.out _ GT.out RT.out) ?_
            rintro e w5 ⟨rfl, r5, g5⟩
            have R5 : Aside (AtB 61 f p i w5 (t + 1)) := r5
            have G5 : Aside (Gw w w5) := g5
            have d2 := (CC.out w5 g5).2
            clear r5 g5 NU GT RT c1 c2 CC
            go_wp2_with fail
            go_roundg (i - (t + 1))
            case measure => omega
            case rel => exact ⟨t + 1, by go_num, by omega, Nat.le_refl _, R5, G5⟩
          · have ev' : (k.tmod 2 != 0) = true := by simpa [bne] using ev
            clear ev
            by_cases bad : 9218868437227405312 ≤ rg y.toNat
            · have k1 : ∀ w, (binOp .sub 25 (.float .f64 y.toNat) (.float .f64 y.toNat)).run Try.prog w = .ok (.float .f64 (nanw y.toNat y.toNat w)) w.drew := fun w => run_sub_none _ _ _ (sub_none bad) w
              have k2 : ∀ w, (FloatKind.f64.format.order (nanw y.toNat y.toNat w) 0 != some .eq) = true := fun w => nan_ne (nanw_rg _ _ _)
              have z0 : (FloatKind.f64.format.order 0 0 != some .eq) = false := by decide
              have BAD : Aside (9218868437227405312 ≤ rg y.toNat) := bad
              clear FO bad
              go_wp2_with fail
              refine Calls.mono (FW.out _ BAD.out GT.out RT.out) ?_
              rintro e w5 ⟨rfl, r5, g5⟩
              have R5 : Aside (AtB 61 f p i w5.drew t) := r5.gw (Gw.refl w5).drew
              have G5 : Aside (Gw w w5.drew) := g5.drew
              clear r5 g5 GT RT c1 c2 FW
              go_wp2_with fail
              refine Calls.mono (LF.out _ R5.out) ?_
              rintro e w6 ⟨rfl, rfl⟩
              clear LF
              go_wp2_with fail
              refine Calls.mono (NU.out _ G5.out R5.out) ?_
              rintro e w7 ⟨rfl, r7, g7⟩
              have R7 : Aside (AtB 61 f p i w7 (t + 1)) := r7
              have G7 : Aside (Gw w w7) := g7
              have d2 := (CC.out w7 g7).2
              clear r7 g7 NU R5 G5 CC
              go_wp2_with fail
              go_roundg (i - (t + 1))
              case measure => omega
              case rel => exact ⟨t + 1, by go_num, by omega, Nat.le_refl _, R7, G7⟩
            · obtain ⟨z, e, hz⟩ := sub_self (x := y.toNat) (by omega)
              have k1 : ∀ w, (binOp .sub 25 (.float .f64 y.toNat) (.float .f64 y.toNat)).run Try.prog w = .ok (.float .f64 z) w := fun w => run_float_arith w .sub _ _ _ _ _ e
              have FIN : Aside (¬ 9218868437227405312 ≤ rg y.toNat) := bad
              have yy : ((y.toNat : Nat) : Int) = y := by omega
              clear FW bad e NU LF
              go_wp2_with fail
              refine Calls.mono (FO.out _ FIN.out GT.out RT.out) ?_
              rintro e w5 ⟨rfl, r5, g5⟩
              have R5 : Aside (AtB 61 f p i w5 (t + 1)) := r5
              have G5 : Aside (Gw w w5) := g5
              have d2 := (CC.out w5 g5).2
              clear r5 g5 GT RT c1 c2 CC FO
              go_wp2_with fail
              go_quiet (first | simp only [f64bits])
              go_wp2_with fail
              go_roundg (i - (t + 1))
              case measure => omega
              case rel => exact ⟨t + 1, by go_num, by omega, Nat.le_refl _, (show Aside _ from R5.out.gw ((Gw.refl w5).drewN _)), (show Aside _ from G5.out.drewN _)⟩
        · have et : t = i := by omega
          have RE : Aside (AtB 61 f p i wT i) := et ▸ RT
          subst et
          clear RT
          go_wp2_with fail
          refine Calls.mono (atb_short P2.out GT.out RE.out) ?_
          rintro e w5 ⟨rfl, r5, g5⟩
          have LF : Hid (Calls Try.prog 30 #[.pointer (some ⟨p, 0, none⟩)] w5 fun e w' => e = .returned (.int .i64 0) ∧ w' = w5) := by
            have := atb_left r5
            rw [Nat.sub_self] at this
            exact this
          have G5 : Aside (Gw w w5) := g5
          clear r5 g5 RE GT
          go_wp2_with fail
          refine Calls.mono LF.out ?_
          rintro e w6 ⟨rfl, rfl⟩
          clear LF
          go_wp2_with fail
          go_ret
          exact ⟨rfl, G5.out⟩

end Go.Proofs.Ytmioagkmedcflaa
