/- LevelsFew's walk. -/
import Derived.Test.YtmmkmakajolfhaaVWRight
import Derived.Test.YtmmkmakajolfhaaVTop
namespace Go.Proofs.Ytmmkmakajolfhaa
open Go.RowKit
set_option linter.unusedVariables false
attribute [local go_sem] run_store_float

set_option maxRecDepth 10000 in
set_option maxHeartbeats 8000000 in
theorem few8_walk (LL : LevelsC) (ao : Option Addr) (n cp : Nat) (f : Nat → Int) (eps : Int) (e0 : -9223372036854775808 ≤ eps) (e1 : eps < 9223372036854775808) (hn : n ≤ 2000000) (hcp : n ≤ cp) (w : World) (h : KS w ao n f) :
    Calls Try.prog 6 #[.slice ao n cp, .int .i64 eps] w fun e w' => e = .returned (.bool true) ∧ Gw w w' := by
  have HK : Aside (KS w ao n f) := h
  clear h
  have SH : Hid (∀ W, Calls Try.prog 8 #[] W fun e w' => e = .returned (.bool true) ∧ Gw W w') := fun W => shown8 LL W
  have BU : Hid (∀ W, KS W ao n f → _) := fun W h => LL.build eps ao n cp f e0 e1 hn hcp W h
  have RI : Hid (∀ W, KS W ao n f → _) := fun W h => rrising_any ao n cp f (by omega) W h
  have MH : Hid (∀ W, _) := fun W => LL.height (n : Int) eps (by omega) (by omega) e0 e1 W
  clear LL
  go_enter Try.func6, Try.ntmps6
  go_wp2_with fail
  refine (SH.out _).mono ?_
  rintro e w1 ⟨rfl, g1⟩
  have G1 : Aside (Gw w w1) := g1
  clear g1
  go_wp2_with fail
  refine (BU.out _ (HK.out.gw G1.out)).mono ?_
  rintro e w2 ⟨⟨lo, lc, L, err, rfl, hB, hV, hl⟩, g2⟩
  have G2 : Aside (Gw w w2) := G1.out.trans g2
  have V2 : Aside (VS w2 lo L) := hV
  clear g2 G1 hV
  rcases hB with ⟨k0, hL, hE⟩ | ⟨k0, k1, hL, hE⟩ | ⟨k0, k1, hR, hE⟩
  · subst hL hE
    by_cases h2 : eps < 2
    · have t1 : decide (eps < 2) = true := by simpa using h2
      clear k0 h2 V2
      go_wp2_with fail
      go_ret
      exact ⟨rfl, G2.out⟩
    · have t1 : decide (eps < 2) = false := by simpa using h2
      have t2 : decide (64 < eps) = true := by simp; omega
      clear k0 h2 V2
      go_wp2_with fail
      go_ret
      exact ⟨rfl, G2.out⟩
  · subst hL hE
    have t1 : decide (eps < 2) = false := by simp; omega
    have t2 : decide (64 < eps) = false := by simp; omega
    have NU : Aside (¬ Up f n) := k1
    clear k0 k1 V2
    go_wp2_with fail
    refine (RI.out _ (HK.out.gw G2.out)).mono ?_
    rintro e w3 ⟨⟨r, rfl, hr⟩, g3⟩
    have G3 : Aside (Gw w w3) := G2.out.trans g3
    obtain rfl : r = false := by
      cases r with
      | false => rfl
      | true => exact absurd (hr.1 rfl) NU.out
    clear g3 hr
    go_wp2_with fail
    go_ret
    exact ⟨rfl, G3.out⟩
  · subst hE
    have t1 : decide (eps < 2) = false := by simp; omega
    have t2 : decide (64 < eps) = false := by simp; omega
    have UP : Aside (Up f n) := k1
    have LW := hR.low k0.1 hn HK.out.bd k1
    have NN := hR.none
    have HR : Aside (BuildR eps f n L) := hR
    have ST : Aside (Short L) := hR.isShort k0.1 hn HK.out.bd k1
    obtain ⟨e, he⟩ : ∃ e : Nat, eps = e := ⟨eps.toNat, by omega⟩
    subst he
    rw [Int.toNat_natCast] at LW
    have ee : 2 ≤ e := by omega
    have e64 : e ≤ 64 := by omega
    have HM : mxh (n : Int) (e : Int) = (hgt e n : Nat) := by
      by_cases z : n = 0
      · subst z; exact if_neg (fun q => by have := q.2.2; omega)
      · unfold mxh
        rw [if_pos ⟨k0.1, k0.2, by omega⟩, Int.toNat_natCast, Int.toNat_natCast]
    rw [HM] at MH
    obtain ⟨ln, hln⟩ : ∃ ln, L.length = ln := ⟨_, rfl⟩
    have LN : Aside (L.length = ln) := hln
    have lnb : ln ≤ 2000000 := by rw [← hln]; exact ST.out.1
    have ZZ : Aside ((ln = 0 ∧ n = 0) ∨ (0 < ln ∧ 0 < n)) := by
      rw [← List.length_eq_zero_iff, hln] at NN
      show _ ∨ _
      omega
    rw [hln] at LW hl ⊢
    generalize hgt e n = H at MH LW
    have tH : decide ((H : Int) < (ln : Int)) = false := by simp; omega
    have tH' : ¬ H < ln := by omega
    clear k0 k1 hR NN HM hln
    go_wp2_with fail
    refine (RI.out _ (HK.out.gw G2.out)).mono ?_
    rintro e' w3 ⟨⟨r, rfl, hr⟩, g3⟩
    have G3 : Aside (Gw w w3) := G2.out.trans g3
    have V3 : Aside (VS w3 lo L) := V2.out.gw g3
    obtain rfl : r = true := hr.2 UP.out
    clear g3 hr V2
    go_wp2_with fail
    refine (MH.out _).mono ?_
    rintro e' w4 ⟨rfl, g4⟩
    have G4 : Aside (Gw w w4) := G3.out.trans g4
    have V4 : Aside (VS w4 lo L) := V3.out.gw g4
    clear g4 V3 G3 G2
    have INV0 : Aside (0 < ln → BuildR e f n L) := fun _ => HR.out
    rcases ZZ.out with ⟨z1, z2⟩ | ⟨z1, z2⟩
    · clear INV0 HR ST tH tH' LW hl LN ZZ MH BU RI SH HK UP V4
      subst z1 z2
      have tH : decide ((H : Int) < 0) = false := by simp
      go_wp2_with fail
      go_loopg [9] 0 (fun gg s9 wr => s9 = .int .i64 0 ∧ Aside (Gw w wr))
      case atStart => exact ⟨rfl, G4⟩
      case round =>
        obtain ⟨rfl, G⟩ := hrel
        go_wp2_with fail
        go_ret
        exact ⟨rfl, G.out⟩
    · have b1 : ((ln : Int) == 0) = false := by simp; omega
      have b2 : ((n : Int) == 0) = false := by simp; omega
      have nl : ¬ ln = 0 := by omega
      have nn : ¬ n = 0 := by omega
      have BD : Aside (∀ t, t < n → 0 ≤ f t ∧ f t < 18446744073709551616) := HK.out.bd
      clear INV0 MH BU RI SH HK
      go_wp2_with fail
      go_loopg [8, 9] ln (fun gg s8 s9 wr => ∃ (i m : Nat) (g : Nat → Int), s8 = .int .i64 m ∧ s9 = .int .i64 i ∧ i ≤ ln ∧ ln - i ≤ gg ∧ m ≤ 2000000 ∧ Aside (Up g m ∧ ∀ t, t < m → 0 ≤ g t ∧ g t < 18446744073709551616) ∧ Aside (i < ln → BuildR e g m (L.drop i)) ∧ Aside (i = ln → m = 1) ∧ Aside (Gw w4 wr))
      case atStart => exact ⟨0, n, f, rfl, rfl, Nat.zero_le _, by omega, hn, (show Aside _ from ⟨UP.out, BD.out⟩), (show Aside _ from fun _ => HR.out), (show Aside _ from fun q => by omega), (show Aside _ from Gw.refl w4)⟩
      case round =>
        obtain ⟨i, m, g, rfl, rfl, h1, h2, h3, UB, EC, EL, G⟩ := hrel
        by_cases hlt : i < ln
        · obtain ⟨lb, lf, rfl, hlb, hc⟩ := (V4.out.gw G.out).cells (by rw [LN.out]; omega)
          obtain ⟨so, sc, p1, p2, p3, p4⟩ := hc i (by rw [LN.out]; exact hlt)
          have EB := EC.out hlt
          rw [dropL_at (show i < L.length by rw [LN.out]; exact hlt)] at EB
          have RN : L.drop (i + 1) = [] ↔ i + 1 = ln := by
            have ll : (L.drop (i + 1)).length = ln - (i + 1) := by rw [List.length_drop, LN.out]
            rw [← List.length_eq_zero_iff, ll]
            omega
          clear hc EC EL
          generalize L.getD i [] = l at p1 p2 p3 p4 EB
          obtain ⟨m0, LV, RB⟩ := EB
          have TI : Aside (tileB m 0 l = true) := LV.tiles h3 UB.out.2
          have FW := LV.few (by omega) m0 h3 UB.out.2 UB.out.1
          have LE := LV.len h3 UB.out.2
          have WD : Aside (∀ t, t + 1 < l.length → 2 * (e : Int) - 1 ≤ (l.getD t sg0).te - (l.getD t sg0).fr) := fun t ht => LV.wide (by omega) h3 UB.out.2 UB.out.1 t ht
          have l0 : 0 < l.length := List.length_pos_iff.2 (LV.some m0)
          obtain ⟨u1, _, u3⟩ := fst8_up UB.out.1 TI.out (LV.keys h3 UB.out.2)
          have UB' : Aside (Up (fst8 l) l.length ∧ ∀ t, t < l.length → 0 ≤ fst8 l t ∧ fst8 l t < 18446744073709551616) := ⟨u1, fst8_bd UB.out.2 u3⟩
          have RB' : Aside ((i + 1 < ln → BuildR e (fst8 l) l.length (L.drop (i + 1))) ∧ (i + 1 = ln → l.length = 1)) := by
            by_cases q : l.length = 1
            · rw [if_pos q] at RB
              exact ⟨fun h => absurd (RN.1 RB) (by omega), fun _ => q⟩
            · rw [if_neg q] at RB
              refine ⟨fun _ => RB, fun h => ?_⟩
              rw [RN.2 h] at RB
              have : l.length = 0 := RB
              omega
          have GL : Aside (GS wr so l) := p4
          rw [Int.toNat_natCast] at FW
          have f1 := FW.1
          clear u1 u3 LV RB RN FW p2 p3 p4
          obtain ⟨sn, hsn⟩ : ∃ sn, l.length = sn := ⟨_, rfl⟩
          have SN : Aside (l.length = sn) := hsn
          rw [hsn] at p1 l0 f1 LE UB' RB'
          obtain ⟨d, hd⟩ : ∃ d, m / e = d := ⟨_, rfl⟩
          have td : Int.tdiv (m : Int) (e : Int) = (d : Int) := by rw [← hd]; rfl
          rw [hd] at f1
          have dm : d ≤ m := by rw [← hd]; exact Nat.div_le_self m e
          have ez : ((e : Int) == 0) = false := by simp; omega
          have s1 : ¬ sn < 1 := by omega
          have s1' : decide ((sn : Int) < 1) = false := by simp; omega
          have s2 : ¬ d + 1 < sn := by omega
          have s2' : decide ((d : Int) + 1 < (sn : Int)) = false := by simp; omega
          have L8 : Aside (wr.cell? ⟨lb, lf + i, none⟩ = some (.slice so sn sc) ∧ lb < wr.heap.size) := ⟨p1, hlb⟩
          obtain ⟨w8, hw8⟩ : ∃ wx, wx = wr := ⟨_, rfl⟩
          subst hw8
          clear hsn hd
          go_wp2_with fail
          go_quiet (fail)
          go_wp2_with fail
          have D9 : Aside (Gw w8 (w8.drewN nq)) := (Gw.refl w8).drewN _
          generalize w8.drewN nq = w9 at D9 ⊢
          clear p1 hlb s1 s1' s2 s2'
          go_loopg [10, 11] sn (fun gg s10 s11 wr => ∃ k a : Nat, s10 = .int .i64 a ∧ s11 = .int .i64 k ∧ k ≤ sn ∧ sn - k ≤ gg ∧ a ≤ m ∧ Aside (k < sn → (l.getD k sg0).fr = a) ∧ Aside (k = sn → a = m) ∧ Aside (Gw w8 wr))
          case atStart => exact ⟨0, 0, rfl, rfl, Nat.zero_le _, by omega, Nat.zero_le _, (show Aside _ from fun h => (tile_at TI.out 0 (by rw [SN.out]; exact h)).2.2.2.1 rfl), (show Aside _ from fun h => by omega), D9⟩
          case round =>
            obtain ⟨k, a, rfl, rfl, j1, j2, j3, AF, AL, GW⟩ := hrel
            have p1 : wr.cell? ⟨lb, lf + i, none⟩ = some (.slice so sn sc) := (GW.out.cell _ _ L8.out.2).trans L8.out.1
            have hlb : lb < wr.heap.size := Nat.lt_of_lt_of_le L8.out.2 GW.out.size
            by_cases klt : k < sn
            · obtain ⟨sb, sf, rfl, hsb, hsc⟩ := (GL.out.gw GW.out).cells (by rw [SN.out]; omega)
              have C := hsc k (by rw [SN.out]; exact klt)
              have TA := tile_at TI.out k (by rw [SN.out]; exact klt)
              have WK := WD.out k
              have FA := AF.out klt
              have NF : k + 1 < sn → (l.getD (k + 1) sg0).fr = (l.getD k sg0).te := fun h => TA.2.2.2.2.1 (by rw [SN.out]; exact h)
              have NL : k + 1 = sn → (l.getD k sg0).te = m := fun h => TA.2.2.2.2.2 (by rw [SN.out]; exact h)
              rw [SN.out] at WK
              clear hsc AF AL
              generalize l.getD k sg0 = s at C TA WK FA NF NL
              obtain ⟨sk, ssl, sic, sfr, ste⟩ := s
              have ta1 : sfr < ste := TA.2.1
              have ta2 : ste ≤ (m : Int) := TA.2.2.1
              obtain rfl : sfr = (a : Int) := FA
              obtain ⟨tb, htb⟩ : ∃ tb : Nat, ste = tb := ⟨ste.toNat, by omega⟩
              subst htb
              have c0 : wr.cell? ⟨sb, sf + k * 5, none⟩ = some (.int .u64 sk) := C.c0
              have c1 : wr.cell? ⟨sb, sf + k * 5 + 1, none⟩ = some (.float .f64 ssl) := C.c1
              have c2 : wr.cell? ⟨sb, sf + k * 5 + 2, none⟩ = some (.float .f64 sic) := C.c2
              have c3 : wr.cell? ⟨sb, sf + k * 5 + 3, none⟩ = some (.int .i64 (a : Int)) := C.c3
              have c4 : wr.cell? ⟨sb, sf + k * 5 + 4, none⟩ = some (.int .i64 (tb : Int)) := C.c4
              have d1 : ((a : Int) != (a : Int)) = false := by simp
              have d2 : ¬ tb ≤ a := by omega
              have d2' : decide ((tb : Int) ≤ (a : Int)) = false := by simp; omega
              have wk1 : IntKind.i64.wrap ((k : Int) + 1) = (k : Int) + 1 := by rw [IntKind.wrap_i64]; omega
              have ww : IntKind.i64.wrap ((tb : Int) - (a : Int)) = (tb : Int) - (a : Int) := by rw [IntKind.wrap_i64]; omega
              have we : IntKind.i64.wrap (2 * (e : Int)) = 2 * (e : Int) := by rw [IntKind.wrap_i64]; omega
              have we' : IntKind.i64.wrap (2 * (e : Int) - 1) = 2 * (e : Int) - 1 := by rw [IntKind.wrap_i64]; omega
              have GW' : Aside (Gw w8 (wr.alloc (.cells #[.int .u64 sk, .float .f64 ssl, .float .f64 sic, .int .i64 (a : Int), .int .i64 (tb : Int)] 40))) := GW.out.alloc _ _
              have AF' : Aside (k + 1 < sn → (l.getD (k + 1) sg0).fr = tb) := NF
              have AL' : Aside (k + 1 = sn → tb = m) := fun h => by have : (tb : Int) = m := NL h; omega
              have tm : tb ≤ m := by omega
              by_cases last : k + 1 < sn
              · have t9 : decide ((k : Int) + 1 < (sn : Int)) = true := by simp; omega
                have wk := WK last
                have wk' : 2 * (e : Int) - 1 ≤ (tb : Int) - (a : Int) := wk
                have t10 : decide ((tb : Int) - (a : Int) < 2 * (e : Int) - 1) = false := by simp; omega
                clear C TA WK NF NL wk wk' ta1 ta2
                go_wp2_with fail
                go_roundg (sn - (k + 1))
                case measure => omega
                case rel => exact ⟨k + 1, tb, rfl, by go_num, by omega, Nat.le_refl _, tm, AF', AL', GW'⟩
              · have t9 : decide ((k : Int) + 1 < (sn : Int)) = false := by simp; omega
                clear C TA WK NF NL ta1 ta2
                go_wp2_with fail
                go_roundg (sn - (k + 1))
                case measure => omega
                case rel => exact ⟨k + 1, tb, rfl, by go_num, by omega, Nat.le_refl _, tm, AF', AL', GW'⟩
            · have ek : k = sn := by omega
              subst ek
              have am : a = m := AL.out rfl
              subst am
              have GX : Aside (Gw w4 wr) := G.out.trans GW.out
              go_wp2_with fail
              go_roundg (ln - (i + 1))
              case measure => omega
              case rel => exact ⟨i + 1, k, fst8 l, rfl, by go_num, by omega, Nat.le_refl _, by omega, UB', (show Aside _ from RB'.out.1), (show Aside _ from RB'.out.2), GX⟩
        · have ei : i = ln := by omega
          subst ei
          have m1 : m = 1 := EL.out rfl
          subst m1
          go_wp2_with fail
          go_ret
          exact ⟨rfl, G4.out.trans G.out⟩

end Go.Proofs.Ytmmkmakajolfhaa
