/- CutLong's walk. -/
import Derived.Test.YtlocnkoeffoflaaEWFew
namespace Go.Proofs.Ytlocnkoeffoflaa
open Go.RowKit
set_option linter.unusedVariables false

set_option maxRecDepth 10000 in
set_option maxHeartbeats 8000000 in
theorem long_walk (CC : CutC) (ao : Option Addr) (n cp : Nat) (f : Nat → Int) (eps : Int) (p0 : -9223372036854775808 ≤ eps) (p1 : eps < 9223372036854775808) (hn : n * 8 ≤ 140737488351232) (hcp : n ≤ cp) (w : World) (h : KS w ao n f) :
    Calls Try.prog 5 #[.slice ao n cp, .int .i64 eps] w fun e w' => e = .returned (.bool true) ∧ Gw w w' := by
  have HK : Aside (KS w ao n f) := h
  clear h
  have SH : Hid _ := fun W => eshown CC W
  by_cases h300 : 300 < n
  · have t0 : decide (300 < (n : Int)) = true := by simp; omega
    have t0' : (300 : Int) < (n : Int) := by omega
    clear CC
    go_enter Try.func5, Try.ntmps5
    go_wp2_with fail
    refine (SH.out _).mono ?_
    rintro e w1 ⟨rfl, g1⟩
    go_wp2_with fail
    go_ret
    exact ⟨rfl, g1⟩
  · have t0 : decide (300 < (n : Int)) = false := by simp; omega
    have t0' : ¬ (300 : Int) < (n : Int) := by omega
    have RI : Hid _ := fun W h => right_any CC eps ao n cp f p0 p1 (by omega) hcp W h
    have EE : Hid _ := fun W h => CC.ends eps ao n cp f p0 p1 (by omega) hcp W h
    clear CC
    go_enter Try.func5, Try.ntmps5
    go_wp2_with fail
    refine (SH.out _).mono ?_
    rintro e w1 ⟨rfl, g1⟩
    have G1 : Aside (Gw w w1) := g1
    clear g1
    go_wp2_with fail
    refine (RI.out _ (HK.out.gw G1.out)).mono ?_
    rintro e w2 ⟨⟨r, rfl, hr⟩, g2⟩
    have HR : Aside (r = true ↔ ((2 ≤ eps ∧ eps ≤ 64) ∧ Up f n)) := hr
    have G2 : Aside (Gw w w2) := G1.out.trans g2
    clear hr g2 G1
    cases r with
    | false =>
      clear HR
      go_wp2_with fail
      go_ret
      exact ⟨rfl, G2.out⟩
    | true =>
      have KK : Aside ((2 ≤ eps ∧ eps ≤ 64) ∧ Up f n) := HR.out.1 rfl
      have e1 := KK.out.1.1
      have e2 := KK.out.1.2
      clear HR
      go_wp2_with fail
      refine (EE.out _ (HK.out.gw G2.out)).mono ?_
      rintro e w3 ⟨⟨v, l, err, rfl, hE, hI⟩, g3⟩
      obtain ⟨hEnds, rfl⟩ := hE.right KK.out
      have ED : Aside (EndsAt (eps - 1) f n 0 l) := hEnds
      obtain ⟨bo, cap, rfl, hL⟩ := ir_ls hI
      have LL : Aside (LS w3 bo l) := hL
      have G3 : Aside (Gw w w3) := G2.out.trans g3
      have K3 : Aside (KS w3 ao n f) := HK.out.gw G3.out
      clear hE hEnds hI hL g3 G2
      have ln := ED.out.len
      have ST : Aside (∀ t, t < l.length → starts 0 l t < l.getD t 0 ∧ l.getD t 0 ≤ n ∧ FitsOn (eps - 1) (sh f (starts 0 l t)) (Prs (l.getD t 0 - starts 0 l t)) ∧ (l.getD t 0 < n → ¬ FitsOn (eps - 1) (sh f (starts 0 l t)) (Prs (l.getD t 0 + 1 - starts 0 l t)))) := fun t ht => by
        obtain ⟨s1, s2, s3, s4, _⟩ := ED.out.step t ht
        exact ⟨s1, s2, s3, s4⟩
      have SS : Aside (∀ t, starts 0 l (t + 1) = l.getD t 0) := fun t => rfl
      have FI : Aside (starts 0 l l.length = n) := by
        cases hl : l.length with
        | zero =>
          have : l = [] := List.eq_nil_of_length_eq_zero hl
          have e := ED.out
          rw [this] at e
          exact e
        | succ t =>
          show l.getD t 0 = n
          exact (ED.out.last t (by omega)).2 (by omega)
      have CE : Aside (∀ w', Gw w3 w' → ∀ i, i < l.length → ∃ b off, bo = some ⟨b, off, none⟩ ∧ b < w'.heap.size ∧ w'.cell? ⟨b, off + i, none⟩ = some (.int .i64 ((l.getD i 0 : Nat) : Int))) := fun w' g i hi => by
        obtain ⟨b, off, e, hb, hc⟩ := (LL.out.gw g).cells (by omega)
        exact ⟨b, off, e, hb, hc i hi⟩
      obtain ⟨m, hm⟩ : ∃ m, l.length = m := ⟨_, rfl⟩
      rw [hm] at ln ST CE FI ⊢
      clear LL ED hm
      go_wp2_with fail
      go_loopg [10, 11] m (fun gg s10 s11 wr => ∃ i s : Nat, s10 = .int .i64 s ∧ s11 = .int .i64 i ∧ i ≤ m ∧ m - i ≤ gg ∧ s ≤ n ∧ Aside (s = starts 0 l i) ∧ Aside (Gw w3 wr))
      case atStart => exact ⟨0, 0, rfl, rfl, Nat.zero_le _, by omega, by omega, (show Aside _ from rfl), (show Aside _ from Gw.refl w3)⟩
      case round =>
        obtain ⟨i, s, rfl, rfl, h1, h2, h3, S, G⟩ := hrel
        by_cases hlt : i < m
        · obtain ⟨b, off, rfl, hb, q1⟩ := CE.out _ G.out i hlt
          have st := ST.out i hlt
          rw [← S.out] at st
          have SN := SS.out i
          obtain ⟨x, hx⟩ : ∃ x, l.getD i 0 = x := ⟨_, rfl⟩
          have XX : Aside (l.getD i 0 = x) := hx
          rw [hx] at q1 st SN
          have SX : Aside (x = starts 0 l (i + 1)) := SN.symm
          clear hx SN S
          obtain ⟨st1, st2, st3, st4⟩ := st
          have FT : Aside (FitsOn (eps - 1) (sh f s) (Prs (x - s))) := st3
          have NF : Aside (x < n → ¬ FitsOn (eps - 1) (sh f s) (Prs (x + 1 - s))) := st4
          have t1 : decide ((x : Int) ≤ (s : Int)) = false := by simp; omega
          have t2 : decide ((n : Int) < (x : Int)) = false := by simp; omega
          clear st3 st4
          go_wp2_with fail
          refine (fitat_new w3 _ eps e1 e2 f s G.out).mono ?_
          rintro ex w4 ⟨⟨p, S, rfl, hF, _⟩, g4⟩
          have F4 : Aside (FitAt w3 w4 p S (eps - 1) f s s) := hF
          have G4 : Aside (Gw w3 w4) := G.out.trans g4
          clear hF g4 G q1 hb
          go_wp2_with fail
          go_loopg [14] n (fun gg s14 wq => ∃ (k : Nat) (S : Nat → Prop), s14 = .int .i64 k ∧ s ≤ k ∧ k ≤ x ∧ x - k ≤ gg ∧ Aside (FitAt w3 wq p S (eps - 1) f s k) ∧ Aside (Gw w3 wq))
          case atStart => exact ⟨s, S, rfl, Nat.le_refl _, by omega, by omega, F4, G4⟩
          case round =>
            clear F4 G4
            obtain ⟨k, S, rfl, k1, k2, k3, F, G⟩ := hrel
            obtain ⟨b', off', eb, hb, q1⟩ := CE.out _ G.out i hlt
            cases eb
            rw [XX.out] at q1
            by_cases hk : k < x
            · obtain ⟨bk, ok_, rfl, hbk, hc⟩ := (K3.out.gw G.out).cells (by omega)
              have q2 := hc k (by omega)
              obtain ⟨y0, y1⟩ := K3.out.bd k (by omega)
              obtain ⟨fk, hfk⟩ : ∃ y, f k = y := ⟨_, rfl⟩
              have FK : Aside (f k = fk) := hfk
              rw [hfk] at q2 y0 y1
              clear hc hfk
              have tk : decide ((k : Int) < (x : Int)) = true := by simp; omega
              have kn : (k : Int) < (n : Int) := by omega
              go_wp2_with fail
              refine (fitat_add F.out G.out k1 (show k < n by omega) KK.out.2 fk FK.out y0 y1 (by omega)).mono ?_
              rintro ex w5 ⟨ok, err, S', rfl, hok, hF, _, _, g5⟩
              obtain rfl := hok.2 (fits_less FT.out (by omega))
              have F5 : Aside (FitAt w3 w5 p S' (eps - 1) f s (k + 1)) := hF rfl
              have G5 : Aside (Gw w3 w5) := g5
              clear hok hF g5 F G q1 q2 FK
              go_wp2_with fail
              go_roundg (x - (k + 1))
              case measure => omega
              case rel => exact ⟨k + 1, S', by go_num, by omega, by omega, Nat.le_refl _, F5, G5⟩
            · have ek : k = x := by omega
              subst ek
              have tk : decide ((k : Int) < (k : Int)) = false := by simp
              by_cases hxn : k < n
              · obtain ⟨bk, ok_, rfl, hbk, hc⟩ := (K3.out.gw G.out).cells (by omega)
                have q2 := hc k hxn
                obtain ⟨y0, y1⟩ := K3.out.bd k hxn
                obtain ⟨fk, hfk⟩ : ∃ y, f k = y := ⟨_, rfl⟩
                have FK : Aside (f k = fk) := hfk
                rw [hfk] at q2 y0 y1
                clear hc hfk
                have tn : decide ((k : Int) < (n : Int)) = true := by simp; omega
                go_wp2_with fail
                refine (fitat_add F.out G.out k1 hxn KK.out.2 fk FK.out y0 y1 (by omega)).mono ?_
                rintro ex w5 ⟨ok, err, S', rfl, hok, _, _, _, g5⟩
                obtain rfl : ok = false := by
                  cases ok with
                  | false => rfl
                  | true => exact absurd (hok.1 rfl) (NF.out hxn)
                have G5 : Aside (Gw w3 w5) := g5
                obtain ⟨b', off', eb, hb5, q5⟩ := CE.out _ g5 i hlt
                cases eb
                rw [XX.out] at q5
                clear hok g5 F G q1 q2 FK
                go_wp2_with fail
                go_roundg (m - (i + 1))
                case measure => omega
                case rel => exact ⟨i + 1, k, rfl, by go_num, by omega, Nat.le_refl _, by omega, SX, G5⟩
              · have tn : decide ((k : Int) < (n : Int)) = false := by simp; omega
                clear F
                go_wp2_with fail
                go_roundg (m - (i + 1))
                case measure => omega
                case rel => exact ⟨i + 1, k, rfl, by go_num, by omega, Nat.le_refl _, by omega, SX, G⟩
        · have ei : i = m := by omega
          subst ei
          have es : s = n := S.out.trans FI.out
          subst es
          clear S FI
          go_wp2_with fail
          go_ret
          exact ⟨rfl, G3.out.trans G.out⟩

end Go.Proofs.Ytlocnkoeffoflaa
