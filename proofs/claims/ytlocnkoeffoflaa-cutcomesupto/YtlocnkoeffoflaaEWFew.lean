/- CutFew's walk. -/
import Derived.Test.YtlocnkoeffoflaaEShown
namespace Go.Proofs.Ytlocnkoeffoflaa
open Go.RowKit
set_option linter.unusedVariables false

theorem EndsR.right {eps : Int} {f : Nat → Int} {n : Nat} {l : List Nat} {err : Int} (h : EndsR eps f n l err) (k : (2 ≤ eps ∧ eps ≤ 64) ∧ Up f n) : EndsAt (eps - 1) f n 0 l ∧ err = 0 := by
  rcases h with ⟨h1, _⟩ | ⟨_, h2, _⟩ | ⟨_, _, h3, h4⟩
  · exact absurd k.1 h1
  · exact absurd k.2 h2
  · exact ⟨h3, h4⟩

set_option maxRecDepth 10000 in
set_option maxHeartbeats 4000000 in
theorem few_walk (CC : CutC) (ao : Option Addr) (n cp : Nat) (f : Nat → Int) (eps : Int) (p0 : -9223372036854775808 ≤ eps) (p1 : eps < 9223372036854775808) (hn : n ≤ 1048576) (hcp : n ≤ cp) (w : World) (h : KS w ao n f) :
    Calls Try.prog 4 #[.slice ao n cp, .int .i64 eps] w fun e w' => e = .returned (.bool true) ∧ Gw w w' := by
  have HK : Aside (KS w ao n f) := h
  clear h
  have SH : Hid _ := fun W => eshown CC W
  have RI : Hid _ := fun W h => right_any CC eps ao n cp f p0 p1 (by omega) hcp W h
  have EE : Hid _ := fun W h => CC.ends eps ao n cp f p0 p1 (by omega) hcp W h
  clear CC
  go_enter Try.func4, Try.ntmps4
  go_wp2_with fail
  refine (SH.out _).mono ?_
  rintro e w1 ⟨rfl, g1⟩
  have G1 : Aside (Gw w w1) := g1
  clear g1
  go_wp2_with fail
  refine (RI.out _ (HK.out.gw G1.out)).mono ?_
  rintro e w2 ⟨⟨r, rfl, hr⟩, g2⟩
  have HR : Aside (r = true ↔ ((2 ≤ eps ∧ eps ≤ 64) ∧ Up f n)) := hr
  have G2 : Aside (Gw w w2) := G1.out.trans g2
  clear hr g2 G1
  cases r with
  | false =>
    clear HR
    go_wp2_with fail
    go_ret
    exact ⟨rfl, G2.out⟩
  | true =>
    have KK : Aside ((2 ≤ eps ∧ eps ≤ 64) ∧ Up f n) := HR.out.1 rfl
    have e1 := KK.out.1.1
    have e2 := KK.out.1.2
    clear HR
    go_wp2_with fail
    refine (EE.out _ (HK.out.gw G2.out)).mono ?_
    rintro e w3 ⟨⟨v, l, err, rfl, hE, hI⟩, g3⟩
    obtain ⟨hEnds, rfl⟩ := hE.right KK.out
    have ED : Aside (EndsAt (eps - 1) f n 0 l) := hEnds
    obtain ⟨bo, cap, rfl, hL⟩ := ir_ls hI
    have LL : Aside (LS w3 bo l) := hL
    have G3 : Aside (Gw w w3) := G2.out.trans g3
    clear hE hEnds hI hL g3 G2
    by_cases n0 : n = 0
    · have el : l = [] := by
        have := ED.out.len
        exact List.eq_nil_of_length_eq_zero (by omega)
      subst n0 el
      clear ED LL
      simp only [List.length_nil]
      go_wp2_with fail
      go_ret
      exact ⟨rfl, G3.out⟩
    · have tn : ((n : Int) == 0) = false := by simp; omega
      have ln := ED.out.len
      have m0 : 0 < l.length := List.length_pos_iff.2 (ED.out.nonempty (by omega))
      have cnt := ED.out.count (by omega) KK.out.2 (by omega)
      obtain ⟨b, off, rfl, hb, hc⟩ := LL.out.cells m0
      have lst_ := hc (l.length - 1) (by omega)
      rw [(ED.out.last (l.length - 1) (by omega)).2 (by omega)] at lst_
      have CE : Aside (∀ i, i < l.length → w3.cell? ⟨b, off + i, none⟩ = some (.int .i64 ((l.getD i 0 : Nat) : Int))) := hc
      have ST : Aside (∀ t, t < l.length → starts 0 l t < l.getD t 0 ∧ l.getD t 0 ≤ n ∧ (t + 1 < l.length → 2 * eps - 1 ≤ (l.getD t 0 : Int) - starts 0 l t)) := fun t ht => by
        obtain ⟨s1, s2, _⟩ := ED.out.step t ht
        refine ⟨s1, s2, fun q => ?_⟩
        have s3 : l.getD t 0 < n := by
          rcases Nat.lt_or_ge (l.getD t 0) n with r | r
          · exact r
          · have := (ED.out.last t ht).1 (by omega)
            omega
        have := ED.out.few (by omega) KK.out.2 t ht s3
        omega
      have SS : Aside (∀ t, starts 0 l (t + 1) = l.getD t 0) := fun t => rfl
      obtain ⟨m, hm⟩ : ∃ m, l.length = m := ⟨_, rfl⟩
      rw [hm] at m0 ln cnt lst_ CE ST ⊢
      clear hc LL ED hm
      obtain ⟨m1, hm1⟩ : ∃ m1, m - 1 = m1 := ⟨_, rfl⟩
      rw [hm1] at lst_
      have lm : m1 < m := by omega
      have wm1 : IntKind.i64.wrap ((m : Int) - 1) = (m1 : Int) := by rw [IntKind.wrap_i64]; omega
      have tm : ((m : Int) == 0) = false := by simp; omega
      have wn1 : IntKind.i64.wrap ((n : Int) - 1) = (n : Int) - 1 := by rw [IntKind.wrap_i64]; omega
      have we2 : IntKind.i64.wrap (2 * eps) = 2 * eps := by rw [IntKind.wrap_i64]; omega
      have we1 : IntKind.i64.wrap (2 * eps - 1) = 2 * eps - 1 := by rw [IntKind.wrap_i64]; omega
      have ez : (2 * eps - 1 == 0) = false := by simp; omega
      have ez' : ¬ 2 * eps - 1 = 0 := by omega
      obtain ⟨q, hq⟩ : ∃ q, ((n : Int) - 1) / (2 * eps - 1) = q := ⟨_, rfl⟩
      have tq : ((n : Int) - 1).tdiv (2 * eps - 1) = q := by rw [Int.tdiv_eq_ediv_of_nonneg (by omega)]; exact hq
      have q0 : 0 ≤ q ∧ q ≤ n := by
        rw [← hq]
        refine ⟨Int.ediv_nonneg (by omega) (by omega), ?_⟩
        have := Int.ediv_le_self (2 * eps - 1) (show 0 ≤ (n : Int) - 1 by omega)
        omega
      have mq : (m : Int) ≤ 1 + q := by
        have : (m : Int) - 1 ≤ q := by
          rw [← hq, Int.le_ediv_iff_mul_le (by omega)]
          have : ((m : Int) - 1) * (2 * (eps - 1) + 1) = ((m : Int) - 1) * (2 * eps - 1) := by congr 1; omega
          omega
        omega
      have wq : IntKind.i64.wrap q = q := by rw [IntKind.wrap_i64]; omega
      have wq1 : IntKind.i64.wrap (1 + q) = 1 + q := by rw [IntKind.wrap_i64]; omega
      have tq1 : decide (1 + q < (m : Int)) = false := by simp; omega
      have nn : ((n : Int) != (n : Int)) = false := by simp
      clear hq cnt
      go_wp2_with fail
      go_loopg [10, 11] m (fun gg s10 s11 wr => ∃ i s : Nat, s10 = .int .i64 s ∧ s11 = .int .i64 i ∧ i ≤ m ∧ m - i ≤ gg ∧ s ≤ n ∧ Aside (s = starts 0 l i) ∧ Aside (Gw w3 wr))
      case atStart => exact ⟨0, 0, rfl, rfl, Nat.zero_le _, by omega, by omega, (show Aside _ from rfl), (show Aside _ from Gw.refl w3)⟩
      case round =>
        obtain ⟨i, s, rfl, rfl, h1, h2, h3, S, G⟩ := hrel
        by_cases hlt : i < m
        · have q1 := (G.out.cell b (off + i) hb).trans (CE.out i hlt)
          have st := ST.out i hlt
          rw [← S.out] at st
          have SN := SS.out i
          obtain ⟨x, hx⟩ : ∃ x, l.getD i 0 = x := ⟨_, rfl⟩
          rw [hx] at q1 st SN
          have SX : Aside (x = starts 0 l (i + 1)) := SN.symm
          clear hx SN S
          obtain ⟨st1, st2, st3⟩ := st
          have t1 : decide ((x : Int) ≤ (s : Int)) = false := by simp; omega
          have wi : IntKind.i64.wrap ((i : Int) + 1) = ((i + 1 : Nat) : Int) := by rw [IntKind.wrap_i64]; omega
          have wx : IntKind.i64.wrap ((x : Int) - s) = (x : Int) - s := by rw [IntKind.wrap_i64]; omega
          by_cases hi : i + 1 < m
          · have t2 : decide (((i + 1 : Nat) : Int) < (m : Int)) = true := by simp; omega
            have t2' : (i : Int) + 1 < (m : Int) := by omega
            have t3 : decide ((x : Int) - s < 2 * eps - 1) = false := by have := st3 hi; simp; omega
            clear st3
            go_wp2_with fail
            go_roundg (m - (i + 1))
            case measure => omega
            case rel => exact ⟨i + 1, x, rfl, by first | rfl | go_num, by omega, Nat.le_refl _, by omega, SX, G⟩
          · have t2 : decide (((i + 1 : Nat) : Int) < (m : Int)) = false := by simp; omega
            have t2' : ¬ (i : Int) + 1 < (m : Int) := by omega
            clear st3
            go_wp2_with fail
            go_roundg (m - (i + 1))
            case measure => omega
            case rel => exact ⟨i + 1, x, rfl, by first | rfl | go_num, by omega, Nat.le_refl _, by omega, SX, G⟩
        · have ei : i = m := by omega
          subst ei
          clear S
          go_wp2_with fail
          go_ret
          exact ⟨rfl, G3.out.trans G.out⟩

end Go.Proofs.Ytlocnkoeffoflaa
