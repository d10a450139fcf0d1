/- LevelsNear's and LevelsRight's walks. -/
import Derived.Test.YtmmkmakajolfhaaVNear
namespace Go.Proofs.Ytmmkmakajolfhaa
open Go.RowKit
set_option linter.unusedVariables false

theorem CheckR.zero {eps : Int} {f : Nat → Int} {n : Nat} {L : List (List Sg)} (h : CheckR eps f n L 0) : (2 ≤ eps ∧ eps ≤ 64) ∧ Up f n ∧ chkE eps f n L = 0 ∧ (L.length = 0 ↔ n = 0) := by
  rcases h with ⟨_, q⟩ | ⟨_, _, q⟩ | ⟨_, _, _, q⟩ | ⟨a, b, c, q⟩
  · cases q
  · cases q
  · cases q
  · exact ⟨a, b, q.symm, c.2⟩
/-- P8.4, as Check's answer. -/
theorem BuildR.taken {eps : Int} {f : Nat → Int} {n : Nat} {L : List (List Sg)} (e1 : 2 ≤ eps) (e2 : eps ≤ 64) (n1 : n ≤ 2000000) (bd : ∀ t, t < n → 0 ≤ f t ∧ f t < 18446744073709551616) (u : Up f n) (h : BuildR eps f n L) : CheckR eps f n L 0 := by
  refine .inr (.inr (.inr ⟨⟨e1, e2⟩, u, ⟨?_, ?_⟩, (h.chk n1 bd u).symm⟩))
  · have a := h.low e1 n1 bd u
    have b := hgt_mono (e := eps.toNat) (by omega) 4294967296 n (by omega)
    unfold mxh
    rw [if_pos ⟨e1, e2, by decide⟩]
    show (L.length : Int) ≤ ((hgt eps.toNat 4294967296 : Nat) : Int)
    omega
  · rw [List.length_eq_zero_iff]; exact h.none
theorem BuildR.isShort {eps : Int} {f : Nat → Int} {n : Nat} {L : List (List Sg)} (e1 : 2 ≤ eps) (n1 : n ≤ 2000000) (bd : ∀ t, t < n → 0 ≤ f t ∧ f t < 18446744073709551616) (u : Up f n) (h : BuildR eps f n L) : Short L := by
  have a := h.low e1 n1 bd u
  have b := hgt_le (e := eps.toNat) (by omega) n
  exact ⟨by omega, fun i hi => by have := h.short n1 bd u i hi; omega⟩

set_option maxRecDepth 10000 in
set_option maxHeartbeats 4000000 in
theorem near_walk (LL : LevelsC) (MM : ModelC) (ao : Option Addr) (n cp : Nat) (f : Nat → Int) (eps : Int) (lo : Option Addr) (lc : Nat) (L : List (List Sg)) (q : Int) (e0 : -9223372036854775808 ≤ eps) (e1 : eps < 9223372036854775808) (q0 : 0 ≤ q) (q1 : q < 18446744073709551616) (hn : n ≤ 2000000) (hcp : n ≤ cp) (hL : Short L) (w : World) (h : KS w ao n f) (hv : VS w lo L) :
    Calls Try.prog 7 #[.slice ao n cp, .int .i64 eps, .slice lo L.length lc, .int .u64 q] w fun e w' => e = .returned (.bool true) ∧ Gw w w' := by
  have HK : Aside (KS w ao n f) := h
  have HV : Aside (VS w lo L) := hv
  clear h hv
  have SH : Hid (∀ W, Calls Try.prog 8 #[] W fun e w' => e = .returned (.bool true) ∧ Gw W w') := fun W => shown8 LL W
  have RC : Hid (∀ W, KS W ao n f → VS W lo L → _) := fun W h v => rcheck8_any eps ao n cp f lo lc L e0 e1 (by omega) hcp (by have := hL.1; omega) (fun i hi => by have := hL.2 i hi; omega) W h v
  have NR : Hid (∀ W, KS W ao n f → VS W lo L → CheckR eps f n L 0 → _) := fun W h v c => near_any (fun s q ok q0 q1 W => MM.guess s.k s.sl s.ic s.fr s.te q ok q0 q1 W) eps q ao n cp f lo lc L c.zero.1.1 c.zero.1.2 q0 q1 hn hL.1 hL.2 W h v c.zero.2.1 c.zero.2.2.1
  clear LL MM
  generalize L.length = ln at RC NR ⊢
  go_enter Try.func7, Try.ntmps7
  go_wp2_with fail
  refine (SH.out _).mono ?_
  rintro e w1 ⟨rfl, g1⟩
  have G1 : Aside (Gw w w1) := g1
  clear g1
  go_wp2_with fail
  refine (RC.out _ (HK.out.gw G1.out) (HV.out.gw G1.out)).mono ?_
  rintro e w2 ⟨⟨E, rfl, hE⟩, g2⟩
  have G2 : Aside (Gw w w2) := G1.out.trans g2
  have CE : Aside (CheckR eps f n L E) := hE
  clear g2 G1 hE
  by_cases z : E = 0
  · subst z
    go_wp2_with fail
    refine (NR.out _ (HK.out.gw G2.out) (HV.out.gw G2.out) CE.out).mono ?_
    rintro e w3 ⟨rfl, g3⟩
    have G3 : Aside (Gw w w3) := G2.out.trans g3
    clear g3
    go_wp2_with fail
    go_ret
    exact ⟨rfl, G3.out⟩
  · have t : (E != 0) = true := by simpa using z
    clear z
    go_wp2_with fail
    go_ret
    exact ⟨rfl, G2.out⟩

set_option maxRecDepth 10000 in
set_option maxHeartbeats 4000000 in
theorem right_walk (LL : LevelsC) (ao : Option Addr) (n cp : Nat) (f : Nat → Int) (eps : Int) (e0 : -9223372036854775808 ≤ eps) (e1 : eps < 9223372036854775808) (hn : n ≤ 2000000) (hcp : n ≤ cp) (w : World) (h : KS w ao n f) :
    Calls Try.prog 5 #[.slice ao n cp, .int .i64 eps] w fun e w' => e = .returned (.bool true) ∧ Gw w w' := by
  have HK : Aside (KS w ao n f) := h
  clear h
  have SH : Hid (∀ W, Calls Try.prog 8 #[] W fun e w' => e = .returned (.bool true) ∧ Gw W w') := fun W => shown8 LL W
  have BU : Hid (∀ W, KS W ao n f → _) := fun W h => LL.build eps ao n cp f e0 e1 hn hcp W h
  have RI : Hid (∀ W, KS W ao n f → _) := fun W h => rrising_any ao n cp f (by omega) W h
  have CC : Hid (∀ lo lc (L : List (List Sg)), Short L → L.length ≤ lc → CheckR eps f n L 0 → ∀ W, KS W ao n f → VS W lo L → Calls Try.prog 10 #[.slice ao n cp, .int .i64 eps, .slice lo L.length lc] W fun e w' => e = .returned (.int .i64 0) ∧ Gw W w') := fun lo lc L s l c W h v => by
    refine (LL.check eps ao n cp f lo lc L e0 e1 hn hcp s l W h v).mono ?_
    rintro e w' ⟨⟨E, rfl, hE⟩, g⟩
    obtain rfl := hE.one c
    exact ⟨rfl, g⟩
  have RC : Hid (∀ lo lc (L : List (List Sg)), Short L → CheckR eps f n L 0 → ∀ W, KS W ao n f → VS W lo L → Calls Try.prog 11 #[.slice ao n cp, .int .i64 eps, .slice lo L.length lc] W fun e w' => e = .returned (.int .i64 0) ∧ Gw W w') := fun lo lc L s c W h v => by
    refine (rcheck8_any eps ao n cp f lo lc L e0 e1 (by omega) hcp (by have := s.1; omega) (fun i hi => by have := s.2 i hi; omega) W h v).mono ?_
    rintro e w' ⟨⟨E, rfl, hE⟩, g⟩
    obtain rfl := hE.one c
    exact ⟨rfl, g⟩
  clear LL
  go_enter Try.func5, Try.ntmps5
  go_wp2_with fail
  refine (SH.out _).mono ?_
  rintro e w1 ⟨rfl, g1⟩
  have G1 : Aside (Gw w w1) := g1
  clear g1
  go_wp2_with fail
  refine (BU.out _ (HK.out.gw G1.out)).mono ?_
  rintro e w2 ⟨⟨lo, lc, L, err, rfl, hB, hV, hl⟩, g2⟩
  have G2 : Aside (Gw w w2) := G1.out.trans g2
  have V2 : Aside (VS w2 lo L) := hV
  clear g2 G1 hV
  rcases hB with ⟨k0, hL, hE⟩ | ⟨k0, k1, hL, hE⟩ | ⟨k0, k1, hR, hE⟩
  · subst hL hE
    by_cases h2 : eps < 2
    · have t1 : decide (eps < 2) = true := by simpa using h2
      clear k0 h2 V2
      go_wp2_with fail
      go_ret
      exact ⟨rfl, G2.out⟩
    · have t1 : decide (eps < 2) = false := by simpa using h2
      have t2 : decide (64 < eps) = true := by simp; omega
      clear k0 h2 V2
      go_wp2_with fail
      go_ret
      exact ⟨rfl, G2.out⟩
  · subst hL hE
    have t1 : decide (eps < 2) = false := by simp; omega
    have t2 : decide (64 < eps) = false := by simp; omega
    have NU : Aside (¬ Up f n) := k1
    clear k0 k1 V2
    go_wp2_with fail
    refine (RI.out _ (HK.out.gw G2.out)).mono ?_
    rintro e w3 ⟨⟨r, rfl, hr⟩, g3⟩
    have G3 : Aside (Gw w w3) := G2.out.trans g3
    obtain rfl : r = false := by
      cases r with
      | false => rfl
      | true => exact absurd (hr.1 rfl) NU.out
    clear g3 hr
    go_wp2_with fail
    go_ret
    exact ⟨rfl, G3.out⟩
  · subst hE
    have t1 : decide (eps < 2) = false := by simp; omega
    have t2 : decide (64 < eps) = false := by simp; omega
    have CT : Aside (CheckR eps f n L 0) := hR.taken k0.1 k0.2 hn HK.out.bd k1
    have ST : Aside (Short L) := hR.isShort k0.1 hn HK.out.bd k1
    have UP : Aside (Up f n) := k1
    have C1 : Hid (∀ W, KS W ao n f → VS W lo L → _) := fun W h v => CC.out lo lc L ST.out hl CT.out W h v
    have R1 : Hid (∀ W, KS W ao n f → VS W lo L → _) := fun W h v => RC.out lo lc L ST.out CT.out W h v
    clear k0 k1 hR CC RC CT ST hl
    generalize L.length = ln at C1 R1 ⊢
    go_wp2_with fail
    refine (RI.out _ (HK.out.gw G2.out)).mono ?_
    rintro e w3 ⟨⟨r, rfl, hr⟩, g3⟩
    have G3 : Aside (Gw w w3) := G2.out.trans g3
    have V3 : Aside (VS w3 lo L) := V2.out.gw g3
    obtain rfl : r = true := hr.2 UP.out
    clear g3 hr V2
    go_wp2_with fail
    refine (C1.out _ (HK.out.gw G3.out) V3.out).mono ?_
    rintro e w4 ⟨rfl, g4⟩
    have G4 : Aside (Gw w w4) := G3.out.trans g4
    have V4 : Aside (VS w4 lo L) := V3.out.gw g4
    clear g4 V3
    go_wp2_with fail
    refine (R1.out _ (HK.out.gw G4.out) V4.out).mono ?_
    rintro e w5 ⟨rfl, g5⟩
    have G5 : Aside (Gw w w5) := G4.out.trans g5
    clear g5 V4
    go_wp2_with fail
    go_ret
    exact ⟨rfl, G5.out⟩

end Go.Proofs.Ytmmkmakajolfhaa
