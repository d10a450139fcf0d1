/- LineStays' walk. -/
import Derived.Test.YtncnoaofdflbmaaLC
import Derived.Test.YtncnoaofdflbmaaLSteep
namespace Go.Proofs.Ytncnoaofdflbmaa
open Go.RowKit
set_option linter.unusedVariables false

set_option maxRecDepth 10000 in
set_option maxHeartbeats 4000000 in
theorem linestays_walk (LL : LineC) (DD : DocC) (ao : Option Addr) (n cp : Nat) (f : Nat → Int) (eps less : Int) (p0 : -9223372036854775808 ≤ eps) (p1 : eps < 9223372036854775808) (s0 : 0 ≤ less) (s1 : less < 18446744073709551616) (hn : n ≤ 1048576) (w : World) (h : KS w ao n f) :
    Calls Try.prog 6 #[.slice ao n cp, .int .i64 eps, .int .u64 less] w fun e w' => e = .returned (.bool true) ∧ Gw w w' := by
  have HK : Aside (KS w ao n f) := h
  clear h
  have SH : Hid (∀ W, Calls Try.prog 9 #[] W fun e w' => e = .returned (.bool true) ∧ Gw W w') := fun W => xshown LL W
  have OL : Hid _ := fun W h => LL.of eps ao n cp f p0 p1 (by omega) W h
  have OD : Hid _ := fun W h => DD.of eps ao n cp f p0 p1 (by omega) W h
  have FL : Hid _ := fun a b c a0 a1 b0 b1 c0 c1 W h => LL.fits a b c eps ao n cp f a0 a1 b0 b1 c0 c1 p0 p1 (by omega) W h
  have FD : Hid _ := fun a b c a0 a1 b0 b1 c0 c1 W h => DD.fits a b c eps ao n cp f a0 a1 b0 b1 c0 c1 p0 p1 (by omega) W h
  clear LL DD
  go_enter Try.func6, Try.ntmps6
  go_wp2_with fail
  refine (SH.out _).mono ?_
  rintro e w1 ⟨rfl, g1⟩
  have G1 : Aside (Gw w w1) := g1
  clear g1
  go_wp2_with fail
  refine (OL.out _ (HK.out.gw G1.out)).mono ?_
  rintro e w3 ⟨⟨x, y, z, err, rfl, hO, xb, yb, zb⟩, g3⟩
  have O3 : Aside (OfR eps f n x y z err) := hO
  have G3 : Aside (Gw w (w3.alloc (.cells #[.int .u64 x, .int .u64 y, .int .i64 z] 27))) := (G1.out.trans g3).alloc _ _
  have L3 : Aside (Ln (w3.alloc (.cells #[.int .u64 x, .int .u64 y, .int .i64 z] 27)) w3.heap.size x y z) := heap_alloc_new w3 _
  have N3 : Aside (w.heap.size ≤ w3.heap.size) := (G1.out.trans g3).size
  clear hO g3 G1
  go_wp2_with fail
  generalize w3.alloc (.cells #[.int .u64 x, .int .u64 y, .int .i64 z] 27) = w4 at G3 L3 ⊢
  obtain ⟨q3, hq3⟩ : ∃ q, w3.heap.size = q := ⟨_, rfl⟩
  rw [hq3] at L3 N3 ⊢
  clear hq3
  refine (OD.out _ (HK.out.gw G3.out)).mono ?_
  rintro e w5 ⟨⟨x', y', z', err', rfl, hO, _⟩, g5⟩
  obtain ⟨⟨rfl, rfl, rfl⟩, rfl⟩ := hO.one O3.out
  have G5 : Aside (Gw w (w5.alloc (.cells #[.int .u64 x', .int .u64 y', .int .i64 z'] 27))) := (G3.out.trans g5).alloc _ _
  have L5 : Aside (Ln (w5.alloc (.cells #[.int .u64 x', .int .u64 y', .int .i64 z'] 27)) q3 x' y' z') := (L3.out.gw g5).gw ((Gw.refl _).alloc _ _)
  clear hO g5 G3 L3
  rcases O3.out.cases with ⟨k0, rfl, rfl, rfl⟩ | ⟨rfl, hT⟩
  · have t0 : (err' != 0) = true := by simpa using k0
    have a0 := L5.out.c0
    have a1 := L5.out.c1
    have a2 := L5.out.c2
    clear O3 k0
    go_wp2_with fail
    go_ret
    exact ⟨rfl, G5.out⟩
  · have T : Aside (Told eps f n x' y' z') := hT
    have e1 := hT.e1
    have e2 := hT.e2
    obtain ⟨hF, zlo, zhi⟩ := hT.stays (by omega)
    have FF : Aside (FitR eps f n x' y' z') := hF
    have NF : Aside (¬ FitR eps f n x' y' (z' - 1)) := hT.less
    have xn := low_num (by omega) hT.up hT.low
    have y1 := hT.low.b1
    have low := hT.low.low
    clear hT hF O3
    have a0 := L5.out.c0
    have a1 := L5.out.c1
    have a2 := L5.out.c2
    go_wp2_with fail
    generalize w5.alloc (.cells #[.int .u64 x', .int .u64 y', .int .i64 z'] 27) = w6 at G5 L5 a0 a1 a2 ⊢
    refine (FL.out x' y' z' xb.1 xb.2 yb.1 yb.2 zb.1 zb.2 _ (HK.out.gw G5.out)).mono ?_
    rintro e w7 ⟨⟨r, rfl, hr⟩, g7⟩
    obtain rfl := hr.2 FF.out
    have G7 : Aside (Gw w w7) := G5.out.trans g7
    have L7 : Aside (Ln w7 q3 x' y' z') := L5.out.gw g7
    clear hr g7 a0 a1 a2 G5 L5
    have a0 := L7.out.c0
    have a1 := L7.out.c1
    have a2 := L7.out.c2
    go_wp2_with fail
    refine (FD.out x' y' z' xb.1 xb.2 yb.1 yb.2 zb.1 zb.2 _ (HK.out.gw G7.out)).mono ?_
    rintro e w8 ⟨⟨r, rfl, hr⟩, g8⟩
    obtain rfl := hr.2 FF.out
    have G8 : Aside (Gw w w8) := G7.out.trans g8
    have L8 : Aside (Ln w8 q3 x' y' z') := L7.out.gw g8
    clear hr g8 a0 a1 a2 G7 L7
    have a0 := L8.out.c0
    have a1 := L8.out.c1
    have a2 := L8.out.c2
    have a3 := L8.out.fz 2
    have a4 := L8.out.lt
    have wz : IntKind.i64.wrap (z' - 1) = z' - 1 := by rw [IntKind.wrap_i64]; omega
    have L9 : Aside (Ln (w8.setCell ⟨q3, 2, none⟩ (.int .i64 (z' - 1))) q3 x' y' (z' - 1)) := L8.out.set2 _
    have G9 : Aside (Gw w (w8.setCell ⟨q3, 2, none⟩ (.int .i64 (z' - 1)))) := G8.out.setCell N3.out _
    go_wp2_with fail
    generalize w8.setCell ⟨q3, 2, none⟩ (.int .i64 (z' - 1)) = w9 at L9 G9 ⊢
    clear a0 a1 a2 a3 a4 L8 G8
    refine (FL.out x' y' (z' - 1) xb.1 xb.2 yb.1 yb.2 (by omega) (by omega) _ (HK.out.gw G9.out)).mono ?_
    rintro e w10 ⟨⟨r, rfl, hr⟩, g10⟩
    obtain rfl : r = false := by cases r with
      | false => rfl
      | true => exact absurd (hr.1 rfl) NF.out
    have G10 : Aside (Gw w w10) := G9.out.trans g10
    have L10 : Aside (Ln w10 q3 x' y' (z' - 1)) := L9.out.gw g10
    clear hr g10 G9 L9
    have a0 := L10.out.c0
    have a1 := L10.out.c1
    have a2 := L10.out.c2
    go_wp2_with fail
    refine (FD.out x' y' (z' - 1) xb.1 xb.2 yb.1 yb.2 (by omega) (by omega) _ (HK.out.gw G10.out)).mono ?_
    rintro e w11 ⟨⟨r, rfl, hr⟩, g11⟩
    obtain rfl : r = false := by cases r with
      | false => rfl
      | true => exact absurd (hr.1 rfl) NF.out
    have G11 : Aside (Gw w w11) := G10.out.trans g11
    have L11 : Aside (Ln w11 q3 x' y' (z' - 1)) := L10.out.gw g11
    clear hr g11 G10 L10 a0 a1 a2 NF FF FL FD OL OD SH
    have a0 := L11.out.c0
    have a1 := L11.out.c1
    by_cases hx : x' = 0
    · subst hx
      have ey : y' = 1 := by
        have : ((y'.natAbs : Nat) : Int) = y' := by omega
        simp at low
        omega
      subst ey
      clear low
      go_wp2_with fail
      go_ret
      exact ⟨rfl, G11.out⟩
    · have tx : (x' == 0) = false := by simpa using hx
      have md : less % x' < x' := Int.emod_lt_of_pos _ (by omega)
      have md0 : 0 ≤ less % x' := Int.emod_nonneg _ hx
      have AB : Hid (∀ W, KS W ao n f → Calls Try.prog 18 #[.slice ao n cp, .int .i64 eps, .int .u64 (less % x'), .int .u64 y'] W fun ex w' => ex = .returned (.bool true) ∧ Gw W w') := fun W h => by
        refine (steeper_any eps (less % x') y' ao n cp f e1 e2 md0 (by omega) yb.1 yb.2 (by omega) T.out.up W h).mono ?_
        rintro ex w' ⟨⟨r, rfl, hr⟩, g⟩
        obtain rfl := hr.2 (steep_less T.out.up T.out.low md md0)
        exact ⟨rfl, g⟩
      have NV : Hid (∀ W, KS W ao n f → Calls Try.prog 18 #[.slice ao n cp, .int .i64 eps, .int .u64 x', .int .u64 y'] W fun ex w' => ex = .returned (.bool false) ∧ Gw W w') := fun W h => by
        refine (steeper_any eps x' y' ao n cp f e1 e2 xb.1 (by omega) yb.1 yb.2 (by omega) T.out.up W h).mono ?_
        rintro ex w' ⟨⟨r, rfl, hr⟩, g⟩
        obtain rfl : r = false := by cases r with
          | false => rfl
          | true => exact absurd (hr.1 rfl) (steep_never T.out.low)
        exact ⟨rfl, g⟩
      obtain ⟨m, hm⟩ : ∃ m, less % x' = m := ⟨_, rfl⟩
      rw [hm] at AB
      have tm : less.tmod x' = m := by rw [Int.tmod_eq_emod_of_nonneg s0]; exact hm
      clear md md0 T low
      have K11 : Aside (KS w11 ao n f) := HK.out.gw G11.out
      go_wp2_with fail
      go_cut [14] (fun s w' => s = .bool true ∧ Aside (Gw w11 w'))
      case first =>
        go_region_with (go_at_call 18; refine (AB.out _ (by first | exact K11.out | exact K11.out.gw (Gw.refl _).drew)).mono ?_; rintro ex v4 ⟨rfl, g4⟩; have G4 : Hid (Gw w11 v4) := (Gw.trans (by repeat (first | exact Gw.refl _ | refine Gw.drew ?_)) g4); clear g4)
        all_goals go_wp2_with fail
        all_goals go_meet
        all_goals
          case rel => exact ⟨rfl, (show Aside _ from (by first | exact G4.out | exact G4.out.drew | exact G4.out.drewN _))⟩
      case rest =>
        obtain ⟨wy, hwy⟩ : ∃ wy, wy = wc := ⟨_, rfl⟩
        subst hwy
        obtain ⟨rfl, gy⟩ := hcut
        have GY : Aside (Gw w wy) := G11.out.trans gy.out
        have LY : Aside (Ln wy q3 x' y' (z' - 1)) := L11.out.gw gy.out
        clear L11 G11 gy a0 a1 AB K11
        have a0 := LY.out.c0
        have a1 := LY.out.c1
        go_wp2_with fail
        refine (NV.out _ (HK.out.gw GY.out)).mono ?_
        rintro ex w12 ⟨rfl, g12⟩
        have G12 : Aside (Gw w w12) := GY.out.trans g12
        clear g12
        go_wp2_with fail
        go_ret
        exact ⟨rfl, G12.out⟩

end Go.Proofs.Ytncnoaofdflbmaa
