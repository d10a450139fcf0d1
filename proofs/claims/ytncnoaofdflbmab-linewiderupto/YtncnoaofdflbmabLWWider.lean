/- LineWider' walk. -/
import Derived.Test.YtncnoaofdflbmabLC
import Derived.Test.YtncnoaofdflbmabL5Times
import Derived.Test.YtncnoaofdflbmabTold
namespace Go.Proofs.Ytncnoaofdflbmab
open Go.RowKit
set_option linter.unusedVariables false

theorem Told.wider {eps eps' : Int} {f : Nat → Int} {n : Nat} {a b c a' b' c' err : Int} (h : Told eps f n a b c) (k1 : eps ≤ eps') (k2 : eps' ≤ 64) (o : OfR eps' f n a' b' c' err) : err = 0 ∧ ¬ a * b' < a' * b := by
  have e1 := h.e1
  rcases o with ⟨o1, _⟩ | ⟨_, o2, _⟩ | ⟨_, _, o3, _⟩ | ⟨o1, o2, o3, o4, o5, o6⟩
  · exact absurd ⟨by omega, k2⟩ o1
  · exact absurd ⟨h.n0, h.up⟩ o2
  · exact absurd (fits_wider h.up (by omega) h.fits) o3
  · refine ⟨o6, ?_⟩
    have := low_wider h.up (show eps - 1 ≤ eps' - 1 by omega) h.low o4
    omega
theorem Told.still {eps eps' : Int} {f : Nat → Int} {n : Nat} {a b c : Int} (h : Told eps f n a b c) (hn : n ≤ 100000000) (k1 : eps ≤ eps') (k2 : eps' ≤ 64) : FitR eps' f n a b c := by
  have e1 := h.e1
  have s := (h.stays hn).1
  exact ⟨⟨by omega, k2⟩, h.n0, h.up, stays_wider (show eps - 1 ≤ eps' - 1 by omega) s.2.2.2⟩

set_option maxRecDepth 10000 in
set_option maxHeartbeats 4000000 in
theorem linewider_walk (LL : LineC) (DD : DocC) (ao : Option Addr) (n cp : Nat) (f : Nat → Int) (eps k : Int) (p0 : -9223372036854775808 ≤ eps) (p1 : eps < 9223372036854775808) (s0 : -9223372036854775808 ≤ k) (s1 : k < 9223372036854775808) (hn : n ≤ 1048576) (w : World) (h : KS w ao n f) :
    Calls Try.prog 3 #[.slice ao n cp, .int .i64 eps, .int .i64 k] w fun e w' => e = .returned (.bool true) ∧ Gw w w' := by
  have HK : Aside (KS w ao n f) := h
  clear h
  have SH : Hid (∀ W, Calls Try.prog 4 #[] W fun e w' => e = .returned (.bool true) ∧ Gw W w') := fun W => xshown LL W
  have OL : Hid _ := fun W h => LL.of eps ao n cp f p0 p1 (by omega) W h
  have OD : Hid _ := fun W h => DD.of eps ao n cp f p0 p1 (by omega) W h
  have LC : Hid LineC := LL
  clear LL DD
  go_enter Try.func3, Try.ntmps3
  go_wp2_with fail
  refine (SH.out _).mono ?_
  rintro e w1 ⟨rfl, g1⟩
  have G1 : Aside (Gw w w1) := g1
  clear g1
  go_wp2_with fail
  refine (OL.out _ (HK.out.gw G1.out)).mono ?_
  rintro e w3 ⟨⟨x, y, z, err, rfl, hO, xb, yb, zb⟩, g3⟩
  have O3 : Aside (OfR eps f n x y z err) := hO
  have G3 : Aside (Gw w (w3.alloc (.cells #[.int .u64 x, .int .u64 y, .int .i64 z] 26))) := (G1.out.trans g3).alloc _ _
  have L3 : Aside (Ln (w3.alloc (.cells #[.int .u64 x, .int .u64 y, .int .i64 z] 26)) w3.heap.size x y z) := heap_alloc_new w3 _
  clear hO g3 G1
  go_wp2_with fail
  generalize w3.alloc (.cells #[.int .u64 x, .int .u64 y, .int .i64 z] 26) = w4 at G3 L3 ⊢
  obtain ⟨q3, hq3⟩ : ∃ q, w3.heap.size = q := ⟨_, rfl⟩
  rw [hq3] at L3 ⊢
  clear hq3
  refine (OD.out _ (HK.out.gw G3.out)).mono ?_
  rintro e w5 ⟨⟨x', y', z', err', rfl, hO, _⟩, g5⟩
  obtain ⟨⟨rfl, rfl, rfl⟩, rfl⟩ := hO.one O3.out
  have G5 : Aside (Gw w (w5.alloc (.cells #[.int .u64 x', .int .u64 y', .int .i64 z'] 26))) := (G3.out.trans g5).alloc _ _
  have L5 : Aside (Ln (w5.alloc (.cells #[.int .u64 x', .int .u64 y', .int .i64 z'] 26)) q3 x' y' z') := (L3.out.gw g5).gw ((Gw.refl _).alloc _ _)
  clear hO g5 G3 L3 SH OL OD
  rcases O3.out.cases with ⟨k0, rfl, rfl, rfl⟩ | ⟨rfl, hT⟩
  · have t0 : (err' != 0) = true := by simpa using k0
    clear O3 k0
    go_wp2_with fail
    go_ret
    exact ⟨rfl, G5.out⟩
  · have T : Aside (Told eps f n x' y' z') := hT
    have n0 := hT.n0
    have e1 := hT.e1
    have e2 := hT.e2
    clear hT O3
    by_cases hk : k < 0
    · have tk : decide (k < 0) = true := by simpa using hk
      have wa : IntKind.i64.wrap (k + 1) = k + 1 := by rw [IntKind.wrap_i64]; omega
      have wb : IntKind.i64.wrap (-(k + 1)) = -(k + 1) := by rw [IntKind.wrap_i64]; omega
      obtain ⟨K0, hK⟩ : ∃ K0, -(k + 1) = K0 := ⟨_, rfl⟩
      have k0 : 0 ≤ K0 := by omega
      rw [hK] at wb
      have w64 : IntKind.i64.wrap (64 - eps) = 64 - eps := by rw [IntKind.wrap_i64]; omega
      have w65 : IntKind.i64.wrap (64 - eps + 1) = 65 - eps := by rw [IntKind.wrap_i64]; omega
      have nz : (65 - eps == 0) = false := by simp; omega
      have nz' : ¬ 65 - eps = 0 := by omega
      obtain ⟨v, hv⟩ : ∃ v, K0 % (65 - eps) = v := ⟨_, rfl⟩
      have tv : K0.tmod (65 - eps) = v := by rw [Int.tmod_eq_emod_of_nonneg k0]; exact hv
      have v0 : 0 ≤ v := by rw [← hv]; exact Int.emod_nonneg _ nz'
      have v1 : v < 65 - eps := by rw [← hv]; exact Int.emod_lt_of_pos _ (by omega)
      have we : IntKind.i64.wrap (eps + v) = eps + v := by rw [IntKind.wrap_i64]; omega
      have OM : Hid _ := fun W h => LC.out.of (eps + v) ao n cp f (by omega) (by omega) (by omega) W h
      have FT : Aside (FitR (eps + v) f n x' y' z') := T.out.still (by omega) (by omega) (by omega)
      have FM : Hid (∀ W, KS W ao n f → Calls Try.prog 7 #[.agg #[.int .u64 x', .int .u64 y', .int .i64 z'], .slice ao n cp, .int .i64 (eps + v)] W fun ex w' => ex = .returned (.bool true) ∧ Gw W w') := fun W h => by
        refine (LC.out.fits x' y' z' (eps + v) ao n cp f xb.1 xb.2 yb.1 yb.2 zb.1 zb.2 (by omega) (by omega) (by omega) W h).mono ?_
        rintro e w' ⟨⟨r, rfl, hr⟩, g⟩
        obtain rfl := hr.2 FT.out
        exact ⟨rfl, g⟩
      clear hv LC FT
      go_wp2_with fail
      refine (OM.out _ (HK.out.gw G5.out)).mono ?_
      rintro e w7 ⟨⟨xx, yy, zz, er, rfl, hM, xxb, yyb, zzb⟩, g7⟩
      obtain ⟨rfl, na⟩ := T.out.wider (by omega) (by omega) hM
      have NA : Aside (xx * y' ≤ x' * yy) := Int.not_lt.1 na
      have G7 : Aside (Gw w (w7.alloc (.cells #[.int .u64 xx, .int .u64 yy, .int .i64 zz] 26))) := (G5.out.trans g7).alloc _ _
      have L7 : Aside (Ln (w7.alloc (.cells #[.int .u64 xx, .int .u64 yy, .int .i64 zz] 26)) q3 x' y' z') := (L5.out.gw g7).gw ((Gw.refl _).alloc _ _)
      have M7 : Aside (Ln (w7.alloc (.cells #[.int .u64 xx, .int .u64 yy, .int .i64 zz] 26)) w7.heap.size xx yy zz) := heap_alloc_new w7 _
      have a0 := L7.out.c0
      have a1 := L7.out.c1
      have a2 := L7.out.c2
      clear hM g7 G5 L5 OM T na
      go_wp2_with fail
      generalize w7.alloc (.cells #[.int .u64 xx, .int .u64 yy, .int .i64 zz] 26) = w8 at G7 L7 M7 a0 a1 a2 ⊢
      obtain ⟨q7, hq7⟩ : ∃ q, w7.heap.size = q := ⟨_, rfl⟩
      rw [hq7] at M7 ⊢
      clear hq7 a0 a1 a2
      refine (FM.out _ (HK.out.gw G7.out)).mono ?_
      rintro ex wy ⟨rfl, gy⟩
      have GY : Aside (Gw w wy) := G7.out.trans gy
      have LY : Aside (Ln wy q3 x' y' z') := L7.out.gw gy
      have MY : Aside (Ln wy q7 xx yy zz) := M7.out.gw gy
      clear L7 G7 M7 gy FM
      have a0 := LY.out.c0
      have a1 := LY.out.c1
      have a2 := LY.out.c2
      have b0 := MY.out.c0
      have b1 := MY.out.c1
      have b2 := MY.out.c2
      have AB : Hid (∀ W, Calls Try.prog 8 #[.agg #[.int .u64 xx, .int .u64 yy, .int .i64 zz], .agg #[.int .u64 x', .int .u64 y', .int .i64 z']] W fun e w' => e = .returned (.bool false) ∧ Gw W w') := fun W => by
        have := above5_any xx yy zz x' y' z' xxb.1 xxb.2 yyb.1 yyb.2 xb.1 xb.2 yb.1 yb.2 W
        rw [decide_eq_false (Int.not_lt.2 NA.out)] at this
        exact this
      go_wp2_with fail
      refine (AB.out _).mono ?_
      rintro ex w12 ⟨rfl, g12⟩
      have G12 : Aside (Gw w w12) := GY.out.trans g12
      clear g12
      go_wp2_with fail
      go_ret
      exact ⟨rfl, G12.out⟩
    · have tk : decide (k < 0) = false := by simpa using hk
      obtain ⟨K0, hK⟩ : ∃ K0, k = K0 := ⟨_, rfl⟩
      have k0 : 0 ≤ K0 := by omega
      rw [hK] at tk ⊢
      have w64 : IntKind.i64.wrap (64 - eps) = 64 - eps := by rw [IntKind.wrap_i64]; omega
      have w65 : IntKind.i64.wrap (64 - eps + 1) = 65 - eps := by rw [IntKind.wrap_i64]; omega
      have nz : (65 - eps == 0) = false := by simp; omega
      have nz' : ¬ 65 - eps = 0 := by omega
      obtain ⟨v, hv⟩ : ∃ v, K0 % (65 - eps) = v := ⟨_, rfl⟩
      have tv : K0.tmod (65 - eps) = v := by rw [Int.tmod_eq_emod_of_nonneg k0]; exact hv
      have v0 : 0 ≤ v := by rw [← hv]; exact Int.emod_nonneg _ nz'
      have v1 : v < 65 - eps := by rw [← hv]; exact Int.emod_lt_of_pos _ (by omega)
      have we : IntKind.i64.wrap (eps + v) = eps + v := by rw [IntKind.wrap_i64]; omega
      have OM : Hid _ := fun W h => LC.out.of (eps + v) ao n cp f (by omega) (by omega) (by omega) W h
      have FT : Aside (FitR (eps + v) f n x' y' z') := T.out.still (by omega) (by omega) (by omega)
      have FM : Hid (∀ W, KS W ao n f → Calls Try.prog 7 #[.agg #[.int .u64 x', .int .u64 y', .int .i64 z'], .slice ao n cp, .int .i64 (eps + v)] W fun ex w' => ex = .returned (.bool true) ∧ Gw W w') := fun W h => by
        refine (LC.out.fits x' y' z' (eps + v) ao n cp f xb.1 xb.2 yb.1 yb.2 zb.1 zb.2 (by omega) (by omega) (by omega) W h).mono ?_
        rintro e w' ⟨⟨r, rfl, hr⟩, g⟩
        obtain rfl := hr.2 FT.out
        exact ⟨rfl, g⟩
      clear hv LC FT
      go_wp2_with fail
      refine (OM.out _ (HK.out.gw G5.out)).mono ?_
      rintro e w7 ⟨⟨xx, yy, zz, er, rfl, hM, xxb, yyb, zzb⟩, g7⟩
      obtain ⟨rfl, na⟩ := T.out.wider (by omega) (by omega) hM
      have NA : Aside (xx * y' ≤ x' * yy) := Int.not_lt.1 na
      have G7 : Aside (Gw w (w7.alloc (.cells #[.int .u64 xx, .int .u64 yy, .int .i64 zz] 26))) := (G5.out.trans g7).alloc _ _
      have L7 : Aside (Ln (w7.alloc (.cells #[.int .u64 xx, .int .u64 yy, .int .i64 zz] 26)) q3 x' y' z') := (L5.out.gw g7).gw ((Gw.refl _).alloc _ _)
      have M7 : Aside (Ln (w7.alloc (.cells #[.int .u64 xx, .int .u64 yy, .int .i64 zz] 26)) w7.heap.size xx yy zz) := heap_alloc_new w7 _
      have a0 := L7.out.c0
      have a1 := L7.out.c1
      have a2 := L7.out.c2
      clear hM g7 G5 L5 OM T na
      go_wp2_with fail
      generalize w7.alloc (.cells #[.int .u64 xx, .int .u64 yy, .int .i64 zz] 26) = w8 at G7 L7 M7 a0 a1 a2 ⊢
      obtain ⟨q7, hq7⟩ : ∃ q, w7.heap.size = q := ⟨_, rfl⟩
      rw [hq7] at M7 ⊢
      clear hq7 a0 a1 a2
      refine (FM.out _ (HK.out.gw G7.out)).mono ?_
      rintro ex wy ⟨rfl, gy⟩
      have GY : Aside (Gw w wy) := G7.out.trans gy
      have LY : Aside (Ln wy q3 x' y' z') := L7.out.gw gy
      have MY : Aside (Ln wy q7 xx yy zz) := M7.out.gw gy
      clear L7 G7 M7 gy FM
      have a0 := LY.out.c0
      have a1 := LY.out.c1
      have a2 := LY.out.c2
      have b0 := MY.out.c0
      have b1 := MY.out.c1
      have b2 := MY.out.c2
      have AB : Hid (∀ W, Calls Try.prog 8 #[.agg #[.int .u64 xx, .int .u64 yy, .int .i64 zz], .agg #[.int .u64 x', .int .u64 y', .int .i64 z']] W fun e w' => e = .returned (.bool false) ∧ Gw W w') := fun W => by
        have := above5_any xx yy zz x' y' z' xxb.1 xxb.2 yyb.1 yyb.2 xb.1 xb.2 yb.1 yb.2 W
        rw [decide_eq_false (Int.not_lt.2 NA.out)] at this
        exact this
      go_wp2_with fail
      refine (AB.out _).mono ?_
      rintro ex w12 ⟨rfl, g12⟩
      have G12 : Aside (Gw w w12) := GY.out.trans g12
      clear g12
      go_wp2_with fail
      go_ret
      exact ⟨rfl, G12.out⟩
end Go.Proofs.Ytncnoaofdflbmab
