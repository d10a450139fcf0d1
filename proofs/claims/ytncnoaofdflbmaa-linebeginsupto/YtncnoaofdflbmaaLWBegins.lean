/- LineBegins' walk. -/
import Derived.Test.YtncnoaofdflbmaaLC
import Derived.Test.YtncnoaofdflbmaaL5Times
import Derived.Test.YtncnoaofdflbmaaTold
namespace Go.Proofs.Ytncnoaofdflbmaa
open Go.RowKit
set_option linter.unusedVariables false

theorem KS.part {w : World} {ao : Option Addr} {n k : Nat} {f : Nat → Int} (h : KS w ao n f) (hk : k ≤ n) : KS w ao k f :=
  ⟨fun h0 => by
    obtain ⟨b, off, e, hb, hc⟩ := h.cells (by omega)
    exact ⟨b, off, e, hb, fun i hi => hc i (by omega)⟩, fun i hi => h.bd i (by omega)⟩
theorem Told.part {eps : Int} {f : Nat → Int} {n k : Nat} {a b c a' b' c' err : Int} (h : Told eps f n a b c) (k0 : 0 < k) (hk : k ≤ n) (o : OfR eps f k a' b' c' err) : err = 0 ∧ Told eps f k a' b' c' ∧ ¬ a * b' < a' * b := by
  have u : Up f k := fun j hj => h.up j (by omega)
  rcases o with ⟨o1, _⟩ | ⟨_, o2, _⟩ | ⟨_, _, o3, _⟩ | ⟨o1, o2, o3, o4, o5, o6⟩
  · exact absurd ⟨h.e1, h.e2⟩ o1
  · exact absurd ⟨k0, u⟩ o2
  · exact absurd (fits_less h.fits hk) o3
  · refine ⟨o6, ⟨h.e1, h.e2, k0, u, o3, o4, o5⟩, ?_⟩
    have := low_le (prs_pairs u) o4 h.low (fun i j s => ⟨s.1, by have := s.2; omega⟩)
    omega

set_option maxRecDepth 10000 in
set_option maxHeartbeats 4000000 in
theorem linebegins_walk (LL : LineC) (DD : DocC) (ao : Option Addr) (n cp : Nat) (f : Nat → Int) (eps k : Int) (p0 : -9223372036854775808 ≤ eps) (p1 : eps < 9223372036854775808) (s0 : -9223372036854775808 ≤ k) (s1 : k < 9223372036854775808) (hn : n ≤ 1048576) (hcp : n ≤ cp) (w : World) (h : KS w ao n f) :
    Calls Try.prog 8 #[.slice ao n cp, .int .i64 eps, .int .i64 k] w fun e w' => e = .returned (.bool true) ∧ Gw w w' := by
  have HK : Aside (KS w ao n f) := h
  clear h
  have SH : Hid (∀ W, Calls Try.prog 9 #[] W fun e w' => e = .returned (.bool true) ∧ Gw W w') := fun W => xshown LL W
  have OL : Hid _ := fun W h => LL.of eps ao n cp f p0 p1 (by omega) W h
  have OD : Hid _ := fun W h => DD.of eps ao n cp f p0 p1 (by omega) W h
  have LC : Hid LineC := LL
  clear LL DD
  go_enter Try.func8, Try.ntmps8
  go_wp2_with fail
  refine (SH.out _).mono ?_
  rintro e w1 ⟨rfl, g1⟩
  have G1 : Aside (Gw w w1) := g1
  clear g1
  go_wp2_with fail
  refine (OL.out _ (HK.out.gw G1.out)).mono ?_
  rintro e w3 ⟨⟨x, y, z, err, rfl, hO, xb, yb, zb⟩, g3⟩
  have O3 : Aside (OfR eps f n x y z err) := hO
  have G3 : Aside (Gw w (w3.alloc (.cells #[.int .u64 x, .int .u64 y, .int .i64 z] 27))) := (G1.out.trans g3).alloc _ _
  have L3 : Aside (Ln (w3.alloc (.cells #[.int .u64 x, .int .u64 y, .int .i64 z] 27)) w3.heap.size x y z) := heap_alloc_new w3 _
  clear hO g3 G1
  go_wp2_with fail
  generalize w3.alloc (.cells #[.int .u64 x, .int .u64 y, .int .i64 z] 27) = w4 at G3 L3 ⊢
  obtain ⟨q3, hq3⟩ : ∃ q, w3.heap.size = q := ⟨_, rfl⟩
  rw [hq3] at L3 ⊢
  clear hq3
  refine (OD.out _ (HK.out.gw G3.out)).mono ?_
  rintro e w5 ⟨⟨x', y', z', err', rfl, hO, _⟩, g5⟩
  obtain ⟨⟨rfl, rfl, rfl⟩, rfl⟩ := hO.one O3.out
  have G5 : Aside (Gw w (w5.alloc (.cells #[.int .u64 x', .int .u64 y', .int .i64 z'] 27))) := (G3.out.trans g5).alloc _ _
  have L5 : Aside (Ln (w5.alloc (.cells #[.int .u64 x', .int .u64 y', .int .i64 z'] 27)) q3 x' y' z') := (L3.out.gw g5).gw ((Gw.refl _).alloc _ _)
  clear hO g5 G3 L3 SH OL OD
  rcases O3.out.cases with ⟨k0, rfl, rfl, rfl⟩ | ⟨rfl, hT⟩
  · have t0 : (err' != 0) = true := by simpa using k0
    clear O3 k0
    go_wp2_with fail
    go_ret
    exact ⟨rfl, G5.out⟩
  · have T : Aside (Told eps f n x' y' z') := hT
    have n0 := hT.n0
    have e1 := hT.e1
    have e2 := hT.e2
    clear hT O3
    by_cases hk : k < 0
    · have tk : decide (k < 0) = true := by simpa using hk
      have wa : IntKind.i64.wrap (k + 1) = k + 1 := by rw [IntKind.wrap_i64]; omega
      have wb : IntKind.i64.wrap (-(k + 1)) = -(k + 1) := by rw [IntKind.wrap_i64]; omega
      obtain ⟨K0, hK⟩ : ∃ K0, -(k + 1) = K0 := ⟨_, rfl⟩
      have k0 : 0 ≤ K0 := by omega
      rw [hK] at wb
      obtain ⟨v, hv⟩ : ∃ v, K0 % (n : Int) = v := ⟨_, rfl⟩
      have tv : K0.tmod (n : Int) = v := by rw [Int.tmod_eq_emod_of_nonneg k0]; exact hv
      have v0 : 0 ≤ v := by rw [← hv]; exact Int.emod_nonneg _ (by omega)
      have v1 : v < n := by rw [← hv]; exact Int.emod_lt_of_pos _ (by omega)
      obtain ⟨kn, hkn⟩ : ∃ kn : Nat, 1 + v = kn := ⟨(1 + v).toNat, by omega⟩
      have wk : IntKind.i64.wrap (1 + v) = kn := by rw [IntKind.wrap_i64]; omega
      have nz : ((n : Int) == 0) = false := by simp; omega
      have nz' : ¬ (n : Int) = 0 := by omega
      have kb : 0 < kn ∧ kn ≤ n := by omega
      have kc : kn ≤ cp := by omega
      have kc' : (kn : Int) ≤ (cp : Int) := by omega
      obtain ⟨bk, off, rfl, _, _⟩ := HK.out.cells n0
      have K5 : Aside (KS (w5.alloc (.cells #[.int .u64 x', .int .u64 y', .int .i64 z'] 27)) (some ⟨bk, off, none⟩) kn f) := (HK.out.part kb.2).gw G5.out
      have OM : Hid _ := fun W h => LC.out.of eps (some ⟨bk, off, none⟩) kn cp f p0 p1 (by omega) W h
      have FM : Hid _ := fun a b c a0 a1 b0 b1 c0 c1 W h => LC.out.fits a b c eps (some ⟨bk, off, none⟩) kn cp f a0 a1 b0 b1 c0 c1 p0 p1 (by omega) W h
      clear hv v0 v1 LC
      go_wp2_with fail
      refine (OM.out _ K5.out).mono ?_
      rintro e w7 ⟨⟨xx, yy, zz, er, rfl, hM, xxb, yyb, zzb⟩, g7⟩
      obtain ⟨rfl, TM, na⟩ := T.out.part kb.1 kb.2 hM
      have FT : Aside (FitR eps f kn xx yy zz) := (TM.stays (by omega)).1
      have NA : Aside (xx * y' ≤ x' * yy) := Int.not_lt.1 na
      have G7 : Aside (Gw w (w7.alloc (.cells #[.int .u64 xx, .int .u64 yy, .int .i64 zz] 27))) := (G5.out.trans g7).alloc _ _
      have L7 : Aside (Ln (w7.alloc (.cells #[.int .u64 xx, .int .u64 yy, .int .i64 zz] 27)) q3 x' y' z') := (L5.out.gw g7).gw ((Gw.refl _).alloc _ _)
      have M7 : Aside (Ln (w7.alloc (.cells #[.int .u64 xx, .int .u64 yy, .int .i64 zz] 27)) w7.heap.size xx yy zz) := heap_alloc_new w7 _
      clear hM g7 G5 L5 K5 OM T TM na
      go_wp2_with fail
      generalize w7.alloc (.cells #[.int .u64 xx, .int .u64 yy, .int .i64 zz] 27) = w8 at G7 L7 M7 ⊢
      obtain ⟨q7, hq7⟩ : ∃ q, w7.heap.size = q := ⟨_, rfl⟩
      rw [hq7] at M7 ⊢
      clear hq7
      have K8 : Aside (KS w8 (some ⟨bk, off, none⟩) kn f) := (HK.out.part kb.2).gw G7.out
      have b0 := M7.out.c0
      have b1 := M7.out.c1
      have b2 := M7.out.c2
      have FM' : Hid (∀ W, KS W (some ⟨bk, off, none⟩) kn f → Calls Try.prog 16 #[.agg #[.int .u64 xx, .int .u64 yy, .int .i64 zz], .slice (some ⟨bk, off, none⟩) kn cp, .int .i64 eps] W fun ex w' => ex = .returned (.bool true) ∧ Gw W w') := fun W h => by
        refine (FM.out xx yy zz xxb.1 xxb.2 yyb.1 yyb.2 zzb.1 zzb.2 W h).mono ?_
        rintro e w' ⟨⟨r, rfl, hr⟩, g⟩
        obtain rfl := hr.2 FT.out
        exact ⟨rfl, g⟩
      clear FM FT
      go_cut [14] (fun s w' => s = .bool true ∧ Aside (Gw w8 w'))
      case first =>
        go_region_with (go_at_call 16; refine (FM'.out _ (by first | exact K8.out | exact K8.out.gw (Gw.refl _).drew)).mono ?_; rintro ex v4 ⟨rfl, g4⟩; have G4 : Hid (Gw w8 v4) := (Gw.trans (by repeat (first | exact Gw.refl _ | refine Gw.drew ?_)) g4); clear g4)
        all_goals go_wp2_with fail
        all_goals go_meet
        all_goals
          case rel => exact ⟨rfl, (show Aside _ from (by first | exact G4.out | exact G4.out.drew | exact G4.out.drewN _))⟩
      case rest =>
        obtain ⟨wy, hwy⟩ : ∃ wy, wy = wc := ⟨_, rfl⟩
        subst hwy
        obtain ⟨rfl, gy⟩ := hcut
        have GY : Aside (Gw w wy) := G7.out.trans gy.out
        have LY : Aside (Ln wy q3 x' y' z') := L7.out.gw gy.out
        have MY : Aside (Ln wy q7 xx yy zz) := M7.out.gw gy.out
        clear L7 G7 M7 gy b0 b1 b2 K8 FM'
        have a0 := LY.out.c0
        have a1 := LY.out.c1
        have a2 := LY.out.c2
        have b0 := MY.out.c0
        have b1 := MY.out.c1
        have b2 := MY.out.c2
        have AB : Hid (∀ W, Calls Try.prog 19 #[.agg #[.int .u64 xx, .int .u64 yy, .int .i64 zz], .agg #[.int .u64 x', .int .u64 y', .int .i64 z']] W fun e w' => e = .returned (.bool false) ∧ Gw W w') := fun W => by
          have := above5_any xx yy zz x' y' z' xxb.1 xxb.2 yyb.1 yyb.2 xb.1 xb.2 yb.1 yb.2 W
          rw [decide_eq_false (Int.not_lt.2 NA.out)] at this
          exact this
        go_wp2_with fail
        refine (AB.out _).mono ?_
        rintro ex w12 ⟨rfl, g12⟩
        have G12 : Aside (Gw w w12) := GY.out.trans g12
        clear g12
        go_wp2_with fail
        go_ret
        exact ⟨rfl, G12.out⟩
    · have tk : decide (k < 0) = false := by simpa using hk
      obtain ⟨K0, hK⟩ : ∃ K0, k = K0 := ⟨_, rfl⟩
      have k0 : 0 ≤ K0 := by omega
      rw [hK] at tk ⊢
      obtain ⟨v, hv⟩ : ∃ v, K0 % (n : Int) = v := ⟨_, rfl⟩
      have tv : K0.tmod (n : Int) = v := by rw [Int.tmod_eq_emod_of_nonneg k0]; exact hv
      have v0 : 0 ≤ v := by rw [← hv]; exact Int.emod_nonneg _ (by omega)
      have v1 : v < n := by rw [← hv]; exact Int.emod_lt_of_pos _ (by omega)
      obtain ⟨kn, hkn⟩ : ∃ kn : Nat, 1 + v = kn := ⟨(1 + v).toNat, by omega⟩
      have wk : IntKind.i64.wrap (1 + v) = kn := by rw [IntKind.wrap_i64]; omega
      have nz : ((n : Int) == 0) = false := by simp; omega
      have nz' : ¬ (n : Int) = 0 := by omega
      have kb : 0 < kn ∧ kn ≤ n := by omega
      have kc : kn ≤ cp := by omega
      have kc' : (kn : Int) ≤ (cp : Int) := by omega
      obtain ⟨bk, off, rfl, _, _⟩ := HK.out.cells n0
      have K5 : Aside (KS (w5.alloc (.cells #[.int .u64 x', .int .u64 y', .int .i64 z'] 27)) (some ⟨bk, off, none⟩) kn f) := (HK.out.part kb.2).gw G5.out
      have OM : Hid _ := fun W h => LC.out.of eps (some ⟨bk, off, none⟩) kn cp f p0 p1 (by omega) W h
      have FM : Hid _ := fun a b c a0 a1 b0 b1 c0 c1 W h => LC.out.fits a b c eps (some ⟨bk, off, none⟩) kn cp f a0 a1 b0 b1 c0 c1 p0 p1 (by omega) W h
      clear hv v0 v1 LC
      go_wp2_with fail
      refine (OM.out _ K5.out).mono ?_
      rintro e w7 ⟨⟨xx, yy, zz, er, rfl, hM, xxb, yyb, zzb⟩, g7⟩
      obtain ⟨rfl, TM, na⟩ := T.out.part kb.1 kb.2 hM
      have FT : Aside (FitR eps f kn xx yy zz) := (TM.stays (by omega)).1
      have NA : Aside (xx * y' ≤ x' * yy) := Int.not_lt.1 na
      have G7 : Aside (Gw w (w7.alloc (.cells #[.int .u64 xx, .int .u64 yy, .int .i64 zz] 27))) := (G5.out.trans g7).alloc _ _
      have L7 : Aside (Ln (w7.alloc (.cells #[.int .u64 xx, .int .u64 yy, .int .i64 zz] 27)) q3 x' y' z') := (L5.out.gw g7).gw ((Gw.refl _).alloc _ _)
      have M7 : Aside (Ln (w7.alloc (.cells #[.int .u64 xx, .int .u64 yy, .int .i64 zz] 27)) w7.heap.size xx yy zz) := heap_alloc_new w7 _
      clear hM g7 G5 L5 K5 OM T TM na
      go_wp2_with fail
      generalize w7.alloc (.cells #[.int .u64 xx, .int .u64 yy, .int .i64 zz] 27) = w8 at G7 L7 M7 ⊢
      obtain ⟨q7, hq7⟩ : ∃ q, w7.heap.size = q := ⟨_, rfl⟩
      rw [hq7] at M7 ⊢
      clear hq7
      have K8 : Aside (KS w8 (some ⟨bk, off, none⟩) kn f) := (HK.out.part kb.2).gw G7.out
      have b0 := M7.out.c0
      have b1 := M7.out.c1
      have b2 := M7.out.c2
      have FM' : Hid (∀ W, KS W (some ⟨bk, off, none⟩) kn f → Calls Try.prog 16 #[.agg #[.int .u64 xx, .int .u64 yy, .int .i64 zz], .slice (some ⟨bk, off, none⟩) kn cp, .int .i64 eps] W fun ex w' => ex = .returned (.bool true) ∧ Gw W w') := fun W h => by
        refine (FM.out xx yy zz xxb.1 xxb.2 yyb.1 yyb.2 zzb.1 zzb.2 W h).mono ?_
        rintro e w' ⟨⟨r, rfl, hr⟩, g⟩
        obtain rfl := hr.2 FT.out
        exact ⟨rfl, g⟩
      clear FM FT
      go_cut [14] (fun s w' => s = .bool true ∧ Aside (Gw w8 w'))
      case first =>
        go_region_with (go_at_call 16; refine (FM'.out _ (by first | exact K8.out | exact K8.out.gw (Gw.refl _).drew)).mono ?_; rintro ex v4 ⟨rfl, g4⟩; have G4 : Hid (Gw w8 v4) := (Gw.trans (by repeat (first | exact Gw.refl _ | refine Gw.drew ?_)) g4); clear g4)
        all_goals go_wp2_with fail
        all_goals go_meet
        all_goals
          case rel => exact ⟨rfl, (show Aside _ from (by first | exact G4.out | exact G4.out.drew | exact G4.out.drewN _))⟩
      case rest =>
        obtain ⟨wy, hwy⟩ : ∃ wy, wy = wc := ⟨_, rfl⟩
        subst hwy
        obtain ⟨rfl, gy⟩ := hcut
        have GY : Aside (Gw w wy) := G7.out.trans gy.out
        have LY : Aside (Ln wy q3 x' y' z') := L7.out.gw gy.out
        have MY : Aside (Ln wy q7 xx yy zz) := M7.out.gw gy.out
        clear L7 G7 M7 gy b0 b1 b2 K8 FM'
        have a0 := LY.out.c0
        have a1 := LY.out.c1
        have a2 := LY.out.c2
        have b0 := MY.out.c0
        have b1 := MY.out.c1
        have b2 := MY.out.c2
        have AB : Hid (∀ W, Calls Try.prog 19 #[.agg #[.int .u64 xx, .int .u64 yy, .int .i64 zz], .agg #[.int .u64 x', .int .u64 y', .int .i64 z']] W fun e w' => e = .returned (.bool false) ∧ Gw W w') := fun W => by
          have := above5_any xx yy zz x' y' z' xxb.1 xxb.2 yyb.1 yyb.2 xb.1 xb.2 yb.1 yb.2 W
          rw [decide_eq_false (Int.not_lt.2 NA.out)] at this
          exact this
        go_wp2_with fail
        refine (AB.out _).mono ?_
        rintro ex w12 ⟨rfl, g12⟩
        have G12 : Aside (Gw w w12) := GY.out.trans g12
        clear g12
        go_wp2_with fail
        go_ret
        exact ⟨rfl, G12.out⟩
end Go.Proofs.Ytncnoaofdflbmaa
