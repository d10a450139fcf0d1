/- ModelBound's walk. -/
import Derived.Test.YtopjbhnbganlmaaPSt
import Derived.Deep.RegionHeld3
import Derived.Deep.DeepCutAuto
namespace Go.Proofs.Ytopjbhnbganlmaa
open Go.RowKit
set_option linter.unusedVariables false
attribute [local go_sem] run_store_float

set_option maxRecDepth 10000 in
set_option maxHeartbeats 4000000 in
theorem mbound_walk (MM : ModelC) (O5 : Of5C) (ao : Option Addr) (n cp : Nat) (f : Nat → Int) (eps fr : Int) (e0 : -9223372036854775808 ≤ eps) (e1 : eps < 9223372036854775808) (f0 : -9223372036854775808 ≤ fr) (f1 : fr < 9223372036854775808) (po : Option Addr) (m pc : Nat) (p : Nat → Int) (hn : n ≤ 1048576) (hcp : n ≤ cp) (hm : m ≤ 1048576) (w : World) (h : KS w ao n f) (hp : KS w po m p) :
    Calls Try.prog 7 #[.slice ao n cp, .agg #[.int .i64 eps, .int .i64 fr], .slice po m pc] w fun e w' => e = .returned (.bool true) ∧ Gw w w' := by
  have HK : Aside (KS w ao n f) := h
  have HP : Aside (KS w po m p) := hp
  clear h hp
  have SH : Hid (∀ W, Calls Try.prog 9 #[] W fun e w' => e = .returned (.bool true) ∧ Gw W w') := fun W => shown7 MM W
  have OM : Hid _ := fun W h => MM.of eps fr ao n cp f e0 e1 f0 f1 (by omega) hcp W h
  have R5 : Hid _ := fun W h => O5 eps ao n cp f e0 e1 (by omega) W h
  have CH : Hid _ := fun k s ic F T (ok : SegOk k s ic F T) W => MM.check k s ic F T ok W
  have GM : Hid _ := fun k s ic F T (ok : SegOk k s ic F T) q q0 q1 W => MM.guess k s ic F T q ok q0 q1 W
  have OF : Hid _ := fun k s ic F T (ok : SegOk k s ic F T) W h => MM.off k s ic F T ao n cp f ok (by omega) hcp W h
  have BL : Hid _ := fun q W h => below7_any ao n cp f q (by omega) W h
  clear MM O5
  go_enter Try.func7, Try.ntmps7
  go_wp2_with fail
  go_quiet (fail)
  go_wp2_with fail
  refine (SH.out _).mono ?_
  rintro e w1 ⟨rfl, g1⟩
  have G1 : Aside (Gw w w1) := Gw.trans (Gw.drewN (Gw.alloc (Gw.refl w) _ _) _) g1
  clear g1
  go_wp2_with fail
  refine (OM.out _ (HK.out.gw G1.out)).mono ?_
  rintro e w2 ⟨⟨k, s, ic, F, T, er, rfl, hO⟩, g2⟩
  have SK : Aside (SegOk k s ic F T) := hO.ok (by omega) HK.out.bd
  have S3 : Aside (Sb (w2.alloc (.cells #[.int .u64 k, .float .f64 s, .float .f64 ic, .int .i64 F, .int .i64 T] 28)) w2.heap.size k s ic F T) := heap_alloc_new w2 _
  have G3 : Aside (Gw w (w2.alloc (.cells #[.int .u64 k, .float .f64 s, .float .f64 ic, .int .i64 F, .int .i64 T] 28))) := (G1.out.trans g2).alloc _ _
  have O2 : Aside (SegR eps fr f n k s ic F T er) := hO
  clear hO g2 G1
  go_wp2_with fail
  generalize w2.alloc (.cells #[.int .u64 k, .float .f64 s, .float .f64 ic, .int .i64 F, .int .i64 T] 28) = w3 at S3 G3 ⊢
  obtain ⟨b, hb⟩ : ∃ b, w2.heap.size = b := ⟨_, rfl⟩
  rw [hb] at S3 ⊢
  clear hb
  refine (R5.out _ (HK.out.gw G3.out)).mono ?_
  rintro e w4 ⟨⟨a', b', c', er5, rfl, hO, _⟩, g4⟩
  have S4 : Aside (Sb w4 b k s ic F T) := S3.out.gw g4
  have G4 : Aside (Gw w w4) := G3.out.trans g4
  clear g4 S3 G3
  have wn : IntKind.i64.wrap (4294967296 - (n : Int)) = 4294967296 - (n : Int) := by rw [IntKind.wrap_i64]; omega
  rcases O2.out with ⟨a, b1, c, o, ne, hk, hs, hi, hF, hT⟩ | ⟨a, b1, c, o, nb, hk, hs, hi, hF, hT, he⟩ | ⟨a, b1, c, o, nb, ab, hs, hk, hi, hF, hT, he⟩
  · obtain rfl : er5 = er := hO.err o
    have t1 : (er5 == 0) = false := by simpa using ne
    have t2 : (er5 != 0) = true := by simpa using ne
    clear O2 hO o ne hk hs hi hF hT
    go_wp2_with fail
    go_ret
    exact ⟨rfl, G4.out.alloc _ _⟩
  · obtain rfl : er5 = 0 := hO.err o
    subst he
    clear O2 hO o hk hs hi hF hT
    by_cases h0 : 0 ≤ fr
    · have t1 : decide (0 ≤ fr) = true := by simpa using h0
      have t2 : decide (fr ≤ 4294967296 - (n : Int)) = false := by simp; omega
      go_wp2_with fail
      go_ret
      exact ⟨rfl, G4.out.alloc _ _⟩
    · have t1 : decide (0 ≤ fr) = false := by simpa using h0
      go_wp2_with fail
      go_ret
      exact ⟨rfl, G4.out.alloc _ _⟩
  · obtain rfl : er5 = 0 := hO.err o
    subst he
    subst hF
    have SB : Aside (errM s ic F T = 0 ∧ ∀ i, i < n → -eps ≤ away k s ic F T f i ∧ away k s ic F T f i ≤ eps) := by
      rw [hi, hT, hk]; exact seg_bound o (by omega) HK.out.bd ab.1 ab.2 nb.1 nb.2 hs
    have PB : Aside (∀ q, q < 18446744073709551616 → -(eps + 1) ≤ guessV k s ic F T q - (F + cntb f q n) ∧ guessV k s ic F T q - (F + cntb f q n) ≤ eps + 1) := by
      rw [hi, hT, hk]; exact fun q q1 => probe_bound o (by omega) HK.out.bd ab.1 ab.2 nb.1 nb.2 hs q q1
    have TD : Aside (Told eps f n a b1 c) := by
      rcases o.cases with ⟨q, _⟩ | ⟨_, q⟩
      · exact absurd rfl q
      · exact q
    have ee1 := TD.out.e1
    have ee2 := TD.out.e2
    have n0 := TD.out.n0
    have t1 : decide (0 ≤ F) = true := by simp; omega
    have t2 : decide (F ≤ 4294967296 - (n : Int)) = true := by simp; omega
    have nb1 := nb.1
    have nb2 := nb.2
    have kf : Aside (f 0 = k) := hk.symm
    have HT : T = F + (n : Int) := hT
    have wT : IntKind.i64.wrap (F + (n : Int)) = T := by rw [IntKind.wrap_i64]; omega
    have S5 : Aside (Sb (w4.alloc (.cells #[.int .u64 a', .int .u64 b', .int .i64 c'] 46)) b k s ic F T) := S4.out.gw ((Gw.refl w4).alloc _ _)
    have G5 : Aside (Gw w (w4.alloc (.cells #[.int .u64 a', .int .u64 b', .int .i64 c'] 46))) := G4.out.alloc _ _
    have TB : Aside (T = F + (n : Int)) := HT
    clear O2 hO o hk hs hi hT ab nb S4 G4 HT
    obtain ⟨z0, z1, z2, z3, z4⟩ := S5.out.cells
    have zl := S5.out.lt
    go_wp2_with fail
    generalize w4.alloc (.cells #[.int .u64 a', .int .u64 b', .int .i64 c'] 46) = w5 at S5 G5 z0 z1 z2 z3 z4 zl ⊢
    have C0 := CH.out k s ic F T SK.out w5
    rw [SB.out.1] at C0
    refine C0.mono ?_
    rintro e w6 ⟨rfl, g6⟩
    have S6 : Aside (Sb w6 b k s ic F T) := S5.out.gw g6
    have G6 : Aside (Gw w w6) := G5.out.trans g6
    clear g6 C0 S5 G5 z0 z1 z2 z3 z4 zl
    obtain ⟨z0, z1, z2, z3, z4⟩ := S6.out.cells
    have zl := S6.out.lt
    go_wp2_with fail
    refine (OF.out k s ic F T SK.out w6 (HK.out.gw G6.out)).mono ?_
    rintro e w7 ⟨⟨N, er7, rfl, hO⟩, g7⟩
    have S7 : Aside (Sb w7 b k s ic F T) := S6.out.gw g7
    have G7 : Aside (Gw w w7) := G6.out.trans g7
    obtain ⟨rfl, rfl⟩ := hO.uniq (N' := worst (away k s ic F T f) n) (er' := 0) (.inr (.inr ⟨SB.out.1, ⟨by have := TB.out; omega, kf.out, TD.out.up⟩, rfl, rfl⟩))
    have Nle := worst_le (g := away k s ic F T f) (M := eps) (by omega) n SB.out.2
    generalize worst (away k s ic F T f) n = N at Nle
    have tN : decide (eps < N) = false := by simp; omega
    clear g7 hO S6 G6 z0 z1 z2 z3 z4 zl
    obtain ⟨bk, off, rfl, lbk, hc⟩ := (HK.out.gw G7.out).cells n0
    have q0 : w7.cell? ⟨bk, off, none⟩ = some (.int .u64 k) := by have := hc 0 n0; rw [kf.out] at this; exact this
    have n0' : (0 : Int) < (n : Int) := by omega
    clear hc
    obtain ⟨z0, z1, z2, z3, z4⟩ := S7.out.cells
    have zl := S7.out.lt
    go_wp2_with fail
    go_quiet (fail)
    go_wp2_with fail
    have S8 : Aside (Sb (w7.drewN nq) b k s ic F T) := S7.out.gw ((Gw.refl w7).drewN _)
    have G8 : Aside (Gw w (w7.drewN nq)) := G7.out.drewN _
    clear S7 G7 z0 z1 z2 z3 z4 zl q0 tN Nle t1 t2
    generalize w7.drewN nq = w8 at S8 G8 ⊢
    go_loopg [17] n (fun gg s17 wr => ∃ i : Nat, s17 = .int .i64 i ∧ i ≤ n ∧ n - i ≤ gg ∧ Aside (Sb wr b k s ic F T) ∧ Aside (Gw w wr))
    case atStart => exact ⟨0, rfl, Nat.zero_le _, by omega, S8, G8⟩
    case round =>
      clear S8 G8
      obtain ⟨i, rfl, h1, h2, SS, G⟩ := hrel
      by_cases hlt : i < n
      · obtain ⟨bk', off', eb, lb, hc⟩ := (HK.out.gw G.out).cells n0
        cases eb
        have q1 := hc i hlt
        obtain ⟨y0, y1⟩ := HK.out.bd i hlt
        have AW := SB.out.2 i hlt
        unfold away at AW
        have AI := guessV_in (k := k) (q := f i) SB.out.1 SK.out.k0 y1
        obtain ⟨fi, hfi⟩ : ∃ y, f i = y := ⟨_, rfl⟩
        rw [hfi] at q1 y0 y1 AW AI
        clear hc hfi
        obtain ⟨z0, z1, z2, z3, z4⟩ := SS.out.cells
        have zl := SS.out.lt
        obtain ⟨A, hA⟩ : ∃ A, guessV k s ic F T fi = A := ⟨_, rfl⟩
        have GI : Hid (∀ W, Calls Try.prog 18 #[segV k s ic F T, .int .u64 fi] W fun e w' => e = .returned (.int .i64 A) ∧ Gw W w') := fun W => by rw [← hA]; exact GM.out k s ic F T SK.out fi y0 y1 W
        rw [hA] at AW AI
        clear hA
        have tb := TB.out
        obtain ⟨X, hX⟩ : ∃ X, F + (i : Int) = X := ⟨_, rfl⟩
        obtain ⟨D, hD⟩ : ∃ D, A - X = D := ⟨_, rfl⟩
        obtain ⟨M, hM⟩ : ∃ M, -D = M := ⟨_, rfl⟩
        have v1 : IntKind.i64.wrap (F + (i : Int)) = X := by rw [IntKind.wrap_i64]; omega
        have v2 : IntKind.i64.wrap (A - X) = D := by rw [IntKind.wrap_i64]; omega
        have v3 : IntKind.i64.wrap (-D) = M := by rw [IntKind.wrap_i64]; omega
        have d1 : decide (eps < D) = false := by simp; omega
        have d2 : decide (eps < M) = false := by simp; omega
        clear hX hD hM AW AI tb y0 y1
        have HW : Hid (∀ w', Gw wr w' → Gw wr w' ∧ w'.cell? ⟨b, 0, none⟩ = some (.int .u64 k) ∧ w'.cell? ⟨b, 1, none⟩ = some (.float .f64 s) ∧ w'.cell? ⟨b, 2, none⟩ = some (.float .f64 ic) ∧ w'.cell? ⟨b, 3, none⟩ = some (.int .i64 F) ∧ w'.cell? ⟨b, 4, none⟩ = some (.int .i64 T) ∧ w'.cell? ⟨bk, off + i, none⟩ = some (.int .u64 fi)) := fun w' g => ⟨g, (g.cell _ _ zl).trans z0, (g.cell _ _ zl).trans z1, (g.cell _ _ zl).trans z2, (g.cell _ _ zl).trans z3, (g.cell _ _ zl).trans z4, (g.cell _ _ lb).trans q1⟩
        go_wp2_with fail
        go_cut [18] (fun s wc => s = .int .i64 D ∧ Aside (Gw wr wc))
        case first =>
          go_region_held3 (fun w' => Gw wr w' ∧ w'.cell? ⟨b, 0, none⟩ = some (.int .u64 k) ∧ w'.cell? ⟨b, 1, none⟩ = some (.float .f64 s) ∧ w'.cell? ⟨b, 2, none⟩ = some (.float .f64 ic) ∧ w'.cell? ⟨b, 3, none⟩ = some (.int .i64 F) ∧ w'.cell? ⟨b, 4, none⟩ = some (.int .i64 T) ∧ w'.cell? ⟨bk, off + i, none⟩ = some (.int .u64 fi))
            ((refine HW.out _ ?_; (repeat (first | exact Gw.refl _ | exact And.left (by assumption) | exact Hid.out (by assumption) | refine Gw.drew ?_ | refine Gw.trans ?_ (by assumption))); done))
            ((go_at_call 18; refine (GI.out _).mono ?_; rintro ex w4 ⟨rfl, g4⟩; have G4 : Hid (Gw wr w4) := (Gw.trans (by repeat (first | exact Gw.refl _ | exact And.left (by assumption) | exact Hid.out (by assumption) | refine Gw.drew ?_ | refine Gw.drewN ?_ _)) g4); clear g4))
          all_goals go_wp2_with fail
          all_goals go_meet
          all_goals
            case rel => exact ⟨rfl, (show Aside _ from by repeat (first | exact Gw.refl _ | exact And.left (by assumption) | exact Hid.out (by assumption) | refine Gw.drew ?_ | refine Gw.drewN ?_ _))⟩
        case rest =>
          obtain ⟨w9, hwx⟩ : ∃ wx, wx = wc := ⟨_, rfl⟩
          subst hwx
          obtain ⟨rfl, G9⟩ := hcut
          have S10 : Aside (Sb w9 b k s ic F T) := SS.out.gw G9.out
          have G10 : Aside (Gw w w9) := G.out.trans G9.out
          clear z0 z1 z2 z3 z4 zl HW GI q1 v1 v2 SS G
          go_wp2_with fail
          go_roundg (n - (i + 1))
          case measure => omega
          case rel => exact ⟨i + 1, by go_num, by omega, Nat.le_refl _, S10, G10⟩
      · go_wp2_with fail
        go_loopg [19] m (fun gg s19 wr => ∃ i : Nat, s19 = .int .i64 i ∧ i ≤ m ∧ m - i ≤ gg ∧ Aside (Sb wr b k s ic F T) ∧ Aside (Gw w wr))
        case atStart => exact ⟨0, rfl, Nat.zero_le _, by omega, SS, G⟩
        case round =>
          clear SS G
          obtain ⟨j, rfl, h3, h4, SS, G⟩ := hrel
          by_cases jlt : j < m
          · obtain ⟨pb, pf, rfl, lb, hc⟩ := (HP.out.gw G.out).cells (by omega)
            have q1 := hc j jlt
            obtain ⟨y0, y1⟩ := HP.out.bd j jlt
            obtain ⟨fi, hfi⟩ : ∃ y, p j = y := ⟨_, rfl⟩
            rw [hfi] at q1 y0 y1
            clear hc hfi
            have AW := PB.out fi y1
            have AI := guessV_in (k := k) (q := fi) SB.out.1 SK.out.k0 y1
            have cle := cntb_le f fi n
            obtain ⟨z0, z1, z2, z3, z4⟩ := SS.out.cells
            have zl := SS.out.lt
            obtain ⟨A, hA⟩ : ∃ A, guessV k s ic F T fi = A := ⟨_, rfl⟩
            obtain ⟨c, hcc⟩ : ∃ c, cntb f fi n = c := ⟨_, rfl⟩
            have GI : Hid (∀ W, Calls Try.prog 18 #[segV k s ic F T, .int .u64 fi] W fun e w' => e = .returned (.int .i64 A) ∧ Gw W w') := fun W => by rw [← hA]; exact GM.out k s ic F T SK.out fi y0 y1 W
            have BI : Hid (∀ W, KS W (some ⟨bk, off, none⟩) n f → Calls Try.prog 23 #[.slice (some ⟨bk, off, none⟩) n cp, .int .u64 fi] W fun e w' => e = .returned (.int .i64 (c : Int)) ∧ Gw W w') := fun W h => by rw [← hcc]; exact BL.out fi W h
            rw [hA, hcc] at AW
            rw [hA] at AI
            rw [hcc] at cle
            clear hA hcc
            have tb := TB.out
            obtain ⟨X, hX⟩ : ∃ X, F + (c : Int) = X := ⟨_, rfl⟩
            rw [hX] at AW
            obtain ⟨D, hD⟩ : ∃ D, A - X = D := ⟨_, rfl⟩
            obtain ⟨M, hM⟩ : ∃ M, -D = M := ⟨_, rfl⟩
            obtain ⟨N1, hN1⟩ : ∃ N1, eps + 1 = N1 := ⟨_, rfl⟩
            rw [hD] at AW
            have v1 : IntKind.i64.wrap (F + (c : Int)) = X := by rw [IntKind.wrap_i64]; omega
            have v2 : IntKind.i64.wrap (A - X) = D := by rw [IntKind.wrap_i64]; omega
            have v3 : IntKind.i64.wrap (-D) = M := by rw [IntKind.wrap_i64]; omega
            have v4 : IntKind.i64.wrap (eps + 1) = N1 := by rw [IntKind.wrap_i64]; omega
            have d1 : decide (N1 < D) = false := by simp; omega
            have d2 : decide (N1 < M) = false := by simp; omega
            have HG : Hid (∀ W, Gw wr W → KS W (some ⟨bk, off, none⟩) n f) := fun W g => (HK.out.gw G.out).gw g
            clear hX hD hM hN1 AW AI cle tb y0 y1
            have HW : Hid (∀ w', Gw wr w' → Gw wr w' ∧ w'.cell? ⟨b, 0, none⟩ = some (.int .u64 k) ∧ w'.cell? ⟨b, 1, none⟩ = some (.float .f64 s) ∧ w'.cell? ⟨b, 2, none⟩ = some (.float .f64 ic) ∧ w'.cell? ⟨b, 3, none⟩ = some (.int .i64 F) ∧ w'.cell? ⟨b, 4, none⟩ = some (.int .i64 T) ∧ w'.cell? ⟨pb, pf + j, none⟩ = some (.int .u64 fi)) := fun w' g => ⟨g, (g.cell _ _ zl).trans z0, (g.cell _ _ zl).trans z1, (g.cell _ _ zl).trans z2, (g.cell _ _ zl).trans z3, (g.cell _ _ zl).trans z4, (g.cell _ _ lb).trans q1⟩
            go_wp2_with fail
            go_cut [20] (fun s wc => s = .int .i64 D ∧ Aside (Gw wr wc))
            case first =>
              go_region_held3 (fun w' => Gw wr w' ∧ w'.cell? ⟨b, 0, none⟩ = some (.int .u64 k) ∧ w'.cell? ⟨b, 1, none⟩ = some (.float .f64 s) ∧ w'.cell? ⟨b, 2, none⟩ = some (.float .f64 ic) ∧ w'.cell? ⟨b, 3, none⟩ = some (.int .i64 F) ∧ w'.cell? ⟨b, 4, none⟩ = some (.int .i64 T) ∧ w'.cell? ⟨pb, pf + j, none⟩ = some (.int .u64 fi))
                ((refine HW.out _ ?_; (repeat (first | exact Gw.refl _ | exact And.left (by assumption) | exact Hid.out (by assumption) | refine Gw.drew ?_ | refine Gw.trans ?_ (by assumption))); done))
                ((first | (go_at_call 18; refine (GI.out _).mono ?_; rintro ex w4 ⟨rfl, g4⟩; have G4 : Hid (Gw wr w4) := (Gw.trans (by repeat (first | exact Gw.refl _ | exact And.left (by assumption) | exact Hid.out (by assumption) | refine Gw.drew ?_ | refine Gw.drewN ?_ _)) g4); clear g4) | (go_at_call 23; refine (BI.out _ (HG.out _ (by repeat (first | exact Gw.refl _ | exact And.left (by assumption) | exact Hid.out (by assumption) | refine Gw.drew ?_ | refine Gw.drewN ?_ _)))).mono ?_; rintro ex w4 ⟨rfl, g4⟩; have G4 : Hid (Gw wr w4) := (Gw.trans (by repeat (first | exact Gw.refl _ | exact And.left (by assumption) | exact Hid.out (by assumption) | refine Gw.drew ?_ | refine Gw.drewN ?_ _)) g4); clear g4)))
              all_goals go_wp2_with fail
              all_goals go_meet
              all_goals
                case rel => exact ⟨rfl, (show Aside _ from by repeat (first | exact Gw.refl _ | exact And.left (by assumption) | exact Hid.out (by assumption) | refine Gw.drew ?_ | refine Gw.drewN ?_ _))⟩
            case rest =>
              obtain ⟨w9, hwx⟩ : ∃ wx, wx = wc := ⟨_, rfl⟩
              subst hwx
              obtain ⟨rfl, G9⟩ := hcut
              have S10 : Aside (Sb w9 b k s ic F T) := SS.out.gw G9.out
              have G10 : Aside (Gw w w9) := G.out.trans G9.out
              clear z0 z1 z2 z3 z4 zl HW GI BI HG q1 v1 v2 SS G
              go_wp2_with fail
              go_roundg (m - (j + 1))
              case measure => omega
              case rel => exact ⟨j + 1, by go_num, by omega, Nat.le_refl _, S10, G10⟩
          · go_wp2_with fail
            go_ret
            exact ⟨rfl, G.out⟩

end Go.Proofs.Ytopjbhnbganlmaa
