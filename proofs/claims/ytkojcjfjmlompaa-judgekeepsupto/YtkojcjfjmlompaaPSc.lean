import Derived.Test.YtkojcjfjmlompaaPSa
import Derived.Deep.QuietTactic
import Derived.BigQuiet
import Derived.BigRegion
import Derived.Deep.CutBlock
import Derived.Test.YtkojcjfjmlompaaShelf
import Derived.Sort.Walk7a
import Derived.Sort.WalkA14
/- The library's insertion sort of numbers that gives up early. -/
namespace Go.Proofs.Ytkojcjfjmlompaa
open Go.RowKit
set_option linter.unusedVariables false

set_option maxRecDepth 20000 in
set_option maxHeartbeats 8000000 in
theorem pins23 (k c n a b : Nat) (d : Array Int) (hn : d.size = n) (n62 : n ≤ 4000000) (hab : a < b) (hb : b ≤ n) (w : World) (hr : UR w k d) :
    Calls Try.prog 41 #[.slice (some ⟨k, 0, none⟩) n c, .int .i64 (a : Int), .int .i64 (b : Int)] w fun e w' => e = .returned (.bool (Sort.partialInsertionSort ltI d a b).2) ∧ UR w' k (Sort.partialInsertionSort ltI d a b).1 ∧ Gx (fun q => q = k) w w' := by
  have U0 : Aside (UR w k d) := hr
  have LN : Aside (d.size = n) := hn
  have LE : Hid (∀ (x y : Int) (W : World), Calls Try.prog 42 #[.int .u64 x, .int .u64 y] W fun e w' => e = .returned (.bool (ltI x y)) ∧ w' = W) := fun x y W => less23 x y W
  obtain ⟨R, hR⟩ : ∃ R, Sort.partialInsertionSort ltI d a b = R := ⟨_, rfl⟩
  have HR : Aside (Sort.partialIns ltI a b 5 (a + 1) d = R) := hR
  rw [hR]
  obtain ⟨ba, hba⟩ : ∃ ba, ba = b - a := ⟨_, rfl⟩
  have w1 : IntKind.i64.wrap ((a : Int) + 1) = ((a + 1 : Nat) : Int) := by rw [IntKind.wrap_i64]; omega
  have w2 : IntKind.i64.wrap ((b : Int) - (a : Int)) = (ba : Int) := by rw [IntKind.wrap_i64]; omega
  have BA : Aside (ba = b - a) := hba
  clear hr hn hR hba
  go_enter Try.func41, Try.ntmps41
  go_wp2_with fail
  go_loopg [7, 8, 9, 10] 5 (fun gg s7 s8 s9 s10 wr => ∃ (i jj : Nat) (E : Array Int), s7 = .int .i64 (i : Int) ∧ s8 = .int .i64 (jj : Int) ∧ jj ≤ 5 ∧ 5 - jj ≤ gg ∧ Aside (a < i ∧ i ≤ b) ∧ Aside (E.size = n ∧ Sort.partialIns ltI a b (5 - jj) i E = R) ∧ Aside (UR wr k E) ∧ Aside (Gx (fun q => q = k) w wr))
  case atStart => exact ⟨a + 1, 0, d, rfl, rfl, by omega, Nat.le_refl _, ⟨by omega, by omega⟩, ⟨LN.out, HR.out⟩, U0, (show Aside _ from Gx.refl _ _)⟩
  case round =>
    obtain ⟨i, jj, E, rfl, rfl, j5, jg, XB0, HE, Ue, Ge⟩ := hrel
    have ai := XB0.out.1
    have ib := XB0.out.2
    have SZE : Aside (E.size = n) := HE.out.1
    by_cases cj : jj < 5
    · have cj' : decide ((jj : Int) < 5) = true := by simp; omega
      have wjj : IntKind.i64.wrap ((jj : Int) + 1) = ((jj + 1 : Nat) : Int) := by rw [IntKind.wrap_i64]; omega
      obtain ⟨sl, hsl⟩ : ∃ sl, 5 - jj = sl + 1 := ⟨4 - jj, by omega⟩
      obtain ⟨i2, hi2⟩ : ∃ i2, i2 = Sort.scanSorted ltI E b i := ⟨_, rfl⟩
      have Hi2 : Aside (i2 = Sort.scanSorted ltI E b i) := hi2
      have PI : Aside (R = if i2 = b then (E, true) else if b - a < 50 then (E, false) else Sort.partialIns ltI a b sl i2 (if b - i2 ≥ 2 then Sort.shiftUp ltI b (i2 + 1) (if i2 - a ≥ 2 then Sort.shiftDown ltI (i2 - 1) (Sort.swp E i2 (i2 - 1)) else Sort.swp E i2 (i2 - 1)) else (if i2 - a ≥ 2 then Sort.shiftDown ltI (i2 - 1) (Sort.swp E i2 (i2 - 1)) else Sort.swp E i2 (i2 - 1)))) := by
        show _ = _
        rw [← HE.out.2, hsl, hi2]
        rfl
      have HSL : Aside (5 - jj = sl + 1) := hsl
      clear hi2 hsl
      go_upto_block 2 with fail
      go_cut [7] from 13 to 132 (fun s7 wc => s7 = .int .i64 (i2 : Int) ∧ Aside (i ≤ i2 ∧ i2 ≤ b) ∧ Aside (UR wc k E) ∧ Aside (Gx (fun q => q = k) w wc))
      case first =>
        go_wp2_with fail
        go_loopg [7] (b - i) (fun gg s7 wr => ∃ x : Nat, s7 = .int .i64 (x : Int) ∧ b - x ≤ gg ∧ Aside (i ≤ x ∧ x ≤ b) ∧ Aside (Sort.scanSorted ltI E b x = i2) ∧ Aside (UR wr k E) ∧ Aside (Gx (fun q => q = k) w wr))
        case atStart => exact ⟨i, rfl, Nat.le_refl _, ⟨Nat.le_refl _, ib⟩, (show Aside _ from Hi2.out.symm), Ue, Ge⟩
        case round =>
          rename_i wr0
          obtain ⟨x, rfl, xg, XB, SC, UX, GX⟩ := hrel
          by_cases cl : x < b
          · have cl' : decide ((x : Int) < (b : Int)) = true := by simpa using cl
            have bx : x < n := by omega
            obtain ⟨y, hy⟩ : ∃ y, y = x - 1 := ⟨_, rfl⟩
            have by' : y < n := by omega
            have wx : IntKind.i64.wrap ((x : Int) + 1) = ((x + 1 : Nat) : Int) := by rw [IntKind.wrap_i64]; omega
            have wy : IntKind.i64.wrap ((x : Int) - 1) = (y : Int) := by have := XB.out; rw [IntKind.wrap_i64]; omega
            have XY : Aside (y = x - 1) := hy
            clear hy
            have qv := UX.out.cell (i := x) (by rw [SZE.out]; exact bx)
            obtain ⟨v, hv⟩ : ∃ v, E[x]! = v := ⟨_, rfl⟩
            rw [hv] at qv
            have Hv : Aside (E[x]! = v) := hv
            clear hv
            have qu := UX.out.cell (i := y) (by rw [SZE.out]; exact by')
            obtain ⟨u, hu⟩ : ∃ u, E[y]! = u := ⟨_, rfl⟩
            rw [hu] at qu
            have Hu : Aside (E[y]! = u) := hu
            clear hu
            obtain ⟨t, ht⟩ : ∃ t, ltI v u = t := ⟨_, rfl⟩
            have Lt := LE.out v u
            rw [ht] at Lt
            have Mt : Hid _ := Lt
            have Ht : Aside (ltI v u = t) := ht
            clear ht Lt
            cases t with
            | true =>
              go_wp2_with fail
              go_quiet ((go_at_call 42; exact Calls.quiet_of_same (Mt.out _)))
              go_wp2_with fail
              go_meet
              case rel =>
                have e : x = i2 := by
                  rw [← SC.out, Sort.scanSorted.eq_1, if_neg (by rw [← XY.out, Hv.out, Hu.out, Ht.out]; simp)]
                subst e
                exact ⟨rfl, XB, (show Aside _ from UX.out.keep rfl), (show Aside _ from GX.out.tw ((Gw.refl _).drewN nq))⟩
            | false =>
              go_wp2_with fail
              go_quiet ((go_at_call 42; exact Calls.quiet_of_same (Mt.out _)))
              go_wp2_with fail
              go_roundg (b - (x + 1))
              case measure => omega
              case rel =>
                refine ⟨x + 1, rfl, Nat.le_refl _, ⟨by have := XB.out; omega, by omega⟩, ?_, (show Aside _ from UX.out.keep rfl), (show Aside _ from GX.out.tw ((Gw.refl _).drewN nq))⟩
                show _ = _
                rw [← SC.out]
                conv => rhs; rw [Sort.scanSorted.eq_1]
                rw [if_pos (by rw [← XY.out, Hv.out, Hu.out, Ht.out]; simpa using cl)]
          · have cl' : decide ((x : Int) < (b : Int)) = false := by simpa using cl
            go_wp2_with fail
            go_quiet (fail)
            go_wp2_with fail
            go_meet
            case rel =>
              have e : x = i2 := by
                rw [← SC.out, Sort.scanSorted.eq_1, if_neg (by simp; omega)]
              subst e
              exact ⟨rfl, XB, (show Aside _ from UX.out.keep rfl), (show Aside _ from GX.out.tw ((Gw.refl _).drewN nq))⟩
      case rest =>
        obtain ⟨rfl, IB2, Uf, Gf⟩ := hcut
        have i2a := IB2.out.1
        have i2b := IB2.out.2
        clear Ue Ge
        by_cases ce : i2 = b
        · have ce' : ((i2 : Int) == (b : Int)) = true := by simp [ce]
          go_wp2_with fail
          refine bodyPost_ret (v := .bool true) (by simp [results, Try.results41, go_sem]) rfl ?_
          rw [PI.out, if_pos ce]
          exact ⟨rfl, Uf.out, Gf.out⟩
        · have ce' : ((i2 : Int) == (b : Int)) = false := by simp; omega
          by_cases c5 : ba < 50
          · have c5' : decide ((ba : Int) < 50) = true := by simp; omega
            go_wp2_with fail
            refine bodyPost_ret (v := .bool false) (by simp [results, Try.results41, go_sem]) rfl ?_
            rw [PI.out, if_neg ce, if_pos (by have := BA.out; omega)]
            exact ⟨rfl, Uf.out, Gf.out⟩
          · have c5' : decide ((ba : Int) < 50) = false := by simp; omega
            obtain ⟨i1, hi1⟩ : ∃ i1, i1 = i2 - 1 := ⟨_, rfl⟩
            obtain ⟨ia, hia⟩ : ∃ ia, ia = i2 - a := ⟨_, rfl⟩
            obtain ⟨bi, hbi⟩ : ∃ bi, bi = b - i2 := ⟨_, rfl⟩
            have b2 : i2 < n := by omega
            have b1 : i1 < n := by omega
            have w3 : IntKind.i64.wrap ((i2 : Int) - 1) = (i1 : Int) := by rw [IntKind.wrap_i64]; omega
            have w4 : IntKind.i64.wrap ((i2 : Int) - (a : Int)) = (ia : Int) := by rw [IntKind.wrap_i64]; omega
            have w5 : IntKind.i64.wrap ((b : Int) - (i2 : Int)) = (bi : Int) := by rw [IntKind.wrap_i64]; omega
            have w6 : IntKind.i64.wrap ((i2 : Int) + 1) = ((i2 + 1 : Nat) : Int) := by rw [IntKind.wrap_i64]; omega
            have II : Aside (i1 = i2 - 1 ∧ ia = i2 - a ∧ bi = b - i2) := ⟨hi1, hia, hbi⟩
            clear hi1 hia hbi
            have qx := Uf.out.cell (i := i2) (by rw [SZE.out]; exact b2)
            obtain ⟨x, hx⟩ : ∃ x, E[i2]! = x := ⟨_, rfl⟩
            rw [hx] at qx
            have Hx : Aside (E[i2]! = x) := hx
            clear hx
            have qy := Uf.out.cell (i := i1) (by rw [SZE.out]; exact b1)
            obtain ⟨y, hy⟩ : ∃ y, E[i1]! = y := ⟨_, rfl⟩
            rw [hy] at qy
            have Hy : Aside (E[i1]! = y) := hy
            clear hy
            have fz := Uf.out.frozen i2
            obtain ⟨W1, W2, E1, E2, UF, fz1, cz, g2⟩ := Uf.out.swp (i := i2) (j := i1) (by rw [SZE.out]; exact b2) (by rw [SZE.out]; exact b1) Hx.out Hy.out
            have fzm := fz1 i1
            have UFA : Aside (UR W2 k (Sort.swp E i2 i1)) := UF
            have G2 : Aside (Gx (fun q => q = k) w W2) := Gf.out.trans g2 (fun q hq => .inl hq)
            clear fz1 UF g2
            go_wp2_with fail
            go_big_region
            obtain ⟨D1, hD1⟩ : ∃ D1, Sort.swp E i2 i1 = D1 := ⟨_, rfl⟩
            rw [hD1] at UFA
            obtain ⟨v, hv⟩ : ∃ v, W2.drew = v := ⟨_, rfl⟩
            have Uv : Aside (UR v k D1) := by rw [← hv]; exact UFA.out.keep rfl
            have Gv : Aside (Gx (fun q => q = k) w v) := by rw [← hv]; exact G2.out.drew
            rw [hv]
            clear hv E1 E2 cz fz fzm UFA G2 qx qy
            have SZ1 : Aside (D1.size = n) := by rw [← hD1]; show _ = _; rw [Sort.size_swp]; exact SZE.out
            obtain ⟨D2, hD2⟩ : ∃ D2, D2 = if i2 - a ≥ 2 then Sort.shiftDown ltI (i2 - 1) D1 else D1 := ⟨_, rfl⟩
            obtain ⟨D3, hD3⟩ : ∃ D3, D3 = if b - i2 ≥ 2 then Sort.shiftUp ltI b (i2 + 1) D2 else D2 := ⟨_, rfl⟩
            have PI2 : Aside (R = Sort.partialIns ltI a b sl i2 D3) := by
              show _ = _
              rw [PI.out, if_neg ce, if_neg (by have := BA.out; omega), ← II.out.1, hD1, II.out.1, ← hD2, ← hD3]
            have HD2 : Aside (D2 = if i2 - a ≥ 2 then Sort.shiftDown ltI (i2 - 1) D1 else D1) := hD2
            have HD3 : Aside (D3 = if b - i2 ≥ 2 then Sort.shiftUp ltI b (i2 + 1) D2 else D2) := hD3
            clear hD1 hD2 hD3 Hx Hy
            go_upto_if 61 with fail
            go_cut [9] from 13 to 132 (fun s9 wc => Aside (D2.size = n ∧ UR wc k D2) ∧ Aside (Gx (fun q => q = k) w wc))
            case first =>
              by_cases c2 : 2 ≤ ia
              · have c2' : decide (2 ≤ (ia : Int)) = true := by simp; omega
                have HD2' : Aside (D2 = Sort.shiftDown ltI i1 D1) := by
                  show _ = _
                  have := II.out
                  rw [HD2.out, if_pos (by omega), this.1]
                go_wp2_with fail
                go_loopg [9] i1 (fun gg s9 wr => ∃ (j : Nat) (F : Array Int), s9 = .int .i64 (j : Int) ∧ j ≤ gg ∧ Aside (j ≤ i1) ∧ Aside (F.size = n ∧ Sort.shiftDown ltI j F = D2) ∧ Aside (UR wr k F) ∧ Aside (Gx (fun q => q = k) w wr))
                case atStart => exact ⟨i1, D1, rfl, Nat.le_refl _, (show Aside _ from Nat.le_refl _), ⟨SZ1.out, HD2'.out.symm⟩, Uv, Gv⟩
                case round =>
                  rename_i wr0
                  obtain ⟨j, F, rfl, jg2, JB, HF, Ug, Gg⟩ := hrel
                  cases j with
                  | zero =>
                    go_wp2_with fail
                    go_meet
                    case rel => exact ⟨(by rw [← HF.out.2]; exact ⟨HF.out.1, Ug.out⟩), Gg⟩
                  | succ m =>
                    obtain ⟨j, hj⟩ : ∃ j, j = m + 1 := ⟨_, rfl⟩
                    rw [← hj] at jg2 JB HF ⊢
                    have c1' : decide (1 ≤ (j : Int)) = true := by simp; omega
                    have wj : IntKind.i64.wrap ((j : Int) - 1) = (m : Int) := by have := JB.out; rw [IntKind.wrap_i64]; omega
                    have bj : j < n := by have := JB.out; omega
                    have bm : m < n := by omega
                    have JM : Aside (j = m + 1) := hj
                    clear hj
                    have qx := Ug.out.cell (i := j) (by rw [HF.out.1]; exact bj)
                    obtain ⟨x, hx⟩ : ∃ x, F[j]! = x := ⟨_, rfl⟩
                    rw [hx] at qx
                    have Hx : Aside (F[j]! = x) := hx
                    clear hx
                    have qy := Ug.out.cell (i := m) (by rw [HF.out.1]; exact bm)
                    obtain ⟨y, hy⟩ : ∃ y, F[m]! = y := ⟨_, rfl⟩
                    rw [hy] at qy
                    have Hy : Aside (F[m]! = y) := hy
                    clear hy
                    obtain ⟨t, ht⟩ : ∃ t, ltI x y = t := ⟨_, rfl⟩
                    have Lt := LE.out x y
                    rw [ht] at Lt
                    have Mt : Hid _ := Lt
                    have Ht : Aside (ltI x y = t) := ht
                    clear ht Lt
                    cases t with
                    | false =>
                      go_wp2_with fail
                      go_quiet ((go_at_call 42; exact Calls.quiet_of_same (Mt.out _)))
                      go_wp2_with fail
                      go_meet
                      case rel =>
                        have e : D2 = F := by
                          rw [← HF.out.2, JM.out]
                          unfold Sort.shiftDown
                          rw [if_pos (by rw [← JM.out, Hx.out, Hy.out, Ht.out]; rfl)]
                        rw [e]
                        exact ⟨⟨HF.out.1, Ug.out.keep rfl⟩, (show Aside _ from Gg.out.tw ((Gw.refl _).drewN nq))⟩
                    | true =>
                      go_wp2_with fail
                      go_quiet ((go_at_call 42; exact Calls.quiet_of_same (Mt.out _)))
                      obtain ⟨u, hu⟩ : ∃ u, wr.drewN nq = u := ⟨_, rfl⟩
                      have Uu : Aside (UR u k F) := by rw [← hu]; exact Ug.out.keep rfl
                      have Gu : Aside (Gx (fun q => q = k) w u) := by rw [← hu]; exact Gg.out.tw ((Gw.refl _).drewN nq)
                      rw [hu]
                      clear hu
                      have qa := Uu.out.cell (i := j) (by rw [HF.out.1]; exact bj)
                      have qb := Uu.out.cell (i := m) (by rw [HF.out.1]; exact bm)
                      rw [Hx.out] at qa
                      rw [Hy.out] at qb
                      clear qx qy
                      have fz := Uu.out.frozen j
                      obtain ⟨W1, W2, E1, E2, UF, fz1, cz, g2⟩ := Uu.out.swp (i := j) (j := m) (by rw [HF.out.1]; exact bj) (by rw [HF.out.1]; exact bm) Hx.out Hy.out
                      have fzm := fz1 m
                      have UFA : Aside (UR W2 k (Sort.swp F j m)) := UF
                      have G2 : Aside (Gx (fun q => q = k) w W2) := Gu.out.trans g2 (fun q hq => .inl hq)
                      clear fz1 UF g2
                      go_wp2_with fail
                      go_big_region
                      go_wp2_with fail
                      go_roundg m
                      case measure => have := JM.out; omega
                      case rel =>
                        refine ⟨m, Sort.swp F j m, rfl, Nat.le_refl _, (show Aside _ from by have := JM.out; have := JB.out; show _ ≤ _; omega), ⟨by rw [Sort.size_swp]; exact HF.out.1, ?_⟩, (show Aside _ from UFA.out.keep rfl), (show Aside _ from G2.out.drew)⟩
                        rw [← HF.out.2, JM.out]
                        conv => rhs; unfold Sort.shiftDown
                        rw [if_neg (by rw [← JM.out, Hx.out, Hy.out, Ht.out]; simp)]
              · have c2' : decide (2 ≤ (ia : Int)) = false := by simp; omega
                have HD2' : Aside (D2 = D1) := by
                  show _ = _
                  have := II.out
                  rw [HD2.out, if_neg (by omega)]
                go_wp2_with fail
                go_meet
                case rel => exact ⟨(by rw [HD2'.out]; exact ⟨SZ1.out, Uv.out⟩), Gv⟩
            case rest =>
              obtain ⟨U4, G4⟩ := hcut
              have SZ2 : Aside (D2.size = n) := U4.out.1
              have Uh : Aside (UR wc k D2) := U4.out.2
              clear U4 Uv Gv
              by_cases c2 : 2 ≤ bi
              · have c2' : decide (2 ≤ (bi : Int)) = true := by simp; omega
                have HD3' : Aside (D3 = Sort.shiftUp ltI b (i2 + 1) D2) := by
                  show _ = _
                  have := II.out
                  rw [HD3.out, if_pos (by omega)]
                go_wp2_with fail
                go_loopg [10] (b - (i2 + 1)) (fun gg s10 wr => ∃ (j : Nat) (F : Array Int), s10 = .int .i64 (j : Int) ∧ b - j ≤ gg ∧ Aside (1 ≤ j ∧ j ≤ b) ∧ Aside (F.size = n ∧ Sort.shiftUp ltI b j F = D3) ∧ Aside (UR wr k F) ∧ Aside (Gx (fun q => q = k) w wr))
                case atStart => exact ⟨i2 + 1, D2, rfl, Nat.le_refl _, ⟨by omega, by omega⟩, ⟨SZ2.out, HD3'.out.symm⟩, Uh, G4⟩
                case round =>
                  rename_i wr0
                  obtain ⟨j, F, rfl, jg2, JB, HF, Ug, Gg⟩ := hrel
                  by_cases cb : j < b
                  · have cb' : decide ((j : Int) < (b : Int)) = true := by simpa using cb
                    obtain ⟨m, hm⟩ : ∃ m, m = j - 1 := ⟨_, rfl⟩
                    have wj : IntKind.i64.wrap ((j : Int) - 1) = (m : Int) := by have := JB.out; rw [IntKind.wrap_i64]; omega
                    have wj1 : IntKind.i64.wrap ((j : Int) + 1) = ((j + 1 : Nat) : Int) := by rw [IntKind.wrap_i64]; omega
                    have bj : j < n := by omega
                    have bm : m < n := by omega
                    have JM : Aside (m = j - 1) := hm
                    clear hm
                    have qx := Ug.out.cell (i := j) (by rw [HF.out.1]; exact bj)
                    obtain ⟨x, hx⟩ : ∃ x, F[j]! = x := ⟨_, rfl⟩
                    rw [hx] at qx
                    have Hx : Aside (F[j]! = x) := hx
                    clear hx
                    have qy := Ug.out.cell (i := m) (by rw [HF.out.1]; exact bm)
                    obtain ⟨y, hy⟩ : ∃ y, F[m]! = y := ⟨_, rfl⟩
                    rw [hy] at qy
                    have Hy : Aside (F[m]! = y) := hy
                    clear hy
                    obtain ⟨t, ht⟩ : ∃ t, ltI x y = t := ⟨_, rfl⟩
                    have Lt := LE.out x y
                    rw [ht] at Lt
                    have Mt : Hid _ := Lt
                    have Ht : Aside (ltI x y = t) := ht
                    clear ht Lt
                    cases t with
                    | false =>
                      go_wp2_with fail
                      go_quiet ((go_at_call 42; exact Calls.quiet_of_same (Mt.out _)))
                      go_wp2_with fail
                      go_roundg (5 - (jj + 1))
                      case measure => omega
                      case rel =>
                        have e : D3 = F := by
                          rw [← HF.out.2, Sort.shiftUp.eq_1, if_pos cb, if_pos (by rw [← JM.out, Hx.out, Hy.out, Ht.out]; rfl)]
                        rw [e] at PI2
                        exact ⟨i2, jj + 1, F, rfl, rfl, by omega, Nat.le_refl _, ⟨by omega, by omega⟩, ⟨HF.out.1, by rw [PI2.out, show 5 - (jj + 1) = sl by have := HSL.out; omega]⟩, (show Aside _ from Ug.out.keep rfl), (show Aside _ from Gg.out.tw ((Gw.refl _).drewN nq))⟩
                    | true =>
                      go_wp2_with fail
                      go_quiet ((go_at_call 42; exact Calls.quiet_of_same (Mt.out _)))
                      obtain ⟨u, hu⟩ : ∃ u, wr.drewN nq = u := ⟨_, rfl⟩
                      have Uu : Aside (UR u k F) := by rw [← hu]; exact Ug.out.keep rfl
                      have Gu : Aside (Gx (fun q => q = k) w u) := by rw [← hu]; exact Gg.out.tw ((Gw.refl _).drewN nq)
                      rw [hu]
                      clear hu
                      have qa := Uu.out.cell (i := j) (by rw [HF.out.1]; exact bj)
                      have qb := Uu.out.cell (i := m) (by rw [HF.out.1]; exact bm)
                      rw [Hx.out] at qa
                      rw [Hy.out] at qb
                      clear qx qy
                      have fz := Uu.out.frozen j
                      obtain ⟨W1, W2, E1, E2, UF, fz1, cz, g2⟩ := Uu.out.swp (i := j) (j := m) (by rw [HF.out.1]; exact bj) (by rw [HF.out.1]; exact bm) Hx.out Hy.out
                      have fzm := fz1 m
                      have UFA : Aside (UR W2 k (Sort.swp F j m)) := UF
                      have G2 : Aside (Gx (fun q => q = k) w W2) := Gu.out.trans g2 (fun q hq => .inl hq)
                      clear fz1 UF g2
                      go_wp2_with fail
                      go_big_region
                      go_wp2_with fail
                      go_roundg (b - (j + 1))
                      case measure => omega
                      case rel =>
                        refine ⟨j + 1, Sort.swp F j m, rfl, Nat.le_refl _, ⟨by omega, by omega⟩, ⟨by rw [Sort.size_swp]; exact HF.out.1, ?_⟩, (show Aside _ from UFA.out.keep rfl), (show Aside _ from G2.out.drew)⟩
                        rw [← HF.out.2]
                        conv => rhs; rw [Sort.shiftUp.eq_1]
                        rw [if_pos cb, if_neg (by rw [← JM.out, Hx.out, Hy.out, Ht.out]; simp), JM.out]
                  · have cb' : decide ((j : Int) < (b : Int)) = false := by simpa using cb
                    go_wp2_with fail
                    go_roundg (5 - (jj + 1))
                    case measure => omega
                    case rel =>
                      have e : D3 = F := by
                        rw [← HF.out.2, Sort.shiftUp.eq_1, if_neg cb]
                      rw [e] at PI2
                      exact ⟨i2, jj + 1, F, rfl, rfl, by omega, Nat.le_refl _, ⟨by omega, by omega⟩, ⟨HF.out.1, by rw [PI2.out, show 5 - (jj + 1) = sl by have := HSL.out; omega]⟩, Ug, Gg⟩
              · have c2' : decide (2 ≤ (bi : Int)) = false := by simp; omega
                have HD3' : Aside (D3 = D2) := by
                  show _ = _
                  have := II.out
                  rw [HD3.out, if_neg (by omega)]
                go_wp2_with fail
                go_roundg (5 - (jj + 1))
                case measure => omega
                case rel =>
                  rw [HD3'.out] at PI2
                  exact ⟨i2, jj + 1, D2, rfl, rfl, by omega, Nat.le_refl _, ⟨by omega, by omega⟩, ⟨SZ2.out, by rw [PI2.out, show 5 - (jj + 1) = sl by have := HSL.out; omega]⟩, Uh, G4⟩
    · have cj' : decide ((jj : Int) < 5) = false := by simp; omega
      obtain rfl : jj = 5 := by omega
      go_wp2_with fail
      refine bodyPost_ret (v := .bool false) (by simp [results, Try.results41, go_sem]) rfl ?_
      rw [← HE.out.2]
      exact ⟨rfl, Ue.out, Ge.out⟩
end Go.Proofs.Ytkojcjfjmlompaa

/- The library's choice of a pivot among numbers. -/
namespace Go.Proofs.Ytkojcjfjmlompaa
open Go.RowKit
set_option linter.unusedVariables false

/-- A counter of a call's own. -/
def SW (w : World) (s : Nat) : Prop := ∃ (v : Int) (t : TypeId), w.heap[s]? = some (.cells #[.int .i64 v] t (0, 0))
theorem SW.keep {w w' : World} {s : Nat} (h : SW w s) (e : w'.heap[s]? = w.heap[s]?) : SW w' s := by
  obtain ⟨v, t, h1⟩ := h
  exact ⟨v, t, e.trans h1⟩
theorem SW.set {w : World} {s : Nat} (h : SW w s) (v : Int) : SW (w.setCell ⟨s, 0, none⟩ (.int .i64 v)) s := by
  obtain ⟨u, t, h1⟩ := h
  exact ⟨v, t, by simp [World.setCell, Array.getElem?_modify, h1]⟩
theorem w64n {x : Int} {y : Nat} (e : x = (y : Int)) (h : y ≤ 16000000) : IntKind.i64.wrap x = (y : Int) := by rw [e, IntKind.wrap_i64]; omega
set_option maxRecDepth 20000 in
theorem order23 (k c n x y s : Nat) (d : Array Int) (hn : d.size = n) (n62 : n ≤ 4000000) (hx : x < n) (hy : y < n) (ks : k ≠ s) (w : World) (hr : UR w k d) (hs : SW w s) :
    Calls Try.prog 53 #[.slice (some ⟨k, 0, none⟩) n c, .int .i64 (x : Int), .int .i64 (y : Int), .pointer (some ⟨s, 0, none⟩)] w fun e w' => (∃ p q : Nat, e = .returned (.tuple #[.int .i64 (p : Int), .int .i64 (q : Int)]) ∧ ((p = x ∧ q = y) ∨ (p = y ∧ q = x))) ∧ SW w' s ∧ Gx (fun q => q = s) w w' := by
  have LE : Hid (∀ (x y : Int) (W : World), Calls Try.prog 42 #[.int .u64 x, .int .u64 y] W fun e w' => e = .returned (.bool (ltI x y)) ∧ w' = W) := fun x y W => less23 x y W
  have c0 := hr.cell (i := x) (by rw [hn]; exact hx)
  have c1 := hr.cell (i := y) (by rw [hn]; exact hy)
  have S0 : Aside (SW w s) := hs
  obtain ⟨v, t0, hb⟩ := hs
  have c2 : w.cell? ⟨s, 0, none⟩ = some (.int .i64 v) := blkc hb rfl
  have f2 : w.frozen? ⟨s, 0, none⟩ = false := blkf hb
  obtain ⟨u, hu⟩ : ∃ u, d[x]! = u := ⟨_, rfl⟩
  obtain ⟨z, hz⟩ : ∃ z, d[y]! = z := ⟨_, rfl⟩
  rw [hu] at c0
  rw [hz] at c1
  obtain ⟨t, ht⟩ : ∃ t, ltI z u = t := ⟨_, rfl⟩
  have L := LE.out z u
  rw [ht] at L
  have M : Hid _ := L
  clear hr hn hu hz ht L hb
  cases t with
  | true =>
    go_enter Try.func53, Try.ntmps53
    go_wp2_with fail
    go_quiet ((go_at_call 42; exact Calls.quiet_of_same (M.out _)))
    go_wp2_with fail
    refine bodyPost_ret (v := .tuple #[.int .i64 (y : Int), .int .i64 (x : Int)]) (by simp [results, Try.results53, go_sem]) rfl ⟨⟨y, x, rfl, .inr ⟨rfl, rfl⟩⟩, ?_, ?_⟩
    · exact SW.set (S0.out.keep rfl) _
    · exact Gx.set (S := fun q => q = s) (((Gw.refl w).drewN nq).gx _) (q := s) (.inl rfl) 0 _
  | false =>
    go_enter Try.func53, Try.ntmps53
    go_wp2_with fail
    go_quiet ((go_at_call 42; exact Calls.quiet_of_same (M.out _)))
    go_wp2_with fail
    refine bodyPost_ret (v := .tuple #[.int .i64 (x : Int), .int .i64 (y : Int)]) (by simp [results, Try.results53, go_sem]) rfl ⟨⟨x, y, rfl, .inl ⟨rfl, rfl⟩⟩, ?_, ?_⟩
    · exact S0.out.keep rfl
    · exact ((Gw.refl w).drewN nq).gx (fun q => q = s)
set_option maxRecDepth 20000 in
theorem median23 (k c n x y z s : Nat) (d : Array Int) (hn : d.size = n) (n62 : n ≤ 4000000) (hx : x < n) (hy : y < n) (hz : z < n) (ks : k ≠ s) (w : World) (hr : UR w k d) (hs : SW w s) :
    Calls Try.prog 51 #[.slice (some ⟨k, 0, none⟩) n c, .int .i64 (x : Int), .int .i64 (y : Int), .int .i64 (z : Int), .pointer (some ⟨s, 0, none⟩)] w fun e w' => (∃ p : Nat, e = .returned (.int .i64 (p : Int)) ∧ (p = x ∨ p = y ∨ p = z)) ∧ SW w' s ∧ Gx (fun q => q = s) w w' := by
  have OR : Hid (∀ (x y : Nat) (W : World), x < n → y < n → UR W k d → SW W s → Calls Try.prog 53 #[.slice (some ⟨k, 0, none⟩) n c, .int .i64 (x : Int), .int .i64 (y : Int), .pointer (some ⟨s, 0, none⟩)] W fun e w' => (∃ p q : Nat, e = .returned (.tuple #[.int .i64 (p : Int), .int .i64 (q : Int)]) ∧ ((p = x ∧ q = y) ∨ (p = y ∧ q = x))) ∧ SW w' s ∧ Gx (fun q => q = s) W w') := fun x y W h1 h2 h3 h4 => order23 k c n x y s d hn n62 h1 h2 ks W h3 h4
  have R0 : Aside (UR w k d) := hr
  have S0 : Aside (SW w s) := hs
  clear hr hs hn
  go_enter Try.func51, Try.ntmps51
  go_wp2_with fail
  refine (OR.out x y _ hx hy R0.out S0.out).mono ?_
  rintro e w1 ⟨⟨p, q, rfl, pq⟩, s1, g1⟩
  have R1 : Aside (UR w1 k d) := R0.out.gx g1 ks
  have S1 : Aside (SW w1 s) := s1
  have G1 : Aside (Gx (fun q => q = s) w w1) := g1
  have PQ : Aside ((p = x ∧ q = y) ∨ (p = y ∧ q = x)) := pq
  have hp : p < n := by omega
  have hq : q < n := by omega
  clear s1 g1 pq
  go_wp2_with fail
  refine (OR.out q z _ hq hz R1.out S1.out).mono ?_
  rintro e w2 ⟨⟨p2, q2, rfl, pq⟩, s1, g1⟩
  have R2 : Aside (UR w2 k d) := R1.out.gx g1 ks
  have S2 : Aside (SW w2 s) := s1
  have G2 : Aside (Gx (fun q => q = s) w w2) := G1.out.trans g1 (fun q hq => .inl hq)
  have PQ2 : Aside ((p2 = q ∧ q2 = z) ∨ (p2 = z ∧ q2 = q)) := pq
  have hp2 : p2 < n := by omega
  have hq2 : q2 < n := by omega
  clear s1 g1 pq
  go_wp2_with fail
  refine (OR.out p p2 _ hp hp2 R2.out S2.out).mono ?_
  rintro e w3 ⟨⟨p3, q3, rfl, pq⟩, s1, g1⟩
  have S3 : Aside (SW w3 s) := s1
  have G3 : Aside (Gx (fun q => q = s) w w3) := G2.out.trans g1 (fun q hq => .inl hq)
  have PQ3 : Aside ((p3 = p ∧ q3 = p2) ∨ (p3 = p2 ∧ q3 = p)) := pq
  clear s1 g1 pq
  go_wp2_with fail
  go_ret
  refine ⟨⟨q3, rfl, ?_⟩, S3.out, G3.out⟩
  have a1 := PQ.out
  have a2 := PQ2.out
  have a3 := PQ3.out
  omega
set_option maxRecDepth 20000 in
theorem medadj23 (k c n x s : Nat) (d : Array Int) (hn : d.size = n) (n62 : n ≤ 4000000) (h1 : 1 ≤ x) (hx : x + 1 < n) (ks : k ≠ s) (w : World) (hr : UR w k d) (hs : SW w s) :
    Calls Try.prog 50 #[.slice (some ⟨k, 0, none⟩) n c, .int .i64 (x : Int), .pointer (some ⟨s, 0, none⟩)] w fun e w' => (∃ p : Nat, e = .returned (.int .i64 (p : Int)) ∧ (p = x - 1 ∨ p = x ∨ p = x + 1)) ∧ SW w' s ∧ Gx (fun q => q = s) w w' := by
  have M : Hid (∀ W, W = w → Calls Try.prog 51 #[.slice (some ⟨k, 0, none⟩) n c, .int .i64 ((x - 1 : Nat) : Int), .int .i64 (x : Int), .int .i64 ((x + 1 : Nat) : Int), .pointer (some ⟨s, 0, none⟩)] W fun e w' => (∃ p : Nat, e = .returned (.int .i64 (p : Int)) ∧ (p = x - 1 ∨ p = x ∨ p = x + 1)) ∧ SW w' s ∧ Gx (fun q => q = s) W w') := fun W e => by rw [e]; exact median23 k c n (x - 1) x (x + 1) s d hn n62 (by omega) (by omega) hx ks w hr hs
  have w1 : IntKind.i64.wrap ((x : Int) - 1) = ((x - 1 : Nat) : Int) := by rw [IntKind.wrap_i64]; omega
  have w2 : IntKind.i64.wrap ((x : Int) + 1) = ((x + 1 : Nat) : Int) := by rw [IntKind.wrap_i64]; omega
  clear hr hs hn
  go_enter Try.func50, Try.ntmps50
  go_wp2_with fail
  refine (M.out _ rfl).mono ?_
  rintro e w3 ⟨⟨p, rfl, pq⟩, s1, g1⟩
  have S3 : Aside (SW w3 s) := s1
  have G3 : Aside (Gx (fun q => q = s) w w3) := g1
  have PQ : Aside (p = x - 1 ∨ p = x ∨ p = x + 1) := pq
  clear s1 g1 pq
  go_wp2_with fail
  go_ret
  exact ⟨⟨p, rfl, PQ.out⟩, S3.out, G3.out⟩
/-- What the choice of a pivot answers. -/
def PivR (w : World) (a b : Nat) (e : Ending) (w' : World) : Prop := (∃ (p : Nat) (h : Int), e = .returned (.tuple #[.int .i64 (p : Int), .int .i64 h]) ∧ a ≤ p ∧ p < b) ∧ Gw w w'
set_option maxRecDepth 100000 in
set_option maxHeartbeats 4000000 in
theorem pivot23 (k c n a b : Nat) (d : Array Int) (hn : d.size = n) (n62 : n ≤ 4000000) (h8 : a + 8 ≤ b) (hb : b ≤ n) (w : World) (hr : UR w k d) :
    Calls Try.prog 39 #[.slice (some ⟨k, 0, none⟩) n c, .int .i64 (a : Int), .int .i64 (b : Int)] w fun e w' => PivR w a b e w' := by
  have klt := hr.lt
  have ks : k ≠ w.heap.size := by omega
  have ME : Hid (∀ (x y z : Nat) (W : World), x < n → y < n → z < n → UR W k d → SW W w.heap.size → Calls Try.prog 51 #[.slice (some ⟨k, 0, none⟩) n c, .int .i64 (x : Int), .int .i64 (y : Int), .int .i64 (z : Int), .pointer (some ⟨w.heap.size, 0, none⟩)] W fun e w' => (∃ p : Nat, e = .returned (.int .i64 (p : Int)) ∧ (p = x ∨ p = y ∨ p = z)) ∧ SW w' w.heap.size ∧ Gx (fun q => q = w.heap.size) W w') := fun x y z W h1 h2 h3 h4 h5 => median23 k c n x y z w.heap.size d hn n62 h1 h2 h3 ks W h4 h5
  have MA : Hid (∀ (x : Nat) (W : World), 1 ≤ x → x + 1 < n → UR W k d → SW W w.heap.size → Calls Try.prog 50 #[.slice (some ⟨k, 0, none⟩) n c, .int .i64 (x : Int), .pointer (some ⟨w.heap.size, 0, none⟩)] W fun e w' => (∃ p : Nat, e = .returned (.int .i64 (p : Int)) ∧ (p = x - 1 ∨ p = x ∨ p = x + 1)) ∧ SW w' w.heap.size ∧ Gx (fun q => q = w.heap.size) W w') := fun x W h1 h2 h4 h5 => medadj23 k c n x w.heap.size d hn n62 h1 h2 ks W h4 h5
  obtain ⟨l, hl⟩ : ∃ l, l = b - a := ⟨_, rfl⟩
  obtain ⟨l4, hl4⟩ : ∃ l4, l4 = l / 4 := ⟨_, rfl⟩
  obtain ⟨l2, hl2⟩ : ∃ l2, l2 = l4 * 2 := ⟨_, rfl⟩
  obtain ⟨l3, hl3⟩ : ∃ l3, l3 = l4 * 3 := ⟨_, rfl⟩
  obtain ⟨i, hi⟩ : ∃ i, i = a + l4 := ⟨_, rfl⟩
  obtain ⟨j, hj⟩ : ∃ j, j = a + l2 := ⟨_, rfl⟩
  obtain ⟨m, hm⟩ : ∃ m, m = a + l3 := ⟨_, rfl⟩
  have v0 : IntKind.i64.wrap ((b : Int) - (a : Int)) = (l : Int) := by rw [IntKind.wrap_i64]; omega
  have l8 : 8 ≤ l := by omega
  have V : Aside ((l : Int) / 4 = (l4 : Int) ∧ IntKind.i64.wrap ((l4 : Int) * 2) = (l2 : Int) ∧ IntKind.i64.wrap ((l4 : Int) * 3) = (l3 : Int) ∧ IntKind.i64.wrap ((a : Int) + (l4 : Int)) = (i : Int) ∧ IntKind.i64.wrap ((a : Int) + (l2 : Int)) = (j : Int) ∧ IntKind.i64.wrap ((a : Int) + (l3 : Int)) = (m : Int)) := ⟨by rw [hl4]; rfl, w64n (by omega) (by omega), w64n (by omega) (by omega), w64n (by omega) (by omega), w64n (by omega) (by omega), w64n (by omega) (by omega)⟩
  have B : Aside (a + 1 ≤ i ∧ i + 1 < b ∧ a + 1 ≤ j ∧ j + 1 < b ∧ a + 1 ≤ m ∧ m + 1 < b) := by
    have : l4 ≥ 2 := by omega
    have : l4 * 4 ≤ l := by omega
    exact ⟨by omega, by omega, by omega, by omega, by omega, by omega⟩
  have R1 : Aside (UR (w.alloc (.cells #[.int .i64 0] 3)) k d) := hr.gw ((Gw.refl w).alloc _ _)
  have S1 : Aside (SW (w.alloc (.cells #[.int .i64 0] 3)) w.heap.size) := ⟨0, 3, heap_alloc_new w _⟩
  have d8 : decide (8 ≤ (l : Int)) = true := by simp; omega
  have FIN : Hid (∀ (p : Nat) (W : World), a ≤ p → p < b → Gx (fun q => q = w.heap.size) (w.alloc (.cells #[.int .i64 0] 3)) W → ∀ h : Int, PivR w a b (.returned (.tuple #[.int .i64 (p : Int), .int .i64 h])) W) := fun p W h1 h2 g h => ⟨⟨p, h, rfl, h1, h2⟩, Gx.gw ((Gw.refl w).alloc _ _) g (fun q hq => by omega)⟩
  have KS : Aside (k ≠ w.heap.size) := ks
  have lb : l ≤ 4000000 := by omega
  have lb4 : l4 ≤ 1000000 := by omega
  clear hr hn hl hl4 hl2 hl3 hi hj hm klt ks h8
  by_cases c5 : 50 ≤ l
  · have d5 : decide (50 ≤ (l : Int)) = true := by simp; omega
    obtain ⟨v2, v3, v4, v5, v6, v7⟩ := V.out
    go_enter Try.func39, Try.ntmps39
    go_wp2_with fail
    clear v0 v2 v3 v4 v5 v6 v7
    refine (MA.out i _ (by have := B.out; omega) (by have := B.out; omega) R1.out S1.out).mono ?_
    rintro e w2 ⟨⟨p1, rfl, q1⟩, s2, g2⟩
    have P1 : Aside (a ≤ p1 ∧ p1 < b) := by have := B.out; exact ⟨by omega, by omega⟩
    have S2 : Aside (SW w2 w.heap.size) := s2
    have R2 : Aside (UR w2 k d) := R1.out.gx g2 KS.out
    have G2 : Aside (Gx (fun q => q = w.heap.size) (w.alloc (.cells #[.int .i64 0] 3)) w2) := g2
    clear s2 g2 q1
    go_wp2_with fail
    refine (MA.out j _ (by have := B.out; omega) (by have := B.out; omega) R2.out S2.out).mono ?_
    rintro e w3 ⟨⟨p2, rfl, q1⟩, s2, g2⟩
    have P2 : Aside (a ≤ p2 ∧ p2 < b) := by have := B.out; exact ⟨by omega, by omega⟩
    have S3 : Aside (SW w3 w.heap.size) := s2
    have R3 : Aside (UR w3 k d) := R2.out.gx g2 KS.out
    have G3 : Aside (Gx (fun q => q = w.heap.size) (w.alloc (.cells #[.int .i64 0] 3)) w3) := G2.out.trans g2 (fun q hq => .inl hq)
    clear s2 g2 q1
    go_wp2_with fail
    refine (MA.out m _ (by have := B.out; omega) (by have := B.out; omega) R3.out S3.out).mono ?_
    rintro e w4 ⟨⟨p3, rfl, q1⟩, s2, g2⟩
    have P3 : Aside (a ≤ p3 ∧ p3 < b) := by have := B.out; exact ⟨by omega, by omega⟩
    have S4 : Aside (SW w4 w.heap.size) := s2
    have R4 : Aside (UR w4 k d) := R3.out.gx g2 KS.out
    have G4 : Aside (Gx (fun q => q = w.heap.size) (w.alloc (.cells #[.int .i64 0] 3)) w4) := G3.out.trans g2 (fun q hq => .inl hq)
    clear s2 g2 q1
    go_wp2_with fail
    refine (ME.out p1 p2 p3 _ (by have := P1.out; omega) (by have := P2.out; omega) (by have := P3.out; omega) R4.out S4.out).mono ?_
    rintro e w5 ⟨⟨p, rfl, q1⟩, s2, g2⟩
    have PP : Aside (a ≤ p ∧ p < b) := by have := P1.out; have := P2.out; have := P3.out; exact ⟨by omega, by omega⟩
    have G5 : Aside (Gx (fun q => q = w.heap.size) (w.alloc (.cells #[.int .i64 0] 3)) w5) := G4.out.trans g2 (fun q hq => .inl hq)
    obtain ⟨sv, st, hb⟩ := s2
    have sc : w5.cell? ⟨w.heap.size, 0, none⟩ = some (.int .i64 sv) := blkc hb rfl
    clear g2 q1 hb
    by_cases e0 : sv = 0
    · subst e0
      go_wp2_with fail
      refine bodyPost_ret (v := .tuple #[.int .i64 (p : Int), .int .i64 1]) (by simp [results, Try.results39, go_sem]) rfl (FIN.out p _ PP.out.1 PP.out.2 G5.out 1)
    · have e0' : (sv == 0) = false := by simp [e0]
      by_cases e1 : sv = 12
      · subst e1
        go_wp2_with fail
        refine bodyPost_ret (v := .tuple #[.int .i64 (p : Int), .int .i64 2]) (by simp [results, Try.results39, go_sem]) rfl (FIN.out p _ PP.out.1 PP.out.2 G5.out 2)
      · have e1' : (sv == 12) = false := by simp [e1]
        go_wp2_with fail
        refine bodyPost_ret (v := .tuple #[.int .i64 (p : Int), .int .i64 0]) (by simp [results, Try.results39, go_sem]) rfl (FIN.out p _ PP.out.1 PP.out.2 G5.out 0)
  · have d5 : decide (50 ≤ (l : Int)) = false := by simp; omega
    obtain ⟨v2, v3, v4, v5, v6, v7⟩ := V.out
    go_enter Try.func39, Try.ntmps39
    go_wp2_with fail
    clear v0 v2 v3 v4 v5 v6 v7
    refine (ME.out i j m _ (by have := B.out; omega) (by have := B.out; omega) (by have := B.out; omega) R1.out S1.out).mono ?_
    rintro e w5 ⟨⟨p, rfl, q1⟩, s2, g2⟩
    have PP : Aside (a ≤ p ∧ p < b) := by have := B.out; exact ⟨by omega, by omega⟩
    have G5 : Aside (Gx (fun q => q = w.heap.size) (w.alloc (.cells #[.int .i64 0] 3)) w5) := g2
    obtain ⟨sv, st, hb⟩ := s2
    have sc : w5.cell? ⟨w.heap.size, 0, none⟩ = some (.int .i64 sv) := blkc hb rfl
    clear g2 q1 hb
    by_cases e0 : sv = 0
    · subst e0
      go_wp2_with fail
      refine bodyPost_ret (v := .tuple #[.int .i64 (p : Int), .int .i64 1]) (by simp [results, Try.results39, go_sem]) rfl (FIN.out p _ PP.out.1 PP.out.2 G5.out 1)
    · have e0' : (sv == 0) = false := by simp [e0]
      by_cases e1 : sv = 12
      · subst e1
        go_wp2_with fail
        refine bodyPost_ret (v := .tuple #[.int .i64 (p : Int), .int .i64 2]) (by simp [results, Try.results39, go_sem]) rfl (FIN.out p _ PP.out.1 PP.out.2 G5.out 2)
      · have e1' : (sv == 12) = false := by simp [e1]
        go_wp2_with fail
        refine bodyPost_ret (v := .tuple #[.int .i64 (p : Int), .int .i64 0]) (by simp [results, Try.results39, go_sem]) rfl (FIN.out p _ PP.out.1 PP.out.2 G5.out 0)
end Go.Proofs.Ytkojcjfjmlompaa

/- The library's scattering of some numbers. -/
namespace Go.Proofs.Ytkojcjfjmlompaa
open Go.RowKit
set_option linter.unusedVariables false

theorem and_le {x y : Nat} (hx : x < 18446744073709551616) (hy : y < 18446744073709551616) : ∃ z : Nat, bits .and .u64 (x : Int) (y : Int) = (z : Int) ∧ z ≤ y :=
  ⟨x &&& y, bits_and_u64_nat x y hx hy, Nat.and_le_right⟩
theorem xor_l {x : Nat} (hx : x < 18446744073709551616) (m : Nat) : ∃ z : Nat, bits .xor .u64 (x : Int) (IntKind.u64.wrap ((x : Int) * (m : Int))) = (z : Int) ∧ z < 18446744073709551616 :=
  ⟨x ^^^ (x * m % 18446744073709551616), by
    have e : (x : Int) * (m : Int) % 18446744073709551616 = ((x * m % 18446744073709551616 : Nat) : Int) := by
      rw [Int.natCast_emod, Int.natCast_mul]; rfl
    rw [IntKind.wrap_u64, e, bits_xor_u64_nat _ _ hx (by omega)], Nat.xor_lt_two_pow (n := 64) hx (by omega)⟩
theorem xor_r {x : Nat} (hx : x < 18446744073709551616) : ∃ z : Nat, bits .xor .u64 (x : Int) ((x : Int) / 128) = (z : Int) ∧ z < 18446744073709551616 :=
  ⟨x ^^^ (x / 128), by
    rw [show ((x : Int) / 128) = ((x / 128 : Nat) : Int) by omega, bits_xor_u64_nat _ _ hx (by omega)], Nat.xor_lt_two_pow (n := 64) hx (by omega)⟩
/-- A random number of a call's own. -/
def XW (w : World) (s x : Nat) : Prop := x < 18446744073709551616 ∧ ∃ t, w.heap[s]? = some (.cells #[.int .u64 (x : Int)] t (0, 0))
theorem XW.keep {w w' : World} {s x : Nat} (h : XW w s x) (e : w'.heap[s]? = w.heap[s]?) : XW w' s x := by
  obtain ⟨b, t, h1⟩ := h
  exact ⟨b, t, e.trans h1⟩
set_option maxRecDepth 100000 in
set_option maxHeartbeats 4000000 in
theorem next23 (s x : Nat) (w : World) (hx : XW w s x) :
    Calls Try.prog 49 #[.pointer (some ⟨s, 0, none⟩)] w fun e w' => (∃ z : Nat, e = .returned (.int .u64 (z : Int)) ∧ XW w' s z) ∧ Gx (fun q => q = s) w w' := by
  obtain ⟨xb, t0, hb⟩ := hx
  obtain ⟨A, eA, lA⟩ := xor_l xb 8192
  obtain ⟨B, eB, lB⟩ := xor_r lA
  obtain ⟨C, eC, lC⟩ := xor_l lB 131072
  have e1 : bits .xor .u64 (x : Int) (IntKind.u64.wrap ((x : Int) * 8192)) = (A : Int) := eA
  have e3 : bits .xor .u64 (B : Int) (IntKind.u64.wrap ((B : Int) * 131072)) = (C : Int) := eC
  have HB : Aside (w.heap[s]? = some (.cells #[.int .u64 (x : Int)] t0 (0, 0))) := hb
  have LC : Aside (C < 18446744073709551616) := lC
  have c0 : w.cell? ⟨s, 0, none⟩ = some (.int .u64 (x : Int)) := blkc hb rfl
  have f0 : w.frozen? ⟨s, 0, none⟩ = false := blkf hb
  obtain ⟨W1, hW1⟩ : ∃ W1, w.setCell ⟨s, 0, none⟩ (.int .u64 (A : Int)) = W1 := ⟨_, rfl⟩
  have hb1 : W1.heap[s]? = some (.cells #[.int .u64 (A : Int)] t0 (0, 0)) := by rw [← hW1]; simp [World.setCell, Array.getElem?_modify, hb]
  have c1 : W1.cell? ⟨s, 0, none⟩ = some (.int .u64 (A : Int)) := blkc hb1 rfl
  have f1 : W1.frozen? ⟨s, 0, none⟩ = false := blkf hb1
  obtain ⟨W2, hW2⟩ : ∃ W2, W1.setCell ⟨s, 0, none⟩ (.int .u64 (B : Int)) = W2 := ⟨_, rfl⟩
  have hb2 : W2.heap[s]? = some (.cells #[.int .u64 (B : Int)] t0 (0, 0)) := by rw [← hW2]; simp [World.setCell, Array.getElem?_modify, hb1]
  have c2 : W2.cell? ⟨s, 0, none⟩ = some (.int .u64 (B : Int)) := blkc hb2 rfl
  have f2 : W2.frozen? ⟨s, 0, none⟩ = false := blkf hb2
  obtain ⟨W3, hW3⟩ : ∃ W3, W2.setCell ⟨s, 0, none⟩ (.int .u64 (C : Int)) = W3 := ⟨_, rfl⟩
  have hb3 : W3.heap[s]? = some (.cells #[.int .u64 (C : Int)] t0 (0, 0)) := by rw [← hW3]; simp [World.setCell, Array.getElem?_modify, hb2]
  have c3 : W3.cell? ⟨s, 0, none⟩ = some (.int .u64 (C : Int)) := blkc hb3 rfl
  have H3 : Aside (XW W3 s C) := ⟨lC, t0, hb3⟩
  have G3 : Aside (Gx (fun q => q = s) w W3) := by
    rw [← hW3, ← hW2, ← hW1]
    exact Gx.set (S := fun q => q = s) (Gx.set (S := fun q => q = s) (Gx.set (S := fun q => q = s) (Gx.refl _ w) (q := s) (.inl rfl) 0 _) (q := s) (.inl rfl) 0 _) (q := s) (.inl rfl) 0 _
  clear hb hb1 hb2 hb3 lA lB lC xb eA eC
  go_enter Try.func49, Try.ntmps49
  go_wp2_with fail
  go_big_region
  go_wp2_with fail
  go_big_region
  go_wp2_with fail
  go_big_region
  go_wp2_with fail
  go_ret
  exact ⟨⟨C, rfl, H3.out.keep rfl⟩, G3.out.tw ((Gw.refl _).drewN 3)⟩
theorem pow23 (l : Nat) (l0 : 1 ≤ l) (hl : l ≤ 4000000) (w : World) :
    Calls Try.prog 48 #[.int .i64 (l : Int)] w fun e w' => (∃ m : Nat, e = .returned (.int .u64 (m : Int)) ∧ 1 ≤ m ∧ m ≤ 2 * l) ∧ w' = w := by
  obtain ⟨k, hk⟩ : ∃ k, k = Sort.bitsLen l := ⟨_, rfl⟩
  have LN : Hid (∀ W : World, Calls Try.prog 35 #[.int .u64 (l : Int)] W fun e w' => e = .returned (.int .i64 (k : Int)) ∧ w' = W) := fun W => by
    have h := Try.bits_Len (l : Int) W (by omega) (by omega)
    rw [Int.toNat_natCast, bitLen_eq _ (by omega), ← hk] at h
    exact h
  have k62 : k ≤ 62 := by rw [hk]; exact (Sort.bitsLen_le_iff l 62).2 (by omega)
  have hp := wrap_two_pow k k62
  have p1 : (1 <<< k : Nat) ≤ 2 * l := by rw [Nat.one_shiftLeft, hk]; exact Sort.two_pow_bitsLen_le (by omega)
  have p0 : 1 ≤ (1 <<< k : Nat) := by rw [Nat.one_shiftLeft]; exact Nat.one_le_two_pow
  obtain ⟨m, hm⟩ : ∃ m : Nat, (1 <<< k : Nat) = m := ⟨_, rfl⟩
  rw [hm] at hp p1 p0
  have P : Aside (1 ≤ m ∧ m ≤ 2 * l) := ⟨p0, p1⟩
  have wl : IntKind.u64.wrap (l : Int) = (l : Int) := by rw [IntKind.wrap_u64]; omega
  clear hm hk p0 p1
  go_enter Try.func48, Try.ntmps48
  go_wp2_with (go_at_call 35; refine (LN.out _).mono ?_; rintro e w' ⟨rfl, rfl⟩)
  go_ret
  exact ⟨⟨m, rfl, P.out⟩, rfl⟩
set_option maxRecDepth 100000 in
set_option maxHeartbeats 4000000 in
theorem break23 (k c n a b : Nat) (d : Array Int) (hn : d.size = n) (n62 : n ≤ 4000000) (hab : a + 8 ≤ b) (hb : b ≤ n) (w : World) (hr : UR w k d) :
    Calls Try.prog 38 #[.slice (some ⟨k, 0, none⟩) n c, .int .i64 (a : Int), .int .i64 (b : Int)] w fun e w' => Srt w w' k a b d e := by
  have klt := hr.lt
  obtain ⟨s, hs⟩ : ∃ s, w.heap.size = s := ⟨_, rfl⟩
  have KS : Aside (k ≠ s ∧ s ≠ k ∧ k < s) := by rw [← hs]; exact ⟨by omega, by omega, klt⟩
  obtain ⟨l, hl⟩ : ∃ l, l = b - a := ⟨_, rfl⟩
  obtain ⟨l4, hl4⟩ : ∃ l4, l4 = l / 4 := ⟨_, rfl⟩
  obtain ⟨l2, hl2⟩ : ∃ l2, l2 = l4 * 2 := ⟨_, rfl⟩
  obtain ⟨m0, hm0⟩ : ∃ m0, m0 = a + l2 := ⟨_, rfl⟩
  obtain ⟨i0, hi0⟩ : ∃ i0, i0 = m0 - 1 := ⟨_, rfl⟩
  obtain ⟨ie, hie⟩ : ∃ ie, ie = m0 + 1 := ⟨_, rfl⟩
  have v0 : IntKind.i64.wrap ((b : Int) - (a : Int)) = (l : Int) := by rw [IntKind.wrap_i64]; omega
  have v1 : (l : Int) / 4 = (l4 : Int) := by rw [hl4]; rfl
  have lb : l ≤ 4000000 := by omega
  have l8 : 8 ≤ l := by omega
  have lb4 : l4 ≤ 1000000 := by omega
  have mb : m0 ≤ 8000000 := by omega
  have v2 : IntKind.i64.wrap ((l4 : Int) * 2) = (l2 : Int) := by rw [IntKind.wrap_i64]; omega
  have v3 : IntKind.i64.wrap ((a : Int) + (l2 : Int)) = (m0 : Int) := by rw [IntKind.wrap_i64]; omega
  have v4 : IntKind.i64.wrap ((m0 : Int) - 1) = (i0 : Int) := by rw [IntKind.wrap_i64]; omega
  have v5 : IntKind.i64.wrap ((m0 : Int) + 1) = (ie : Int) := by rw [IntKind.wrap_i64]; omega
  have v6 : IntKind.u64.wrap (l : Int) = (l : Int) := by rw [IntKind.wrap_u64]; omega
  have BB : Aside (a + 3 ≤ i0 ∧ ie = i0 + 2 ∧ ie < b ∧ l = b - a) := by
    have : l4 ≥ 2 := by omega
    have : l4 * 4 ≤ l := by omega
    exact ⟨by omega, by omega, by omega, hl⟩
  have d8 : decide (8 ≤ (l : Int)) = true := by simp; omega
  have PW : Hid (∀ W : World, Calls Try.prog 48 #[.int .i64 (l : Int)] W fun e w' => (∃ m : Nat, e = .returned (.int .u64 (m : Int)) ∧ 1 ≤ m ∧ m ≤ 2 * l) ∧ w' = W) := fun W => pow23 l (by omega) lb W
  have NX : Hid (∀ (x : Nat) (W : World), XW W s x → Calls Try.prog 49 #[.pointer (some ⟨s, 0, none⟩)] W fun e w' => (∃ z : Nat, e = .returned (.int .u64 (z : Int)) ∧ XW w' s z) ∧ Gx (fun q => q = s) W w') := fun x W h => next23 s x W h
  have LN : Aside (d.size = n) := hn
  have R0 : Aside (UR (w.alloc (.cells #[.int .u64 (l : Int)] 92)) k d) := hr.gw ((Gw.refl w).alloc _ _)
  have X0 : Aside (XW (w.alloc (.cells #[.int .u64 (l : Int)] 92)) s l) := ⟨by omega, _, by rw [← hs]; exact heap_alloc_new w _⟩
  have GW0 : Aside (Gw w (w.alloc (.cells #[.int .u64 (l : Int)] 92))) := (Gw.refl w).alloc _ _
  have HS : Aside (w.heap.size = s) := hs
  clear hr hn hl hl4 hl2 hm0 hi0 hie klt
  go_enter Try.func38, Try.ntmps38
  go_wp2_with fail
  refine (PW.out _).mono ?_
  rintro e w1 ⟨⟨m, rfl, mm⟩, rfl⟩
  obtain ⟨m1, hm1⟩ : ∃ m1, m1 = m - 1 := ⟨_, rfl⟩
  have v7 : IntKind.u64.wrap ((m : Int) - 1) = (m1 : Int) := by rw [IntKind.wrap_u64]; omega
  have M1 : Aside (m1 < 2 * l) := by show _ < _; omega
  have m1b : m1 ≤ 8000000 := by omega
  clear mm hm1
  go_wp2_with fail
  go_loopg [9, 10] 3 (fun gg s9 s10 wr => ∃ (i x : Nat) (D : Array Int), s9 = .int .i64 (i : Int) ∧ i0 + 3 - i ≤ gg ∧ Aside (i0 ≤ i ∧ i ≤ i0 + 3) ∧ Aside (D.size = n ∧ Sort.PermIn a b d D) ∧ Aside (UR wr k D) ∧ Aside (XW wr s x) ∧ Aside (Gx (fun q => q = k) w wr))
  case atStart => exact ⟨i0, l, d, (by first | rfl | (rw [v4])), by omega, ⟨Nat.le_refl _, by omega⟩, ⟨LN.out, Sort.permIn_refl _ _ _⟩, (show Aside _ from (by have := R0.out; rw [HS.out] at *; exact this)), (show Aside _ from X0.out), (show Aside _ from GW0.out.gx _)⟩
  case round =>
    obtain ⟨i, x, D, rfl, ig, IB, HD, Ur, XX, Gr⟩ := hrel
    by_cases ci : i ≤ ie
    · have ci' : decide ((i : Int) ≤ (ie : Int)) = true := by simpa using ci
      have bi : i < n := by have := BB.out; omega
      have wi : IntKind.i64.wrap ((i : Int) + 1) = ((i + 1 : Nat) : Int) := by rw [IntKind.wrap_i64]; omega
      go_wp2_with fail
      refine (NX.out x _ XX.out).mono ?_
      rintro e w2 ⟨⟨z, rfl, hz⟩, g2⟩
      obtain ⟨o, ho, hle⟩ := and_le hz.1 (y := m1) (by omega)
      have Uu : Aside (UR w2 k D) := Ur.out.gx g2 KS.out.1
      have Xu : Aside (XW w2 s z) := hz
      have Gu : Aside (Gx (fun q => q = k) w w2) := Gr.out.trans g2 (fun q hq => .inr (by have := HS.out; omega))
      have ol : o < 2 * l := by have := M1.out; omega
      have ob : o ≤ 8000000 := by omega
      clear hz g2 hle
      by_cases co : l ≤ o
      · have co' : decide ((l : Int) ≤ (o : Int)) = true := by simpa using co
        obtain ⟨o2, ho2⟩ : ∃ o2, o2 = o - l := ⟨_, rfl⟩
        obtain ⟨q, hq⟩ : ∃ q, q = a + o2 := ⟨_, rfl⟩
        have wo : IntKind.i64.wrap ((o : Int) - (l : Int)) = (o2 : Int) := by rw [IntKind.wrap_i64]; omega
        have wq : IntKind.i64.wrap ((a : Int) + (o2 : Int)) = (q : Int) := by rw [IntKind.wrap_i64]; omega
        have bq : q < n := by have := BB.out; omega
        have QB : Aside (a ≤ q ∧ q < b) := by have := BB.out; exact ⟨by omega, by omega⟩
        clear ho2 hq
        have qxv := Uu.out.cell (i := i) (by rw [HD.out.1]; exact bi)
        obtain ⟨xv, hxv⟩ : ∃ xv, D[i]! = xv := ⟨_, rfl⟩
        rw [hxv] at qxv
        have Hxv : Aside (D[i]! = xv) := hxv
        clear hxv
        have qyv := Uu.out.cell (i := q) (by rw [HD.out.1]; exact bq)
        obtain ⟨yv, hyv⟩ : ∃ yv, D[q]! = yv := ⟨_, rfl⟩
        rw [hyv] at qyv
        have Hyv : Aside (D[q]! = yv) := hyv
        clear hyv
        have fz := Uu.out.frozen i
        obtain ⟨W1, W2, E1, E2, UF, fz1, cz, g2⟩ := Uu.out.swp (i := i) (j := q) (by rw [HD.out.1]; exact bi) (by rw [HD.out.1]; exact bq) Hxv.out Hyv.out
        have fzm := fz1 q
        have UFA : Aside (UR W2 k (Sort.swp D i q)) := UF
        have G2 : Aside (Gx (fun q => q = k) w W2) := Gu.out.trans g2 (fun q hq => .inl hq)
        clear fz1 UF g2
        go_wp2_with fail
        go_big_region
        go_wp2_with fail
        go_roundg (i0 + 3 - (i + 1))
        case measure => have := BB.out; omega
        case rel =>
          refine ⟨i + 1, z, Sort.swp D i q, rfl, Nat.le_refl _, ⟨by have := IB.out; omega, by have := BB.out; omega⟩, ⟨by rw [Sort.size_swp]; exact HD.out.1, ?_⟩, (show Aside _ from UFA.out.keep rfl), ?_, (show Aside _ from G2.out.drew)⟩
          · exact Sort.permIn_trans _ _ _ _ _ HD.out.2 (Sort.swp_permIn D a b i q (by have := IB.out; have := BB.out; omega) (by have := BB.out; omega) QB.out.1 QB.out.2 (by rw [HD.out.1]; omega))
          · refine Xu.out.keep ?_
            show W2.heap[s]? = _
            rw [← E2, ← E1, Go.Deep.blk_setCell_other _ _ _ _ KS.out.2.1, Go.Deep.blk_setCell_other _ _ _ _ KS.out.2.1]
      · have co' : decide ((l : Int) ≤ (o : Int)) = false := by simpa using co
        obtain ⟨q, hq⟩ : ∃ q, q = a + o := ⟨_, rfl⟩
        have wq : IntKind.i64.wrap ((a : Int) + (o : Int)) = (q : Int) := by rw [IntKind.wrap_i64]; omega
        have bq : q < n := by have := BB.out; omega
        have QB : Aside (a ≤ q ∧ q < b) := by have := BB.out; exact ⟨by omega, by omega⟩
        clear hq
        have qxv := Uu.out.cell (i := i) (by rw [HD.out.1]; exact bi)
        obtain ⟨xv, hxv⟩ : ∃ xv, D[i]! = xv := ⟨_, rfl⟩
        rw [hxv] at qxv
        have Hxv : Aside (D[i]! = xv) := hxv
        clear hxv
        have qyv := Uu.out.cell (i := q) (by rw [HD.out.1]; exact bq)
        obtain ⟨yv, hyv⟩ : ∃ yv, D[q]! = yv := ⟨_, rfl⟩
        rw [hyv] at qyv
        have Hyv : Aside (D[q]! = yv) := hyv
        clear hyv
        have fz := Uu.out.frozen i
        obtain ⟨W1, W2, E1, E2, UF, fz1, cz, g2⟩ := Uu.out.swp (i := i) (j := q) (by rw [HD.out.1]; exact bi) (by rw [HD.out.1]; exact bq) Hxv.out Hyv.out
        have fzm := fz1 q
        have UFA : Aside (UR W2 k (Sort.swp D i q)) := UF
        have G2 : Aside (Gx (fun q => q = k) w W2) := Gu.out.trans g2 (fun q hq => .inl hq)
        clear fz1 UF g2
        go_wp2_with fail
        go_big_region
        go_wp2_with fail
        go_roundg (i0 + 3 - (i + 1))
        case measure => have := BB.out; omega
        case rel =>
          refine ⟨i + 1, z, Sort.swp D i q, rfl, Nat.le_refl _, ⟨by have := IB.out; omega, by have := BB.out; omega⟩, ⟨by rw [Sort.size_swp]; exact HD.out.1, ?_⟩, (show Aside _ from UFA.out.keep rfl), ?_, (show Aside _ from G2.out.drew)⟩
          · exact Sort.permIn_trans _ _ _ _ _ HD.out.2 (Sort.swp_permIn D a b i q (by have := IB.out; have := BB.out; omega) (by have := BB.out; omega) QB.out.1 QB.out.2 (by rw [HD.out.1]; omega))
          · refine Xu.out.keep ?_
            show W2.heap[s]? = _
            rw [← E2, ← E1, Go.Deep.blk_setCell_other _ _ _ _ KS.out.2.1, Go.Deep.blk_setCell_other _ _ _ _ KS.out.2.1]
    · have ci' : decide ((i : Int) ≤ (ie : Int)) = false := by simpa using ci
      go_wp2_with fail
      refine bodyPost_end (results_none rfl _ _ _) rfl ⟨rfl, D, Ur.out, HD.out.2, Gr.out⟩
end Go.Proofs.Ytkojcjfjmlompaa
