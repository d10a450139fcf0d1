import Derived.Test.YtkojcjfjmlompaaPSa
import Derived.Deep.QuietTactic
import Derived.BigQuiet
import Derived.BigRegion
import Derived.Deep.CutBlock
/- The library's partition of numbers. -/
namespace Go.Proofs.Ytkojcjfjmlompaa
open Go.RowKit
set_option linter.unusedVariables false

set_option maxRecDepth 20000 in
set_option maxHeartbeats 8000000 in
theorem part23 (k c n a b p : Nat) (d : Array Int) (hn : d.size = n) (n62 : n ≤ 4000000) (hap : a ≤ p) (hpb : p < b) (hb : b ≤ n) (w : World) (hr : UR w k d) :
    Calls Try.prog 44 #[.slice (some ⟨k, 0, none⟩) n c, .int .i64 (a : Int), .int .i64 (b : Int), .int .i64 (p : Int)] w fun e w' => e = .returned (.tuple #[.int .i64 ((Sort.partition ltI d a b p).1 : Int), .bool (Sort.partition ltI d a b p).2.1]) ∧ UR w' k (Sort.partition ltI d a b p).2.2 ∧ Gx (fun q => q = k) w w' := by
  have U0 : Aside (UR w k d) := hr
  have G0 : Aside (Gx (fun q => q = k) w w) := Gx.refl _ _
  have LN : Aside (d.size = n) := hn
  have LE : Hid (∀ (x y : Int) (W : World), Calls Try.prog 42 #[.int .u64 x, .int .u64 y] W fun e w' => e = .returned (.bool (ltI x y)) ∧ w' = W) := fun x y W => less23 x y W
  obtain ⟨a1, ha1⟩ : ∃ a1, a1 = a + 1 := ⟨_, rfl⟩
  obtain ⟨b1, hb1⟩ : ∃ b1, b1 = b - 1 := ⟨_, rfl⟩
  have w1 : IntKind.i64.wrap ((a : Int) + 1) = (a1 : Int) := by rw [IntKind.wrap_i64]; omega
  have w2 : IntKind.i64.wrap ((b : Int) - 1) = (b1 : Int) := by rw [IntKind.wrap_i64]; omega
  have ba : a < n := by omega
  have bp : p < n := by omega
  have bb : b1 < n := by omega
  have AB : Aside (a1 = a + 1 ∧ b1 = b - 1) := ⟨ha1, hb1⟩
  have a1b : a1 ≤ b1 + 1 := by omega
  have aa1 : a < a1 := by omega
  have qx := U0.out.cell (i := a) (by rw [LN.out]; exact ba)
  obtain ⟨x, hx⟩ : ∃ x, d[a]! = x := ⟨_, rfl⟩
  rw [hx] at qx
  have Hx : Aside (d[a]! = x) := hx
  clear hx
  have qy := U0.out.cell (i := p) (by rw [LN.out]; exact bp)
  obtain ⟨y, hy⟩ : ∃ y, d[p]! = y := ⟨_, rfl⟩
  rw [hy] at qy
  have Hy : Aside (d[p]! = y) := hy
  clear hy
  clear hr hn ha1 hb1
  go_enter Try.func44, Try.ntmps44
  have fz := U0.out.frozen a
  obtain ⟨W1, W2, E1, E2, UF, fz1, cz, g2⟩ := U0.out.swp (i := a) (j := p) (by rw [LN.out]; exact ba) (by rw [LN.out]; exact bp) Hx.out Hy.out
  have fzm := fz1 p
  have UFA : Aside (UR W2 k (Sort.swp d a p)) := UF
  have G2 : Aside (Gx (fun q => q = k) w W2) := G0.out.trans g2 (fun q hq => .inl hq)
  clear fz1 UF g2
  go_wp2_with fail
  go_big_region
  obtain ⟨D, hD⟩ : ∃ D, Sort.swp d a p = D := ⟨_, rfl⟩
  rw [hD] at UFA
  obtain ⟨r, hr⟩ : ∃ r, W2.drew = r := ⟨_, rfl⟩
  have Ur : Aside (UR r k D) := by rw [← hr]; exact UFA.out.keep rfl
  have Gr : Aside (Gx (fun q => q = k) w r) := by rw [← hr]; exact G2.out.drew
  rw [hr]
  clear hr E1 E2 cz fz fzm UFA G2 qx qy
  have SZ : Aside (D.size = n) := by rw [← hD]; show _ = _; rw [Sort.size_swp]; exact LN.out
  obtain ⟨i1, hi1⟩ : ∃ i1, i1 = Sort.scanUp (fun x => ltI x D[a]!) D b1 a1 := ⟨_, rfl⟩
  obtain ⟨j1, hj1⟩ : ∃ j1, j1 = Sort.scanDown (fun x => !ltI x D[a]!) D i1 b1 := ⟨_, rfl⟩
  have Hi1 : Aside (i1 = Sort.scanUp (fun x => ltI x D[a]!) D b1 a1) := hi1
  have Hj1 : Aside (j1 = Sort.scanDown (fun x => !ltI x D[a]!) D i1 b1) := hj1
  have PE : Aside (Sort.partition ltI d a b p = if i1 > j1 then (j1, true, Sort.swp D j1 a) else ((Sort.partLoop ltI a (i1 + 1) (j1 - 1) (Sort.swp D i1 j1)).1, false, Sort.swp (Sort.partLoop ltI a (i1 + 1) (j1 - 1) (Sort.swp D i1 j1)).2 (Sort.partLoop ltI a (i1 + 1) (j1 - 1) (Sort.swp D i1 j1)).1 a)) := by
    show _ = _
    rw [hj1, hi1, ← hD, AB.out.1, AB.out.2]
    rfl
  clear hD hi1 hj1
  go_upto_block 0 with fail
  go_cut [10] from 30 to 45 (fun s10 wc => s10 = .int .i64 (i1 : Int) ∧ Aside (a1 ≤ i1 ∧ i1 ≤ b1 + 1) ∧ Aside (UR wc k D) ∧ Aside (Gx (fun q => q = k) w wc))
  case first =>
    go_wp2_with fail
    go_loopg [10] (b1 + 1 - (a1)) (fun gg s10 wr => ∃ x : Nat, s10 = .int .i64 (x : Int) ∧ b1 + 1 - (x) ≤ gg ∧ Aside (a1 ≤ x ∧ x ≤ b1 + 1) ∧ Aside (Sort.scanUp (fun x => ltI x D[a]!) D b1 x = i1) ∧ Aside (UR wr k D) ∧ Aside (Gx (fun q => q = k) w wr))
    case atStart => exact ⟨a1, rfl, Nat.le_refl _, ⟨by omega, by omega⟩, (show Aside _ from Hi1.out.symm), Ur, Gr⟩
    case round =>
      rename_i wr0
      obtain ⟨x, rfl, xg, XB, SC, UX, GX⟩ := hrel
      by_cases cl : x ≤ b1
      · have cl' : decide ((x : Int) ≤ (b1 : Int)) = true := by simpa using cl
        have bx : x < n := by have := XB.out; omega
        have wx : IntKind.i64.wrap ((x : Int) + 1) = ((x + 1 : Nat) : Int) := by rw [IntKind.wrap_i64]; omega
        have qv := UX.out.cell (i := x) (by rw [SZ.out]; exact bx)
        obtain ⟨v, hv⟩ : ∃ v, D[x]! = v := ⟨_, rfl⟩
        rw [hv] at qv
        have Hv : Aside (D[x]! = v) := hv
        clear hv
        have qpv := UX.out.cell (i := a) (by rw [SZ.out]; exact ba)
        obtain ⟨pv, hpv⟩ : ∃ pv, D[a]! = pv := ⟨_, rfl⟩
        rw [hpv] at qpv
        have Hpv : Aside (D[a]! = pv) := hpv
        clear hpv
        obtain ⟨t, ht⟩ : ∃ t, ltI v pv = t := ⟨_, rfl⟩
        have Lt := LE.out v pv
        rw [ht] at Lt
        have Mt : Hid _ := Lt
        have Ht : Aside (ltI v pv = t) := ht
        clear ht Lt
        cases t with
        | true =>
          go_wp2_with fail
          go_quiet ((go_at_call 42; exact Calls.quiet_of_same (Mt.out _)))
          go_wp2_with fail
          go_roundg (b1 + 1 - (x + 1))
          case measure => omega
          case rel =>
            refine ⟨x + 1, rfl, Nat.le_refl _, ⟨by have := XB.out; omega, by have := XB.out; omega⟩, ?_, (show Aside _ from UX.out.keep rfl), (show Aside _ from GX.out.tw ((Gw.refl _).drewN nq))⟩
            show _ = _
            rw [← SC.out]
            conv => rhs; rw [Sort.scanUp.eq_1]
            rw [if_pos (by simp only [Hv.out, Hpv.out, Ht.out]; simp; omega)]
        | false =>
          go_wp2_with fail
          go_quiet ((go_at_call 42; exact Calls.quiet_of_same (Mt.out _)))
          go_wp2_with fail
          go_meet
          case rel =>
            have e : x = i1 := by
              rw [← SC.out]
              rw [Sort.scanUp.eq_1]
              rw [if_neg (by simp only [Hv.out, Hpv.out, Ht.out]; simp)]
            subst e
            exact ⟨rfl, XB, (show Aside _ from UX.out.keep rfl), (show Aside _ from GX.out.tw ((Gw.refl _).drewN nq))⟩
      · have cl' : decide ((x : Int) ≤ (b1 : Int)) = false := by simpa using cl
        go_wp2_with fail
        go_quiet (fail)
        go_wp2_with fail
        go_meet
        case rel =>
          have e : x = i1 := by
            rw [← SC.out]
            rw [Sort.scanUp.eq_1, if_neg (by simp; omega)]
          subst e
          exact ⟨rfl, XB, (show Aside _ from UX.out.keep rfl), (show Aside _ from GX.out.tw ((Gw.refl _).drewN nq))⟩
  case rest =>
    obtain ⟨rfl, IB, Uc1, Gc1⟩ := hcut
    have i1a := IB.out.1
    have i1b := IB.out.2
    have i10 : 1 ≤ i1 := by omega
    clear Ur Gr
    go_upto_block 2 with fail
    go_cut [11] from 46 to 62 (fun s11 wc => s11 = .int .i64 (j1 : Int) ∧ Aside (j1 ≤ b1 ∧ i1 ≤ j1 + 1) ∧ Aside (UR wc k D) ∧ Aside (Gx (fun q => q = k) w wc))
    case first =>
      go_wp2_with fail
      go_loopg [11] (b1 + 1 - i1) (fun gg s11 wr => ∃ x : Nat, s11 = .int .i64 (x : Int) ∧ x + 1 - i1 ≤ gg ∧ Aside (x ≤ b1 ∧ i1 ≤ x + 1) ∧ Aside (Sort.scanDown (fun x => !ltI x D[a]!) D i1 x = j1) ∧ Aside (UR wr k D) ∧ Aside (Gx (fun q => q = k) w wr))
      case atStart => exact ⟨b1, rfl, Nat.le_refl _, ⟨by omega, by omega⟩, (show Aside _ from Hj1.out.symm), Uc1, Gc1⟩
      case round =>
        rename_i wr0
        obtain ⟨x, rfl, xg, XB, SC, UX, GX⟩ := hrel
        by_cases cl : i1 ≤ x
        · have cl' : decide ((i1 : Int) ≤ (x : Int)) = true := by simpa using cl
          have bx : x < n := by have := XB.out; omega
          obtain ⟨y, hy⟩ : ∃ y, x = y + 1 := ⟨x - 1, by omega⟩
          have XY : Aside (x = y + 1) := hy
          have wx : IntKind.i64.wrap ((x : Int) - 1) = (y : Int) := by rw [IntKind.wrap_i64]; omega
          clear hy
          have qv := UX.out.cell (i := x) (by rw [SZ.out]; exact bx)
          obtain ⟨v, hv⟩ : ∃ v, D[x]! = v := ⟨_, rfl⟩
          rw [hv] at qv
          have Hv : Aside (D[x]! = v) := hv
          clear hv
          have qpv := UX.out.cell (i := a) (by rw [SZ.out]; exact ba)
          obtain ⟨pv, hpv⟩ : ∃ pv, D[a]! = pv := ⟨_, rfl⟩
          rw [hpv] at qpv
          have Hpv : Aside (D[a]! = pv) := hpv
          clear hpv
          obtain ⟨t, ht⟩ : ∃ t, ltI v pv = t := ⟨_, rfl⟩
          have Lt := LE.out v pv
          rw [ht] at Lt
          have Mt : Hid _ := Lt
          have Ht : Aside (ltI v pv = t) := ht
          clear ht Lt
          cases t with
          | true =>
            go_wp2_with fail
            go_quiet ((go_at_call 42; exact Calls.quiet_of_same (Mt.out _)))
            go_wp2_with fail
            go_meet
            case rel =>
              have e : x = j1 := by
                rw [← SC.out, XY.out]
                unfold Sort.scanDown
                rw [if_neg (by rw [← XY.out]; simp only [Hv.out, Hpv.out, Ht.out]; simp)]
              subst e
              exact ⟨rfl, XB, (show Aside _ from UX.out.keep rfl), (show Aside _ from GX.out.tw ((Gw.refl _).drewN nq))⟩
          | false =>
            go_wp2_with fail
            go_quiet ((go_at_call 42; exact Calls.quiet_of_same (Mt.out _)))
            go_wp2_with fail
            go_roundg (y + 1 - i1)
            case measure => have := XY.out; omega
            case rel =>
              refine ⟨y, rfl, Nat.le_refl _, ⟨by have := XB.out; have := XY.out; omega, by have := XB.out; have := XY.out; omega⟩, ?_, (show Aside _ from UX.out.keep rfl), (show Aside _ from GX.out.tw ((Gw.refl _).drewN nq))⟩
              show _ = _
              rw [← SC.out, XY.out]
              conv => rhs; unfold Sort.scanDown
              rw [if_pos (by rw [← XY.out]; simp only [Hv.out, Hpv.out, Ht.out]; simp; omega)]
        · have cl' : decide ((i1 : Int) ≤ (x : Int)) = false := by simpa using cl
          go_wp2_with fail
          go_quiet (fail)
          go_wp2_with fail
          go_meet
          case rel =>
            have e : x = j1 := by
              rw [← SC.out]
              cases x with
              | zero => rfl
              | succ y => unfold Sort.scanDown; rw [if_neg (by simp; omega)]
            subst e
            exact ⟨rfl, XB, (show Aside _ from UX.out.keep rfl), (show Aside _ from GX.out.tw ((Gw.refl _).drewN nq))⟩
    case rest =>
      obtain ⟨rfl, JB, Ur, Gr⟩ := hcut
      have j1b := JB.out.1
      have j1a := JB.out.2
      have bj : j1 < n := by omega
      by_cases c1 : i1 > j1
      · have c1' : decide ((j1 : Int) < (i1 : Int)) = true := by simpa using c1
        have qx := Ur.out.cell (i := j1) (by rw [SZ.out]; exact bj)
        obtain ⟨x, hx⟩ : ∃ x, D[j1]! = x := ⟨_, rfl⟩
        rw [hx] at qx
        have Hx : Aside (D[j1]! = x) := hx
        clear hx
        have qy := Ur.out.cell (i := a) (by rw [SZ.out]; exact ba)
        obtain ⟨y, hy⟩ : ∃ y, D[a]! = y := ⟨_, rfl⟩
        rw [hy] at qy
        have Hy : Aside (D[a]! = y) := hy
        clear hy
        have fz := Ur.out.frozen j1
        obtain ⟨W1, W2, E1, E2, UF, fz1, cz, g2⟩ := Ur.out.swp (i := j1) (j := a) (by rw [SZ.out]; exact bj) (by rw [SZ.out]; exact ba) Hx.out Hy.out
        have fzm := fz1 a
        have UFA : Aside (UR W2 k (Sort.swp D j1 a)) := UF
        have G2 : Aside (Gx (fun q => q = k) w W2) := Gr.out.trans g2 (fun q hq => .inl hq)
        clear fz1 UF g2
        go_wp2_with fail
        go_big_region
        go_wp2_with fail
        refine bodyPost_ret (v := .tuple #[.int .i64 (j1 : Int), .bool true]) (by simp [results, Try.results44, go_sem]) rfl ?_
        rw [PE.out, if_pos c1]
        exact ⟨rfl, UFA.out.keep rfl, G2.out.drew⟩
      · have c1' : decide ((j1 : Int) < (i1 : Int)) = false := by simpa using c1
        have bi : i1 < n := by omega
        have ij1 : i1 < j1 := scan_apart (fun _ => rfl) Hi1.out Hj1.out c1 i10
        have wi : IntKind.i64.wrap ((i1 : Int) + 1) = ((i1 + 1 : Nat) : Int) := by rw [IntKind.wrap_i64]; omega
        have wj : IntKind.i64.wrap ((j1 : Int) - 1) = ((j1 - 1 : Nat) : Int) := by rw [IntKind.wrap_i64]; omega
        have qx := Ur.out.cell (i := i1) (by rw [SZ.out]; exact bi)
        obtain ⟨x, hx⟩ : ∃ x, D[i1]! = x := ⟨_, rfl⟩
        rw [hx] at qx
        have Hx : Aside (D[i1]! = x) := hx
        clear hx
        have qy := Ur.out.cell (i := j1) (by rw [SZ.out]; exact bj)
        obtain ⟨y, hy⟩ : ∃ y, D[j1]! = y := ⟨_, rfl⟩
        rw [hy] at qy
        have Hy : Aside (D[j1]! = y) := hy
        clear hy
        have fz := Ur.out.frozen i1
        obtain ⟨W1, W2, E1, E2, UF, fz1, cz, g2⟩ := Ur.out.swp (i := i1) (j := j1) (by rw [SZ.out]; exact bi) (by rw [SZ.out]; exact bj) Hx.out Hy.out
        have fzm := fz1 j1
        have UFA : Aside (UR W2 k (Sort.swp D i1 j1)) := UF
        have G2 : Aside (Gx (fun q => q = k) w W2) := Gr.out.trans g2 (fun q hq => .inl hq)
        clear fz1 UF g2
        go_wp2_with fail
        go_big_region
        obtain ⟨D2, hD2⟩ : ∃ D2, Sort.swp D i1 j1 = D2 := ⟨_, rfl⟩
        rw [hD2] at UFA
        obtain ⟨v, hv⟩ : ∃ v, W2.drew = v := ⟨_, rfl⟩
        have Uv : Aside (UR v k D2) := by rw [← hv]; exact UFA.out.keep rfl
        have Gv : Aside (Gx (fun q => q = k) w v) := by rw [← hv]; exact G2.out.drew
        rw [hv]
        clear hv E1 E2 cz fz fzm UFA G2 qx qy
        have SZ2 : Aside (D2.size = n) := by rw [← hD2]; show _ = _; rw [Sort.size_swp]; exact SZ.out
        have PE2 : Aside (Sort.partition ltI d a b p = ((Sort.partLoop ltI a (i1 + 1) (j1 - 1) D2).1, false, Sort.swp (Sort.partLoop ltI a (i1 + 1) (j1 - 1) D2).2 (Sort.partLoop ltI a (i1 + 1) (j1 - 1) D2).1 a)) := by
          show _ = _
          rw [PE.out, if_neg c1, hD2]
        obtain ⟨R, hR⟩ : ∃ R, Sort.partLoop ltI a (i1 + 1) (j1 - 1) D2 = R := ⟨_, rfl⟩
        have HR : Aside (Sort.partLoop ltI a (i1 + 1) (j1 - 1) D2 = R) := hR
        rw [hR] at PE2
        clear hD2 hR PE Hx Hy
        go_wp2_with fail
        go_loopg [10, 11] (n - i1) (fun gg s10 s11 wr => ∃ (i j : Nat) (E : Array Int), s10 = .int .i64 (i : Int) ∧ s11 = .int .i64 (j : Int) ∧ n - i + 1 ≤ gg ∧ Aside (a < i ∧ i ≤ j + 1 ∧ j < b) ∧ Aside (E.size = n ∧ Sort.partLoop ltI a i j E = R) ∧ Aside (UR wr k E) ∧ Aside (Gx (fun q => q = k) w wr))
        case atStart => exact ⟨i1 + 1, j1 - 1, D2, rfl, rfl, by omega, ⟨by omega, by omega, by have := AB.out; omega⟩, ⟨SZ2.out, HR.out⟩, Uv, Gv⟩
        case round =>
          obtain ⟨i, j, E, rfl, rfl, ig, XB0, HE, Ue, Ge⟩ := hrel
          have ai := XB0.out.1
          have ij := XB0.out.2.1
          have jb := XB0.out.2.2
          have SZE : Aside (E.size = n) := HE.out.1
          obtain ⟨i2, hi2⟩ : ∃ i2, i2 = Sort.scanUp (fun x => ltI x E[a]!) E j i := ⟨_, rfl⟩
          obtain ⟨j2, hj2⟩ : ∃ j2, j2 = Sort.scanDown (fun x => !ltI x E[a]!) E i2 j := ⟨_, rfl⟩
          have Hi2 : Aside (i2 = Sort.scanUp (fun x => ltI x E[a]!) E j i) := hi2
          have Hj2 : Aside (j2 = Sort.scanDown (fun x => !ltI x E[a]!) E i2 j) := hj2
          have LE2 : Aside (R = if i2 > j2 then (j2, E) else Sort.partLoop ltI a (i2 + 1) (j2 - 1) (Sort.swp E i2 j2)) := by
            show _ = _
            rw [← HE.out.2, Sort.partLoop_eq, ← hi2, ← hj2]
          clear hi2 hj2
          go_upto_block 6 with fail
          go_cut [10] from 99 to 152 (fun s10 wc => s10 = .int .i64 (i2 : Int) ∧ Aside (i ≤ i2 ∧ i2 ≤ j + 1) ∧ Aside (UR wc k E) ∧ Aside (Gx (fun q => q = k) w wc))
          case first =>
            go_wp2_with fail
            go_loopg [10] (j + 1 - (i)) (fun gg s10 wr => ∃ x : Nat, s10 = .int .i64 (x : Int) ∧ j + 1 - (x) ≤ gg ∧ Aside (i ≤ x ∧ x ≤ j + 1) ∧ Aside (Sort.scanUp (fun x => ltI x E[a]!) E j x = i2) ∧ Aside (UR wr k E) ∧ Aside (Gx (fun q => q = k) w wr))
            case atStart => exact ⟨i, rfl, Nat.le_refl _, ⟨by omega, by omega⟩, (show Aside _ from Hi2.out.symm), Ue, Ge⟩
            case round =>
              rename_i wr0
              obtain ⟨x, rfl, xg, XB, SC, UX, GX⟩ := hrel
              by_cases cl : x ≤ j
              · have cl' : decide ((x : Int) ≤ (j : Int)) = true := by simpa using cl
                have bx : x < n := by have := XB.out; omega
                have wx : IntKind.i64.wrap ((x : Int) + 1) = ((x + 1 : Nat) : Int) := by rw [IntKind.wrap_i64]; omega
                have qv := UX.out.cell (i := x) (by rw [SZE.out]; exact bx)
                obtain ⟨v, hv⟩ : ∃ v, E[x]! = v := ⟨_, rfl⟩
                rw [hv] at qv
                have Hv : Aside (E[x]! = v) := hv
                clear hv
                have qpv := UX.out.cell (i := a) (by rw [SZE.out]; exact ba)
                obtain ⟨pv, hpv⟩ : ∃ pv, E[a]! = pv := ⟨_, rfl⟩
                rw [hpv] at qpv
                have Hpv : Aside (E[a]! = pv) := hpv
                clear hpv
                obtain ⟨t, ht⟩ : ∃ t, ltI v pv = t := ⟨_, rfl⟩
                have Lt := LE.out v pv
                rw [ht] at Lt
                have Mt : Hid _ := Lt
                have Ht : Aside (ltI v pv = t) := ht
                clear ht Lt
                cases t with
                | true =>
                  go_wp2_with fail
                  go_quiet ((go_at_call 42; exact Calls.quiet_of_same (Mt.out _)))
                  go_wp2_with fail
                  go_roundg (j + 1 - (x + 1))
                  case measure => omega
                  case rel =>
                    refine ⟨x + 1, rfl, Nat.le_refl _, ⟨by have := XB.out; omega, by have := XB.out; omega⟩, ?_, (show Aside _ from UX.out.keep rfl), (show Aside _ from GX.out.tw ((Gw.refl _).drewN nq))⟩
                    show _ = _
                    rw [← SC.out]
                    conv => rhs; rw [Sort.scanUp.eq_1]
                    rw [if_pos (by simp only [Hv.out, Hpv.out, Ht.out]; simp; omega)]
                | false =>
                  go_wp2_with fail
                  go_quiet ((go_at_call 42; exact Calls.quiet_of_same (Mt.out _)))
                  go_wp2_with fail
                  go_meet
                  case rel =>
                    have e : x = i2 := by
                      rw [← SC.out]
                      rw [Sort.scanUp.eq_1]
                      rw [if_neg (by simp only [Hv.out, Hpv.out, Ht.out]; simp)]
                    subst e
                    exact ⟨rfl, XB, (show Aside _ from UX.out.keep rfl), (show Aside _ from GX.out.tw ((Gw.refl _).drewN nq))⟩
              · have cl' : decide ((x : Int) ≤ (j : Int)) = false := by simpa using cl
                go_wp2_with fail
                go_quiet (fail)
                go_wp2_with fail
                go_meet
                case rel =>
                  have e : x = i2 := by
                    rw [← SC.out]
                    rw [Sort.scanUp.eq_1, if_neg (by simp; omega)]
                  subst e
                  exact ⟨rfl, XB, (show Aside _ from UX.out.keep rfl), (show Aside _ from GX.out.tw ((Gw.refl _).drewN nq))⟩
          case rest =>
            obtain ⟨rfl, IB2, Uc2, Gc2⟩ := hcut
            have i2a := IB2.out.1
            have i2b := IB2.out.2
            have i20 : 1 ≤ i2 := by omega
            clear Ue Ge
            go_upto_block 8 with fail
            go_cut [11] from 99 to 152 (fun s11 wc => s11 = .int .i64 (j2 : Int) ∧ Aside (j2 ≤ j ∧ i2 ≤ j2 + 1) ∧ Aside (UR wc k E) ∧ Aside (Gx (fun q => q = k) w wc))
            case first =>
              go_wp2_with fail
              go_loopg [11] (j + 1 - i2) (fun gg s11 wr => ∃ x : Nat, s11 = .int .i64 (x : Int) ∧ x + 1 - i2 ≤ gg ∧ Aside (x ≤ j ∧ i2 ≤ x + 1) ∧ Aside (Sort.scanDown (fun x => !ltI x E[a]!) E i2 x = j2) ∧ Aside (UR wr k E) ∧ Aside (Gx (fun q => q = k) w wr))
              case atStart => exact ⟨j, rfl, Nat.le_refl _, ⟨by omega, by omega⟩, (show Aside _ from Hj2.out.symm), Uc2, Gc2⟩
              case round =>
                rename_i wr0
                obtain ⟨x, rfl, xg, XB, SC, UX, GX⟩ := hrel
                by_cases cl : i2 ≤ x
                · have cl' : decide ((i2 : Int) ≤ (x : Int)) = true := by simpa using cl
                  have bx : x < n := by have := XB.out; omega
                  obtain ⟨y, hy⟩ : ∃ y, x = y + 1 := ⟨x - 1, by omega⟩
                  have XY : Aside (x = y + 1) := hy
                  have wx : IntKind.i64.wrap ((x : Int) - 1) = (y : Int) := by rw [IntKind.wrap_i64]; omega
                  clear hy
                  have qv := UX.out.cell (i := x) (by rw [SZE.out]; exact bx)
                  obtain ⟨v, hv⟩ : ∃ v, E[x]! = v := ⟨_, rfl⟩
                  rw [hv] at qv
                  have Hv : Aside (E[x]! = v) := hv
                  clear hv
                  have qpv := UX.out.cell (i := a) (by rw [SZE.out]; exact ba)
                  obtain ⟨pv, hpv⟩ : ∃ pv, E[a]! = pv := ⟨_, rfl⟩
                  rw [hpv] at qpv
                  have Hpv : Aside (E[a]! = pv) := hpv
                  clear hpv
                  obtain ⟨t, ht⟩ : ∃ t, ltI v pv = t := ⟨_, rfl⟩
                  have Lt := LE.out v pv
                  rw [ht] at Lt
                  have Mt : Hid _ := Lt
                  have Ht : Aside (ltI v pv = t) := ht
                  clear ht Lt
                  cases t with
                  | true =>
                    go_wp2_with fail
                    go_quiet ((go_at_call 42; exact Calls.quiet_of_same (Mt.out _)))
                    go_wp2_with fail
                    go_meet
                    case rel =>
                      have e : x = j2 := by
                        rw [← SC.out, XY.out]
                        unfold Sort.scanDown
                        rw [if_neg (by rw [← XY.out]; simp only [Hv.out, Hpv.out, Ht.out]; simp)]
                      subst e
                      exact ⟨rfl, XB, (show Aside _ from UX.out.keep rfl), (show Aside _ from GX.out.tw ((Gw.refl _).drewN nq))⟩
                  | false =>
                    go_wp2_with fail
                    go_quiet ((go_at_call 42; exact Calls.quiet_of_same (Mt.out _)))
                    go_wp2_with fail
                    go_roundg (y + 1 - i2)
                    case measure => have := XY.out; omega
                    case rel =>
                      refine ⟨y, rfl, Nat.le_refl _, ⟨by have := XB.out; have := XY.out; omega, by have := XB.out; have := XY.out; omega⟩, ?_, (show Aside _ from UX.out.keep rfl), (show Aside _ from GX.out.tw ((Gw.refl _).drewN nq))⟩
                      show _ = _
                      rw [← SC.out, XY.out]
                      conv => rhs; unfold Sort.scanDown
                      rw [if_pos (by rw [← XY.out]; simp only [Hv.out, Hpv.out, Ht.out]; simp; omega)]
                · have cl' : decide ((i2 : Int) ≤ (x : Int)) = false := by simpa using cl
                  go_wp2_with fail
                  go_quiet (fail)
                  go_wp2_with fail
                  go_meet
                  case rel =>
                    have e : x = j2 := by
                      rw [← SC.out]
                      cases x with
                      | zero => rfl
                      | succ y => unfold Sort.scanDown; rw [if_neg (by simp; omega)]
                    subst e
                    exact ⟨rfl, XB, (show Aside _ from UX.out.keep rfl), (show Aside _ from GX.out.tw ((Gw.refl _).drewN nq))⟩
            case rest =>
              obtain ⟨rfl, JB2, Ue, Ge⟩ := hcut
              have j2b := JB2.out.1
              have j2a := JB2.out.2
              have bj2 : j2 < n := by omega
              by_cases c3 : i2 > j2
              · have c3' : decide ((j2 : Int) < (i2 : Int)) = true := by simpa using c3
                have qx := Ue.out.cell (i := j2) (by rw [SZE.out]; exact bj2)
                obtain ⟨x, hx⟩ : ∃ x, E[j2]! = x := ⟨_, rfl⟩
                rw [hx] at qx
                have Hx : Aside (E[j2]! = x) := hx
                clear hx
                have qy := Ue.out.cell (i := a) (by rw [SZE.out]; exact ba)
                obtain ⟨y, hy⟩ : ∃ y, E[a]! = y := ⟨_, rfl⟩
                rw [hy] at qy
                have Hy : Aside (E[a]! = y) := hy
                clear hy
                go_wp2_with fail
                have fz := Ue.out.frozen j2
                obtain ⟨W1, W2, E1, E2, UF, fz1, cz, g2⟩ := Ue.out.swp (i := j2) (j := a) (by rw [SZE.out]; exact bj2) (by rw [SZE.out]; exact ba) Hx.out Hy.out
                have fzm := fz1 a
                have UFA : Aside (UR W2 k (Sort.swp E j2 a)) := UF
                have G2 : Aside (Gx (fun q => q = k) w W2) := Ge.out.trans g2 (fun q hq => .inl hq)
                clear fz1 UF g2
                go_big_region
                go_wp2_with fail
                refine bodyPost_ret (v := .tuple #[.int .i64 (j2 : Int), .bool false]) (by simp [results, Try.results44, go_sem]) rfl ?_
                rw [PE2.out, LE2.out, if_pos c3]
                exact ⟨rfl, UFA.out.keep rfl, G2.out.drew⟩
              · have c3' : decide ((j2 : Int) < (i2 : Int)) = false := by simpa using c3
                have bi2 : i2 < n := by omega
                have ij2 : i2 < j2 := scan_apart (fun _ => rfl) Hi2.out Hj2.out c3 i20
                have wi2 : IntKind.i64.wrap ((i2 : Int) + 1) = ((i2 + 1 : Nat) : Int) := by rw [IntKind.wrap_i64]; omega
                have wj2 : IntKind.i64.wrap ((j2 : Int) - 1) = ((j2 - 1 : Nat) : Int) := by rw [IntKind.wrap_i64]; omega
                have qx := Ue.out.cell (i := i2) (by rw [SZE.out]; exact bi2)
                obtain ⟨x, hx⟩ : ∃ x, E[i2]! = x := ⟨_, rfl⟩
                rw [hx] at qx
                have Hx : Aside (E[i2]! = x) := hx
                clear hx
                have qy := Ue.out.cell (i := j2) (by rw [SZE.out]; exact bj2)
                obtain ⟨y, hy⟩ : ∃ y, E[j2]! = y := ⟨_, rfl⟩
                rw [hy] at qy
                have Hy : Aside (E[j2]! = y) := hy
                clear hy
                have fz := Ue.out.frozen i2
                obtain ⟨W1, W2, E1, E2, UF, fz1, cz, g2⟩ := Ue.out.swp (i := i2) (j := j2) (by rw [SZE.out]; exact bi2) (by rw [SZE.out]; exact bj2) Hx.out Hy.out
                have fzm := fz1 j2
                have UFA : Aside (UR W2 k (Sort.swp E i2 j2)) := UF
                have G2 : Aside (Gx (fun q => q = k) w W2) := Ge.out.trans g2 (fun q hq => .inl hq)
                clear fz1 UF g2
                go_wp2_with fail
                go_big_region
                go_wp2_with fail
                go_roundg (n - i2)
                case measure => omega
                case rel => exact ⟨i2 + 1, j2 - 1, Sort.swp E i2 j2, rfl, rfl, by omega, ⟨by omega, by omega, by omega⟩, ⟨by show _ = _; rw [Sort.size_swp]; exact SZE.out, by rw [LE2.out, if_neg c3]⟩, (show Aside _ from UFA.out.keep rfl), (show Aside _ from G2.out.drew)⟩
end Go.Proofs.Ytkojcjfjmlompaa

/- The library's partition of equal numbers; a part of the row turned round. -/
namespace Go.Proofs.Ytkojcjfjmlompaa
open Go.RowKit
set_option linter.unusedVariables false

set_option maxRecDepth 20000 in
set_option maxHeartbeats 8000000 in
theorem parte23 (k c n a b p : Nat) (d : Array Int) (hn : d.size = n) (n62 : n ≤ 4000000) (hap : a ≤ p) (hpb : p < b) (hb : b ≤ n) (w : World) (hr : UR w k d) :
    Calls Try.prog 43 #[.slice (some ⟨k, 0, none⟩) n c, .int .i64 (a : Int), .int .i64 (b : Int), .int .i64 (p : Int)] w fun e w' => e = .returned (.int .i64 ((Sort.partitionEqual ltI d a b p).1 : Int)) ∧ UR w' k (Sort.partitionEqual ltI d a b p).2 ∧ Gx (fun q => q = k) w w' := by
  have U0 : Aside (UR w k d) := hr
  have G0 : Aside (Gx (fun q => q = k) w w) := Gx.refl _ _
  have LN : Aside (d.size = n) := hn
  have LE : Hid (∀ (x y : Int) (W : World), Calls Try.prog 42 #[.int .u64 x, .int .u64 y] W fun e w' => e = .returned (.bool (ltI x y)) ∧ w' = W) := fun x y W => less23 x y W
  obtain ⟨a1, ha1⟩ : ∃ a1, a1 = a + 1 := ⟨_, rfl⟩
  obtain ⟨b1, hb1⟩ : ∃ b1, b1 = b - 1 := ⟨_, rfl⟩
  have w1 : IntKind.i64.wrap ((a : Int) + 1) = (a1 : Int) := by rw [IntKind.wrap_i64]; omega
  have w2 : IntKind.i64.wrap ((b : Int) - 1) = (b1 : Int) := by rw [IntKind.wrap_i64]; omega
  have ba : a < n := by omega
  have bp : p < n := by omega
  have AB : Aside (a1 = a + 1 ∧ b1 = b - 1) := ⟨ha1, hb1⟩
  have qx := U0.out.cell (i := a) (by rw [LN.out]; exact ba)
  obtain ⟨x, hx⟩ : ∃ x, d[a]! = x := ⟨_, rfl⟩
  rw [hx] at qx
  have Hx : Aside (d[a]! = x) := hx
  clear hx
  have qy := U0.out.cell (i := p) (by rw [LN.out]; exact bp)
  obtain ⟨y, hy⟩ : ∃ y, d[p]! = y := ⟨_, rfl⟩
  rw [hy] at qy
  have Hy : Aside (d[p]! = y) := hy
  clear hy
  clear hr hn ha1 hb1
  go_enter Try.func43, Try.ntmps43
  have fz := U0.out.frozen a
  obtain ⟨W1, W2, E1, E2, UF, fz1, cz, g2⟩ := U0.out.swp (i := a) (j := p) (by rw [LN.out]; exact ba) (by rw [LN.out]; exact bp) Hx.out Hy.out
  have fzm := fz1 p
  have UFA : Aside (UR W2 k (Sort.swp d a p)) := UF
  have G2 : Aside (Gx (fun q => q = k) w W2) := G0.out.trans g2 (fun q hq => .inl hq)
  clear fz1 UF g2
  go_wp2_with fail
  go_big_region
  obtain ⟨D, hD⟩ : ∃ D, Sort.swp d a p = D := ⟨_, rfl⟩
  rw [hD] at UFA
  obtain ⟨v, hv⟩ : ∃ v, W2.drew = v := ⟨_, rfl⟩
  have Uv : Aside (UR v k D) := by rw [← hv]; exact UFA.out.keep rfl
  have Gv : Aside (Gx (fun q => q = k) w v) := by rw [← hv]; exact G2.out.drew
  rw [hv]
  clear hv E1 E2 cz fz fzm UFA G2 qx qy
  have SZ : Aside (D.size = n) := by rw [← hD]; show _ = _; rw [Sort.size_swp]; exact LN.out
  have PE2 : Aside (Sort.partitionEqual ltI d a b p = Sort.partEqLoop ltI a a1 b1 D) := by
    show _ = _
    rw [← hD, AB.out.1, AB.out.2]
    rfl
  obtain ⟨R, hR⟩ : ∃ R, Sort.partEqLoop ltI a a1 b1 D = R := ⟨_, rfl⟩
  have HR : Aside (Sort.partEqLoop ltI a a1 b1 D = R) := hR
  rw [hR] at PE2
  clear hD hR Hx Hy
  go_wp2_with fail
  go_loopg [9, 10] (n - a) (fun gg s9 s10 wr => ∃ (i j : Nat) (E : Array Int), s9 = .int .i64 (i : Int) ∧ s10 = .int .i64 (j : Int) ∧ n - i + 1 ≤ gg ∧ Aside (a < i ∧ i ≤ j + 1 ∧ j < b) ∧ Aside (E.size = n ∧ Sort.partEqLoop ltI a i j E = R) ∧ Aside (UR wr k E) ∧ Aside (Gx (fun q => q = k) w wr))
  case atStart => exact ⟨a1, b1, D, rfl, rfl, by have := AB.out; omega, ⟨by have := AB.out; omega, by have := AB.out; omega, by have := AB.out; omega⟩, ⟨SZ.out, HR.out⟩, Uv, Gv⟩
  case round =>
    obtain ⟨i, j, E, rfl, rfl, ig, XB0, HE, Ue, Ge⟩ := hrel
    have ai := XB0.out.1
    have ij := XB0.out.2.1
    have jb := XB0.out.2.2
    have SZE : Aside (E.size = n) := HE.out.1
    obtain ⟨i2, hi2⟩ : ∃ i2, i2 = Sort.scanUp (fun x => !ltI E[a]! x) E j i := ⟨_, rfl⟩
    obtain ⟨j2, hj2⟩ : ∃ j2, j2 = Sort.scanDown (fun x => ltI E[a]! x) E i2 j := ⟨_, rfl⟩
    have Hi2 : Aside (i2 = Sort.scanUp (fun x => !ltI E[a]! x) E j i) := hi2
    have Hj2 : Aside (j2 = Sort.scanDown (fun x => ltI E[a]! x) E i2 j) := hj2
    have LE2 : Aside (R = if i2 > j2 then (i2, E) else Sort.partEqLoop ltI a (i2 + 1) (j2 - 1) (Sort.swp E i2 j2)) := by
      show _ = _
      rw [← HE.out.2, Sort.partEqLoop_eq, ← hi2, ← hj2]
    clear hi2 hj2
    go_upto_block 2 with fail
    go_cut [9] from 29 to 82 (fun s9 wc => s9 = .int .i64 (i2 : Int) ∧ Aside (i ≤ i2 ∧ i2 ≤ j + 1) ∧ Aside (UR wc k E) ∧ Aside (Gx (fun q => q = k) w wc))
    case first =>
      go_wp2_with fail
      go_loopg [9] (j + 1 - (i)) (fun gg s9 wr => ∃ x : Nat, s9 = .int .i64 (x : Int) ∧ j + 1 - (x) ≤ gg ∧ Aside (i ≤ x ∧ x ≤ j + 1) ∧ Aside (Sort.scanUp (fun x => !ltI E[a]! x) E j x = i2) ∧ Aside (UR wr k E) ∧ Aside (Gx (fun q => q = k) w wr))
      case atStart => exact ⟨i, rfl, Nat.le_refl _, ⟨by omega, by omega⟩, (show Aside _ from Hi2.out.symm), Ue, Ge⟩
      case round =>
        rename_i wr0
        obtain ⟨x, rfl, xg, XB, SC, UX, GX⟩ := hrel
        by_cases cl : x ≤ j
        · have cl' : decide ((x : Int) ≤ (j : Int)) = true := by simpa using cl
          have bx : x < n := by have := XB.out; omega
          have wx : IntKind.i64.wrap ((x : Int) + 1) = ((x + 1 : Nat) : Int) := by rw [IntKind.wrap_i64]; omega
          have qv := UX.out.cell (i := x) (by rw [SZE.out]; exact bx)
          obtain ⟨v, hv⟩ : ∃ v, E[x]! = v := ⟨_, rfl⟩
          rw [hv] at qv
          have Hv : Aside (E[x]! = v) := hv
          clear hv
          have qpv := UX.out.cell (i := a) (by rw [SZE.out]; exact ba)
          obtain ⟨pv, hpv⟩ : ∃ pv, E[a]! = pv := ⟨_, rfl⟩
          rw [hpv] at qpv
          have Hpv : Aside (E[a]! = pv) := hpv
          clear hpv
          obtain ⟨t, ht⟩ : ∃ t, ltI pv v = t := ⟨_, rfl⟩
          have Lt := LE.out pv v
          rw [ht] at Lt
          have Mt : Hid _ := Lt
          have Ht : Aside (ltI pv v = t) := ht
          clear ht Lt
          cases t with
          | true =>
            go_wp2_with fail
            go_quiet ((go_at_call 42; exact Calls.quiet_of_same (Mt.out _)))
            go_wp2_with fail
            go_meet
            case rel =>
              have e : x = i2 := by
                rw [← SC.out]
                rw [Sort.scanUp.eq_1]
                rw [if_neg (by simp only [Hv.out, Hpv.out, Ht.out]; simp)]
              subst e
              exact ⟨rfl, XB, (show Aside _ from UX.out.keep rfl), (show Aside _ from GX.out.tw ((Gw.refl _).drewN nq))⟩
          | false =>
            go_wp2_with fail
            go_quiet ((go_at_call 42; exact Calls.quiet_of_same (Mt.out _)))
            go_wp2_with fail
            go_roundg (j + 1 - (x + 1))
            case measure => omega
            case rel =>
              refine ⟨x + 1, rfl, Nat.le_refl _, ⟨by have := XB.out; omega, by have := XB.out; omega⟩, ?_, (show Aside _ from UX.out.keep rfl), (show Aside _ from GX.out.tw ((Gw.refl _).drewN nq))⟩
              show _ = _
              rw [← SC.out]
              conv => rhs; rw [Sort.scanUp.eq_1]
              rw [if_pos (by simp only [Hv.out, Hpv.out, Ht.out]; simp; omega)]
        · have cl' : decide ((x : Int) ≤ (j : Int)) = false := by simpa using cl
          go_wp2_with fail
          go_quiet (fail)
          go_wp2_with fail
          go_meet
          case rel =>
            have e : x = i2 := by
              rw [← SC.out]
              rw [Sort.scanUp.eq_1, if_neg (by simp; omega)]
            subst e
            exact ⟨rfl, XB, (show Aside _ from UX.out.keep rfl), (show Aside _ from GX.out.tw ((Gw.refl _).drewN nq))⟩
    case rest =>
      obtain ⟨rfl, IB2, Uc2, Gc2⟩ := hcut
      have i2a := IB2.out.1
      have i2b := IB2.out.2
      have i20 : 1 ≤ i2 := by omega
      clear Ue Ge
      go_upto_block 4 with fail
      go_cut [10] from 29 to 82 (fun s10 wc => s10 = .int .i64 (j2 : Int) ∧ Aside (j2 ≤ j ∧ i2 ≤ j2 + 1) ∧ Aside (UR wc k E) ∧ Aside (Gx (fun q => q = k) w wc))
      case first =>
        go_wp2_with fail
        go_loopg [10] (j + 1 - i2) (fun gg s10 wr => ∃ x : Nat, s10 = .int .i64 (x : Int) ∧ x + 1 - i2 ≤ gg ∧ Aside (x ≤ j ∧ i2 ≤ x + 1) ∧ Aside (Sort.scanDown (fun x => ltI E[a]! x) E i2 x = j2) ∧ Aside (UR wr k E) ∧ Aside (Gx (fun q => q = k) w wr))
        case atStart => exact ⟨j, rfl, Nat.le_refl _, ⟨by omega, by omega⟩, (show Aside _ from Hj2.out.symm), Uc2, Gc2⟩
        case round =>
          rename_i wr0
          obtain ⟨x, rfl, xg, XB, SC, UX, GX⟩ := hrel
          by_cases cl : i2 ≤ x
          · have cl' : decide ((i2 : Int) ≤ (x : Int)) = true := by simpa using cl
            have bx : x < n := by have := XB.out; omega
            obtain ⟨y, hy⟩ : ∃ y, x = y + 1 := ⟨x - 1, by omega⟩
            have XY : Aside (x = y + 1) := hy
            have wx : IntKind.i64.wrap ((x : Int) - 1) = (y : Int) := by rw [IntKind.wrap_i64]; omega
            clear hy
            have qv := UX.out.cell (i := x) (by rw [SZE.out]; exact bx)
            obtain ⟨v, hv⟩ : ∃ v, E[x]! = v := ⟨_, rfl⟩
            rw [hv] at qv
            have Hv : Aside (E[x]! = v) := hv
            clear hv
            have qpv := UX.out.cell (i := a) (by rw [SZE.out]; exact ba)
            obtain ⟨pv, hpv⟩ : ∃ pv, E[a]! = pv := ⟨_, rfl⟩
            rw [hpv] at qpv
            have Hpv : Aside (E[a]! = pv) := hpv
            clear hpv
            obtain ⟨t, ht⟩ : ∃ t, ltI pv v = t := ⟨_, rfl⟩
            have Lt := LE.out pv v
            rw [ht] at Lt
            have Mt : Hid _ := Lt
            have Ht : Aside (ltI pv v = t) := ht
            clear ht Lt
            cases t with
            | true =>
              go_wp2_with fail
              go_quiet ((go_at_call 42; exact Calls.quiet_of_same (Mt.out _)))
              go_wp2_with fail
              go_roundg (y + 1 - i2)
              case measure => have := XY.out; omega
              case rel =>
                refine ⟨y, rfl, Nat.le_refl _, ⟨by have := XB.out; have := XY.out; omega, by have := XB.out; have := XY.out; omega⟩, ?_, (show Aside _ from UX.out.keep rfl), (show Aside _ from GX.out.tw ((Gw.refl _).drewN nq))⟩
                show _ = _
                rw [← SC.out, XY.out]
                conv => rhs; unfold Sort.scanDown
                rw [if_pos (by rw [← XY.out]; simp only [Hv.out, Hpv.out, Ht.out]; simp; omega)]
            | false =>
              go_wp2_with fail
              go_quiet ((go_at_call 42; exact Calls.quiet_of_same (Mt.out _)))
              go_wp2_with fail
              go_meet
              case rel =>
                have e : x = j2 := by
                  rw [← SC.out, XY.out]
                  unfold Sort.scanDown
                  rw [if_neg (by rw [← XY.out]; simp only [Hv.out, Hpv.out, Ht.out]; simp)]
                subst e
                exact ⟨rfl, XB, (show Aside _ from UX.out.keep rfl), (show Aside _ from GX.out.tw ((Gw.refl _).drewN nq))⟩
          · have cl' : decide ((i2 : Int) ≤ (x : Int)) = false := by simpa using cl
            go_wp2_with fail
            go_quiet (fail)
            go_wp2_with fail
            go_meet
            case rel =>
              have e : x = j2 := by
                rw [← SC.out]
                cases x with
                | zero => rfl
                | succ y => unfold Sort.scanDown; rw [if_neg (by simp; omega)]
              subst e
              exact ⟨rfl, XB, (show Aside _ from UX.out.keep rfl), (show Aside _ from GX.out.tw ((Gw.refl _).drewN nq))⟩
      case rest =>
        obtain ⟨rfl, JB2, Ue, Ge⟩ := hcut
        have j2b := JB2.out.1
        have j2a := JB2.out.2
        have bj2 : j2 < n := by omega
        by_cases c3 : i2 > j2
        · have c3' : decide ((j2 : Int) < (i2 : Int)) = true := by simpa using c3
          go_wp2_with fail
          refine bodyPost_ret (v := .int .i64 (i2 : Int)) (by simp [results, Try.results43, go_sem]) rfl ?_
          rw [PE2.out, LE2.out, if_pos c3]
          exact ⟨rfl, Ue.out, Ge.out⟩
        · have c3' : decide ((j2 : Int) < (i2 : Int)) = false := by simpa using c3
          have bi2 : i2 < n := by omega
          have ij2 : i2 < j2 := scan_apart (fun _ => by simp) Hi2.out Hj2.out c3 i20
          have wi2 : IntKind.i64.wrap ((i2 : Int) + 1) = ((i2 + 1 : Nat) : Int) := by rw [IntKind.wrap_i64]; omega
          have wj2 : IntKind.i64.wrap ((j2 : Int) - 1) = ((j2 - 1 : Nat) : Int) := by rw [IntKind.wrap_i64]; omega
          have qx := Ue.out.cell (i := i2) (by rw [SZE.out]; exact bi2)
          obtain ⟨x, hx⟩ : ∃ x, E[i2]! = x := ⟨_, rfl⟩
          rw [hx] at qx
          have Hx : Aside (E[i2]! = x) := hx
          clear hx
          have qy := Ue.out.cell (i := j2) (by rw [SZE.out]; exact bj2)
          obtain ⟨y, hy⟩ : ∃ y, E[j2]! = y := ⟨_, rfl⟩
          rw [hy] at qy
          have Hy : Aside (E[j2]! = y) := hy
          clear hy
          have fz := Ue.out.frozen i2
          obtain ⟨W1, W2, E1, E2, UF, fz1, cz, g2⟩ := Ue.out.swp (i := i2) (j := j2) (by rw [SZE.out]; exact bi2) (by rw [SZE.out]; exact bj2) Hx.out Hy.out
          have fzm := fz1 j2
          have UFA : Aside (UR W2 k (Sort.swp E i2 j2)) := UF
          have G2 : Aside (Gx (fun q => q = k) w W2) := Ge.out.trans g2 (fun q hq => .inl hq)
          clear fz1 UF g2
          go_wp2_with fail
          go_big_region
          go_wp2_with fail
          go_roundg (n - i2)
          case measure => omega
          case rel => exact ⟨i2 + 1, j2 - 1, Sort.swp E i2 j2, rfl, rfl, by omega, ⟨by omega, by omega, by omega⟩, ⟨by show _ = _; rw [Sort.size_swp]; exact SZE.out, by rw [LE2.out, if_neg c3]⟩, (show Aside _ from UFA.out.keep rfl), (show Aside _ from G2.out.drew)⟩
set_option maxRecDepth 20000 in
set_option maxHeartbeats 8000000 in
theorem rev23 (k c n a b : Nat) (d : Array Int) (hn : d.size = n) (n62 : n ≤ 4000000) (hab : a < b) (hb : b ≤ n) (w : World) (hr : UR w k d) :
    Calls Try.prog 40 #[.slice (some ⟨k, 0, none⟩) n c, .int .i64 (a : Int), .int .i64 (b : Int)] w fun e w' => e = .returned (.tuple #[]) ∧ UR w' k (Sort.reverseRange d a b) ∧ Gx (fun q => q = k) w w' := by
  have U0 : Aside (UR w k d) := hr
  have LN : Aside (d.size = n) := hn
  obtain ⟨b1, hb1⟩ : ∃ b1, b1 = b - 1 := ⟨_, rfl⟩
  have w2 : IntKind.i64.wrap ((b : Int) - 1) = (b1 : Int) := by rw [IntKind.wrap_i64]; omega
  have AB : Aside (b1 = b - 1) := hb1
  clear hr hn hb1
  go_enter Try.func40, Try.ntmps40
  go_wp2_with fail
  go_loopg [6, 7] n (fun gg s6 s7 wr => ∃ (i j : Nat) (E : Array Int), s6 = .int .i64 (i : Int) ∧ s7 = .int .i64 (j : Int) ∧ j ≤ gg ∧ Aside (j < n) ∧ Aside (E.size = n ∧ Sort.reverseLoop i j E = Sort.reverseRange d a b) ∧ Aside (UR wr k E) ∧ Aside (Gx (fun q => q = k) w wr))
  case atStart => exact ⟨a, b1, d, rfl, rfl, by have := AB.out; omega, (show Aside _ from by have := AB.out; show _ < _; omega), ⟨LN.out, by rw [AB.out]; rfl⟩, U0, (show Aside _ from Gx.refl _ _)⟩
  case round =>
    obtain ⟨i, j, E, rfl, rfl, jg, JB, HE, Ue, Ge⟩ := hrel
    have bj := JB.out
    by_cases c3 : i < j
    · have c3' : decide ((i : Int) < (j : Int)) = true := by simpa using c3
      have bi : i < n := by omega
      have wi2 : IntKind.i64.wrap ((i : Int) + 1) = ((i + 1 : Nat) : Int) := by rw [IntKind.wrap_i64]; omega
      have wj2 : IntKind.i64.wrap ((j : Int) - 1) = ((j - 1 : Nat) : Int) := by rw [IntKind.wrap_i64]; omega
      have qx := Ue.out.cell (i := i) (by rw [HE.out.1]; exact bi)
      obtain ⟨x, hx⟩ : ∃ x, E[i]! = x := ⟨_, rfl⟩
      rw [hx] at qx
      have Hx : Aside (E[i]! = x) := hx
      clear hx
      have qy := Ue.out.cell (i := j) (by rw [HE.out.1]; exact bj)
      obtain ⟨y, hy⟩ : ∃ y, E[j]! = y := ⟨_, rfl⟩
      rw [hy] at qy
      have Hy : Aside (E[j]! = y) := hy
      clear hy
      have fz := Ue.out.frozen i
      obtain ⟨W1, W2, E1, E2, UF, fz1, cz, g2⟩ := Ue.out.swp (i := i) (j := j) (by rw [HE.out.1]; exact bi) (by rw [HE.out.1]; exact bj) Hx.out Hy.out
      have fzm := fz1 j
      have UFA : Aside (UR W2 k (Sort.swp E i j)) := UF
      have G2 : Aside (Gx (fun q => q = k) w W2) := Ge.out.trans g2 (fun q hq => .inl hq)
      clear fz1 UF g2
      go_wp2_with fail
      go_big_region
      go_wp2_with fail
      go_roundg (j - 1)
      case measure => omega
      case rel => exact ⟨i + 1, j - 1, Sort.swp E i j, rfl, rfl, Nat.le_refl _, (show Aside _ from by show _ < _; omega), ⟨by rw [Sort.size_swp]; exact HE.out.1, by rw [← HE.out.2]; conv => { rhs; rw [Sort.reverseLoop.eq_1, if_pos c3] }⟩, (show Aside _ from UFA.out.keep rfl), (show Aside _ from G2.out.drew)⟩
    · have c3' : decide ((i : Int) < (j : Int)) = false := by simpa using c3
      go_wp2_with fail
      refine bodyPost_end (results_none rfl _ _ _) rfl ⟨rfl, ?_, Ge.out⟩
      rw [← HE.out.2, Sort.reverseLoop.eq_1, if_neg c3]
      exact Ue.out
end Go.Proofs.Ytkojcjfjmlompaa
