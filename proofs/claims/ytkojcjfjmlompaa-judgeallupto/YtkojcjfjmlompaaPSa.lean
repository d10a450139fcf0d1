import Derived.Test.YtkojcjfjmlompaaS4Row
import Derived.Deep.LoopGhost
import Derived.Deep.QuietTactic
import Derived.BigQuiet
import Derived.BigRegion
/- The library's Less of two numbers; two change places in the row. -/
namespace Go.Proofs.Ytkojcjfjmlompaa
open Go.RowKit
set_option linter.unusedVariables false

/-- Where both scans have stopped on what is still to be parted, they stand apart. -/
theorem scan_apart {P Q : Int → Bool} (hq : ∀ x, Q x = !P x) {D : Array Int} {i j i2 j2 : Nat} (h1 : i2 = Sort.scanUp P D j i) (h2 : j2 = Sort.scanDown Q D i2 j) (no : ¬ i2 > j2) (i0 : 1 ≤ i2) : i2 < j2 := by
  obtain ⟨_, _, _, u⟩ := Sort.scanUp_spec P D j _ i rfl
  obtain ⟨v, _, _, x⟩ := Sort.scanDown_spec Q D i2 j
  rw [← h1] at u
  rw [← h2] at v x
  have a := u (by omega)
  have b := x (by omega) (by omega)
  rw [hq] at b
  rcases Nat.lt_or_eq_of_le (show i2 ≤ j2 by omega) with g | g
  · exact g
  · rw [← g, a] at b
    cases b
theorem cnan23 (x : Int) (w : World) : Calls Try.prog 52 #[.int .u64 x] w fun e w' => e = .returned (.bool false) ∧ w' = w := by
  go_enter Try.func52, Try.ntmps52
  go_wp2
  go_ret
  exact ⟨by simp, rfl⟩
theorem less23 (x y : Int) (w : World) : Calls Try.prog 42 #[.int .u64 x, .int .u64 y] w fun e w' => e = .returned (.bool (ltI x y)) ∧ w' = w := by
  obtain ⟨t, ht⟩ : ∃ t, decide (x < y) = t := ⟨_, rfl⟩
  have e : ltI x y = t := ht
  rw [e]
  clear e
  go_enter Try.func42, Try.ntmps42
  cases t with
  | true =>
    go_wp2_with (go_at_call 52; refine (cnan23 _ _).mono ?_; rintro e w' ⟨rfl, rfl⟩)
    go_ret
    exact ⟨rfl, rfl⟩
  | false =>
    go_wp2_with (go_at_call 52; refine (cnan23 _ _).mono ?_; rintro e w' ⟨rfl, rfl⟩)
    go_ret
    exact ⟨rfl, rfl⟩
end Go.Proofs.Ytkojcjfjmlompaa

/- The library's insertion sort of numbers. -/
namespace Go.Proofs.Ytkojcjfjmlompaa
open Go.RowKit
set_option linter.unusedVariables false

theorem ins_inner (a : Nat) (d : Array Int) : ∀ j, (Sort.insInner ltI a j d).size = d.size := by
  intro j
  induction j generalizing d with
  | zero => rfl
  | succ j ih =>
    unfold Sort.insInner
    split
    · rw [ih, Sort.size_swp]
    · rfl
set_option maxRecDepth 20000 in
set_option maxHeartbeats 4000000 in
theorem ins23 (k c n a b : Nat) (d : Array Int) (hn : d.size = n) (n62 : n ≤ 4000000) (hab : a ≤ b) (hb : b ≤ n) (w : World) (hr : UR w k d) :
    Calls Try.prog 36 #[.slice (some ⟨k, 0, none⟩) n c, .int .i64 (a : Int), .int .i64 (b : Int)] w fun e w' => e = .returned (.tuple #[]) ∧ UR w' k (Sort.insertionSort ltI d a b) ∧ Gx (fun q => q = k) w w' := by
  have R0 : Aside (UR w k d) := hr
  have LN : Aside _ := hn
  have LE : Hid (∀ (x y : Int) (W : World), Calls Try.prog 42 #[.int .u64 x, .int .u64 y] W fun e w' => e = .returned (.bool (ltI x y)) ∧ w' = W) := fun x y W => less23 x y W
  have w1 : IntKind.i64.wrap ((a : Int) + 1) = ((a + 1 : Nat) : Int) := by rw [IntKind.wrap_i64]; omega
  have W2 : Hid (∀ i : Nat, i ≤ 4000000 → IntKind.i64.wrap ((i : Int) + 1) = ((i + 1 : Nat) : Int)) := fun i hi => by rw [IntKind.wrap_i64]; omega
  have W3 : Hid (∀ i : Nat, i ≤ 4000000 → IntKind.i64.wrap (((i + 1 : Nat) : Int) - 1) = (i : Int)) := fun i hi => by rw [IntKind.wrap_i64]; omega
  clear hr hn
  go_enter Try.func36, Try.ntmps36
  go_wp2_with fail
  go_loopg [6] (b - a) (fun gg s6 wr => ∃ (i : Nat) (D : Array Int), s6 = .int .i64 (i : Int) ∧ a < i ∧ i ≤ b + 1 ∧ b + 1 - i ≤ gg ∧ Aside (D.size = n ∧ Sort.insOuter ltI a b i D = Sort.insertionSort ltI d a b ∧ UR wr k D) ∧ Aside (Gx (fun q => q = k) w wr))
  case atStart => exact ⟨a + 1, d, rfl, by omega, by omega, by omega, ⟨LN.out, rfl, R0.out⟩, Gx.refl _ _⟩
  case round =>
    obtain ⟨i, D, rfl, ai, ib, ig, HH, GG⟩ := hrel
    by_cases il : i < b
    · have il' : decide ((i : Int) < (b : Int)) = true := by simpa using il
      go_wp2_with fail
      go_loopg [7] (i - a) (fun gg s7 wr2 => ∃ (j : Nat) (E : Array Int), s7 = .int .i64 (j : Int) ∧ a ≤ j ∧ j ≤ i ∧ j - a ≤ gg ∧ Aside (E.size = n ∧ Sort.insInner ltI a j E = Sort.insInner ltI a i D ∧ UR wr2 k E) ∧ Aside (Gx (fun q => q = k) w wr2))
      case atStart => exact ⟨i, D, rfl, by omega, by omega, by omega, ⟨HH.out.1, rfl, HH.out.2.2⟩, GG⟩
      case round =>
        rename_i wr2
        obtain ⟨j, E, rfl, aj, ji, jg, HE, GE⟩ := hrel
        have W2i := W2.out i (by omega)
        by_cases jl : a < j
        · have jl' : decide ((a : Int) < (j : Int)) = true := by simpa using jl
          obtain ⟨m, hm⟩ : ∃ m, j = m + 1 := ⟨j - 1, by omega⟩
          have HM : Aside _ := hm
          have W3m : IntKind.i64.wrap ((j : Int) - 1) = (m : Int) := by rw [hm]; exact W3.out m (by omega)
          have jn : j < n := by omega
          have mn : m < n := by omega
          have c0 := HE.out.2.2.cell (i := j) (by rw [HE.out.1]; exact jn)
          have c1 := HE.out.2.2.cell (i := m) (by rw [HE.out.1]; exact mn)
          obtain ⟨x, hx⟩ : ∃ x, E[j]! = x := ⟨_, rfl⟩
          obtain ⟨y, hy⟩ : ∃ y, E[m]! = y := ⟨_, rfl⟩
          rw [hx] at c0
          rw [hy] at c1
          have HX : Aside _ := hx
          have HY : Aside _ := hy
          obtain ⟨t, ht⟩ : ∃ t, ltI x y = t := ⟨_, rfl⟩
          have L1 := LE.out x y
          rw [ht] at L1
          have L2 : Hid _ := L1
          have HT : Aside _ := ht
          clear hx hy ht L1 hm
          cases t with
          | true =>
            go_wp2_with fail
            go_quiet ((go_at_call 42; exact Calls.quiet_of_same (L2.out _)))
            obtain ⟨u, hu⟩ : ∃ u, wr.drewN nq = u := ⟨_, rfl⟩
            have UE : UR u k E := by rw [← hu]; exact HE.out.2.2
            have GU : Aside (Gx (fun q => q = k) w u) := by rw [← hu]; exact GE.out.tw ((Gw.refl _).drewN nq)
            rw [hu]
            have d0 := UE.cell (i := j) (by rw [HE.out.1]; exact jn)
            have d1 := UE.cell (i := m) (by rw [HE.out.1]; exact mn)
            rw [HX.out] at d0
            rw [HY.out] at d1
            have fz := UE.frozen j
            obtain ⟨W1, W2, E1, E2, UF, fz1, cz, g2⟩ := UE.swp (i := j) (j := m) (by rw [HE.out.1]; exact jn) (by rw [HE.out.1]; exact mn) HX.out HY.out
            have fzm := fz1 m
            have UFA : Aside (UR W2 k (Sort.swp E j m)) := UF
            have G2 : Aside _ := GU.out.trans g2 (fun q hq => .inl hq)
            clear fz1 UF g2 UE c0 c1 hu
            go_wp2_with fail
            go_big_region
            go_wp2_with fail
            go_roundg (m - a)
            case measure => have := HM.out; omega
            case rel =>
              refine ⟨m, Sort.swp E j m, rfl, by have := HM.out; omega, by have := HM.out; omega, Nat.le_refl _, ⟨by rw [Sort.size_swp]; exact HE.out.1, ?_, UFA.out.keep rfl⟩, (show Aside _ from G2.out.drew)⟩
              rw [← HE.out.2.1, HM.out]
              show _ = if _ then _ else _
              rw [if_pos (by have := HM.out; have := HT.out; rw [← HM.out, HX.out, HY.out, HT.out]; simp; omega)]
          | false =>
            go_wp2_with fail
            go_quiet ((go_at_call 42; exact Calls.quiet_of_same (L2.out _)))
            go_wp2_with fail
            go_roundg (b + 1 - (i + 1))
            case measure => omega
            case rel =>
              refine ⟨i + 1, E, rfl, by omega, by omega, Nat.le_refl _, ⟨HE.out.1, ?_, HE.out.2.2.keep rfl⟩, (show Aside _ from GE.out.tw ((Gw.refl _).drewN nq))⟩
              have e1 : Sort.insInner ltI a j E = E := by
                rw [HM.out]
                show (if _ then _ else _) = _
                rw [if_neg (by rw [← HM.out, HX.out, HY.out, HT.out]; simp)]
              rw [← HH.out.2.1]
              show _ = _
              rw [Sort.insOuter.eq_1 (lt := ltI) a b i D, if_pos il, ← HE.out.2.1, e1]
        · have jl' : decide ((a : Int) < (j : Int)) = false := by simpa using jl
          go_wp2_with fail
          go_quiet (fail)
          go_wp2_with fail
          go_roundg (b + 1 - (i + 1))
          case measure => omega
          case rel =>
            refine ⟨i + 1, E, rfl, by omega, by omega, Nat.le_refl _, ⟨HE.out.1, ?_, HE.out.2.2.keep rfl⟩, (show Aside _ from GE.out.tw ((Gw.refl _).drewN nq))⟩
            have e1 : Sort.insInner ltI a j E = E := by
              cases j with
              | zero => rfl
              | succ j =>
                show (if _ then _ else _) = _
                rw [if_neg (by simp; omega)]
            rw [← HH.out.2.1]
            rw [Sort.insOuter.eq_1 (lt := ltI) a b i D, if_pos il, ← HE.out.2.1, e1]
    · have il' : decide ((i : Int) < (b : Int)) = false := by simpa using il
      go_wp2_with fail
      refine bodyPost_end (results_none rfl _ _ _) rfl ⟨rfl, ?_, GG.out⟩
      have e1 := HH.out.2.1
      rw [Sort.insOuter.eq_1 (lt := ltI) a b i D, if_neg il] at e1
      rw [← e1]
      exact HH.out.2.2
end Go.Proofs.Ytkojcjfjmlompaa

/- The library's heap of numbers. -/
namespace Go.Proofs.Ytkojcjfjmlompaa
open Go.RowKit
set_option linter.unusedVariables false

set_option maxRecDepth 20000 in
set_option maxHeartbeats 4000000 in
theorem sift23 (k c n lo hi f : Nat) (d : Array Int) (hn : d.size = n) (n62 : n ≤ 4000000) (hlo : lo ≤ hi) (hf : f + hi ≤ n) (w : World) (hr : UR w k d) :
    Calls Try.prog 47 #[.slice (some ⟨k, 0, none⟩) n c, .int .i64 (lo : Int), .int .i64 (hi : Int), .int .i64 (f : Int)] w fun e w' => e = .returned (.tuple #[]) ∧ UR w' k (Sort.siftDown ltI hi f lo d) ∧ Gx (fun q => q = k) w w' := by
  have R0 : Aside (UR w k d) := hr
  have LN : Aside (d.size = n) := hn
  have LE : Hid (∀ (x y : Int) (W : World), Calls Try.prog 42 #[.int .u64 x, .int .u64 y] W fun e w' => e = .returned (.bool (ltI x y)) ∧ w' = W) := fun x y W => less23 x y W
  clear hr hn
  go_enter Try.func47, Try.ntmps47
  go_wp2_with fail
  go_loopg [8, 9] (hi - lo) (fun gg s8 s9 wr => ∃ (r : Nat) (D : Array Int), s8 = .int .i64 (r : Int) ∧ r ≤ hi ∧ hi - r ≤ gg ∧ Aside (D.size = n ∧ Sort.siftDown ltI hi f r D = Sort.siftDown ltI hi f lo d ∧ UR wr k D) ∧ Aside (Gx (fun q => q = k) w wr))
  case atStart => exact ⟨lo, d, rfl, hlo, Nat.le_refl _, ⟨LN.out, rfl, R0.out⟩, Gx.refl _ _⟩
  case round =>
    obtain ⟨r, D, rfl, rh, rg, HH, GG⟩ := hrel
    obtain ⟨r2, hr2⟩ : ∃ r2, r2 = 2 * r := ⟨_, rfl⟩
    obtain ⟨ch, hch⟩ : ∃ ch, ch = 2 * r + 1 := ⟨_, rfl⟩
    obtain ⟨ch1, hch1⟩ : ∃ ch1, ch1 = ch + 1 := ⟨_, rfl⟩
    obtain ⟨fr, hfr⟩ : ∃ fr, fr = f + r := ⟨_, rfl⟩
    obtain ⟨fc, hfc⟩ : ∃ fc, fc = f + ch := ⟨_, rfl⟩
    obtain ⟨fc1, hfc1⟩ : ∃ fc1, fc1 = f + ch1 := ⟨_, rfl⟩
    have w1 : IntKind.i64.wrap (2 * (r : Int)) = (r2 : Int) := by rw [IntKind.wrap_i64]; omega
    have w2 : IntKind.i64.wrap ((r2 : Int) + 1) = (ch : Int) := by rw [IntKind.wrap_i64]; omega
    have w3 : IntKind.i64.wrap ((ch : Int) + 1) = (ch1 : Int) := by rw [IntKind.wrap_i64]; omega
    have w4 : IntKind.i64.wrap ((f : Int) + (r : Int)) = (fr : Int) := by rw [IntKind.wrap_i64]; omega
    have w5 : IntKind.i64.wrap ((f : Int) + (ch : Int)) = (fc : Int) := by rw [IntKind.wrap_i64]; omega
    have w6 : IntKind.i64.wrap ((fc : Int) + 1) = (fc1 : Int) := by rw [IntKind.wrap_i64]; omega
    have w7 : IntKind.i64.wrap ((f : Int) + (ch1 : Int)) = (fc1 : Int) := by rw [IntKind.wrap_i64]; omega
    have NN : Aside (r2 = 2 * r ∧ ch = 2 * r + 1 ∧ ch1 = ch + 1 ∧ fr = f + r ∧ fc = f + ch ∧ fc1 = f + ch1) := ⟨hr2, hch, hch1, hfr, hfc, hfc1⟩
    clear hr2 hch hch1 hfr hfc hfc1
    by_cases c1 : ch < hi
    · have c1' : decide ((hi : Int) ≤ (ch : Int)) = false := by simp; omega
      have bfr : fr < n := by have := NN.out; omega
      have bfc : fc < n := by have := NN.out; omega
      have Ur : Aside (UR wr k D) := HH.out.2.2
      have qx := Ur.out.cell (i := fc) (by rw [HH.out.1]; exact bfc)
      obtain ⟨x, hx⟩ : ∃ x, D[fc]! = x := ⟨_, rfl⟩
      rw [hx] at qx
      have Hx : Aside (D[fc]! = x) := hx
      clear hx
      have qz := Ur.out.cell (i := fr) (by rw [HH.out.1]; exact bfr)
      obtain ⟨z, hz⟩ : ∃ z, D[fr]! = z := ⟨_, rfl⟩
      rw [hz] at qz
      have Hz : Aside (D[fr]! = z) := hz
      clear hz
      have SE : Aside (Sort.siftDown ltI hi f r D = if (2 * r + 1 + 1 < hi && ltI D[f + (2 * r + 1)]! D[f + (2 * r + 1) + 1]!) = true then (if (!ltI D[f + r]! D[f + (2 * r + 2)]!) = true then D else if 2 * r + 2 < hi then Sort.siftDown ltI hi f (2 * r + 2) (Sort.swp D (f + r) (f + (2 * r + 2))) else D) else if (!ltI D[f + r]! D[f + (2 * r + 1)]!) = true then D else Sort.siftDown ltI hi f (2 * r + 1) (Sort.swp D (f + r) (f + (2 * r + 1)))) := by
        show _ = _
        rw [Sort.siftDown.eq_1, dif_neg (by have := NN.out; omega)]
        simp only [dite_eq_ite]
      by_cases c2 : ch1 < hi
      · have c2' : decide ((ch1 : Int) < (hi : Int)) = true := by simpa using c2
        have bfc1 : fc1 < n := by have := NN.out; omega
        have qy := Ur.out.cell (i := fc1) (by rw [HH.out.1]; exact bfc1)
        obtain ⟨y, hy⟩ : ∃ y, D[fc1]! = y := ⟨_, rfl⟩
        rw [hy] at qy
        have Hy : Aside (D[fc1]! = y) := hy
        clear hy
        obtain ⟨t, ht⟩ : ∃ t, ltI x y = t := ⟨_, rfl⟩
        have Lt := LE.out x y
        rw [ht] at Lt
        have Mt : Hid _ := Lt
        have Ht : Aside (ltI x y = t) := ht
        clear ht Lt
        cases t with
        | true =>
          go_wp2_with fail
          go_quiet ((go_at_call 42; exact Calls.quiet_of_same (Mt.out _)))
          obtain ⟨u, hu⟩ : ∃ u, wr.drewN nq = u := ⟨_, rfl⟩
          have Uu : Aside (UR u k D) := by rw [← hu]; exact HH.out.2.2.keep rfl
          have Gu : Aside (Gx (fun q => q = k) w u) := by rw [← hu]; exact GG.out.tw ((Gw.refl _).drewN nq)
          rw [hu]
          clear hu
          have qx1 := Uu.out.cell (i := fc1) (by rw [HH.out.1]; exact bfc1)
          have qz1 := Uu.out.cell (i := fr) (by rw [HH.out.1]; exact bfr)
          rw [Hy.out] at qx1
          rw [Hz.out] at qz1
          clear qx qy qz
          have EQ : Aside (Sort.siftDown ltI hi f r D = if (!ltI D[fr]! D[fc1]!) = true then D else Sort.siftDown ltI hi f ch1 (Sort.swp D fr fc1)) := by
            have N := NN.out
            have e1 : f + (2 * r + 1) = fc := by omega
            have e2 : f + (2 * r + 1) + 1 = fc1 := by omega
            have e3 : f + (2 * r + 2) = fc1 := by omega
            have e4 : f + r = fr := by omega
            have e5 : 2 * r + 2 = ch1 := by omega
            show _ = _
            rw [SE.out, if_pos (by rw [e2, e1, Hx.out, Hy.out, Ht.out]; simp; omega), e3, e4, e5, if_pos c2]
          obtain ⟨g, hg⟩ : ∃ g, ltI z y = g := ⟨_, rfl⟩
          have Lg := LE.out z y
          rw [hg] at Lg
          have Mg : Hid _ := Lg
          have Hg : Aside (ltI z y = g) := hg
          clear hg Lg
          cases g with
          | true =>
            go_wp2_with fail
            go_quiet ((go_at_call 42; exact Calls.quiet_of_same (Mg.out _)))
            obtain ⟨v, hv⟩ : ∃ v, u.drewN nq = v := ⟨_, rfl⟩
            have Uv : Aside (UR v k D) := by rw [← hv]; exact Uu.out.keep rfl
            have Gv : Aside (Gx (fun q => q = k) w v) := by rw [← hv]; exact Gu.out.tw ((Gw.refl _).drewN nq)
            rw [hv]
            clear hv
            have qa := Uv.out.cell (i := fr) (by rw [HH.out.1]; exact bfr)
            have qb := Uv.out.cell (i := fc1) (by rw [HH.out.1]; exact bfc1)
            rw [Hz.out] at qa
            rw [Hy.out] at qb
            clear qx1 qz1
            have fz := Uv.out.frozen fr
            obtain ⟨W1, W2, E1, E2, UF, fz1, cz, g2⟩ := Uv.out.swp (i := fr) (j := fc1) (by rw [HH.out.1]; exact bfr) (by rw [HH.out.1]; exact bfc1) Hz.out Hy.out
            have fzm := fz1 fc1
            have UFA : Aside (UR W2 k (Sort.swp D fr fc1)) := UF
            have G2 : Aside (Gx (fun q => q = k) w W2) := Gv.out.trans g2 (fun q hq => .inl hq)
            clear fz1 UF g2
            go_wp2_with fail
            go_big_region
            go_wp2_with fail
            go_roundg (hi - ch1)
            case measure => have := NN.out; omega
            case rel =>
              refine ⟨ch1, Sort.swp D fr fc1, rfl, by have := NN.out; omega, Nat.le_refl _, ⟨by rw [Sort.size_swp]; exact HH.out.1, ?_, UFA.out.keep rfl⟩, (show Aside _ from G2.out.drew)⟩
              rw [← HH.out.2.1, (EQ).out, if_neg (by rw [Hz.out, Hy.out, Hg.out]; simp)]
          | false =>
            go_wp2_with fail
            go_quiet ((go_at_call 42; exact Calls.quiet_of_same (Mg.out _)))
            go_wp2_with fail
            refine bodyPost_ret (results_none rfl _ _ _) rfl ⟨rfl, ?_, Gu.out.tw ((Gw.refl _).drewN nq)⟩
            rw [← HH.out.2.1, (EQ).out, if_pos (by rw [Hz.out, Hy.out, Hg.out]; simp)]
            exact Uu.out.keep rfl
        | false =>
          go_wp2_with fail
          go_quiet ((go_at_call 42; exact Calls.quiet_of_same (Mt.out _)))
          obtain ⟨u, hu⟩ : ∃ u, wr.drewN nq = u := ⟨_, rfl⟩
          have Uu : Aside (UR u k D) := by rw [← hu]; exact HH.out.2.2.keep rfl
          have Gu : Aside (Gx (fun q => q = k) w u) := by rw [← hu]; exact GG.out.tw ((Gw.refl _).drewN nq)
          rw [hu]
          clear hu
          have qx1 := Uu.out.cell (i := fc) (by rw [HH.out.1]; exact bfc)
          have qz1 := Uu.out.cell (i := fr) (by rw [HH.out.1]; exact bfr)
          rw [Hx.out] at qx1
          rw [Hz.out] at qz1
          clear qx qy qz
          have EQ : Aside (Sort.siftDown ltI hi f r D = if (!ltI D[fr]! D[fc]!) = true then D else Sort.siftDown ltI hi f ch (Sort.swp D fr fc)) := by
            have N := NN.out
            have e1 : f + (2 * r + 1) = fc := by omega
            have e2 : f + (2 * r + 1) + 1 = fc1 := by omega
            have e4 : f + r = fr := by omega
            have e5 : 2 * r + 1 = ch := by omega
            show _ = _
            rw [SE.out, if_neg (by rw [e2, e1, Hx.out, Hy.out, Ht.out]; simp), e1, e4, e5]
          obtain ⟨g, hg⟩ : ∃ g, ltI z x = g := ⟨_, rfl⟩
          have Lg := LE.out z x
          rw [hg] at Lg
          have Mg : Hid _ := Lg
          have Hg : Aside (ltI z x = g) := hg
          clear hg Lg
          cases g with
          | true =>
            go_wp2_with fail
            go_quiet ((go_at_call 42; exact Calls.quiet_of_same (Mg.out _)))
            obtain ⟨v, hv⟩ : ∃ v, u.drewN nq = v := ⟨_, rfl⟩
            have Uv : Aside (UR v k D) := by rw [← hv]; exact Uu.out.keep rfl
            have Gv : Aside (Gx (fun q => q = k) w v) := by rw [← hv]; exact Gu.out.tw ((Gw.refl _).drewN nq)
            rw [hv]
            clear hv
            have qa := Uv.out.cell (i := fr) (by rw [HH.out.1]; exact bfr)
            have qb := Uv.out.cell (i := fc) (by rw [HH.out.1]; exact bfc)
            rw [Hz.out] at qa
            rw [Hx.out] at qb
            clear qx1 qz1
            have fz := Uv.out.frozen fr
            obtain ⟨W1, W2, E1, E2, UF, fz1, cz, g2⟩ := Uv.out.swp (i := fr) (j := fc) (by rw [HH.out.1]; exact bfr) (by rw [HH.out.1]; exact bfc) Hz.out Hx.out
            have fzm := fz1 fc
            have UFA : Aside (UR W2 k (Sort.swp D fr fc)) := UF
            have G2 : Aside (Gx (fun q => q = k) w W2) := Gv.out.trans g2 (fun q hq => .inl hq)
            clear fz1 UF g2
            go_wp2_with fail
            go_big_region
            go_wp2_with fail
            go_roundg (hi - ch)
            case measure => have := NN.out; omega
            case rel =>
              refine ⟨ch, Sort.swp D fr fc, rfl, by have := NN.out; omega, Nat.le_refl _, ⟨by rw [Sort.size_swp]; exact HH.out.1, ?_, UFA.out.keep rfl⟩, (show Aside _ from G2.out.drew)⟩
              rw [← HH.out.2.1, (EQ).out, if_neg (by rw [Hz.out, Hx.out, Hg.out]; simp)]
          | false =>
            go_wp2_with fail
            go_quiet ((go_at_call 42; exact Calls.quiet_of_same (Mg.out _)))
            go_wp2_with fail
            refine bodyPost_ret (results_none rfl _ _ _) rfl ⟨rfl, ?_, Gu.out.tw ((Gw.refl _).drewN nq)⟩
            rw [← HH.out.2.1, (EQ).out, if_pos (by rw [Hz.out, Hx.out, Hg.out]; simp)]
            exact Uu.out.keep rfl
      · have c2' : decide ((ch1 : Int) < (hi : Int)) = false := by simpa using c2
        go_wp2_with fail
        go_quiet (fail)
        obtain ⟨u, hu⟩ : ∃ u, wr.drewN nq = u := ⟨_, rfl⟩
        have Uu : Aside (UR u k D) := by rw [← hu]; exact HH.out.2.2.keep rfl
        have Gu : Aside (Gx (fun q => q = k) w u) := by rw [← hu]; exact GG.out.tw ((Gw.refl _).drewN nq)
        rw [hu]
        clear hu
        have qx1 := Uu.out.cell (i := fc) (by rw [HH.out.1]; exact bfc)
        have qz1 := Uu.out.cell (i := fr) (by rw [HH.out.1]; exact bfr)
        rw [Hx.out] at qx1
        rw [Hz.out] at qz1
        clear qx qz
        have EQ : Aside (Sort.siftDown ltI hi f r D = if (!ltI D[fr]! D[fc]!) = true then D else Sort.siftDown ltI hi f ch (Sort.swp D fr fc)) := by
          have N := NN.out
          have e1 : f + (2 * r + 1) = fc := by omega
          have e2 : f + (2 * r + 1) + 1 = fc1 := by omega
          have e4 : f + r = fr := by omega
          have e5 : 2 * r + 1 = ch := by omega
          show _ = _
          rw [SE.out, if_neg (by rw [e2, e1]; simp; intro z; omega), e1, e4, e5]
        obtain ⟨g, hg⟩ : ∃ g, ltI z x = g := ⟨_, rfl⟩
        have Lg := LE.out z x
        rw [hg] at Lg
        have Mg : Hid _ := Lg
        have Hg : Aside (ltI z x = g) := hg
        clear hg Lg
        cases g with
        | true =>
          go_wp2_with fail
          go_quiet ((go_at_call 42; exact Calls.quiet_of_same (Mg.out _)))
          obtain ⟨v, hv⟩ : ∃ v, u.drewN nq = v := ⟨_, rfl⟩
          have Uv : Aside (UR v k D) := by rw [← hv]; exact Uu.out.keep rfl
          have Gv : Aside (Gx (fun q => q = k) w v) := by rw [← hv]; exact Gu.out.tw ((Gw.refl _).drewN nq)
          rw [hv]
          clear hv
          have qa := Uv.out.cell (i := fr) (by rw [HH.out.1]; exact bfr)
          have qb := Uv.out.cell (i := fc) (by rw [HH.out.1]; exact bfc)
          rw [Hz.out] at qa
          rw [Hx.out] at qb
          clear qx1 qz1
          have fz := Uv.out.frozen fr
          obtain ⟨W1, W2, E1, E2, UF, fz1, cz, g2⟩ := Uv.out.swp (i := fr) (j := fc) (by rw [HH.out.1]; exact bfr) (by rw [HH.out.1]; exact bfc) Hz.out Hx.out
          have fzm := fz1 fc
          have UFA : Aside (UR W2 k (Sort.swp D fr fc)) := UF
          have G2 : Aside (Gx (fun q => q = k) w W2) := Gv.out.trans g2 (fun q hq => .inl hq)
          clear fz1 UF g2
          go_wp2_with fail
          go_big_region
          go_wp2_with fail
          go_roundg (hi - ch)
          case measure => have := NN.out; omega
          case rel =>
            refine ⟨ch, Sort.swp D fr fc, rfl, by have := NN.out; omega, Nat.le_refl _, ⟨by rw [Sort.size_swp]; exact HH.out.1, ?_, UFA.out.keep rfl⟩, (show Aside _ from G2.out.drew)⟩
            rw [← HH.out.2.1, (EQ).out, if_neg (by rw [Hz.out, Hx.out, Hg.out]; simp)]
        | false =>
          go_wp2_with fail
          go_quiet ((go_at_call 42; exact Calls.quiet_of_same (Mg.out _)))
          go_wp2_with fail
          refine bodyPost_ret (results_none rfl _ _ _) rfl ⟨rfl, ?_, Gu.out.tw ((Gw.refl _).drewN nq)⟩
          rw [← HH.out.2.1, (EQ).out, if_pos (by rw [Hz.out, Hx.out, Hg.out]; simp)]
          exact Uu.out.keep rfl
    · have c1' : decide ((hi : Int) ≤ (ch : Int)) = true := by simp; omega
      go_wp2_with fail
      refine bodyPost_end (results_none rfl _ _ _) rfl ⟨rfl, ?_, GG.out⟩
      rw [← HH.out.2.1, Sort.siftDown.eq_1, dif_pos (by have := NN.out; omega)]
      exact HH.out.2.2
theorem sift_size (hi f : Nat) : ∀ (m r : Nat) (d : Array Int), hi - r ≤ m → (Sort.siftDown ltI hi f r d).size = d.size := by
  intro m
  induction m with
  | zero => intro r d h; rw [Sort.siftDown.eq_1, dif_pos (by omega)]
  | succ m ih =>
    intro r d h
    rw [Sort.siftDown.eq_1]
    split
    · rfl
    · split
      · split
        · rfl
        · split
          · rw [ih _ _ (by omega), Sort.size_swp]
          · rfl
      · split
        · rfl
        · rw [ih _ _ (by omega), Sort.size_swp]
set_option maxRecDepth 20000 in
set_option maxHeartbeats 4000000 in
theorem heap23 (k c n a b : Nat) (d : Array Int) (hn : d.size = n) (n62 : n ≤ 4000000) (hab : a ≤ b) (hb : b ≤ n) (w : World) (hr : UR w k d) :
    Calls Try.prog 37 #[.slice (some ⟨k, 0, none⟩) n c, .int .i64 (a : Int), .int .i64 (b : Int)] w fun e w' => e = .returned (.tuple #[]) ∧ UR w' k (Sort.heapSort ltI d a b) ∧ Gx (fun q => q = k) w w' := by
  have R0 : Aside (UR w k d) := hr
  have LN : Aside (d.size = n) := hn
  have SI : Hid (∀ (lo hi : Nat) (D : Array Int) (W : World), D.size = n → lo ≤ hi → a + hi ≤ n → UR W k D → Calls Try.prog 47 #[.slice (some ⟨k, 0, none⟩) n c, .int .i64 (lo : Int), .int .i64 (hi : Int), .int .i64 (a : Int)] W fun e w' => e = .returned (.tuple #[]) ∧ UR w' k (Sort.siftDown ltI hi a lo D) ∧ Gx (fun q => q = k) W w') := fun lo hi D W h1 h2 h3 h4 => sift23 k c n lo hi a D h1 n62 h2 h3 W h4
  have SI0 : Hid (∀ (hi : Nat) (D : Array Int) (W : World), D.size = n → a + hi ≤ n → UR W k D → Calls Try.prog 47 #[.slice (some ⟨k, 0, none⟩) n c, .int .i64 0, .int .i64 (hi : Int), .int .i64 (a : Int)] W fun e w' => e = .returned (.tuple #[]) ∧ UR w' k (Sort.siftDown ltI hi a 0 D) ∧ Gx (fun q => q = k) W w') := fun hi D W h1 h3 h4 => sift23 k c n 0 hi a D h1 n62 (Nat.zero_le _) h3 W h4
  obtain ⟨hi, hhi⟩ : ∃ hi, hi = b - a := ⟨_, rfl⟩
  obtain ⟨h1, hh1⟩ : ∃ h1 : Int, h1 = (hi : Int) - 1 := ⟨_, rfl⟩
  obtain ⟨m0, hm0⟩ : ∃ m0, m0 = (hi - 1) / 2 := ⟨_, rfl⟩
  have w1 : IntKind.i64.wrap ((b : Int) - (a : Int)) = (hi : Int) := by rw [IntKind.wrap_i64]; omega
  have w2 : IntKind.i64.wrap ((hi : Int) - 1) = h1 := by rw [IntKind.wrap_i64]; omega
  have w3 : IntKind.i64.wrap (h1.tdiv 2) = (m0 : Int) := by
    have e : h1.tdiv 2 = (m0 : Int) := by
      by_cases z : hi = 0
      · subst z; rw [hh1, hm0]; rfl
      · have : h1 = ((hi - 1 : Nat) : Int) := by omega
        rw [this, hm0]; rfl
    rw [e, IntKind.wrap_i64]; omega
  have w3' : h1.tdiv 2 = (m0 : Int) := by
    by_cases z : hi = 0
    · subst z; rw [hh1, hm0]; rfl
    · have : h1 = ((hi - 1 : Nat) : Int) := by omega
      rw [this, hm0]; rfl
  have WM : Aside (wrap64 (m0 : Int) = (m0 : Int)) := by show _ = _; unfold wrap64; omega
  have HI : Aside (hi = b - a ∧ h1 = (hi : Int) - 1 ∧ m0 = (hi - 1) / 2) := ⟨hhi, hh1, hm0⟩
  have hib : a + hi ≤ n := by omega
  clear hr hn hhi hh1 hm0
  go_enter Try.func37, Try.ntmps37
  go_wp2_with fail
  clear w1 w2 w3 w3'
  go_loopg [9] (m0 + 1) (fun gg s9 wr => ∃ (v : Int) (m : Nat) (D : Array Int), s9 = .int .i64 v ∧ m ≤ gg ∧ Aside (v = (m : Int) - 1 ∧ m ≤ m0 + 1) ∧ Aside (D.size = n ∧ Sort.heapBuild ltI hi a m D = Sort.heapBuild ltI hi a (m0 + 1) d ∧ UR wr k D) ∧ Aside (Gx (fun q => q = k) w wr))
  case atStart => exact ⟨(m0 : Int), m0 + 1, d, congrArg (Value.int .i64) WM.out, Nat.le_refl _, ⟨by omega, Nat.le_refl _⟩, ⟨LN.out, rfl, R0.out⟩, Gx.refl _ _⟩
  case round =>
    obtain ⟨v, m, D, rfl, mg, VV, HH, GG⟩ := hrel
    cases m with
    | succ m =>
      obtain rfl : v = (m : Int) := by have := VV.out.1; omega
      have c1 : decide (0 ≤ (m : Int)) = true := by simp
      have w4 : IntKind.i64.wrap ((m : Int) - 1) = (m : Int) - 1 := by have := VV.out; have := HI.out; rw [IntKind.wrap_i64]; omega
      go_wp2_with fail
      refine (SI.out m hi D _ HH.out.1 (by have := VV.out; have := HI.out; omega) hib HH.out.2.2).mono ?_
      rintro ex u5 ⟨rfl, ur, g5⟩
      have UU : Aside (UR u5 k (Sort.siftDown ltI hi a m D)) := ur
      have G5 : Aside (Gx (fun q => q = k) w u5) := GG.out.trans g5 (fun q hq => .inl hq)
      clear ur g5
      go_wp2_with fail
      go_roundg m
      case measure => omega
      case rel => exact ⟨(m : Int) - 1, m, _, rfl, Nat.le_refl _, ⟨rfl, by have := VV.out; omega⟩, ⟨by rw [sift_size hi a _ _ _ (Nat.le_refl _)]; exact HH.out.1, HH.out.2.1, UU.out⟩, (show Aside _ from G5.out)⟩
    | zero =>
      obtain rfl : v = -1 := by have := VV.out.1; omega
      have DD : Aside (D = Sort.heapBuild ltI hi a (m0 + 1) d) := HH.out.2.1
      have U0 : Aside (UR wr k D) := HH.out.2.2
      have S0 : Aside (D.size = n) := HH.out.1
      clear HH VV
      go_wp2_with fail
      go_loopg [10] hi (fun gg s10 wr2 => ∃ (v : Int) (m : Nat) (E : Array Int), s10 = .int .i64 v ∧ m ≤ gg ∧ Aside (v = (m : Int) - 1 ∧ m ≤ hi) ∧ Aside (E.size = n ∧ Sort.heapPop ltI a m E = Sort.heapPop ltI a hi D ∧ UR wr2 k E) ∧ Aside (Gx (fun q => q = k) w wr2))
      case atStart => exact ⟨(hi : Int) - 1, hi, D, rfl, Nat.le_refl _, ⟨rfl, Nat.le_refl _⟩, ⟨S0.out, rfl, U0.out⟩, GG⟩
      case round =>
        rename_i wr0
        obtain ⟨v, m, E, rfl, mg, VV, HH, G3⟩ := hrel
        cases m with
        | succ m =>
          obtain rfl : v = (m : Int) := by have := VV.out.1; omega
          obtain ⟨am, ham⟩ : ∃ am, am = a + m := ⟨_, rfl⟩
          have c1 : decide (0 ≤ (m : Int)) = true := by simp
          have bam : am < n := by have := VV.out; omega
          have ba : a < n := by have := VV.out; omega
          have w4 : IntKind.i64.wrap ((m : Int) - 1) = (m : Int) - 1 := by have := VV.out; have := HI.out; rw [IntKind.wrap_i64]; omega
          have w5 : IntKind.i64.wrap ((a : Int) + (m : Int)) = (am : Int) := by rw [IntKind.wrap_i64]; omega
          have AM : Aside (am = a + m) := ham
          clear ham
          have Ur : Aside (UR wr k E) := HH.out.2.2
          have Gr : Aside (Gx (fun q => q = k) w wr) := G3.out
          have qx := Ur.out.cell (i := a) (by rw [HH.out.1]; exact ba)
          obtain ⟨x, hx⟩ : ∃ x, E[a]! = x := ⟨_, rfl⟩
          rw [hx] at qx
          have Hx : Aside (E[a]! = x) := hx
          clear hx
          have qy := Ur.out.cell (i := am) (by rw [HH.out.1]; exact bam)
          obtain ⟨y, hy⟩ : ∃ y, E[am]! = y := ⟨_, rfl⟩
          rw [hy] at qy
          have Hy : Aside (E[am]! = y) := hy
          clear hy
          have fz := Ur.out.frozen a
          obtain ⟨W1, W2, E1, E2, UF, fz1, cz, g2⟩ := Ur.out.swp (i := a) (j := am) (by rw [HH.out.1]; exact ba) (by rw [HH.out.1]; exact bam) Hx.out Hy.out
          have fzm := fz1 am
          have UFA : Aside (UR W2 k (Sort.swp E a am)) := UF
          have G2 : Aside (Gx (fun q => q = k) w W2) := Gr.out.trans g2 (fun q hq => .inl hq)
          clear fz1 UF g2
          go_wp2_with fail
          go_big_region
          go_wp2_with fail
          refine (SI0.out m (Sort.swp E a am) W2.drew (by rw [Sort.size_swp]; exact HH.out.1) (by have := AM.out; have := VV.out; omega) (UFA.out.keep (w' := W2.drew) rfl)).mono ?_
          rintro ex u5 ⟨rfl, ur, g5⟩
          have UU : Aside (UR u5 k (Sort.siftDown ltI m a 0 (Sort.swp E a am))) := ur
          have G5 : Aside (Gx (fun q => q = k) w u5) := G2.out.drew.trans g5 (fun q hq => .inl hq)
          clear ur g5
          go_wp2_with fail
          go_roundg m
          case measure => omega
          case rel => exact ⟨(m : Int) - 1, m, _, rfl, Nat.le_refl _, ⟨rfl, by have := VV.out; omega⟩, ⟨by rw [sift_size m a _ _ _ (Nat.le_refl _), Sort.size_swp]; exact HH.out.1, by rw [← HH.out.2.1, AM.out]; rfl, UU.out⟩, (show Aside _ from G5.out)⟩
        | zero =>
          obtain rfl : v = -1 := by have := VV.out.1; omega
          go_wp2_with fail
          refine bodyPost_end (results_none rfl _ _ _) rfl ⟨rfl, ?_, G3.out⟩
          unfold Sort.heapSort
          rw [← HI.out.1, ← HI.out.2.2, ← DD.out, ← HH.out.2.1]
          exact HH.out.2.2
end Go.Proofs.Ytkojcjfjmlompaa
