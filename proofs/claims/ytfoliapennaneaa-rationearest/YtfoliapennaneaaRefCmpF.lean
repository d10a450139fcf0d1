/- The document's Cmp: the whole parts, then bit by bit what is behind the point: as real numbers. -/
import Derived.Test.YtfoliapennaneaaRefNear
import Derived.Test.YtfoliapennaneaaFMath5
import Derived.Deep.LoopGhost
namespace Go.Proofs.Ytfoliapennaneaa
open Go.RowKit Go.Shelf
set_option linter.unusedVariables false

/-- The bits of a NaN that the language does not fix. -/
def nanw (x y : Nat) (w : World) : Nat := (Question.nanBits .f64 x y).cut (w.tape w.drawn (.nanBits .f64 x y))
theorem nanw_rg (x y : Nat) (w : World) : 9218868437227405312 < rg (nanw x y w) := by
  unfold nanw rg
  generalize w.tape w.drawn (.nanBits .f64 x y) = t
  show 9218868437227405312 < (t % 2 * 2 ^ 63 + 9218868437227405312 + 1 + t / 2 % (2 ^ 52 - 1)) % 9223372036854775808
  have : t / 2 % (2 ^ 52 - 1) < 2 ^ 52 - 1 := Nat.mod_lt _ (by decide)
  generalize t / 2 % (2 ^ 52 - 1) = a at *
  have h2 : t % 2 < 2 := Nat.mod_lt _ (by decide)
  generalize t % 2 = c at *
  omega
theorem run_sub_none (t : TypeId) (x y : Nat) (h : Ieee.double.sub x y = none) (w : World) : (binOp .sub t (.float .f64 x) (.float .f64 y)).run Try.prog w = .ok (.float .f64 (nanw x y w)) w.drew := by
  have h' : FloatKind.f64.format.sub x y = none := h
  simp [binOp, Op.floatArith, h']
  rfl

theorem sub_self_none {x : Nat} (hx : 9218868437227405312 ≤ rg x) : Ieee.double.sub x x = none := by
  unfold Ieee.Format.sub
  rcases Nat.lt_or_ge 9218868437227405312 (rg x) with h | h
  · rw [read_nan h]; rfl
  · rw [read_inf (by omega)]
    cases sg x <;> rfl
theorem sub_self_fin {x : Nat} (hx : rg x < 9218868437227405312) : Ieee.double.sub x x = some 0 := by
  obtain ⟨b, h1, h2⟩ := sub_fin hx hx
  rw [Int.sub_self] at h1 h2
  have e : b = 0 := h1.uniq (Nr.zero 1 (by decide)) (by decide)
  rw [h2, e, if_pos rfl]
  cases sg x <;> rfl

theorem nan_eq {x y : Nat} (h : 9218868437227405312 < rg x) : (FloatKind.f64.format.order x y == some .eq) = false := by
  rw [fmt]; unfold Ieee.Format.order; rw [read_nan h]; rfl

theorem whole_fin (x : Nat) (hx : rg x < 9218868437227405312) (w : World) :
    Calls Try.prog 34 #[.float .f64 x] w fun e w' => e = .returned (.bool true) ∧ w' = w := by
  have k1 : ∀ w, (binOp .sub 24 (.float .f64 x) (.float .f64 x)).run Try.prog w = .ok (.float .f64 0) w := fun w => run_float_arith w .sub _ _ _ _ _ (sub_self_fin hx)
  have k2 : (FloatKind.f64.format.order 0 0 == some .eq) = true := by decide +kernel
  go_enter Try.func34, Try.ntmps34
  go_wp2
  go_ret
  exact ⟨rfl, rfl⟩
theorem whole_nofin (x : Nat) (hx : 9218868437227405312 ≤ rg x) (w : World) :
    Calls Try.prog 34 #[.float .f64 x] w fun e w' => e = .returned (.bool false) ∧ w' = w.drew := by
  have k1 : ∀ w, (binOp .sub 24 (.float .f64 x) (.float .f64 x)).run Try.prog w = .ok (.float .f64 (nanw x x w)) w.drew := fun w => run_sub_none _ x x (sub_self_none hx) w
  have k2 : (FloatKind.f64.format.order (nanw x x w) 0 == some .eq) = false := nan_eq (nanw_rg x x w)
  go_enter Try.func34, Try.ntmps34
  go_wp2
  go_ret
  exact ⟨rfl, rfl⟩

theorem rcmp_zero_den (x num : Nat) (w : World) :
    Calls Try.prog 18 #[.float .f64 x, .int .u64 num, .int .u64 0] w fun e w' => e = .returned (.tuple #[.int .i64 0, .int .i64 20]) ∧ w' = w := by
  go_enter Try.func18, Try.ntmps18
  go_wp2
  go_ret2
  exact ⟨rfl, rfl⟩
theorem rcmp_nofin (x num den : Nat) (hx : 9218868437227405312 ≤ rg x) (hd : 0 < den) (w : World) :
    Calls Try.prog 18 #[.float .f64 x, .int .u64 num, .int .u64 den] w fun e w' => e = .returned (.tuple #[.int .i64 0, .int .i64 21]) ∧ w' = w.drew := by
  have h1 : ((den : Int) == 0) = false := by simp; omega
  go_enter Try.func18, Try.ntmps18
  go_wp2_with (go_at_call 34; refine (whole_nofin x hx _).mono ?_; rintro e w' ⟨rfl, rfl⟩)
  go_ret2
  exact ⟨rfl, rfl⟩

theorem rcmp_neg (x num den : Nat) (hx : rg x < 9218868437227405312) (hd : 0 < den) (hs : (FloatKind.f64.format.order x 0 == some .lt) = true) (w : World) :
    Calls Try.prog 18 #[.float .f64 x, .int .u64 num, .int .u64 den] w fun e w' => e = .returned (.tuple #[.int .i64 (-1), .int .i64 0]) ∧ w' = w := by
  have h1 : ((den : Int) == 0) = false := by simp; omega
  go_enter Try.func18, Try.ntmps18
  go_wp2_with (go_at_call 34; refine (whole_fin x hx _).mono ?_; rintro e w' ⟨rfl, rfl⟩)
  go_ret2
  exact ⟨rfl, rfl⟩
theorem rcmp_big (x num den : Nat) (hx : rg x < 9218868437227405312) (hd : 0 < den) (hs : (FloatKind.f64.format.order x 0 == some .lt) = false)
    (hb : (FloatKind.f64.format.order x 4895412794951729152 == some .gt || FloatKind.f64.format.order x 4895412794951729152 == some .eq) = true) (w : World) :
    Calls Try.prog 18 #[.float .f64 x, .int .u64 num, .int .u64 den] w fun e w' => e = .returned (.tuple #[.int .i64 1, .int .i64 0]) ∧ w' = w := by
  have h1 : ((den : Int) == 0) = false := by simp; omega
  go_enter Try.func18, Try.ntmps18
  go_wp2_with (go_at_call 34; refine (whole_fin x hx _).mono ?_; rintro e w' ⟨rfl, rfl⟩)
  go_ret2
  exact ⟨rfl, rfl⟩

set_option maxHeartbeats 1000000 in
theorem rcmp_whole (x num den N q : Nat) (r : Int) (hx : rg x < 9218868437227405312) (hd : 0 < den) (hs : (FloatKind.f64.format.order x 0 == some .lt) = false)
    (hb : (FloatKind.f64.format.order x 4895412794951729152 == some .gt || FloatKind.f64.format.order x 4895412794951729152 == some .eq) = false)
    (hc : ∀ w, (convert 24 22 (.float .f64 x)).run Try.prog w = .ok (.int .u64 (N : Int)) w) (eq : (num : Int) / den = (q : Int)) (bq : q < 18446744073709551616)
    (hr : N < q ∧ r = -1 ∨ q < N ∧ r = 1) (w : World) :
    Calls Try.prog 18 #[.float .f64 x, .int .u64 num, .int .u64 den] w fun e w' => e = .returned (.tuple #[.int .i64 r, .int .i64 0]) ∧ w' = w := by
  have h1 : ((den : Int) == 0) = false := by simp; omega
  rcases hr with ⟨hr, rfl⟩ | ⟨hr, rfl⟩
  · have h2 : ((N : Int) == q) = false := by simp; omega
    go_enter Try.func18, Try.ntmps18
    go_wp2_with (go_at_call 34; refine (whole_fin x hx _).mono ?_; rintro e w' ⟨rfl, rfl⟩)
    go_ret2
    exact ⟨rfl, rfl⟩
  · have h2 : ((N : Int) == q) = false := by simp; omega
    have h3 : ¬ N < q := by omega
    go_enter Try.func18, Try.ntmps18
    go_wp2_with (go_at_call 34; refine (whole_fin x hx _).mono ?_; rintro e w' ⟨rfl, rfl⟩)
    go_ret2
    exact ⟨rfl, rfl⟩

/-- How many rounds are to come. -/
def Bd (g T r : Nat) : Prop := (∃ d, g = 64 + d ∧ T * 2 ^ d % Un = 0) ∨ (T = 0 ∧ 18446744073709551616 ≤ r * 2 ^ g) ∨ (T = 0 ∧ r = 0)

theorem Bd.start (T r : Nat) : Bd 1138 T r := by
  refine .inl ⟨1074, rfl, ?_⟩
  obtain ⟨j, hj, e⟩ := Un_ex
  rw [← hj, e, Nat.mul_mod_left]

/-- A round in which both bits are the same. -/
theorem Bd.step {g T r den : Nat} (h : Bd g T r) (hT : T < Un) (hr : r < den) (hd : den < 18446744073709551616) (run : 0 < T ∨ 0 < r) (same : Un ≤ 2 * T ↔ den ≤ 2 * r) :
    ∃ g', g' < g ∧ Bd g' (2 * T % Un) (2 * r % den) := by
  have hU := Un_pos
  have two : ∀ g, T = 0 → 18446744073709551616 ≤ r * 2 ^ g → ∃ g', g' < g ∧ Bd g' (2 * T % Un) (2 * r % den) := by
    intro g z hg
    have nb : ¬ den ≤ 2 * r := fun c => by have := same.2 c; omega
    cases g with
    | zero => rw [Nat.pow_zero, Nat.mul_one] at hg; omega
    | succ g =>
      refine ⟨g, by omega, .inr (.inl ⟨by rw [z, Nat.mul_zero, Nat.zero_mod], ?_⟩)⟩
      rw [Nat.mod_eq_of_lt (by omega), Nat.mul_comm 2 r, Nat.mul_assoc, Nat.mul_comm 2, ← Nat.pow_succ]
      exact hg
  rcases h with ⟨d, rfl, hd0⟩ | ⟨z, hg⟩ | ⟨z, y⟩
  · cases d with
    | zero =>
      have z : T = 0 := by
        rw [Nat.pow_zero, Nat.mul_one, Nat.mod_eq_of_lt hT] at hd0; exact hd0
      have hr0 : 0 < r := by omega
      refine two 64 z ?_
      have : 1 * 2 ^ 64 ≤ r * 2 ^ 64 := Nat.mul_le_mul_right _ hr0
      exact this
    | succ d =>
      refine ⟨64 + d, by omega, .inl ⟨d, rfl, ?_⟩⟩
      rw [Nat.mod_mul_mod, Nat.mul_comm 2 T, Nat.mul_assoc, Nat.mul_comm 2, ← Nat.pow_succ]
      exact hd0
  · exact two g z hg
  · omega

/-- Bits that part tell; bits that are the same leave it as it was. -/
theorem bits_cmp (T r den : Nat) (hT : T < Un) (hr : r < den) :
    (Un ≤ 2 * T → ¬ den ≤ 2 * r → cmpi ((T * den : Nat) : Int) ((r * Un : Nat) : Int) = 1) ∧
    (¬ Un ≤ 2 * T → den ≤ 2 * r → cmpi ((T * den : Nat) : Int) ((r * Un : Nat) : Int) = -1) ∧
    ((Un ≤ 2 * T ↔ den ≤ 2 * r) → cmpi ((2 * T % Un * den : Nat) : Int) ((2 * r % den * Un : Nat) : Int) = cmpi ((T * den : Nat) : Int) ((r * Un : Nat) : Int)) := by
  have hU := Un_pos
  generalize Un = U at *
  refine ⟨fun a b => ?_, fun a b => ?_, fun s => ?_⟩
  · have x1 : U * den ≤ 2 * T * den := Nat.mul_le_mul_right _ a
    have x2 : 2 * r * U < den * U := Nat.mul_lt_mul_of_pos_right (by omega) hU
    rw [Nat.mul_comm U den, Nat.mul_assoc] at x1
    rw [Nat.mul_assoc] at x2
    exact cmpi_gt (Int.ofNat_lt.2 (by omega))
  · have x1 : 2 * T * den < U * den := Nat.mul_lt_mul_of_pos_right (by omega) (by omega)
    have x2 : den * U ≤ 2 * r * U := Nat.mul_le_mul_right _ b
    rw [Nat.mul_comm U den, Nat.mul_assoc] at x1
    rw [Nat.mul_assoc] at x2
    exact cmpi_lt (Int.ofNat_lt.2 (by omega))
  · by_cases a : U ≤ 2 * T
    · have b := s.1 a
      have e1 : 2 * T % U = 2 * T - U := by rw [Nat.mod_eq_sub_mod a, Nat.mod_eq_of_lt (by omega)]
      have e2 : 2 * r % den = 2 * r - den := by rw [Nat.mod_eq_sub_mod b, Nat.mod_eq_of_lt (by omega)]
      have f1 : 2 * (T * den) = (2 * T - U) * den + den * U := by
        rw [Nat.mul_comm den U, ← Nat.add_mul, Nat.sub_add_cancel a, Nat.mul_assoc]
      have f2 : 2 * (r * U) = (2 * r - den) * U + den * U := by
        rw [← Nat.add_mul, Nat.sub_add_cancel b, Nat.mul_assoc]
      rw [e1, e2]
      generalize (2 * T - U) * den = A at *
      generalize (2 * r - den) * U = B at *
      generalize T * den = C at *
      generalize r * U = D at *
      generalize den * U = E at *
      rcases Nat.lt_trichotomy A B with k | k | k
      · rw [cmpi_lt (Int.ofNat_lt.2 k), cmpi_lt (Int.ofNat_lt.2 (by omega))]
      · rw [cmpi_eq (by omega), cmpi_eq (by omega)]
      · rw [cmpi_gt (Int.ofNat_lt.2 k), cmpi_gt (Int.ofNat_lt.2 (by omega))]
    · have b : ¬ den ≤ 2 * r := fun c => a (s.2 c)
      rw [Nat.mod_eq_of_lt (by omega), Nat.mod_eq_of_lt (by omega), Nat.mul_assoc, Nat.mul_assoc]
      generalize T * den = C
      generalize r * U = D
      rcases Nat.lt_trichotomy C D with k | k | k
      · rw [cmpi_lt (Int.ofNat_lt.2 k), cmpi_lt (Int.ofNat_lt.2 (by omega))]
      · rw [cmpi_eq (by omega), cmpi_eq (by omega)]
      · rw [cmpi_gt (Int.ofNat_lt.2 k), cmpi_gt (Int.ofNat_lt.2 (by omega))]

/-- The state of a round: what is behind both points. -/
structure St (R : Int) (den g t r : Nat) (T : Nat) : Prop where
  fr : Fr t T
  hT : T < Un
  cmp : cmpi ((T * den : Nat) : Int) ((r * Un : Nat) : Int) = R
  bd : Bd g T r

theorem St.next {R : Int} {den g t r T : Nat} (h : St R den g t r T) (hr : r < den) (hd : den < 18446744073709551616) :
    ∃ t1 t2 : Nat, Ieee.double.mul 4611686018427387904 t = some t1 ∧ (FloatKind.f64.format.order t 0 == some .gt) = decide (0 < T) ∧
      (FloatKind.f64.format.order t1 4607182418800017408 == some .gt || FloatKind.f64.format.order t1 4607182418800017408 == some .eq) = decide (Un ≤ 2 * T) ∧
      (Un ≤ 2 * T → Ieee.double.sub t1 4607182418800017408 = some t2) ∧
      (Un ≤ 2 * T → ¬ den ≤ 2 * r → R = 1) ∧ (¬ Un ≤ 2 * T → den ≤ 2 * r → R = -1) ∧
      ((0 < T ∨ 0 < r) → Un ≤ 2 * T → den ≤ 2 * r → ∃ g', g' < g ∧ St R den g' t2 (2 * r % den) (2 * T % Un)) ∧
      ((0 < T ∨ 0 < r) → ¬ Un ≤ 2 * T → ¬ den ≤ 2 * r → ∃ g', g' < g ∧ St R den g' t1 (2 * r % den) (2 * T % Un)) ∧
      (¬ 0 < T → ¬ 0 < r → R = 0) := by
  have hU := Un_pos
  obtain ⟨t1, m1, f1⟩ := h.fr.dbl h.hT
  obtain ⟨c1, c2, c3⟩ := bits_cmp T r den h.hT hr
  obtain ⟨t2, s1⟩ : ∃ t2, Un ≤ 2 * T → Ieee.double.sub t1 4607182418800017408 = some t2 ∧ Fr t2 (2 * T - Un) := by
    by_cases a : Un ≤ 2 * T
    · have hT := h.hT
      obtain ⟨t2, s1, s2⟩ := f1.sub1 a (by omega)
      exact ⟨t2, fun _ => ⟨s1, s2⟩⟩
    · exact ⟨0, fun k => absurd k a⟩
  refine ⟨t1, t2, m1, h.fr.gt0, f1.ge1, fun a => (s1 a).1, fun a b => ?_, fun a b => ?_, fun run a b => ?_, fun run a b => ?_, fun a b => ?_⟩
  · rw [← h.cmp]; exact c1 a b
  · rw [← h.cmp]; exact c2 a b
  · obtain ⟨g', l, hb⟩ := h.bd.step h.hT hr hd run ⟨fun _ => b, fun _ => a⟩
    have hT := h.hT
    have e : 2 * T % Un = 2 * T - Un := by rw [Nat.mod_eq_sub_mod a, Nat.mod_eq_of_lt (by omega)]
    exact ⟨g', l, by rw [e]; exact (s1 a).2, Nat.mod_lt _ hU, by rw [c3 ⟨fun _ => b, fun _ => a⟩]; exact h.cmp, hb⟩
  · obtain ⟨g', l, hb⟩ := h.bd.step h.hT hr hd run ⟨fun k => absurd k a, fun k => absurd k b⟩
    have e : 2 * T % Un = 2 * T := Nat.mod_eq_of_lt (by omega)
    exact ⟨g', l, by rw [e]; exact f1, Nat.mod_lt _ hU, by rw [c3 ⟨fun k => absurd k a, fun k => absurd k b⟩]; exact h.cmp, hb⟩
  · rw [← h.cmp, show T = 0 by omega, show r = 0 by omega, Nat.zero_mul, Nat.zero_mul]; rfl

set_option maxRecDepth 10000 in
set_option maxHeartbeats 4000000 in
theorem rcmp_bits (x num den N s t0 : Nat) (R : Int) (hx : rg x < 9218868437227405312) (hd0 : 0 < den) (hd : den < 18446744073709551616) (hs : (FloatKind.f64.format.order x 0 == some .lt) = false)
    (hb : (FloatKind.f64.format.order x 4895412794951729152 == some .gt || FloatKind.f64.format.order x 4895412794951729152 == some .eq) = false)
    (hc : ∀ w, (convert 24 22 (.float .f64 x)).run Try.prog w = .ok (.int .u64 (N : Int)) w) (eq : (num : Int) / den = (N : Int)) (bq : N < 18446744073709551616)
    (er : (num : Int) % den = (s : Int)) (hsd : s < den) (hsub : ∀ w, (binOp .sub 24 (.float .f64 x) (.float .f64 (floatOfInt .f64 (N : Int)))).run Try.prog w = .ok (.float .f64 t0) w)
    (h0 : Hid (∃ T, St R den 1138 t0 s T)) (w : World) :
    Calls Try.prog 18 #[.float .f64 x, .int .u64 num, .int .u64 den] w fun e w' => e = .returned (.tuple #[.int .i64 R, .int .i64 0]) ∧ w' = w := by
  have h1 : ((den : Int) == 0) = false := by simp; omega
  go_enter Try.func18, Try.ntmps18
  go_wp2_with (go_at_call 34; refine (whole_fin x hx _).mono ?_; rintro e w' ⟨rfl, hw⟩; have hw' : w = w' := hw.symm; clear hw; subst hw')
  go_loopg [10, 11] 1138 (fun g p q wr => ∃ t r : Nat, p = .float .f64 t ∧ q = .int .u64 r ∧ r < den ∧ wr = w ∧ Hid (∃ T, St R den g t r T))
  case atStart => exact ⟨t0, s, rfl, by first | rfl | rw [er], hsd, rfl, h0⟩
  case round =>
    clear hs hb hc eq er hsub h0 bq hsd
    obtain ⟨t, r, rfl, rfl, hr, rfl, H⟩ := hrel
    obtain ⟨T, ST⟩ := H.out
    obtain ⟨t1, t2, m1, g0, g1, m2, o1, o2, n1, n2, o3⟩ := ST.next hr hd
    have k1 : ∀ w, (binOp .mul 24 (.float .f64 4611686018427387904) (.float .f64 t)).run Try.prog w = .ok (.float .f64 t1) w := fun w => run_float_arith w .mul _ _ _ _ _ m1
    clear m1 ST H
    obtain ⟨r2, hr2⟩ : ∃ r2 : Nat, 2 * r % den = r2 := ⟨_, rfl⟩
    have hr3 : r2 < den := by rw [← hr2]; exact Nat.mod_lt _ hd0
    rw [hr2] at n1 n2
    by_cases run : 0 < T ∨ 0 < r
    · by_cases a : Un ≤ 2 * T
      · have k2 : ∀ w, (binOp .sub 24 (.float .f64 t1) (.float .f64 4607182418800017408)).run Try.prog w = .ok (.float .f64 t2) w := fun w => run_float_arith w .sub _ _ _ _ _ (m2 a)
        rw [decide_eq_true a] at g1
        by_cases b : den ≤ 2 * r
        · obtain ⟨g', l, S2⟩ := n1 run a b
          have N2 : Hid (g' < gk ∧ ∃ T, St R den g' t2 r2 T) := ⟨l, _, S2⟩
          have dd : Hid (∀ w, Calls Try.prog 25 #[.int .u64 r, .int .u64 den] w fun e w' => e = .returned (.tuple #[.int .u64 r2, .bool true]) ∧ w' = w) := fun w => by
            have := double_any r den hr hd w
            rw [hr2, decide_eq_true b] at this; exact this
          by_cases p : 0 < T
          · have g2 : (FloatKind.f64.format.order t 0 == some .gt) = true := by rw [g0]; exact decide_eq_true p
            clear m2 o1 o2 n1 n2 o3 g0 a b run hr2 p
            go_wp2_with (go_at_call 25; refine (dd.out _).mono ?_; rintro e w8 ⟨rfl, rfl⟩)
            go_roundg g'
            case measure => exact N2.out.1
            case rel => exact ⟨t2, r2, rfl, rfl, hr3, rfl, N2.out.2⟩
          · have g2 : (FloatKind.f64.format.order t 0 == some .gt) = false := by rw [g0]; exact decide_eq_false p
            have r0 : 0 < r := run.resolve_left p
            clear m2 o1 o2 n1 n2 o3 g0 a b run hr2 p
            go_wp2_with (go_at_call 25; refine (dd.out _).mono ?_; rintro e w8 ⟨rfl, rfl⟩)
            go_roundg g'
            case measure => exact N2.out.1
            case rel => exact ⟨t2, r2, rfl, rfl, hr3, rfl, N2.out.2⟩
        · have R1 : R = 1 := o1 a b
          have dd : Hid (∀ w, Calls Try.prog 25 #[.int .u64 r, .int .u64 den] w fun e w' => e = .returned (.tuple #[.int .u64 r2, .bool false]) ∧ w' = w) := fun w => by
            have := double_any r den hr hd w
            rw [hr2, decide_eq_false b] at this; exact this
          subst R1
          by_cases p : 0 < T
          · have g2 : (FloatKind.f64.format.order t 0 == some .gt) = true := by rw [g0]; exact decide_eq_true p
            clear m2 o1 o2 n1 n2 o3 g0 a b run hr2 p
            go_wp2_with (go_at_call 25; refine (dd.out _).mono ?_; rintro e w8 ⟨rfl, rfl⟩)
            go_ret2
            exact ⟨rfl, rfl⟩
          · have g2 : (FloatKind.f64.format.order t 0 == some .gt) = false := by rw [g0]; exact decide_eq_false p
            have r0 : 0 < r := run.resolve_left p
            clear m2 o1 o2 n1 n2 o3 g0 a b run hr2 p
            go_wp2_with (go_at_call 25; refine (dd.out _).mono ?_; rintro e w8 ⟨rfl, rfl⟩)
            go_ret2
            exact ⟨rfl, rfl⟩
      · rw [decide_eq_false a] at g1
        by_cases b : den ≤ 2 * r
        · have R1 : R = -1 := o2 a b
          have dd : Hid (∀ w, Calls Try.prog 25 #[.int .u64 r, .int .u64 den] w fun e w' => e = .returned (.tuple #[.int .u64 r2, .bool true]) ∧ w' = w) := fun w => by
            have := double_any r den hr hd w
            rw [hr2, decide_eq_true b] at this; exact this
          subst R1
          by_cases p : 0 < T
          · have g2 : (FloatKind.f64.format.order t 0 == some .gt) = true := by rw [g0]; exact decide_eq_true p
            clear m2 o1 o2 n1 n2 o3 g0 a b run hr2 p
            go_wp2_with (go_at_call 25; refine (dd.out _).mono ?_; rintro e w8 ⟨rfl, rfl⟩)
            go_ret2
            exact ⟨rfl, rfl⟩
          · have g2 : (FloatKind.f64.format.order t 0 == some .gt) = false := by rw [g0]; exact decide_eq_false p
            have r0 : 0 < r := run.resolve_left p
            clear m2 o1 o2 n1 n2 o3 g0 a b run hr2 p
            go_wp2_with (go_at_call 25; refine (dd.out _).mono ?_; rintro e w8 ⟨rfl, rfl⟩)
            go_ret2
            exact ⟨rfl, rfl⟩
        · obtain ⟨g', l, S2⟩ := n2 run a b
          have N2 : Hid (g' < gk ∧ ∃ T, St R den g' t1 r2 T) := ⟨l, _, S2⟩
          have dd : Hid (∀ w, Calls Try.prog 25 #[.int .u64 r, .int .u64 den] w fun e w' => e = .returned (.tuple #[.int .u64 r2, .bool false]) ∧ w' = w) := fun w => by
            have := double_any r den hr hd w
            rw [hr2, decide_eq_false b] at this; exact this
          by_cases p : 0 < T
          · have g2 : (FloatKind.f64.format.order t 0 == some .gt) = true := by rw [g0]; exact decide_eq_true p
            clear m2 o1 o2 n1 n2 o3 g0 a b run hr2 p
            go_wp2_with (go_at_call 25; refine (dd.out _).mono ?_; rintro e w8 ⟨rfl, rfl⟩)
            go_roundg g'
            case measure => exact N2.out.1
            case rel => exact ⟨t1, r2, rfl, rfl, hr3, rfl, N2.out.2⟩
          · have g2 : (FloatKind.f64.format.order t 0 == some .gt) = false := by rw [g0]; exact decide_eq_false p
            have r0 : 0 < r := run.resolve_left p
            clear m2 o1 o2 n1 n2 o3 g0 a b run hr2 p
            go_wp2_with (go_at_call 25; refine (dd.out _).mono ?_; rintro e w8 ⟨rfl, rfl⟩)
            go_roundg g'
            case measure => exact N2.out.1
            case rel => exact ⟨t1, r2, rfl, rfl, hr3, rfl, N2.out.2⟩
    · have R0 : R = 0 := o3 (fun h => run (.inl h)) (fun h => run (.inr h))
      have g2 : (FloatKind.f64.format.order t 0 == some .gt) = false := by rw [g0]; exact decide_eq_false (fun h => run (.inl h))
      have r0 : ¬ 0 < r := fun h => run (.inr h)
      clear m2 o1 o2 n1 n2 o3 g0 g1 k1 run hr2 hr3
      subst R0
      go_wp2
      go_ret2
      exact ⟨rfl, rfl⟩
end Go.Proofs.Ytfoliapennaneaa
