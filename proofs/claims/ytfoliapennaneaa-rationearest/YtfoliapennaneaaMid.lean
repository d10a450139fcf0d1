/- On which side of the middle of two neighbouring floats a fraction lies. -/
import Derived.Test.YtfoliapennaneaaRefBtw
namespace Go.Proofs.Ytfoliapennaneaa
open Go.RowKit Go.Shelf
set_option linter.unusedVariables false

/-- The fraction held against the middle of the r-th float and the next one. -/
def mid (r num den : Nat) : Int := cmpi ((2 * (num * Un) : Nat) : Int) (((V r + V (r + 1)) * den : Nat) : Int)

theorem cmpi_cast_scale (a b k : Nat) (h : 0 < k) : cmpi ((a * k : Nat) : Int) ((b * k : Nat) : Int) = cmpi (a : Int) b := by
  rw [Int.natCast_mul, Int.natCast_mul]; exact cmpi_scale _ _ _ (by omega)
theorem cmpi_cast_add (a b c : Nat) : cmpi ((a + c : Nat) : Int) ((b + c : Nat) : Int) = cmpi (a : Int) b := by
  rcases Nat.lt_trichotomy a b with k | k | k
  · rw [cmpi_lt (Int.ofNat_lt.2 k), cmpi_lt (Int.ofNat_lt.2 (by omega))]
  · rw [cmpi_eq (by omega), cmpi_eq (by omega)]
  · rw [cmpi_gt (Int.ofNat_lt.2 k), cmpi_gt (Int.ofNat_lt.2 (by omega))]

theorem twice (rX den : Nat) (h : rX < den) : decide (den ≤ 2 * rX) = false ∧ cmpi ((2 * rX : Nat) : Int) (den : Int) = -1 ∨ decide (den ≤ 2 * rX) = true ∧ 2 * rX % den = 0 ∧ cmpi ((2 * rX : Nat) : Int) (den : Int) = 0 ∨
    decide (den ≤ 2 * rX) = true ∧ 0 < 2 * rX % den ∧ cmpi ((2 * rX : Nat) : Int) (den : Int) = 1 := by
  by_cases c : den ≤ 2 * rX
  · have e : 2 * rX % den = 2 * rX - den := by rw [Nat.mod_eq_sub_mod c, Nat.mod_eq_of_lt (by omega)]
    rw [e, decide_eq_true c]
    by_cases d : den = 2 * rX
    · exact .inr (.inl ⟨rfl, by omega, cmpi_eq (by omega)⟩)
    · exact .inr (.inr ⟨rfl, by omega, cmpi_gt (by omega)⟩)
  · exact .inl ⟨decide_eq_false c, cmpi_lt (by omega)⟩

theorem V_next (r : Nat) : V (r + 1) = (mg r + 1) * 2 ^ xp r := by rw [V_step, V_mg, Nat.add_mul, Nat.one_mul]; rfl

theorem step_f {r : Nat} (h0 : 400000000000000000 ≤ r) (h1 : r < 5000000000000000000) : Ieee.double.sub (r + 1) r = some ((xp r - 51) * 4503599627370496) := by
  have hx : 60 ≤ xp r := by unfold xp; omega
  have hx2 : xp r < 1200 := by unfold xp; omega
  have hv : V ((xp r - 51) * 4503599627370496) = 2 ^ xp r := by
    have := V_form (xp r - 52) 4503599627370496 (by decide) (.inl (by decide))
    rw [show (xp r - 52) * 4503599627370496 + 4503599627370496 = (xp r - 51) * 4503599627370496 by omega] at this
    rw [this, show (4503599627370496 : Nat) = 2 ^ 52 from rfl, ← Nat.pow_add]; congr 1; omega
  have hp := Nat.two_pow_pos (xp r)
  obtain ⟨t, t1, t2⟩ := sub_exact (x := r + 1) (y := r) (by rw [rg_small (by omega)]; omega) (by rw [rg_small (by omega)]; omega) (show (xp r - 51) * 4503599627370496 < 9218868437227405312 by omega) (2 ^ xp r)
    (by rw [SV_small (by omega), SV_small (by omega), V_next, V_mg, Nat.add_mul]; omega) hv (sg_small (by omega))
  rw [t1]
  rcases t2 with ⟨-, e⟩ | ⟨-, e⟩
  · rw [V_inj (e.trans hv.symm)]
  · omega

theorem conv_whole {x : Nat} (k : Nat) (hx : x < 9218868437227405312) (hk : V x = k * Un) (hb : k < 18446744073709551616) (w : World) : (convert 24 22 (.float .f64 x)).run Try.prog w = .ok (.int .u64 (k : Int)) w := by
  have e : tru x = (k : Int) := by
    unfold tru; rw [sg_small (by omega), rg_small (by omega), hk, Nat.mul_div_cancel _ Un_pos]; rfl
  have := run_convert_float_int (P := Try.prog) w 24 22 .f64 .u64 x (tru x) (by kernel_rfl) (by kernel_rfl) (toVal_u (by rw [rg_small (by omega)]; exact hx) (by rw [e]; exact Int.natCast_nonneg _) (by rw [e]; omega))
  rw [e] at this; exact this

theorem cmpv_pos (r num den : Nat) (h : r < 9223372036854775808) : cmpv r num den = cmpi ((V r * den : Nat) : Int) ((num * Un : Nat) : Int) := by
  unfold cmpv; rw [SV_small h, ← Int.natCast_mul]

theorem mid_frac (m x den X num : Nat) (d0 : 0 < den) (U : Nat) (hU : U = 2 ^ X * 2 ^ x) (h1 : m * 2 ^ x * den < num * U) (h2 : num * U < (m + 1) * 2 ^ x * den) :
    cmpi ((2 * (num * U) : Nat) : Int) (((m * 2 ^ x + (m + 1) * 2 ^ x) * den : Nat) : Int) = cmpi ((2 * (num * 2 ^ X % den) : Nat) : Int) (den : Int) := by
  have hp := Nat.two_pow_pos x
  have e1 : num * U = num * 2 ^ X * 2 ^ x := by rw [hU]; ac_rfl
  have e2 : m * 2 ^ x * den = m * den * 2 ^ x := by ac_rfl
  have e3 : (m + 1) * 2 ^ x * den = (m + 1) * den * 2 ^ x := by ac_rfl
  rw [e1] at h1 h2 ⊢
  rw [e2] at h1
  rw [e3] at h2
  have g1 := Nat.lt_of_mul_lt_mul_right h1
  have g2 := Nat.lt_of_mul_lt_mul_right h2
  have e4 : (m * 2 ^ x + (m + 1) * 2 ^ x) * den = ((m + (m + 1)) * den) * 2 ^ x := by rw [← Nat.add_mul]; ac_rfl
  rw [e4, show 2 * (num * 2 ^ X * 2 ^ x) = 2 * (num * 2 ^ X) * 2 ^ x by ac_rfl, cmpi_cast_scale _ _ _ hp]
  generalize num * 2 ^ X = A at *
  have hq : A / den = m := Nat.div_eq_of_lt_le (by omega) (by omega)
  have hd := Nat.div_add_mod A den
  rw [hq] at hd
  have e5 : (m + (m + 1)) * den = den + 2 * (den * m) := by rw [Nat.add_mul, Nat.add_mul, Nat.one_mul, Nat.mul_comm m]; omega
  have e6 : 2 * A = 2 * (A % den) + 2 * (den * m) := by omega
  rw [e5, e6, cmpi_cast_add]

theorem mid_many (m S half den num U : Nat) (d0 : 0 < den) (hU : 0 < U) (hS : S = 2 * half) (h1 : m * S * U * den < num * U) (h2 : num * U < (m + 1) * S * U * den) :
    m * S ≤ num / den ∧ (num / den - m * S < half ∧ cmpi ((2 * (num * U) : Nat) : Int) (((m * S * U + (m + 1) * S * U) * den : Nat) : Int) = -1 ∨
      half < num / den - m * S ∧ cmpi ((2 * (num * U) : Nat) : Int) (((m * S * U + (m + 1) * S * U) * den : Nat) : Int) = 1 ∨
      num / den - m * S = half ∧ 0 < num % den ∧ cmpi ((2 * (num * U) : Nat) : Int) (((m * S * U + (m + 1) * S * U) * den : Nat) : Int) = 1 ∨
      num / den - m * S = half ∧ num % den = 0 ∧ cmpi ((2 * (num * U) : Nat) : Int) (((m * S * U + (m + 1) * S * U) * den : Nat) : Int) = 0) := by
  have e2 : m * S * U * den = m * S * den * U := by ac_rfl
  have e3 : (m + 1) * S * U * den = (m + 1) * S * den * U := by ac_rfl
  rw [e2] at h1
  rw [e3] at h2
  have g1 := Nat.lt_of_mul_lt_mul_right h1
  have g2 := Nat.lt_of_mul_lt_mul_right h2
  have e4 : (m * S * U + (m + 1) * S * U) * den = ((m * S + half) * den) * (2 * U) := by
    rw [← Nat.add_mul, hS, Nat.add_mul m 1, Nat.one_mul]
    rw [show m * (2 * half) + (m * (2 * half) + 2 * half) = 2 * (m * (2 * half) + half) by omega]
    ac_rfl
  have e5 : cmpi ((2 * (num * U) : Nat) : Int) (((m * S * U + (m + 1) * S * U) * den : Nat) : Int) = cmpi (num : Int) (((m * S + half) * den : Nat) : Int) := by
    rw [e4, show 2 * (num * U) = num * (2 * U) by ac_rfl, cmpi_cast_scale _ _ _ (by omega)]
  rw [e5]
  have hd := Nat.div_add_mod num den
  have hm := Nat.mod_lt num d0
  have lo : m * S ≤ num / den := (Nat.le_div_iff_mul_le d0).2 (Nat.le_of_lt g1)
  refine ⟨lo, ?_⟩
  generalize num / den = q at *
  generalize num % den = s at *
  clear e5 e4 e3 e2 h1 h2
  rw [Nat.mul_comm den q] at hd
  rcases Nat.lt_trichotomy (q - m * S) half with k | k | k
  · have : (q + 1) * den ≤ (m * S + half) * den := Nat.mul_le_mul_right _ (by omega)
    rw [Nat.add_mul, Nat.one_mul] at this
    exact .inl ⟨k, cmpi_lt (Int.ofNat_lt.2 (by omega))⟩
  · have e : m * S + half = q := by omega
    rw [e]
    by_cases z : s = 0
    · exact .inr (.inr (.inr ⟨k, z, cmpi_eq (by omega)⟩))
    · exact .inr (.inr (.inl ⟨k, by omega, cmpi_gt (Int.ofNat_lt.2 (by omega))⟩))
  · have : (m * S + half + 1) * den ≤ q * den := Nat.mul_le_mul_right _ (by omega)
    rw [Nat.add_mul _ 1, Nat.one_mul] at this
    exact .inr (.inl ⟨k, cmpi_gt (Int.ofNat_lt.2 (by omega))⟩)

theorem two_ne (h : Nat) (hp : 0 < h) : ((2 * h : Nat) : Int) ≠ 1 := by omega

theorem btw_any (r num den : Nat) (h0 : 4300000000000000000 ≤ r) (h1 : r < 4900000000000000000) (hn : num < 18446744073709551616) (hd : den < 18446744073709551616) (d0 : 0 < den) (w : World) :
    Calls Try.prog 14 #[.float .f64 r, .float .f64 (r + 1), .int .u64 num, .int .u64 den] w fun e w' => e = .returned (.tuple #[.int .i64 (mid r num den), .int .i64 0]) ∧ w' = w := by
  have hU := Un_pos
  have ra : rg r < 9218868437227405312 := by rw [rg_small (by omega)]; omega
  have rb : rg (r + 1) < 9218868437227405312 := by rw [rg_small (by omega)]; omega
  have ha : ∀ c, cmpv r num den = c → ∀ w, Calls Try.prog 18 #[.float .f64 r, .int .u64 num, .int .u64 den] w fun e w' => e = .returned (.tuple #[.int .i64 c, .int .i64 0]) ∧ w' = w := by
    rintro c rfl w; exact rcmp_fin r num den ra hn hd d0 w
  have hb : ∀ c, cmpv (r + 1) num den = c → ∀ w, Calls Try.prog 18 #[.float .f64 (r + 1), .int .u64 num, .int .u64 den] w fun e w' => e = .returned (.tuple #[.int .i64 c, .int .i64 0]) ∧ w' = w := by
    rintro c rfl w; exact rcmp_fin (r + 1) num den rb hn hd d0 w
  have ca := cmpv_pos r num den (by omega)
  have cb := cmpv_pos (r + 1) num den (by omega)
  have vs := V_succ r
  have vd : V r * den < V (r + 1) * den := Nat.mul_lt_mul_of_pos_right vs d0
  have sm : (V r + V (r + 1)) * den = V r * den + V (r + 1) * den := Nat.add_mul _ _ _
  by_cases c1 : num * Un ≤ V r * den
  · refine btw_low r num den (mid r num den) _ _ ?_ ?_ (ha _ rfl) (hb _ rfl) w
    · unfold mid; rw [sm]; exact cmpi_lt (Int.ofNat_lt.2 (by omega))
    · rw [ca]; unfold cmpi; rw [if_neg (by omega)]; split <;> decide
  · have e1 : cmpv r num den = -1 := by rw [ca]; exact cmpi_lt (Int.ofNat_lt.2 (by omega))
    by_cases c2 : V (r + 1) * den ≤ num * Un
    · refine btw_high r num den (mid r num den) _ ?_ ?_ (ha _ e1) (hb _ rfl) w
      · unfold mid; rw [sm]; exact cmpi_gt (Int.ofNat_lt.2 (by omega))
      · rw [cb]; unfold cmpi; split
        · decide
        · rw [if_pos (by omega)]; decide
    · have e2 : cmpv (r + 1) num den = 1 := by rw [cb]; exact cmpi_gt (Int.ofNat_lt.2 (by omega))
      have q1 : mg r * 2 ^ xp r * den < num * Un := by rw [← V_mg]; omega
      have q2 : num * Un < (mg r + 1) * 2 ^ xp r * den := by rw [← V_next]; omega
      have md : mid r num den = cmpi ((2 * (num * Un) : Nat) : Int) (((mg r * 2 ^ xp r + (mg r + 1) * 2 ^ xp r) * den : Nat) : Int) := by unfold mid; rw [V_next, V_mg]
      have hsub : ∀ w, (binOp .sub 24 (.float .f64 (r + 1)) (.float .f64 r)).run Try.prog w = .ok (.float .f64 ((xp r - 51) * 4503599627370496)) w := fun w => run_float_arith w .sub _ _ _ _ _ (step_f (by omega) (by omega))
      have x0 : 900 ≤ xp r := by unfold xp; omega
      have x1 : xp r < 1100 := by unfold xp; omega
      have eqn : (num : Int) / den = ((num / den : Nat) : Int) := (Int.natCast_ediv _ _).symm
      have eqm : (num : Int) % den = ((num % den : Nat) : Int) := (Int.natCast_emod _ _).symm
      have bq : num / den < 18446744073709551616 := Nat.lt_of_le_of_lt (Nat.div_le_self _ _) hn
      have hm := Nat.mod_lt num d0
      clear sm vd vs ca cb c1 c2
      rcases Nat.lt_trichotomy (xp r) 1074 with c | c | c
      · have eU : Un = 2 ^ (1074 - xp r) * 2 ^ xp r := by rw [← Nat.pow_add, Un_at _ (by omega)]
        have mf := mid_frac (mg r) (xp r) den (1074 - xp r) num d0 Un eU q1 q2
        rw [← md] at mf
        have hl : num * 2 ^ (1074 - xp r) % den < den := Nat.mod_lt _ d0
        have tw := twice _ den hl
        rw [← mf] at tw
        exact btw_frac r num den (xp r - 51) (1074 - xp r) 0 _ _ _ d0 hd (by omega) (by omega) (by omega) (ha _ e1) (hb _ e2) hsub (by rw [Nat.pow_zero, Nat.mul_one]; exact eqm)
          (fun w => double_any _ den hl hd w) tw w
      · have eU : Un = 2 ^ 0 * 2 ^ xp r := by rw [Nat.pow_zero, Nat.one_mul, Un_at _ c]
        have mf := mid_frac (mg r) (xp r) den 0 num d0 Un eU q1 q2
        rw [← md, Nat.pow_zero, Nat.mul_one] at mf
        have tw := twice _ den hm
        rw [← mf] at tw
        have vr : V r = mg r * Un := by rw [V_mg, Un_at _ c]
        have st : (xp r - 51) * 4503599627370496 = 4607182418800017408 := by rw [c]
        rw [st] at hsub
        refine btw_one r num den 4607182418800017408 (mg r) (num / den) (num % den) _ _ _ d0 (ha _ e1) (hb _ e2) hsub (by decide +kernel) (fun w => conv_whole (mg r) (by omega) vr ?_ w)
          (fun w => conv_whole 1 (by decide) (by rw [V1, Nat.one_mul]) (by decide) w) eqn bq eqm (fun w => double_any _ den hm hd w) tw w
        have := mg_lt r; omega
      · have hS : 2 ^ xp r = 2 ^ (xp r - 1074) * Un := by rw [Un_pow, show xp r - 1074 + 1074 = xp r by omega]
        have hH : 2 ^ (xp r - 1074) = 2 * 2 ^ (xp r - 1075) := by rw [show xp r - 1074 = (xp r - 1075) + 1 by omega, Nat.pow_succ, Nat.mul_comm]
        have vr : V r = mg r * 2 ^ (xp r - 1074) * Un := by rw [V_mg, hS, Nat.mul_assoc]
        have vst : V ((xp r - 51) * 4503599627370496) = 2 ^ (xp r - 1074) * Un := by
          rw [← V_pw2 (xp r - 1074), show xp r - 1074 + 1023 = xp r - 51 by omega]
        rw [hS, ← Nat.mul_assoc] at q1
        rw [hS, ← Nat.mul_assoc] at q2
        rw [hS, ← Nat.mul_assoc (mg r), ← Nat.mul_assoc (mg r + 1)] at md
        obtain ⟨lo, mm⟩ := mid_many (mg r) (2 ^ (xp r - 1074)) (2 ^ (xp r - 1075)) den num Un d0 hU hH q1 q2
        rw [← md] at mm
        have hp : 2 ^ (xp r - 1074) < 18446744073709551616 := Nat.pow_lt_pow_right (by decide) (show xp r - 1074 < 64 by omega)
        have eh : ((2 ^ (xp r - 1074) : Nat) : Int) / 2 = ((2 ^ (xp r - 1075) : Nat) : Int) := by
          rw [hH]
          generalize 2 ^ (xp r - 1075) = h
          omega
        have h2 : (((2 ^ (xp r - 1074) : Nat) : Int) == 1) = false := by
          have hp2 := Nat.two_pow_pos (xp r - 1075)
          rw [beq_eq_false_iff_ne, hH]
          exact two_ne _ hp2
        have hh : 2 ^ (xp r - 1075) < 18446744073709551616 := Nat.pow_lt_pow_right (by decide) (show xp r - 1075 < 64 by omega)
        exact btw_many r num den _ (mg r * 2 ^ (xp r - 1074)) (num / den) (num % den) (2 ^ (xp r - 1074)) (2 ^ (xp r - 1075)) _ d0 (ha _ e1) (hb _ e2) hsub (not_lt_one (by omega) (by omega))
          (fun w => conv_whole _ (by omega) vr (by omega) w) (fun w => conv_whole _ (by omega) vst hp w) eh hh h2 eqn bq eqm lo mm w
end Go.Proofs.Ytfoliapennaneaa
