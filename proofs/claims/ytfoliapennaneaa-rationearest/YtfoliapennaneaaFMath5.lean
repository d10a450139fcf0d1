/- What is behind the point of a float, bit by bit: exact: no Go in it. -/
import Derived.Test.YtfoliapennaneaaFMath4
namespace Go.Proofs.Ytfoliapennaneaa
open Ieee
set_option linter.unusedVariables false

/-- m times 2^e is a float, where m has 53 bits. -/
theorem rep (e : Nat) : ∀ m : Nat, m ≤ 9007199254740992 → ∃ b, V b = m * 2 ^ e ∧ b ≤ e * 4503599627370496 + m := by
  induction e with
  | zero =>
    intro m hm
    refine ⟨m, ?_, by omega⟩
    have := V_form 0 m hm (.inr rfl)
    rw [Nat.zero_mul, Nat.zero_add] at this
    exact this
  | succ e ih =>
    intro m hm
    by_cases h : 4503599627370496 ≤ m
    · exact ⟨(e + 1) * 4503599627370496 + m, V_form (e + 1) m hm (.inl h), Nat.le_refl _⟩
    · obtain ⟨b, hb, hl⟩ := ih (2 * m) (by omega)
      have hl2 : b ≤ (e + 1) * 4503599627370496 + m := by
        have hm2 : m < 4503599627370496 := Nat.lt_of_not_le h
        rw [Nat.add_mul, Nat.one_mul, Nat.add_assoc]
        refine Nat.le_trans hl (Nat.add_le_add_left ?_ _)
        clear hb ih hl h hm
        omega
      refine ⟨b, ?_, hl2⟩
      rw [hb, Nat.pow_succ, Nat.mul_comm 2 m, Nat.mul_assoc, Nat.mul_comm 2]

/-- A word that is not below 0 (or -0), and what it is. -/
def Fr (t T : Nat) : Prop := (t < 9218868437227405312 ∧ V t = T) ∨ (t = 9223372036854775808 ∧ T = 0)

theorem sg_small {t : Nat} (h : t < 9223372036854775808) : sg t = false := by unfold sg; simp; omega
theorem rg_small {t : Nat} (h : t < 9223372036854775808) : rg t = t := Nat.mod_eq_of_lt h
theorem SV_small {t : Nat} (h : t < 9223372036854775808) : SV t = V t := by unfold SV; rw [sg_small h, rg_small h]; rfl

theorem Fr.fin {t T : Nat} (h : Fr t T) : rg t < 9218868437227405312 ∧ SV t = T := by
  rcases h with ⟨h1, h2⟩ | ⟨rfl, rfl⟩
  · rw [rg_small (by omega), SV_small (by omega), h2]; exact ⟨h1, rfl⟩
  · exact ⟨by decide, by decide⟩

theorem SV1 : SV 4607182418800017408 = (Un : Int) := by rw [SV_small (by decide), V1]

theorem Fr.gt0 {t T : Nat} (h : Fr t T) : (double.order t 0 == some .gt) = decide (0 < T) := by
  obtain ⟨h1, h2⟩ := h.fin
  rw [f_gt h1 (by decide), h2, show SV 0 = 0 from rfl]
  simp
theorem Fr.ge1 {t T : Nat} (h : Fr t T) : (double.order t 4607182418800017408 == some .gt || double.order t 4607182418800017408 == some .eq) = decide (Un ≤ T) := by
  obtain ⟨h1, h2⟩ := h.fin
  rw [f_ge h1 (by decide), h2, SV1]
  simp

theorem Fr.dbl {t T : Nat} (h : Fr t T) (hT : T < Un) : ∃ t', double.mul 4611686018427387904 t = some t' ∧ Fr t' (2 * T) := by
  rcases h with ⟨h1, h2⟩ | ⟨rfl, rfl⟩
  · have : t < 4607182418800017408 := V_lt_iff.1 (by rw [h2, V1]; exact hT)
    have hl := dbl_le t
    exact ⟨_, two_mul_f (by omega), .inl ⟨by omega, by rw [V_dbl, h2]⟩⟩
  · exact ⟨9223372036854775808, by decide +kernel, .inr ⟨rfl, by rfl⟩⟩

theorem sub_exact {x y b0 : Nat} (hx : rg x < 9218868437227405312) (hy : rg y < 9218868437227405312) (hb : b0 < 9218868437227405312) (T : Nat) (hT : SV x - SV y = T) (hV : V b0 = T) (hs : sg y = false) :
    ∃ t, double.sub x y = some t ∧ Fr t T := by
  obtain ⟨b, h1, h2⟩ := sub_fin hx hy
  rw [hT, Int.natAbs_natCast] at h1
  rw [hT] at h2
  have e : b = b0 := h1.uniq (Nr.of_eq (by decide) (by omega)) (by decide)
  rw [e, Nat.min_eq_left (by omega)] at h2
  refine ⟨_, h2, ?_⟩
  by_cases z : T = 0
  · have : b0 = 0 := V_inj (by rw [hV, z, V_zero])
    subst this
    rw [if_pos (by omega)]
    cases hc : (sg x && !sg y)
    · exact .inl ⟨by rw [word_false]; decide, by rw [word_false, V_zero, z]⟩
    · exact .inr ⟨by decide, z⟩
  · rw [if_neg (by omega), show decide ((T : Int) < 0) = false from decide_eq_false (by omega), word_false]
    exact .inl ⟨hb, hV⟩

theorem Fr.sub1 {t T : Nat} (h : Fr t T) (h1 : Un ≤ T) (h2 : T < 2 * Un) : ∃ t', double.sub t 4607182418800017408 = some t' ∧ Fr t' (T - Un) := by
  have hU := Un_pos
  obtain ⟨f1, f2⟩ := h.fin
  have ⟨g1, g2⟩ : t < 9218868437227405312 ∧ V t = T := by
    rcases h with g | ⟨_, g⟩
    · exact g
    · omega
  have a1 : 4607182418800017408 ≤ t := V_le_iff.1 (by rw [g2, V1]; exact h1)
  have a2 : t < 4611686018427387904 := V_lt_iff.1 (by rw [g2, V2]; exact h2)
  obtain ⟨j, hj⟩ : ∃ j : Nat, j = 1022 := ⟨_, rfl⟩
  have v1 := V_form j (t - j * 4503599627370496) (by omega) (.inl (by omega))
  have v2 := V_form j 4503599627370496 (by omega) (.inl (by omega))
  rw [show j * 4503599627370496 + (t - j * 4503599627370496) = t by omega, g2] at v1
  rw [show j * 4503599627370496 + 4503599627370496 = 4607182418800017408 by omega, V1] at v2
  obtain ⟨b, hb, hl⟩ := rep j (t - 4607182418800017408) (by omega)
  have e : t - j * 4503599627370496 = (t - 4607182418800017408) + 4503599627370496 := by omega
  rw [e, Nat.add_mul, ← v2] at v1
  exact sub_exact f1 (by decide) (show b < 9218868437227405312 by omega) (T - Un) (by rw [f2, SV1]; omega) (by rw [hb]; omega) (by decide)

/-- What is behind the point is a float. -/
theorem rep_frac {r : Nat} (h : r < 9218868437227405312) : ∃ b, b < 9218868437227405312 ∧ V b = V r % Un := by
  by_cases c : 1074 ≤ xp r
  · refine ⟨0, by decide, ?_⟩
    have e : V r = mg r * 2 ^ (xp r - 1074) * Un := by
      rw [V_mg, Nat.mul_assoc, Un_pow]; congr 2; omega
    rw [e, Nat.mul_mod_left, V_zero]
  · have e : Un = 2 ^ (1074 - xp r) * 2 ^ xp r := by rw [← Nat.pow_add, Un_at _ (by omega)]
    have hm := mg_lt r
    have hl := Nat.mod_le (mg r) (2 ^ (1074 - xp r))
    obtain ⟨b, hb, hl2⟩ := rep (xp r) (mg r % 2 ^ (1074 - xp r)) (by omega)
    refine ⟨b, by omega, ?_⟩
    rw [hb, V_mg, e, Nat.mul_mod_mul_right]

/-- A float from 0 on, less its whole part. -/
theorem frac_sub {x : Nat} (hx : rg x < 9218868437227405312) (h0 : 0 ≤ SV x) :
    ∃ t, double.sub x (floatOfInt .f64 (tru x)) = some t ∧ Fr t (V (rg x) % Un) ∧ tru x = ((V (rg x) / Un : Nat) : Int) := by
  have hU := Un_pos
  have hp : tru x = ((V (rg x) / Un : Nat) : Int) ∧ SV x = V (rg x) := by
    cases hs : sg x
    · unfold tru SV; rw [hs]; exact ⟨rfl, rfl⟩
    · unfold SV at h0; rw [hs] at h0
      have z : V (rg x) = 0 := by simp at h0; omega
      unfold tru SV; rw [hs, z, Nat.zero_div]; exact ⟨rfl, rfl⟩
  obtain ⟨b, hb, e1, e2, -⟩ := back_tru hx
  obtain ⟨b0, hb0, hV⟩ := rep_frac hx
  have n0 : decide (tru x < 0) = false := decide_eq_false (by rw [hp.1]; exact Int.not_lt.2 (Int.natCast_nonneg _))
  rw [n0, word_false] at e1
  have hd := Nat.div_add_mod (V (rg x)) Un
  have hT : SV x - SV (floatOfInt .f64 (tru x)) = ((V (rg x) % Un : Nat) : Int) := by
    rw [e2, hp.1, hp.2, ← Int.natCast_mul, Nat.mul_comm]
    generalize V (rg x) / Un = q at *
    generalize V (rg x) % Un = r at *
    generalize V (rg x) = v at *
    omega
  obtain ⟨t, t1, t2⟩ := sub_exact hx (by rw [e1, rg_small (by omega)]; exact hb) hb0 _ hT hV (by rw [e1]; exact sg_small (by omega))
  exact ⟨t, t1, t2, hp.1⟩
end Go.Proofs.Ytfoliapennaneaa
