/- RatioCmp's walk: the program holds a float against a fraction as the document does. -/
import Derived.Test.YtfoliapennaneaaRefCmpF
namespace Go.Proofs.Ytfoliapennaneaa
open Go.RowKit Go.Shelf
set_option linter.unusedVariables false

theorem SV64 : SV 4895412794951729152 = 18446744073709551616 * (Un : Int) := by
  rw [SV_small (by decide), V64, Int.natCast_mul]; rfl

theorem mul3r (U q d : Nat) : U * q * d = q * d * U := by ac_rfl

theorem rcmp_fin (x num den : Nat) (hx : rg x < 9218868437227405312) (hn : num < 18446744073709551616) (hd : den < 18446744073709551616) (d0 : 0 < den) (w : World) :
    Calls Try.prog 18 #[.float .f64 x, .int .u64 num, .int .u64 den] w fun e w' => e = .returned (.tuple #[.int .i64 (cmpv x num den), .int .i64 0]) ∧ w' = w := by
  have hU := Un_pos
  have c1 : (FloatKind.f64.format.order x 0 == some .lt) = decide (SV x < 0) := by rw [fmt, f_lt hx (by decide)]; rfl
  have c2 : (FloatKind.f64.format.order x 4895412794951729152 == some .gt || FloatKind.f64.format.order x 4895412794951729152 == some .eq) = decide (18446744073709551616 * (Un : Int) ≤ SV x) := by rw [fmt, f_ge hx (by decide), SV64]
  by_cases h1 : SV x < 0
  · have e : cmpv x num den = -1 := by
      unfold cmpv
      have a1 : SV x * den < 0 := Int.mul_neg_of_neg_of_pos h1 (by omega)
      exact cmpi_lt (by omega)
    rw [e]
    exact rcmp_neg x num den hx d0 (by rw [c1]; exact decide_eq_true h1) w
  · by_cases h2 : 18446744073709551616 * (Un : Int) ≤ SV x
    · have e : cmpv x num den = 1 := by
        unfold cmpv
        have a1 : SV x * 1 ≤ SV x * den := Int.mul_le_mul_of_nonneg_left (by omega) (by omega)
        have a2 : num * Un < 18446744073709551616 * Un := Nat.mul_lt_mul_of_pos_right hn hU
        rw [Int.mul_one] at a1
        generalize num * Un = X at *
        refine cmpi_gt ?_
        omega
      rw [e]
      exact rcmp_big x num den hx d0 (by rw [c1]; exact decide_eq_false h1) (by rw [c2]; exact decide_eq_true h2) w
    · obtain ⟨t, t1, t2, t3⟩ := frac_sub hx (by omega)
      have sv : SV x = V (rg x) := by
        cases hs : sg x
        · unfold SV; rw [hs]; rfl
        · unfold SV at h1 ⊢; rw [hs] at h1 ⊢
          have z : V (rg x) = 0 := by simp at h1; omega
          rw [z]; rfl
      have hN : V (rg x) / Un < 18446744073709551616 := by
        refine (Nat.div_lt_iff_lt_mul hU).2 ?_
        rw [sv] at h2; omega
      have hdv := Nat.div_add_mod (V (rg x)) Un
      have hmv := Nat.mod_lt (V (rg x)) hU
      have hdn := Nat.div_add_mod num den
      have hmn := Nat.mod_lt num d0
      have hc : ∀ w, (convert 24 22 (.float .f64 x)).run Try.prog w = .ok (.int .u64 ((V (rg x) / Un : Nat) : Int)) w := fun w => by
        have := run_convert_float_int (P := Try.prog) w 24 22 .f64 .u64 x (tru x) (by kernel_rfl) (by kernel_rfl) (toVal_u hx (by rw [t3]; exact Int.natCast_nonneg _) (by rw [t3]; omega))
        rw [t3] at this; exact this
      have cv : cmpv x num den = cmpi (((V (rg x)) * den : Nat) : Int) ((num * Un : Nat) : Int) := by unfold cmpv; rw [sv, ← Int.natCast_mul]
      have eqn : (num : Int) / den = ((num / den : Nat) : Int) := (Int.natCast_ediv _ _).symm
      have eqm : (num : Int) % den = ((num % den : Nat) : Int) := (Int.natCast_emod _ _).symm
      have bq : num / den < 18446744073709551616 := Nat.lt_of_le_of_lt (Nat.div_le_self _ _) hn
      have s1 : (FloatKind.f64.format.order x 0 == some .lt) = false := by rw [c1]; exact decide_eq_false h1
      have s2 : (FloatKind.f64.format.order x 4895412794951729152 == some .gt || FloatKind.f64.format.order x 4895412794951729152 == some .eq) = false := by rw [c2]; exact decide_eq_false h2
      clear c1 c2 h1 h2 sv
      rw [cv]
      clear cv
      by_cases ne : V (rg x) / Un = num / den
      · have hsub : ∀ w, (binOp .sub 24 (.float .f64 x) (.float .f64 (floatOfInt .f64 ((V (rg x) / Un : Nat) : Int)))).run Try.prog w = .ok (.float .f64 t) w := fun w => by
          rw [← t3]; exact run_float_arith w .sub _ _ _ _ _ t1
        refine rcmp_bits x num den (V (rg x) / Un) (num % den) t _ hx d0 hd s1 s2 hc (by rw [ne]; exact eqn) hN eqm hmn hsub ⟨V (rg x) % Un, t2, hmv, ?_, Bd.start _ _⟩ w
        -- the whole parts are the same
        have e1 : V (rg x) * den = V (rg x) % Un * den + num / den * den * Un := by
          have : V (rg x) * den = (Un * (V (rg x) / Un) + V (rg x) % Un) * den := by rw [hdv]
          rw [this, ne, Nat.add_mul, Nat.add_comm, mul3r]
        have e2 : num * Un = num % den * Un + num / den * den * Un := by
          have : num * Un = (den * (num / den) + num % den) * Un := by rw [hdn]
          rw [this, Nat.add_mul, Nat.add_comm, Nat.mul_comm den]
        rw [e1, e2]
        generalize V (rg x) % Un * den = A
        generalize num % den * Un = B
        generalize num / den * den * Un = C
        rcases Nat.lt_trichotomy A B with k | k | k
        · rw [cmpi_lt (Int.ofNat_lt.2 k), cmpi_lt (Int.ofNat_lt.2 (by omega))]
        · rw [cmpi_eq (by omega), cmpi_eq (by omega)]
        · rw [cmpi_gt (Int.ofNat_lt.2 k), cmpi_gt (Int.ofNat_lt.2 (by omega))]
      · refine rcmp_whole x num den (V (rg x) / Un) (num / den) _ hx d0 s1 s2 hc eqn bq ?_ w
        rcases Nat.lt_or_ge (V (rg x) / Un) (num / den) with k | k
        · refine .inl ⟨k, cmpi_lt (Int.ofNat_lt.2 ?_)⟩
          have a1 : V (rg x) < num / den * Un := (Nat.div_lt_iff_lt_mul hU).1 k
          have a2 : V (rg x) * den < num / den * Un * den := Nat.mul_lt_mul_of_pos_right a1 d0
          have a3 : num / den * den * Un ≤ num * Un := Nat.mul_le_mul_right _ (Nat.div_mul_le_self _ _)
          rw [Nat.mul_assoc, Nat.mul_comm Un, ← Nat.mul_assoc] at a2
          exact Nat.lt_of_lt_of_le a2 a3
        · refine .inr ⟨by omega, cmpi_gt (Int.ofNat_lt.2 ?_)⟩
          have k2 : num / den + 1 ≤ V (rg x) / Un := by omega
          have a1 : (num / den + 1) * Un ≤ V (rg x) := (Nat.le_div_iff_mul_le hU).1 k2
          have a2 : num < (num / den + 1) * den := Nat.lt_mul_of_div_lt (by omega) d0
          have a3 : num * Un < (num / den + 1) * den * Un := Nat.mul_lt_mul_of_pos_right a2 hU
          have a4 : (num / den + 1) * Un * den ≤ V (rg x) * den := Nat.mul_le_mul_right _ a1
          rw [Nat.mul_assoc, Nat.mul_comm den, ← Nat.mul_assoc] at a3
          exact Nat.lt_of_lt_of_le a3 a4

set_option maxRecDepth 10000 in
set_option maxHeartbeats 2000000 in
theorem lcmp_core (x num den : Nat) (d : Int) (c e : Int) (k : Nat)
    (h1 : Hid (∀ w, Calls Try.prog 17 #[.float .f64 x, .int .u64 num, .int .u64 d] w fun r w' => r = .returned (.tuple #[.int .i64 c, .int .i64 e]) ∧ Gb w w'))
    (h2 : Hid (∀ w, Calls Try.prog 18 #[.float .f64 x, .int .u64 num, .int .u64 d] w fun r w' => r = .returned (.tuple #[.int .i64 c, .int .i64 e]) ∧ ∃ n, w' = w.drewN n)) (w : World) :
    Calls Try.prog 6 #[.int .u64 x, .int .u64 num, .int .u64 d] w fun e w' => e = .returned (.bool true) ∧ Gb w w' := by
  have t1 : (x : Int).toNat = x := Int.toNat_natCast x
  go_enter Try.func6, Try.ntmps6
  go_wp2_with fail
  refine (shown_any _).mono ?_
  rintro e w1 ⟨rfl, g1⟩
  go_wp2_with (simp only [f64from])
  refine (h1.out _).mono ?_
  rintro e w2 ⟨rfl, g2⟩
  go_wp2_with fail
  refine (h2.out _).mono ?_
  rintro e w3 ⟨rfl, n, rfl⟩
  go_wp2
  go_ret
  exact ⟨rfl, (g1.trans g2).drewN n⟩

theorem cmp_law (x : Int) (x0 : 0 ≤ x) (x1 : x < 18446744073709551616) (num : Int) (h0 : 0 ≤ num) (h1 : num < 18446744073709551616) (den : Int) (h2 : 0 ≤ den) (h3 : den < 18446744073709551616) (w : World) :
    Calls Try.prog 6 #[.int .u64 x, .int .u64 num, .int .u64 den] w fun e w' => e = .returned (.bool true) ∧ Gb w w' := by
  obtain ⟨x, rfl⟩ := Int.eq_ofNat_of_zero_le x0
  obtain ⟨num, rfl⟩ := Int.eq_ofNat_of_zero_le h0
  obtain ⟨den, rfl⟩ := Int.eq_ofNat_of_zero_le h2
  have hx : x < 18446744073709551616 := by omega
  have hn : num < 18446744073709551616 := by omega
  have hd : den < 18446744073709551616 := by omega
  rcases Nat.eq_zero_or_pos den with z | z
  · subst z
    exact lcmp_core x num 0 0 0 20 0 (fun w => (cmp_zero_den x num w).mono fun e w' h => ⟨h.1, by rw [h.2]; exact Gb.refl _⟩) (fun w => (rcmp_zero_den x num w).mono fun e w' h => ⟨h.1, 0, h.2⟩) w
  · rcases Nat.lt_or_ge (rg x) 9218868437227405312 with f | f
    · exact lcmp_core x num den den (cmpv x num den) 0 0 (fun w => cmp_fin x num den hx f hn hd z w) (fun w => (rcmp_fin x num den f hn hd z w).mono fun e w' h => ⟨h.1, 0, h.2⟩) w
    · exact lcmp_core x num den den 0 21 0 (fun w => (cmp_nofin x num den hx f z w).mono fun e w' h => ⟨h.1, by rw [h.2]; exact Gb.refl _⟩) (fun w => (rcmp_nofin x num den f z w).mono fun e w' h => ⟨h.1, 1, h.2⟩) w
end Go.Proofs.Ytfoliapennaneaa
