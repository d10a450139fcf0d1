/- RatioLowest's walk: both answers are the fraction in lowest terms, and its float is the same. -/
import Derived.Test.YtfoliapennaneaaRShown
import Derived.Test.YtfoliapennaneaaRefLow
namespace Go.Proofs.Ytfoliapennaneaa
open Go.RowKit Go.Shelf
set_option linter.unusedVariables false

theorem mul4 (a U b g : Nat) : a * U * (b * g) = a * g * U * b := by ac_rfl

/-- Near of the fraction and of the same one in lowest terms. -/
theorem near_low (num den : Nat) (hn : num < 18446744073709551616) (hd : den < 18446744073709551616) (d0 : 0 < den) :
    ∃ b, (∀ w, Calls Try.prog 10 #[.int .u64 num, .int .u64 den] w fun e w' => e = .returned (.tuple #[.float .f64 b, .int .i64 0]) ∧ ∃ n, w' = w.drewN n) ∧
      (∀ w, Calls Try.prog 10 #[.int .u64 ((num / num.gcd den : Nat) : Int), .int .u64 ((den / num.gcd den : Nat) : Int)] w fun e w' => e = .returned (.tuple #[.float .f64 b, .int .i64 0]) ∧ ∃ n, w' = w.drewN n) := by
  have hg : 0 < num.gcd den := Nat.gcd_pos_of_pos_right _ d0
  have b1 : num / num.gcd den < 18446744073709551616 := Nat.lt_of_le_of_lt (Nat.div_le_self _ _) hn
  have b2 : den / num.gcd den < 18446744073709551616 := Nat.lt_of_le_of_lt (Nat.div_le_self _ _) hd
  have m1 : num / num.gcd den * num.gcd den = num := Nat.div_mul_cancel (Nat.gcd_dvd_left _ _)
  have m2 : den / num.gcd den * num.gcd den = den := Nat.div_mul_cancel (Nat.gcd_dvd_right _ _)
  have p2 : 0 < den / num.gcd den := Nat.pos_of_mul_pos_right (by rw [m2]; exact d0)
  rcases Nat.eq_zero_or_pos num with z | z
  · refine ⟨0, fun w => ?_, fun w => ?_⟩
    · subst z
      exact (near_zero_num den d0 w).mono fun e w' h => ⟨h.1, 0, h.2⟩
    · subst z
      rw [Nat.zero_div]
      exact (near_zero_num _ p2 w).mono fun e w' h => ⟨h.1, 0, h.2⟩
  · have p1 : 0 < num / num.gcd den := Nat.pos_of_mul_pos_right (by rw [m1]; exact z)
    obtain ⟨b, n1, -, -, c1⟩ := near_ex num den hn hd z d0
    obtain ⟨b', n2, -, -, c2⟩ := near_ex _ _ b1 b2 p1 p2
    have e : b = b' := by
      refine n1.uniq (n2.scale p2 d0 ?_) d0
      have : num / num.gcd den * Un * (den / num.gcd den * num.gcd den) = num / num.gcd den * num.gcd den * Un * (den / num.gcd den) := mul4 _ _ _ _
      rw [m1, m2] at this
      exact this
    subst e
    exact ⟨b, c1, c2⟩

set_option maxRecDepth 10000 in
set_option maxHeartbeats 2000000 in
theorem llow_zero (num : Nat) (hn : num < 18446744073709551616) (w : World) :
    Calls Try.prog 5 #[.int .u64 num, .int .u64 0] w fun e w' => e = .returned (.bool true) ∧ Gb w w' := by
  go_enter Try.func5, Try.ntmps5
  go_wp2_with fail
  refine (shown_any _).mono ?_
  rintro e w1 ⟨rfl, g1⟩
  go_wp2_with fail
  refine (lowest_zero num _).mono ?_
  unfold lowz
  rintro e w2 ⟨rfl, g2⟩
  go_wp2_with fail
  refine (rlowest_zero num _).mono ?_
  unfold lowz
  rintro e w3 ⟨rfl, g3⟩
  obtain ⟨k0, k1, k2⟩ := (H2.new w2 (.int .u64 0) (.int .u64 0) 36).gb g3
  go_wp2
  go_ret
  exact ⟨rfl, ((g1.trans g2).alloc _ _).trans (g3.alloc _ _)⟩

set_option maxRecDepth 10000 in
set_option maxHeartbeats 2000000 in
theorem llow_core (num den a b f : Nat) (hd0 : 0 < den) (hn : num < 18446744073709551616) (hd : den < 18446744073709551616)
    (h1 : Hid (∀ w, Calls Try.prog 15 #[.int .u64 num, .int .u64 den] w fun e w' => e = .returned (.tuple #[.agg #[.int .u64 a, .int .u64 b], .int .i64 0]) ∧ Gb w w'))
    (h2 : Hid (∀ w, Calls Try.prog 16 #[.int .u64 num, .int .u64 den] w fun e w' => e = .returned (.tuple #[.agg #[.int .u64 a, .int .u64 b], .int .i64 0]) ∧ Gb w w'))
    (h3 : Hid (∀ w, Calls Try.prog 10 #[.int .u64 num, .int .u64 den] w fun e w' => e = .returned (.tuple #[.float .f64 f, .int .i64 0]) ∧ ∃ n, w' = w.drewN n))
    (h4 : Hid (∀ w, Calls Try.prog 10 #[.int .u64 a, .int .u64 b] w fun e w' => e = .returned (.tuple #[.float .f64 f, .int .i64 0]) ∧ ∃ n, w' = w.drewN n)) (w : World) :
    Calls Try.prog 5 #[.int .u64 num, .int .u64 den] w fun e w' => e = .returned (.bool true) ∧ Gb w w' := by
  go_enter Try.func5, Try.ntmps5
  go_wp2_with fail
  refine (shown_any _).mono ?_
  rintro e w1 ⟨rfl, g1⟩
  go_wp2_with fail
  refine (h1.out _).mono ?_
  rintro e w2 ⟨rfl, g2⟩
  go_wp2_with fail
  refine (h2.out _).mono ?_
  rintro e w3 ⟨rfl, g3⟩
  obtain ⟨k0, k1, k2⟩ := (H2.new w2 (.int .u64 a) (.int .u64 b) 36).gb g3
  go_wp2_with fail
  refine (h3.out _).mono ?_
  rintro e w4 ⟨rfl, n, rfl⟩
  go_wp2_with fail
  refine (h4.out _).mono ?_
  rintro e w5 ⟨rfl, m, rfl⟩
  go_wp2_with (simp only [f64bits])
  go_ret
  refine ⟨rfl, ?_⟩
  exact (((g1.trans g2).alloc _ _).trans (g3.alloc _ _)).drewN _

theorem lowest_law (num : Int) (h0 : 0 ≤ num) (h1 : num < 18446744073709551616) (den : Int) (h2 : 0 ≤ den) (h3 : den < 18446744073709551616) (w : World) :
    Calls Try.prog 5 #[.int .u64 num, .int .u64 den] w fun e w' => e = .returned (.bool true) ∧ Gb w w' := by
  obtain ⟨num, rfl⟩ := Int.eq_ofNat_of_zero_le h0
  obtain ⟨den, rfl⟩ := Int.eq_ofNat_of_zero_le h2
  have hn : num < 18446744073709551616 := by omega
  have hd : den < 18446744073709551616 := by omega
  rcases Nat.eq_zero_or_pos den with z | z
  · subst z
    exact llow_zero num hn w
  · obtain ⟨f, c1, c2⟩ := near_low num den hn hd z
    exact llow_core num den _ _ f z hn hd (fun w => lowest_any num den hn hd z w) (fun w => rlowest_any num den hn hd z w) c1 c2 w
end Go.Proofs.Ytfoliapennaneaa
