/- RatioNear's walk: the program's nearest float is the document's. -/
import Derived.Test.YtfoliapennaneaaRefNear
namespace Go.Proofs.Ytfoliapennaneaa
open Go.RowKit Go.Shelf
set_option linter.unusedVariables false

set_option maxRecDepth 10000 in
set_option maxHeartbeats 2000000 in
theorem lnear_core (num den : Int) (b : Nat) (e : Int)
    (h1 : Hid (∀ w, Calls Try.prog 10 #[.int .u64 num, .int .u64 den] w fun r w' => r = .returned (.tuple #[.float .f64 b, .int .i64 e]) ∧ ∃ n, w' = w.drewN n))
    (h2 : Hid (∀ w, Calls Try.prog 11 #[.int .u64 num, .int .u64 den] w fun r w' => r = .returned (.tuple #[.float .f64 b, .int .i64 e]) ∧ w' = w)) (w : World) :
    Calls Try.prog 3 #[.int .u64 num, .int .u64 den] w fun e w' => e = .returned (.bool true) ∧ Gb w w' := by
  go_enter Try.func3, Try.ntmps3
  go_wp2_with fail
  refine (shown_any _).mono ?_
  rintro e w1 ⟨rfl, g1⟩
  go_wp2_with fail
  refine (h1.out _).mono ?_
  rintro e w2 ⟨rfl, n, rfl⟩
  go_wp2_with fail
  refine (h2.out _).mono ?_
  rintro e w3 ⟨rfl, rfl⟩
  go_wp2_with (simp only [f64bits])
  go_ret
  exact ⟨rfl, g1.drewN n⟩

theorem near_law (num : Int) (h0 : 0 ≤ num) (h1 : num < 18446744073709551616) (den : Int) (h2 : 0 ≤ den) (h3 : den < 18446744073709551616) (w : World) :
    Calls Try.prog 3 #[.int .u64 num, .int .u64 den] w fun e w' => e = .returned (.bool true) ∧ Gb w w' := by
  obtain ⟨num, rfl⟩ := Int.eq_ofNat_of_zero_le h0
  obtain ⟨den, rfl⟩ := Int.eq_ofNat_of_zero_le h2
  have hn : num < 18446744073709551616 := by omega
  have hd : den < 18446744073709551616 := by omega
  rcases Nat.eq_zero_or_pos den with z | z
  · subst z
    exact lnear_core num 0 0 20 (fun w => (near_zero_den num w).mono fun e w' h => ⟨h.1, 0, h.2⟩) (fun w => rnear_zero_den num w) w
  · rcases Nat.eq_zero_or_pos num with y | y
    · subst y
      exact lnear_core 0 den 0 0 (fun w => (near_zero_num den z w).mono fun e w' h => ⟨h.1, 0, h.2⟩) (fun w => rnear_zero_num den z w) w
    · obtain ⟨b, n1, -, -, c1⟩ := near_ex num den hn hd y z
      exact lnear_core num den b 0 c1 (fun w => rnear_any num den b hn hd y z n1 w) w
end Go.Proofs.Ytfoliapennaneaa
