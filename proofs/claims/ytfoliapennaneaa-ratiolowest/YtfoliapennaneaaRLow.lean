/- Lowest terms: both divide by the greatest common divisor. -/
import Derived.Test.YtfoliapennaneaaRBase
namespace Go.Proofs.Ytfoliapennaneaa
open Go.RowKit Go.Shelf
set_option linter.unusedVariables false

def lowv (num den : Nat) : Value := .tuple #[.agg #[.int .u64 ((num / num.gcd den : Nat) : Int), .int .u64 ((den / num.gcd den : Nat) : Int)], .int .i64 0]

set_option maxHeartbeats 400000 in
theorem lowest_any (num den : Nat) (hn : num < 18446744073709551616) (hd : den < 18446744073709551616) (h0 : 0 < den) (w : World) :
    Calls Try.prog 15 #[.int .u64 num, .int .u64 den] w fun e w' => e = .returned (lowv num den) ∧ Gb w w' := by
  have hg : 0 < num.gcd den := Nat.gcd_pos_of_pos_right _ h0
  have h1 : ((den : Int) == 0) = false := by simp; omega
  have h2 : ((num.gcd den : Int) == 0) = false := by simp; omega
  have e1 : (num : Int) / (num.gcd den : Nat) = ((num / num.gcd den : Nat) : Int) := (Int.natCast_ediv _ _).symm
  have e2 : (den : Int) / (num.gcd den : Nat) = ((den / num.gcd den : Nat) : Int) := (Int.natCast_ediv _ _).symm
  have b1 : num / num.gcd den < 18446744073709551616 := Nat.lt_of_le_of_lt (Nat.div_le_self _ _) hn
  have b2 : den / num.gcd den < 18446744073709551616 := Nat.lt_of_le_of_lt (Nat.div_le_self _ _) hd
  unfold lowv
  generalize num / num.gcd den = a at *
  generalize den / num.gcd den = b at *
  generalize hG : num.gcd den = G at *
  go_enter Try.func15, Try.ntmps15
  go_wp2_with (go_at_call 26; refine (divisor_any num den hn hd _).mono ?_; rw [hG]; rintro e w' ⟨rfl, rfl⟩)
  go_region
  all_goals
    go_wp2
    refine bodyPost_ret (v := .tuple #[.agg #[.int .u64 a, .int .u64 b], .int .i64 0]) (by simp [results, Try.results15, go_sem]) rfl ⟨rfl, ((Gb.refl w).alloc _ _).drew⟩

def lowz : Value := .tuple #[.agg #[.int .u64 0, .int .u64 0], .int .i64 20]
theorem lowest_zero (num : Nat) (w : World) :
    Calls Try.prog 15 #[.int .u64 num, .int .u64 0] w fun e w' => e = .returned lowz ∧ Gb w w' := by
  go_enter Try.func15, Try.ntmps15
  go_wp2
  refine bodyPost_ret (v := lowz) (by simp [lowz, results, Try.results15, go_sem]) rfl ⟨rfl, ((Gb.refl w).alloc _ _)⟩

end Go.Proofs.Ytfoliapennaneaa
