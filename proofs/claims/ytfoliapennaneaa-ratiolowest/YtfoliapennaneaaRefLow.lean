/- The document's Lowest: the same answer. -/
import Derived.Test.YtfoliapennaneaaRLow
namespace Go.Proofs.Ytfoliapennaneaa
open Go.RowKit Go.Shelf
set_option linter.unusedVariables false

theorem rlowest_zero (num : Nat) (w : World) :
    Calls Try.prog 16 #[.int .u64 num, .int .u64 0] w fun e w' => e = .returned lowz ∧ Gb w w' := by
  go_enter Try.func16, Try.ntmps16
  go_wp2
  refine bodyPost_ret (v := lowz) (by simp [lowz, results, Try.results16, go_sem]) rfl ⟨rfl, ((Gb.refl w).alloc _ _)⟩

set_option maxHeartbeats 400000 in
theorem rlowest_any (num den : Nat) (hn : num < 18446744073709551616) (hd : den < 18446744073709551616) (h0 : 0 < den) (w : World) :
    Calls Try.prog 16 #[.int .u64 num, .int .u64 den] w fun e w' => e = .returned (lowv num den) ∧ Gb w w' := by
  have hg : 0 < num.gcd den := Nat.gcd_pos_of_pos_right _ h0
  have h1 : ((den : Int) == 0) = false := by simp; omega
  have h2 : ((num.gcd den : Int) == 0) = false := by simp; omega
  have e1 : (num : Int) / (num.gcd den : Nat) = ((num / num.gcd den : Nat) : Int) := (Int.natCast_ediv _ _).symm
  have e2 : (den : Int) / (num.gcd den : Nat) = ((den / num.gcd den : Nat) : Int) := (Int.natCast_ediv _ _).symm
  have b1 : num / num.gcd den < 18446744073709551616 := Nat.lt_of_le_of_lt (Nat.div_le_self _ _) hn
  have b2 : den / num.gcd den < 18446744073709551616 := Nat.lt_of_le_of_lt (Nat.div_le_self _ _) hd
  unfold lowv
  generalize num / num.gcd den = a at *
  generalize den / num.gcd den = b at *
  generalize hG : num.gcd den = G at *
  have hG' : Hid (num.gcd den = G) := hG
  clear hG
  go_enter Try.func16, Try.ntmps16
  go_wp2
  go_loop [6, 7] (fun p q => ∃ c d : Nat, p = .int .u64 c ∧ q = .int .u64 d ∧ c < 18446744073709551616 ∧ d < 18446744073709551616 ∧ Hid (Nat.gcd c d = G)) (fun p _ => (intOf p).toNat)
  case atStart => exact ⟨num, den, rfl, rfl, hn, hd, hG'⟩
  case round =>
    obtain ⟨c, d, rfl, rfl, hc, hd, hg⟩ := hrel
    by_cases h : c = 0
    · have h1 : ¬ 0 < c := by omega
      obtain rfl : d = G := by
        have := hg.out
        rw [h, Nat.gcd_zero_left] at this
        exact this
      clear hg h hG'
      go_wp2
      go_region
      all_goals
        go_wp2
        refine bodyPost_ret (v := .tuple #[.agg #[.int .u64 a, .int .u64 b], .int .i64 0]) (by simp [results, Try.results16, go_sem]) rfl ⟨rfl, ((Gb.refl w).alloc _ _).drew⟩
    · have h0 : 0 < c := by omega
      have h1 : ((c : Int) == 0) = false := by simp; omega
      have h2 : (d : Int) % c = ((d % c : Nat) : Int) := (Int.natCast_emod d c).symm
      have h3 : d % c < c := Nat.mod_lt _ (by omega)
      have hg2 : Hid ((d % c).gcd c = G) := show _ = _ from (Nat.gcd_rec c d).symm.trans hg.out
      clear hg
      go_wp2
      exact ⟨⟨d % c, c, by first | rfl | rw [h2], rfl, by omega, hc, hg2⟩, by simp [intOf]; omega⟩

end Go.Proofs.Ytfoliapennaneaa
