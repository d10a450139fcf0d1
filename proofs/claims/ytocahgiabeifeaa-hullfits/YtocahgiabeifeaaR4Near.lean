/- The document's Near: whether a line with a slope is near to keys. -/
import Derived.Test.YtocahgiabeifeaaR4Fit
import Derived.Test.YtocahgiabeifeaaNCmp
import Derived.Test.YtocahgiabeifeaaNTimes
import Derived.Deep.DeepCutAuto
import Derived.Deep.RegionWith
namespace Go.Proofs.Ytocahgiabeifeaa
open Go.RowKit
set_option linter.unusedVariables false

theorem product_any (a b : Int) (a0 : 0 ≤ a) (a1 : a < 18446744073709551616) (b0 : 0 ≤ b) (b1 : b < 18446744073709551616) (hab : a * b < 170141183460469231731687303715884105728) (w : World) :
    Calls Try.prog 34 #[.int .u64 a, .int .u64 b] w fun e w' => e = .returned (.agg #[.int .i64 (hiv (a * b)), .int .u64 (lov (a * b))]) ∧ Gb w w' := by
  have hp : 0 ≤ a * b := Int.mul_nonneg a0 b0
  obtain ⟨h, hh⟩ : ∃ h, a * b / 18446744073709551616 = h := ⟨_, rfl⟩
  obtain ⟨l, hl⟩ : ∃ l, a * b % 18446744073709551616 = l := ⟨_, rfl⟩
  have e1 : hiv (a * b) = h := by unfold hiv; omega
  have e2 : lov (a * b) = l := by unfold lov; omega
  have hw : IntKind.i64.wrap h = h := by rw [IntKind.wrap_i64]; omega
  have hA := whole_any a b a0 a1 b0 b1
  rw [hh, hl] at hA
  have HA : Hid (∀ w : World, Calls Try.prog 33 #[.int .u64 a, .int .u64 b] w fun e w' => e = .returned (.tuple #[.int .u64 h, .int .u64 l]) ∧ w' = w) := hA
  rw [e1, e2]
  clear hA e1 e2 hh hl hab hp
  go_enter Try.func34, Try.ntmps34
  go_wp2_with fail
  refine (HA.out _).mono ?_
  rintro e w1 ⟨rfl, rfl⟩
  go_wp2_with fail
  refine bodyPost_ret (v := .agg #[.int .i64 h, .int .u64 l]) (by simp [results, Try.results34, go_sem]) rfl ⟨rfl, (Gb.refl w).alloc _ _⟩

theorem rsub_w (x y z : Int) (e : x - y = z) (w : World) :
    Calls Try.prog 35 #[.agg #[.int .i64 (hiv (x)), .int .u64 (lov (x))], .agg #[.int .i64 (hiv (y)), .int .u64 (lov (y))]] w fun e w' => e = .returned (.agg #[.int .i64 (hiv (z)), .int .u64 (lov (z))]) ∧ Gb w w' := by
  have := rsub_any x y w
  rw [show x + -y = z by omega] at this
  exact this

end Go.Proofs.Ytocahgiabeifeaa
