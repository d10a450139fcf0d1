/- Plain arithmetic of whole numbers in two words and in eight digits: no Go in it. -/
import Derived.WalkKit
namespace Go.Proofs.Ytlocnkoeffoflaa
open Go.RowKit

def hiv (v : Int) : Int := (v / 18446744073709551616 + 9223372036854775808) % 18446744073709551616 - 9223372036854775808
def lov (v : Int) : Int := v % 18446744073709551616

theorem hiv_bd (v : Int) : -9223372036854775808 ≤ hiv v ∧ hiv v < 9223372036854775808 := by
  unfold hiv; omega
theorem lov_bd (v : Int) : 0 ≤ lov v ∧ lov v < 18446744073709551616 := by
  unfold lov; omega

theorem val_eq (v : Int) : ∃ k : Int, v = hiv v * 18446744073709551616 + lov v + k * 340282366920938463463374607431768211456 := by
  unfold hiv lov
  exact ⟨(v / 18446744073709551616 + 9223372036854775808) / 18446744073709551616, by omega⟩
/-- Two words as one number. -/
theorem split_val (h l : Int) (h0 : -9223372036854775808 ≤ h) (h1 : h < 9223372036854775808) (l0 : 0 ≤ l) (l1 : l < 18446744073709551616) :
    h = hiv (h * 18446744073709551616 + l) ∧ l = lov (h * 18446744073709551616 + l) := by
  unfold hiv lov; omega
/-- The number that an Int is. -/
def sv (v : Int) : Int := hiv v * 18446744073709551616 + lov v
theorem sv_eq (v : Int) : sv v = (v + 170141183460469231731687303715884105728) % 340282366920938463463374607431768211456 - 170141183460469231731687303715884105728 := by
  unfold sv hiv lov; omega
theorem hiv_sv (v : Int) : hiv (sv v) = hiv v := by rw [sv_eq]; unfold hiv; omega
theorem lov_sv (v : Int) : lov (sv v) = lov v := by rw [sv_eq]; unfold lov; omega
theorem sv_of (v : Int) (h0 : -170141183460469231731687303715884105728 ≤ v) (h1 : v < 170141183460469231731687303715884105728) : sv v = v := by
  rw [sv_eq]; omega
theorem hi_add (x y : Int) : wrap64 ((IntKind.u64.wrap (hiv x) + IntKind.u64.wrap (hiv y) + (lov x + lov y) / 18446744073709551616) % 18446744073709551616) = hiv (x + y) := by
  rw [IntKind.wrap_u64, IntKind.wrap_u64]; unfold wrap64 hiv lov; omega
theorem lo_add (x y : Int) : (lov x + lov y) % 18446744073709551616 = lov (x + y) := by unfold lov; omega
theorem lo_sub (x y : Int) : (lov x - lov y) % 18446744073709551616 = lov (x - y) := by unfold lov; omega
/-- The borrow. -/
def bor (x y b : Int) : Int := if x < y + b then 1 else 0
theorem hi_sub (x y : Int) : wrap64 ((IntKind.u64.wrap (hiv x) - IntKind.u64.wrap (hiv y) - bor (lov x) (lov y) 0) % 18446744073709551616) = hiv (x - y) := by
  rw [IntKind.wrap_u64, IntKind.wrap_u64]; unfold wrap64 bor hiv lov; split <;> omega
theorem times_lo (a b : Int) : IntKind.u64.wrap a * b % 18446744073709551616 = lov (a * b) := by
  rw [IntKind.wrap_u64]; unfold lov
  exact (by rw [Int.mul_emod (a % 18446744073709551616) b, Int.emod_emod_of_dvd a (Int.dvd_refl _), ← Int.mul_emod])
theorem times_hi (a b : Int) (h0 : -9223372036854775808 ≤ a) (h1 : a < 9223372036854775808) (hn : a < 0) :
    wrap64 (IntKind.u64.wrap (IntKind.u64.wrap a * b / 18446744073709551616 - b)) = hiv (a * b) := by
  have e : IntKind.u64.wrap a = a + 18446744073709551616 := by rw [IntKind.wrap_u64]; omega
  rw [e, Int.add_mul, IntKind.wrap_u64]
  generalize a * b = p
  unfold wrap64 hiv; omega
theorem times_hi' (a b : Int) : wrap64 (a * b / 18446744073709551616) = hiv (a * b) := by
  unfold wrap64 hiv; omega
/-- -1, 0, 1. -/
def cmpi (a b : Int) : Int := if a < b then -1 else if a = b then 0 else 1
theorem sv_inj (x y : Int) : (hiv x = hiv y ∧ lov x = lov y) ↔ sv x = sv y := by
  unfold sv
  have := lov_bd x; have := lov_bd y
  constructor
  · intro ⟨a, b⟩; rw [a, b]
  · intro h; omega
theorem sv_lt (x y : Int) : sv x < sv y ↔ (hiv x < hiv y ∨ (hiv x = hiv y ∧ lov x < lov y)) := by
  unfold sv
  have := lov_bd x; have := lov_bd y
  omega

end Go.Proofs.Ytlocnkoeffoflaa
