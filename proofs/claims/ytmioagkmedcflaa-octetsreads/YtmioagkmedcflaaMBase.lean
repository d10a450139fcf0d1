/- A segment: what Check tells of it, in the bits of its floats; the document's Check. -/
import Derived.Test.YtmioagkmedcflaaFMath4
import Derived.Test.YtmioagkmedcflaaMAlong
import Derived.Test.YtmioagkmedcflaaHBase
namespace Go.Proofs.Ytmioagkmedcflaa
open Go.RowKit
set_option linter.unusedVariables false

/-- What Check tells. -/
def errM (sl ic : Nat) (fr to : Int) : Int :=
  if fr < 0 ∨ to ≤ fr ∨ 4294967296 < to then 70 else if 4611686018427387904 < sl then 71 else if 9218868437227405312 ≤ rg ic then 72 else 0

abbrev segV (k : Int) (sl ic : Nat) (fr to : Int) : Value := .agg #[.int .u64 k, .float .f64 sl, .float .f64 ic, .int .i64 fr, .int .i64 to]

theorem errM_ok {sl ic : Nat} {fr to : Int} : errM sl ic fr to = 0 ↔ 0 ≤ fr ∧ fr < to ∧ to ≤ 4294967296 ∧ sl ≤ 4611686018427387904 ∧ rg ic < 9218868437227405312 := by
  unfold errM
  by_cases h : fr < 0 ∨ to ≤ fr ∨ 4294967296 < to
  · rw [if_pos h]; omega
  · rw [if_neg h]
    by_cases h1 : 4611686018427387904 < sl
    · rw [if_pos h1]; omega
    · rw [if_neg h1]
      by_cases h2 : 9218868437227405312 ≤ rg ic
      · rw [if_pos h2]; omega
      · rw [if_neg h2]; omega

def fge0 (x : Nat) : Bool := FloatKind.f64.format.order x 0 == some .gt || FloatKind.f64.format.order x 0 == some .eq
def fgt2 (x : Nat) : Bool := FloatKind.f64.format.order x 4611686018427387904 == some .gt

theorem V0 : SV 0 = 0 := by decide
theorem rg_small {x : Nat} (h : x < 9223372036854775808) : rg x = x := Nat.mod_eq_of_lt h
theorem sg_small {x : Nat} (h : x < 9223372036854775808) : sg x = false := by unfold sg; simp; omega
theorem SV_small {x : Nat} (h : x < 9223372036854775808) : SV x = V x := by unfold SV; rw [sg_small h, rg_small h]; rfl

theorem slope_ok {x : Nat} (h : x ≤ 4611686018427387904) : fge0 x = true ∧ decide ((9223372036854775808 : Int) ≤ (x : Int)) = false ∧ fgt2 x = false := by
  have hx : rg x < 9218868437227405312 := by rw [rg_small (by omega)]; omega
  have e := SV_small (x := x) (by omega)
  refine ⟨?_, by simp; omega, ?_⟩
  · unfold fge0; rw [fmt, f_ge hx (by decide), V0, e]; simp
  · unfold fgt2; rw [fmt, f_gt hx (by decide), e, SV_small (by decide)]
    have := V_le h
    simp; omega

theorem slope_bad {x : Nat} (h : 4611686018427387904 < x) : fge0 x = false ∨ (fge0 x = true ∧ decide ((9223372036854775808 : Int) ≤ (x : Int)) = true) ∨ (fge0 x = true ∧ decide ((9223372036854775808 : Int) ≤ (x : Int)) = false ∧ fgt2 x = true) := by
  cases g : fge0 x
  · exact .inl rfl
  · by_cases k : 9223372036854775808 ≤ x
    · exact .inr (.inl ⟨rfl, by simp; omega⟩)
    · refine .inr (.inr ⟨rfl, by simp; omega, ?_⟩)
      have r := rg_small (x := x) (by omega)
      unfold fgt2; rw [fmt]
      rcases Nat.lt_trichotomy (rg x) 9218868437227405312 with q | q | q
      · rw [f_gt q (by decide), SV_small (x := x) (by omega), SV_small (by decide)]
        have := V_lt h
        simp; omega
      · unfold Ieee.Format.order; rw [read_inf q, read_fin (by decide), sg_small (x := x) (by omega)]
        simp [Ieee.Datum.order]
      · exfalso
        unfold fge0 Ieee.Format.order at g
        rw [fmt, read_nan q] at g
        simp [Ieee.Datum.order] at g

theorem run_sub_none (t : TypeId) (x y : Nat) (h : Ieee.double.sub x y = none) (w : World) : (binOp .sub t (.float .f64 x) (.float .f64 y)).run Try.prog w = .ok (.float .f64 (nanw x y w)) w.drew := by
  have h' : FloatKind.f64.format.sub x y = none := h
  simp [binOp, Op.floatArith, h']
  rfl

theorem sub_self {x : Nat} (h : rg x < 9218868437227405312) : ∃ z, Ieee.double.sub x x = some z ∧ (FloatKind.f64.format.order z 0 != some .eq) = false := by
  obtain ⟨b, hb, e⟩ := sub_fin h h
  refine ⟨_, e, ?_⟩
  have b0 : b = 0 := by
    rw [Int.sub_self] at hb
    exact hb.uniq (Nr.zero 1 (by decide)) (by decide)
  subst b0
  rw [fmt, f_ne (by rw [word_rg _ _ (by decide)]; decide) (by decide), SV_word _ _ (by decide), V0]
  have : V (min 0 9218868437227405312) = 0 := rfl
  rw [this]
  simp
theorem sub_none {x : Nat} (h : 9218868437227405312 ≤ rg x) : Ieee.double.sub x x = none := by
  unfold Ieee.Format.sub
  rcases Nat.lt_or_eq_of_le h with q | q
  · rw [read_nan q]; rfl
  · rw [read_inf q.symm]; cases sg x <;> rfl
theorem nan_ne {x : Nat} (h : 9218868437227405312 < rg x) : (FloatKind.f64.format.order x 0 != some .eq) = true := by
  rw [fmt]; unfold Ieee.Format.order; rw [read_nan h]; simp [Ieee.Datum.order]


end Go.Proofs.Ytmioagkmedcflaa
