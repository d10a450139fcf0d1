/- RatioAlong's walk: the program and the document reckon the same three rounded steps. -/
import Derived.Test.YtmioagkmedcflaaFBase
namespace Go.Proofs.Ytmioagkmedcflaa
open Go.RowKit
set_option linter.unusedVariables false

/-- The bits of a NaN that the language does not fix. -/
def nanw (x y : Nat) (w : World) : Nat := (Question.nanBits .f64 x y).cut (w.tape w.drawn (.nanBits .f64 x y))
theorem nanw_rg (x y : Nat) (w : World) : 9218868437227405312 < rg (nanw x y w) := by
  unfold nanw rg
  generalize w.tape w.drawn (.nanBits .f64 x y) = t
  show 9218868437227405312 < (t % 2 * 2 ^ 63 + 9218868437227405312 + 1 + t / 2 % (2 ^ 52 - 1)) % 9223372036854775808
  have : t / 2 % (2 ^ 52 - 1) < 2 ^ 52 - 1 := Nat.mod_lt _ (by decide)
  generalize t / 2 % (2 ^ 52 - 1) = a at *
  have h2 : t % 2 < 2 := Nat.mod_lt _ (by decide)
  generalize t % 2 = c at *
  omega
theorem run_mul_none (t : TypeId) (x y : Nat) (h : Ieee.double.mul x y = none) (w : World) : (binOp .mul t (.float .f64 x) (.float .f64 y)).run Try.prog w = .ok (.float .f64 (nanw x y w)) w.drew := by
  have h' : FloatKind.f64.format.mul x y = none := h
  simp [binOp, Op.floatArith, h']
  rfl
theorem run_add_none (t : TypeId) (x y : Nat) (h : Ieee.double.add x y = none) (w : World) : (binOp .add t (.float .f64 x) (.float .f64 y)).run Try.prog w = .ok (.float .f64 (nanw x y w)) w.drew := by
  have h' : FloatKind.f64.format.add x y = none := h
  simp [binOp, Op.floatArith, h']
  rfl
theorem add_nan {x y : Nat} (h : 9218868437227405312 < rg x) : Ieee.double.add x y = none := by
  unfold Ieee.Format.add; rw [read_nan h]; rfl

/-- What the steps give: a float, or something that is no number. -/
def AL (s y base r : Nat) : Prop := (∃ p, Ieee.double.mul s y = some p ∧ Ieee.double.add p base = some r) ∨ ((∀ p, Ieee.double.mul s y = some p → Ieee.double.add p base = none) ∧ 9218868437227405312 < rg r)

theorem AL.same {s y base a b : Nat} (h : AL s y base a) (k : AL s y base b) : (9218868437227405312 < rg a ∧ 9218868437227405312 < rg b) ∨ a = b := by
  rcases h with ⟨p, h1, h2⟩ | ⟨h1, h2⟩
  · rcases k with ⟨q, k1, k2⟩ | ⟨k1, k2⟩
    · rw [h1] at k1; cases k1
      rw [h2] at k2; cases k2
      exact .inr rfl
    · have := k1 p h1; rw [h2] at this; cases this
  · rcases k with ⟨q, k1, k2⟩ | ⟨k1, k2⟩
    · have := h1 q k1; rw [k2] at this; cases this
    · exact .inl ⟨h2, k2⟩






end Go.Proofs.Ytmioagkmedcflaa
