/- What comes in, opened: a segment told by bits. -/
import Derived.Test.YtopjbhnbganlmaaPSt
import Derived.ProofKit
import Derived.OpenShut
import Derived.Lib.SmallJoins
namespace Go.Proofs.Ytopjbhnbganlmaa
open Go.ChangeShapes Go.WideShapes Go.ChangeAt Go.RowKit Go.Joins
set_option linter.unusedVariables false

theorem array5 {α : Type} {cs : Array α} (h : cs.size = 5) : ∃ c0 c1 c2 c3 c4, cs = #[c0, c1, c2, c3, c4] := by
  obtain ⟨l⟩ := cs
  match l, h with
  | [c0, c1, c2, c3, c4], _ => exact ⟨c0, c1, c2, c3, c4, rfl⟩
theorem cells_raw : Try.prog.cellsOf 24 = 5 := by kernel_rfl
theorem cells_u7 : Try.prog.cellsOf 22 = 1 := by kernel_rfl
theorem cells_i7 : Try.prog.cellsOf 3 = 1 := by kernel_rfl
theorem i64_of {x : Int} (h : (Lit.int .i64 x).wf = true) : -9223372036854775808 ≤ x ∧ x < 9223372036854775808 := by
  simp [Lit.wf, IntKind.min, IntKind.max, IntKind.signed, IntKind.bits] at h
  exact ⟨by omega, by omega⟩
theorem u64_of {x : Int} (h : (Lit.int .u64 x).wf = true) : 0 ≤ x ∧ x < 18446744073709551616 := by
  simp [Lit.wf, IntKind.min, IntKind.max, IntKind.signed, IntKind.bits] at h
  exact ⟨by omega, by omega⟩

set_option maxRecDepth 20000 in
theorem open_raw {H : Type} {enc : TypeId × Value → H} {W : World} {r : Reach} {b0 : Nat} {base : Nat} {sp : Nat → Bool} {v : Value} {d : DataW H} {p : List MemPlace} (hv : Value.okWide Try.prog W r b0 24 v) (h : DataW.Trod enc Try.prog W base sp true 24 v d p) :
    ∃ k sl ic fr tt : Int, v = rawV k sl ic fr tt ∧ d = .agg [.lit (.int .u64 k), .lit (.int .u64 sl), .lit (.int .u64 ic), .lit (.int .i64 fr), .lit (.int .i64 tt)] ∧ p = [] ∧ (0 ≤ k ∧ k < 18446744073709551616) ∧ (0 ≤ sl ∧ sl < 18446744073709551616) ∧ (0 ≤ ic ∧ ic < 18446744073709551616) ∧ (-9223372036854775808 ≤ fr ∧ fr < 9223372036854775808) ∧ (-9223372036854775808 ≤ tt ∧ tt < 9223372036854775808) := by
  obtain ⟨cs, rfl, hsz⟩ := okWide_struct Try.underlying24 hv
  obtain ⟨c0, c1, c2, c3, c4, rfl⟩ := array5 (hsz.trans cells_raw)
  obtain ⟨fuel, hf⟩ := h
  obtain ⟨xs, n, _, hx, hl, hlen, hh⟩ := DataW.trod_struct Try.underlying24 hf
  match xs, hlen with
  | [y0, y1, y2, y3, y4], _ =>
    have q0 := hh 0 _ rfl
    have q1 := hh 1 _ rfl
    have q2 := hh 2 _ rfl
    have q3 := hh 3 _ rfl
    have q4 := hh 4 _ rfl
    simp [Value.cells, cells_u7, cells_i7] at q0 q1 q2 q3 q4
    obtain ⟨x0, e0, f0, w0⟩ := DataW.trod_int Try.underlying22 q0
    obtain ⟨x1, e1, f1, w1⟩ := DataW.trod_int Try.underlying22 q1
    obtain ⟨x2, e2, f2, w2⟩ := DataW.trod_int Try.underlying22 q2
    obtain ⟨x3, e3, f3, w3⟩ := DataW.trod_int Try.underlying3 q3
    obtain ⟨x4, e4, f4, w4⟩ := DataW.trod_int Try.underlying3 q4
    simp at e0 e1 e2 e3 e4
    subst e0 e1 e2 e3 e4 f0 f1 f2 f3 f4
    simp only [Prod.mk.injEq] at hx
    exact ⟨x0, x1, x2, x3, x4, rfl, by simpa using hx.1, by simpa using hx.2, u64_of w0, u64_of w1, u64_of w2, i64_of w3, i64_of w4⟩

end Go.Proofs.Ytopjbhnbganlmaa
