/- RatioNearest returns true at every numerator, denominator, second numerator and second denominator: no float is nearer to the fraction than the program's, of two the even one is taken, and it falls neither with a greater numerator nor with a lesser denominator. -/
import Derived.Test.YtfoliapennaneaaRows
import Derived.Test.YtfoliapennaneaaLNearest
import Derived.WalkKit
import Derived.ProofKit
import Derived.OpenShut
import Derived.Lib.SmallJoins
import Derived.Test.YtfoliapennaneaaQuad
namespace Go.Proofs.Ytfoliapennaneaa.ratioNearest
open Go.ChangeShapes Go.WideShapes Go.ChangeAt Go.RowKit Go.Joins
set_option linter.unusedVariables false

theorem own : ownKnob Try.prog.godebug = none := by kernel_rfl
theorem i64_bd {x : Int} (h : (Lit.int .i64 x).wf = true) : -9223372036854775808 ≤ x ∧ x < 9223372036854775808 := by
  simp [Lit.wf, IntKind.min, IntKind.max, IntKind.signed, IntKind.bits] at h
  exact ⟨by omega, by omega⟩
theorem u64_bd {x : Int} (h : (Lit.int .u64 x).wf = true) : 0 ≤ x ∧ x < 18446744073709551616 := by
  simp [Lit.wf, IntKind.min, IntKind.max, IntKind.signed, IntKind.bits] at h
  exact ⟨by omega, by omega⟩

theorem walk (p0_0 : Int) (q0_0 : (Lit.int .u64 p0_0).wf = true) (p0_1 : Int) (q0_1 : (Lit.int .u64 p0_1).wf = true) (p0_2 : Int) (q0_2 : (Lit.int .u64 p0_2).wf = true) (p0_3 : Int) (q0_3 : (Lit.int .u64 p0_3).wf = true) (w : World) :
    Calls Try.prog 4 #[.agg #[.int .u64 p0_0, .int .u64 p0_1, .int .u64 p0_2, .int .u64 p0_3]] w fun e w' => e = .returned (.bool true) ∧ Gb w w' := by
  have h := nearest_law p0_0 (u64_bd q0_0).1 (u64_bd q0_0).2 p0_1 (u64_bd q0_1).1 (u64_bd q0_1).2 p0_2 (u64_bd q0_2).1 (u64_bd q0_2).2 p0_3 (u64_bd q0_3).1 (u64_bd q0_3).2 w
  exact h

set_option maxRecDepth 100000 in
theorem lifted (os : Os) (started : os.Started) (H : Type) (enc : TypeId × Value → H) :
    ReturnsInHanded {} Try.checked os 4 .any (Rows.ratioNearestSpec.pre6 enc Try.prog Try.f4 Rows.ratioNearestRow.domain false) (Rows.ratioNearestSpec.post enc Try.prog Try.f4 false true false false) := by
  refine returnsInHanded_of_change (C := Try.checked) own started (by kernel_rfl) Try.func4
    (ChangeSpec.witness6 (enc := enc) (C := Try.checked) false ⟨#[], #[.agg #[.int .u64 0, .int .u64 0, .int .u64 0, .int .u64 0]], []⟩ 8 (by kernel_rfl) (by kernel_rfl) (by kernel_rfl) (by kernel_rfl)) ?_
  intro W base args ds gs before hval0 hW hcnd _
  have hval : ∀ (j : Nat) t v, Try.f4.params[j]? = some t → args[j]? = some v → Value.okWide Try.prog W .any base t v := hval0
  have hW' := hW
  obtain ⟨p, q, hA0, hV, rfl, hfz, hnd⟩ := hW
  have hA : DataW.TrodAll enc Try.prog W 0 (fun _ => true) true Try.f4.params.toList args.toList ds p := hA0
  rw [Try.params4] at hA hval
  obtain ⟨v0, vs0, d0, ds0, p0, q0, hargs, rfl, rfl, h0, r0⟩ := trodAll_cons hA
  obtain ⟨rfl, rfl, rfl⟩ := trodAll_nil r0
  obtain rfl : args = #[v0] := by cases args; simp_all
  obtain ⟨rfl, rfl⟩ := trodVars_none hV
  obtain ⟨p0_0, p0_1, p0_2, p0_3, rfl, rfl, rfl, q0_0, q0_1, q0_2, q0_3⟩ := open_quad (by kernel_rfl) (by kernel_rfl) (by kernel_rfl) Try.underlying22 (hval 0 30 v0 rfl rfl) h0
  clear hA0 hval0
  simp only [List.append_nil] at hW'
  refine (walk p0_0 q0_0 p0_1 q0_1 p0_2 q0_2 p0_3 q0_3 W).mono fun e W' ⟨he, hg⟩ => ?_
  subst he
  exact ⟨_, rfl, post_of_same (pa := []) (pv := []) hW' (fun _ _ _ => (trodAll_cons_mk (shut_bool Try.underlying4 _) trodAll_mk0)) (fun sp _ => (trodAll_cons_mk (shut_quad (by kernel_rfl) (by kernel_rfl) (by kernel_rfl) Try.underlying22 q0_0 q0_1 q0_2 q0_3) trodAll_mk0)) (fun _ _ => rfl) rfl
    (hg.below.frame _) hg.frozen (ok_one (by kernel_rfl) rfl (okWide_bool_mk Try.underlying4 _))⟩

theorem over : Rows.ratioNearestRow.holds Try.pinned (OpenSpec.ofChange Rows.ratioNearestSpec) :=
  OpenClaim.holds_of_wide 4 Try.f4 rfl rfl rfl rfl rfl rfl rfl ⟨rfl, rfl, rfl, rfl, rfl⟩ rfl rfl rfl rfl rfl (by kernel_rfl) Try.func4 (by kernel_rfl)
    (of_decide_eq_true (by kernel_rfl)) (by unfold Func.isWrapper; first | (rw [if_pos (by decide +kernel)]; kernel_rfl) | (rw [if_neg (by decide +kernel)]; exact ⟨rfl, rfl⟩))
    (fun os started H enc _ => lifted os started H enc)
end Go.Proofs.Ytfoliapennaneaa.ratioNearest

namespace Go.Proofs.Ytfoliapennaneaa
theorem ratioNearest_holds : Rows.RatioNearestSaid := ratioNearest.over
#print axioms ratioNearest_holds
end Go.Proofs.Ytfoliapennaneaa
