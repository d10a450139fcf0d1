/- RatioRises returns true at every slope that is a fraction's nearest float, every two distances and every whole base: what the program reckons is a number and does not fall where the distance rises, nor does what it is brought to. -/
import Derived.Test.YtfoliapennaneabRows
import Derived.Test.YtfoliapennaneabLRises
import Derived.WalkKit
import Derived.ProofKit
import Derived.OpenShut
import Derived.Lib.SmallJoins
import Derived.Test.YtfoliapennaneabQuad
namespace Go.Proofs.Ytfoliapennaneab.ratioRises
open Go.ChangeShapes Go.WideShapes Go.ChangeAt Go.RowKit Go.Joins
set_option linter.unusedVariables false

theorem own : ownKnob Try.prog.godebug = none := by kernel_rfl
theorem i64_bd {x : Int} (h : (Lit.int .i64 x).wf = true) : -9223372036854775808 ≤ x ∧ x < 9223372036854775808 := by
  simp [Lit.wf, IntKind.min, IntKind.max, IntKind.signed, IntKind.bits] at h
  exact ⟨by omega, by omega⟩
theorem u64_bd {x : Int} (h : (Lit.int .u64 x).wf = true) : 0 ≤ x ∧ x < 18446744073709551616 := by
  simp [Lit.wf, IntKind.min, IntKind.max, IntKind.signed, IntKind.bits] at h
  exact ⟨by omega, by omega⟩

theorem walk (p0_0 : Int) (q0_0 : (Lit.int .u64 p0_0).wf = true) (p0_1 : Int) (q0_1 : (Lit.int .u64 p0_1).wf = true) (p0_2 : Int) (q0_2 : (Lit.int .u64 p0_2).wf = true) (p0_3 : Int) (q0_3 : (Lit.int .u64 p0_3).wf = true) (a1 : Int) (wa1 : (Lit.int .i64 a1).wf = true) (w : World) :
    Calls Try.prog 4 #[.agg #[.int .u64 p0_0, .int .u64 p0_1, .int .u64 p0_2, .int .u64 p0_3], .int .i64 a1] w fun e w' => e = .returned (.bool true) ∧ Gb w w' := by
  have h := rises_law p0_0 (u64_bd q0_0).1 (u64_bd q0_0).2 p0_1 (u64_bd q0_1).1 (u64_bd q0_1).2 p0_2 (u64_bd q0_2).1 (u64_bd q0_2).2 p0_3 (u64_bd q0_3).1 (u64_bd q0_3).2 a1 (i64_bd wa1).1 (i64_bd wa1).2 w
  exact h

set_option maxRecDepth 100000 in
theorem lifted (os : Os) (started : os.Started) (H : Type) (enc : TypeId × Value → H) :
    ReturnsInHanded {} Try.checked os 4 .any (Rows.ratioRisesSpec.pre6 enc Try.prog Try.f4 Rows.ratioRisesRow.domain false) (Rows.ratioRisesSpec.post enc Try.prog Try.f4 false true false false) := by
  refine returnsInHanded_of_change (C := Try.checked) own started (by kernel_rfl) Try.func4
    (ChangeSpec.witness6 (enc := enc) (C := Try.checked) false ⟨#[], #[.agg #[.int .u64 0, .int .u64 0, .int .u64 0, .int .u64 0], .int .i64 0], []⟩ 8 (by kernel_rfl) (by kernel_rfl) (by kernel_rfl) (by kernel_rfl)) ?_
  intro W base args ds gs before hval0 hW hcnd _
  have hval : ∀ (j : Nat) t v, Try.f4.params[j]? = some t → args[j]? = some v → Value.okWide Try.prog W .any base t v := hval0
  have hW' := hW
  obtain ⟨p, q, hA0, hV, rfl, hfz, hnd⟩ := hW
  have hA : DataW.TrodAll enc Try.prog W 0 (fun _ => true) true Try.f4.params.toList args.toList ds p := hA0
  rw [Try.params4] at hA hval
  obtain ⟨v0, vs0, d0, ds0, p0, q0, hargs, rfl, rfl, h0, r0⟩ := trodAll_cons hA
  obtain ⟨v1, vs1, d1, ds1, p1, q1, rfl, rfl, rfl, h1, r1⟩ := trodAll_cons r0
  obtain ⟨rfl, rfl, rfl⟩ := trodAll_nil r1
  obtain rfl : args = #[v0, v1] := by cases args; simp_all
  obtain ⟨rfl, rfl⟩ := trodVars_none hV
  obtain ⟨p0_0, p0_1, p0_2, p0_3, rfl, rfl, rfl, q0_0, q0_1, q0_2, q0_3⟩ := open_quad (by kernel_rfl) (by kernel_rfl) (by kernel_rfl) Try.underlying22 (hval 0 29 v0 rfl rfl) h0
  obtain ⟨a1, rfl, rfl, rfl, wa1⟩ := open_int Try.underlying3 (hval 1 3 v1 rfl rfl) h1
  clear hA0 hval0
  simp only [List.append_nil] at hW'
  refine (walk p0_0 q0_0 p0_1 q0_1 p0_2 q0_2 p0_3 q0_3 a1 wa1 W).mono fun e W' ⟨he, hg⟩ => ?_
  subst he
  exact ⟨_, rfl, post_of_same (pa := []) (pv := []) hW' (fun _ _ _ => (trodAll_cons_mk (shut_bool Try.underlying4 _) trodAll_mk0)) (fun sp _ => (trodAll_cons_mk (shut_quad (by kernel_rfl) (by kernel_rfl) (by kernel_rfl) Try.underlying22 q0_0 q0_1 q0_2 q0_3) (trodAll_cons_mk (shut_int Try.underlying3 wa1) trodAll_mk0))) (fun _ _ => rfl) rfl
    (hg.below.frame _) hg.frozen (ok_one (by kernel_rfl) rfl (okWide_bool_mk Try.underlying4 _))⟩

theorem over : Rows.ratioRisesRow.holds Try.pinned (OpenSpec.ofChange Rows.ratioRisesSpec) :=
  OpenClaim.holds_of_wide 4 Try.f4 rfl rfl rfl rfl rfl rfl rfl ⟨rfl, rfl, rfl, rfl, rfl⟩ rfl rfl rfl rfl rfl (by kernel_rfl) Try.func4 (by kernel_rfl)
    (of_decide_eq_true (by kernel_rfl)) (by unfold Func.isWrapper; first | (rw [if_pos (by decide +kernel)]; kernel_rfl) | (rw [if_neg (by decide +kernel)]; exact ⟨rfl, rfl⟩))
    (fun os started H enc _ => lifted os started H enc)
end Go.Proofs.Ytfoliapennaneab.ratioRises

namespace Go.Proofs.Ytfoliapennaneab
theorem ratioRises_holds : Rows.RatioRisesSaid := ratioRises.over
#print axioms ratioRises_holds
end Go.Proofs.Ytfoliapennaneab
