/- WideParts returns true at every number of 128 bits and every divisor: each quotient and rest is the document's. -/
import Derived.Test.YtnnlffogfaiaeaaRows
import Derived.Test.YtnnlffogfaiaeaaParts
import Derived.WalkKit
import Derived.ProofKit
import Derived.OpenShut
import Derived.Lib.SmallJoins
namespace Go.Proofs.Ytnnlffogfaiaeaa.wideParts
open Go.ChangeShapes Go.WideShapes Go.ChangeAt Go.RowKit Go.Joins
set_option linter.unusedVariables false

theorem own : ownKnob Try.prog.godebug = none := by kernel_rfl
theorem i64_bd {x : Int} (h : (Lit.int .i64 x).wf = true) : -9223372036854775808 ≤ x ∧ x < 9223372036854775808 := by
  simp [Lit.wf, IntKind.min, IntKind.max, IntKind.signed, IntKind.bits] at h
  exact ⟨by omega, by omega⟩
theorem u64_bd {x : Int} (h : (Lit.int .u64 x).wf = true) : 0 ≤ x ∧ x < 18446744073709551616 := by
  simp [Lit.wf, IntKind.min, IntKind.max, IntKind.signed, IntKind.bits] at h
  exact ⟨by omega, by omega⟩

theorem cellsW : Try.prog.cellsOf 25 = 2 := by kernel_rfl

theorem walk (h0 l0 : Int) (wh0 : (Lit.int .i64 h0).wf = true) (wl0 : (Lit.int .u64 l0).wf = true) (a1 : Int) (wa1 : (Lit.int .u64 a1).wf = true) (w : World) :
    Calls Try.prog 5 #[.agg #[.int .i64 h0, .int .u64 l0], .int .u64 a1] w fun e w' => e = .returned (.bool true) ∧ Gb w w' := by
  have h := parts_any (h0 * 18446744073709551616 + l0) a1 (u64_bd wa1).1 (u64_bd wa1).2 w
  rw [← (split_val h0 l0 (i64_bd wh0).1 (i64_bd wh0).2 (u64_bd wl0).1 (u64_bd wl0).2).1, ← (split_val h0 l0 (i64_bd wh0).1 (i64_bd wh0).2 (u64_bd wl0).1 (u64_bd wl0).2).2] at h
  exact h

set_option maxRecDepth 100000 in
theorem lifted (os : Os) (started : os.Started) (H : Type) (enc : TypeId × Value → H) :
    ReturnsInHanded {} Try.checked os 5 .any (Rows.widePartsSpec.pre6 enc Try.prog Try.f5 Rows.widePartsRow.domain false) (Rows.widePartsSpec.post enc Try.prog Try.f5 false true false false) := by
  refine returnsInHanded_of_change (C := Try.checked) own started (by kernel_rfl) Try.func5
    (ChangeSpec.witness6 (enc := enc) (C := Try.checked) false ⟨#[], #[.agg #[.int .i64 0, .int .u64 0], .int .u64 0], []⟩ 8 (by kernel_rfl) (by kernel_rfl) (by kernel_rfl) (by kernel_rfl)) ?_
  intro W base args ds gs before hval0 hW hcnd _
  have hval : ∀ (j : Nat) t v, Try.f5.params[j]? = some t → args[j]? = some v → Value.okWide Try.prog W .any base t v := hval0
  have hW' := hW
  obtain ⟨p, q, hA0, hV, rfl, hfz, hnd⟩ := hW
  have hA : DataW.TrodAll enc Try.prog W 0 (fun _ => true) true Try.f5.params.toList args.toList ds p := hA0
  rw [Try.params5] at hA hval
  obtain ⟨v0, vs0, d0, ds0, p0, q0, hargs, rfl, rfl, h0, r0⟩ := trodAll_cons hA
  obtain ⟨v1, vs1, d1, ds1, p1, q1, rfl, rfl, rfl, h1, r1⟩ := trodAll_cons r0
  obtain ⟨rfl, rfl, rfl⟩ := trodAll_nil r1
  obtain rfl : args = #[v0, v1] := by cases args; simp_all
  obtain ⟨rfl, rfl⟩ := trodVars_none hV
  obtain ⟨c0, e0, y0, z0, m0, rfl, rfl, rfl, hy0, hz0⟩ := open_agg2 Try.underlying25 (by kernel_rfl) cellsW (hval 0 25 v0 rfl rfl) h0
  obtain ⟨a0, ea0, rfl, wa0⟩ := DataW.trod_int Try.underlying2 hy0
  obtain ⟨b0, eb0, rfl, wb0⟩ := DataW.trod_int Try.underlying22 hz0
  simp at ea0 eb0
  subst ea0 eb0
  have t0 : ∀ (W' : World) (sp : Nat → Bool), DataW.Trod enc Try.prog W' 0 sp true 25 (.agg #[.int .i64 a0, .int .u64 b0]) (.agg [.lit (.int .i64 a0), .lit (.int .u64 b0)]) [] := fun W' sp =>
    shut_agg2 (y0 := (.lit (.int .i64 a0), [])) (y1 := (.lit (.int .u64 b0), [])) Try.underlying25 (by kernel_rfl) cellsW ⟨1, by simp [DataW.trod, Try.underlying2, wa0]⟩ ⟨1, by simp [DataW.trod, Try.underlying22, wb0]⟩
  obtain ⟨a1, rfl, rfl, rfl, wa1⟩ := open_int Try.underlying22 (hval 1 22 v1 rfl rfl) h1
  clear hA0 hval0
  simp only [List.append_nil] at hW'
  refine (walk a0 b0 wa0 wb0 a1 wa1 W).mono fun e W' ⟨he, hg⟩ => ?_
  subst he
  exact ⟨_, rfl, post_of_same (pa := []) (pv := []) hW' (fun _ _ _ => (trodAll_cons_mk (shut_bool Try.underlying4 _) trodAll_mk0)) (fun sp _ => (trodAll_cons_mk (t0 _ sp) (trodAll_cons_mk (shut_int Try.underlying22 wa1) trodAll_mk0))) (fun _ _ => rfl) rfl
    (hg.below.frame _) hg.frozen (ok_one (by kernel_rfl) rfl (okWide_bool_mk Try.underlying4 _))⟩

theorem over : Rows.widePartsRow.holds Try.pinned (OpenSpec.ofChange Rows.widePartsSpec) :=
  OpenClaim.holds_of_wide 5 Try.f5 rfl rfl rfl rfl rfl rfl rfl ⟨rfl, rfl, rfl, rfl, rfl⟩ rfl rfl rfl rfl rfl (by kernel_rfl) Try.func5 (by kernel_rfl)
    (of_decide_eq_true (by kernel_rfl)) (by unfold Func.isWrapper; first | (rw [if_pos (by decide +kernel)]; kernel_rfl) | (rw [if_neg (by decide +kernel)]; exact ⟨rfl, rfl⟩))
    (fun os started H enc _ => lifted os started H enc)
end Go.Proofs.Ytnnlffogfaiaeaa.wideParts

namespace Go.Proofs.Ytnnlffogfaiaeaa
theorem wideParts_holds : Rows.WidePartsSaid := wideParts.over
#print axioms wideParts_holds
end Go.Proofs.Ytnnlffogfaiaeaa
