/- OctetsPuts returns true for all bytes, every number and the bits of every float. -/
import Derived.Test.YtmioagkmedcflaaRows
import Derived.Test.YtmioagkmedcflaaOWPuts
import Derived.Test.YtmioagkmedcflaaHOpen
import Derived.Test.YtmioagkmedcflaaOOpen
import Derived.WalkKit
import Derived.ProofKit
import Derived.OpenShut
import Derived.SizedLaws
import Derived.Deep.CondSized
import Derived.Lib.SmallJoins
namespace Go.Proofs.Ytmioagkmedcflaa.octetsPuts
open Go.ChangeShapes Go.WideShapes Go.ChangeAt Go.RowKit Go.Joins
set_option linter.unusedVariables false

theorem own : ownKnob Try.prog.godebug = none := by kernel_rfl
theorem laidOut : laidOutB Try.prog = true := by kernel_rfl
theorem i64_bd {x : Int} (h : (Lit.int .i64 x).wf = true) : -9223372036854775808 ≤ x ∧ x < 9223372036854775808 := by
  simp [Lit.wf, IntKind.min, IntKind.max, IntKind.signed, IntKind.bits] at h
  exact ⟨by omega, by omega⟩
theorem u64_bd {x : Int} (h : (Lit.int .u64 x).wf = true) : 0 ≤ x ∧ x < 18446744073709551616 := by
  simp [Lit.wf, IntKind.min, IntKind.max, IntKind.signed, IntKind.bits] at h
  exact ⟨by omega, by omega⟩


theorem bytes_k : Try.prog.bytesOf 23 = 8 := by kernel_rfl
theorem bytes_B : Try.prog.bytesOf 5 = 1 := by kernel_rfl


set_option maxRecDepth 100000 in
theorem lifted (os : Os) (started : os.Started) (H : Type) (enc : TypeId × Value → H) :
    ReturnsInHanded {} Try.checked os 3 .any (Rows.octetsPutsSpec.pre6 enc Try.prog Try.f3 Rows.octetsPutsRow.domain false) (Rows.octetsPutsSpec.post enc Try.prog Try.f3 false true false false) := by
  refine returnsInHanded_of_change_sized (C := Try.checked) own started (by kernel_rfl) Try.func3
    (ChangeSpec.witness6 (enc := enc) (C := Try.checked) false ⟨#[], #[.slice none 0 0, .int .u64 0, .int .u64 0], []⟩ 8 (by kernel_rfl) (by kernel_rfl) (by kernel_rfl) (by kernel_rfl)) ?_
  intro W base args ds gs before hval0 hW _ hsz0 _
  have hsz : (DataW.weightsEach Try.prog (Try.f3.params.toList ++ Rows.octetsPutsSpec.plain.varTypes Try.prog) (ds ++ gs)).all (· ≤ reachBytes) = true := hsz0
  clear hsz0
  have hval : ∀ (j : Nat) t v, Try.f3.params[j]? = some t → args[j]? = some v → Value.okWide Try.prog W .any base t v := hval0
  have hW' := hW
  obtain ⟨p, q, hA0, hV, rfl, _, _⟩ := hW
  have hA : DataW.TrodAll enc Try.prog W 0 (fun _ => true) true Try.f3.params.toList args.toList ds p := hA0
  rw [Try.params3] at hA hval hsz
  obtain ⟨v0, vs0, d0, ds0, p0, q0, hargs, rfl, rfl, h0, r0⟩ := trodAll_cons hA
  obtain ⟨v1, vs1, d1, ds1, p1, q1, rfl, rfl, rfl, h1, r1⟩ := trodAll_cons r0
  obtain ⟨v2, vs2, d2, ds2, p2, q2, rfl, rfl, rfl, h2, r2⟩ := trodAll_cons r1
  obtain ⟨rfl, rfl, rfl⟩ := trodAll_nil r2
  obtain rfl : args = #[v0, v1, v2] := by cases args; simp_all
  obtain ⟨rfl, rfl⟩ := trodVars_none hV
  have t0 := h0
  obtain ⟨a0, n0, c0, rfl⟩ := okWide_slice Try.underlying22 (hval 0 22 v0 rfl rfl)
  obtain ⟨f0, S0, z0, le0, dd0⟩ := open_bytes h0
  have R0 : n0 * 1 ≤ 140737488351232 := by
    rcases dd0 with ⟨_, rfl⟩ | ⟨es, sp, rfl, ee⟩
    · omega
    · have hq := sized_slice hsz (j := 0) (t := 22) (e := 5) rfl rfl Try.underlying22
      rw [bytes_B] at hq
      simp only [reachBytes] at hq
      omega
  have t1 := h1
  obtain ⟨y1, rfl, rfl, rfl, wy1⟩ := open_int Try.underlying23 (hval 1 23 v1 rfl rfl) h1
  have t2 := h2
  obtain ⟨y2, rfl, rfl, rfl, wy2⟩ := open_int Try.underlying23 (hval 2 23 v2 rfl rfl) h2
  clear hA0 hval0
  simp only [List.append_nil] at hW'
  refine (puts10_walk a0 n0 c0 f0 y1 (u64_bd wy1).1 (u64_bd wy1).2 y2 (u64_bd wy2).1 (u64_bd wy2).2 (by omega) z0 W S0).mono fun e W' ⟨he, hg⟩ => ?_
  subst he
  have A0 : DataW.Trod enc Try.prog W' 0 (fun b => decide (b < W.heap.size)) true 22 (.slice a0 n0 c0) d0 p0 :=
    Below.trod laidOut (by kernel_rfl) (of_decide_eq_true (by kernel_rfl)) t0 hg.below (fun y hy => by simpa using hW'.lt y (by simp [hy]))
  have A1 : DataW.Trod enc Try.prog W' 0 (fun b => decide (b < W.heap.size)) true 23 (.int .u64 y1) (.lit (.int .u64 y1)) [] :=
    Below.trod laidOut (by kernel_rfl) (of_decide_eq_true (by kernel_rfl)) t1 hg.below (fun y hy => by cases hy)
  have A2 : DataW.Trod enc Try.prog W' 0 (fun b => decide (b < W.heap.size)) true 23 (.int .u64 y2) (.lit (.int .u64 y2)) [] :=
    Below.trod laidOut (by kernel_rfl) (of_decide_eq_true (by kernel_rfl)) t2 hg.below (fun y hy => by cases hy)
  exact ⟨_, rfl, _, _, _, [], _, [], hW', trodAll_cons_mk (shut_bool Try.underlying4 true) trodAll_mk0, (trodAll_cons_mk A0 (trodAll_cons_mk A1 (trodAll_cons_mk A2 trodAll_mk0))), rfl, hg.below.frame _, fun h => by cases h⟩

theorem over : Rows.octetsPutsRow.holds Try.pinned (OpenSpec.ofChange Rows.octetsPutsSpec) :=
  OpenClaim.holds_of_wide 3 Try.f3 rfl rfl rfl rfl rfl rfl rfl ⟨rfl, rfl, rfl, rfl, rfl⟩ rfl rfl rfl rfl rfl (by kernel_rfl) Try.func3 (by kernel_rfl)
    (of_decide_eq_true (by kernel_rfl)) (by unfold Func.isWrapper; first | (rw [if_pos (by decide +kernel)]; kernel_rfl) | (rw [if_neg (by decide +kernel)]; exact ⟨rfl, rfl⟩))
    (fun os started H enc _ => lifted os started H enc)
end Go.Proofs.Ytmioagkmedcflaa.octetsPuts

namespace Go.Proofs.Ytmioagkmedcflaa
theorem octetsPuts_holds : Rows.OctetsPutsSaid := octetsPuts.over
#print axioms octetsPuts_holds
end Go.Proofs.Ytmioagkmedcflaa
