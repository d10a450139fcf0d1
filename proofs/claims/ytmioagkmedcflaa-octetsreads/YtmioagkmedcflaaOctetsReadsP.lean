/- OctetsReads returns true for all bytes and all calls of a reader. -/
import Derived.Test.YtmioagkmedcflaaRows
import Derived.Test.YtmioagkmedcflaaOWReads
import Derived.Test.YtmioagkmedcflaaHOpen
import Derived.Test.YtmioagkmedcflaaOOpen
import Derived.WalkKit
import Derived.ProofKit
import Derived.OpenShut
import Derived.SizedLaws
import Derived.Deep.CondSized
import Derived.Lib.SmallJoins
namespace Go.Proofs.Ytmioagkmedcflaa.octetsReads
open Go.ChangeShapes Go.WideShapes Go.ChangeAt Go.RowKit Go.Joins
set_option linter.unusedVariables false

theorem own : ownKnob Try.prog.godebug = none := by kernel_rfl
theorem laidOut : laidOutB Try.prog = true := by kernel_rfl
theorem i64_bd {x : Int} (h : (Lit.int .i64 x).wf = true) : -9223372036854775808 ≤ x ∧ x < 9223372036854775808 := by
  simp [Lit.wf, IntKind.min, IntKind.max, IntKind.signed, IntKind.bits] at h
  exact ⟨by omega, by omega⟩
theorem u64_bd {x : Int} (h : (Lit.int .u64 x).wf = true) : 0 ≤ x ∧ x < 18446744073709551616 := by
  simp [Lit.wf, IntKind.min, IntKind.max, IntKind.signed, IntKind.bits] at h
  exact ⟨by omega, by omega⟩


theorem bytes_k : Try.prog.bytesOf 23 = 8 := by kernel_rfl
theorem bytes_B : Try.prog.bytesOf 5 = 1 := by kernel_rfl
theorem bytes_O : Try.prog.bytesOf 38 = 32 := by kernel_rfl


set_option maxRecDepth 100000 in
theorem lifted (os : Os) (started : os.Started) (H : Type) (enc : TypeId × Value → H) :
    ReturnsInHanded {} Try.checked os 4 .any (Rows.octetsReadsSpec.pre6 enc Try.prog Try.f4 Rows.octetsReadsRow.domain false) (Rows.octetsReadsSpec.post enc Try.prog Try.f4 false true false false) := by
  refine returnsInHanded_of_change_sized (C := Try.checked) own started (by kernel_rfl) Try.func4
    (ChangeSpec.witness6 (enc := enc) (C := Try.checked) false ⟨#[], #[.slice none 0 0, .slice none 0 0], []⟩ 8 (by kernel_rfl) (by kernel_rfl) (by kernel_rfl) (by kernel_rfl)) ?_
  intro W base args ds gs before hval0 hW _ hsz0 _
  have hsz : (DataW.weightsEach Try.prog (Try.f4.params.toList ++ Rows.octetsReadsSpec.plain.varTypes Try.prog) (ds ++ gs)).all (· ≤ reachBytes) = true := hsz0
  clear hsz0
  have hval : ∀ (j : Nat) t v, Try.f4.params[j]? = some t → args[j]? = some v → Value.okWide Try.prog W .any base t v := hval0
  have hW' := hW
  obtain ⟨p, q, hA0, hV, rfl, _, _⟩ := hW
  have hA : DataW.TrodAll enc Try.prog W 0 (fun _ => true) true Try.f4.params.toList args.toList ds p := hA0
  rw [Try.params4] at hA hval hsz
  obtain ⟨v0, vs0, d0, ds0, p0, q0, hargs, rfl, rfl, h0, r0⟩ := trodAll_cons hA
  obtain ⟨v1, vs1, d1, ds1, p1, q1, rfl, rfl, rfl, h1, r1⟩ := trodAll_cons r0
  obtain ⟨rfl, rfl, rfl⟩ := trodAll_nil r1
  obtain rfl : args = #[v0, v1] := by cases args; simp_all
  obtain ⟨rfl, rfl⟩ := trodVars_none hV
  have t0 := h0
  obtain ⟨a0, n0, c0, rfl⟩ := okWide_slice Try.underlying22 (hval 0 22 v0 rfl rfl)
  obtain ⟨f0, S0, z0, le0, dd0⟩ := open_bytes h0
  have R0 : n0 * 1 ≤ 140737488351232 := by
    rcases dd0 with ⟨_, rfl⟩ | ⟨es, sp, rfl, ee⟩
    · omega
    · have hq := sized_slice hsz (j := 0) (t := 22) (e := 5) rfl rfl Try.underlying22
      rw [bytes_B] at hq
      simp only [reachBytes] at hq
      omega
  have t1 := h1
  obtain ⟨a1, n1, c1, rfl⟩ := okWide_slice Try.underlying32 (hval 1 32 v1 rfl rfl)
  obtain ⟨kd1, nm1, ws1, S1, z1, le1, dd1⟩ := open_ops h1
  have R1 : n1 * 32 ≤ 140737488351232 := by
    rcases dd1 with ⟨_, rfl⟩ | ⟨es, sp, rfl, ee⟩
    · omega
    · have hq := sized_slice hsz (j := 1) (t := 32) (e := 38) rfl rfl Try.underlying32
      rw [bytes_O] at hq
      simp only [reachBytes] at hq
      omega
  clear hA0 hval0
  simp only [List.append_nil] at hW'
  refine (reads10_walk a0 n0 c0 f0 a1 n1 c1 kd1 nm1 ws1 (by omega) z0 (by omega) W S0 S1).mono fun e W' ⟨he, hg⟩ => ?_
  subst he
  have A0 : DataW.Trod enc Try.prog W' 0 (fun b => decide (b < W.heap.size)) true 22 (.slice a0 n0 c0) d0 p0 :=
    Below.trod laidOut (by kernel_rfl) (of_decide_eq_true (by kernel_rfl)) t0 hg.below (fun y hy => by simpa using hW'.lt y (by simp [hy]))
  have A1 : DataW.Trod enc Try.prog W' 0 (fun b => decide (b < W.heap.size)) true 32 (.slice a1 n1 c1) d1 p1 :=
    Below.trod laidOut (by kernel_rfl) (of_decide_eq_true (by kernel_rfl)) t1 hg.below (fun y hy => by simpa using hW'.lt y (by simp [hy]))
  exact ⟨_, rfl, _, _, _, [], _, [], hW', trodAll_cons_mk (shut_bool Try.underlying4 true) trodAll_mk0, (trodAll_cons_mk A0 (trodAll_cons_mk A1 trodAll_mk0)), rfl, hg.below.frame _, fun h => by cases h⟩

theorem over : Rows.octetsReadsRow.holds Try.pinned (OpenSpec.ofChange Rows.octetsReadsSpec) :=
  OpenClaim.holds_of_wide 4 Try.f4 rfl rfl rfl rfl rfl rfl rfl ⟨rfl, rfl, rfl, rfl, rfl⟩ rfl rfl rfl rfl rfl (by kernel_rfl) Try.func4 (by kernel_rfl)
    (of_decide_eq_true (by kernel_rfl)) (by unfold Func.isWrapper; first | (rw [if_pos (by decide +kernel)]; kernel_rfl) | (rw [if_neg (by decide +kernel)]; exact ⟨rfl, rfl⟩))
    (fun os started H enc _ => lifted os started H enc)
end Go.Proofs.Ytmioagkmedcflaa.octetsReads

namespace Go.Proofs.Ytmioagkmedcflaa
theorem octetsReads_holds : Rows.OctetsReadsSaid := octetsReads.over
#print axioms octetsReads_holds
end Go.Proofs.Ytmioagkmedcflaa
