/- ModelGuesses returns true for every segment told by bits and every list of keys; no condition. -/
import Derived.Test.YtopjbhnbganlmaaRows
import Derived.Test.YtopjbhnbganlmaaMWGuesses
import Derived.Test.YtopjbhnbganlmaaHOpen
import Derived.Test.YtopjbhnbganlmaaXM5
import Derived.Test.YtopjbhnbganlmaaMOpen
import Derived.WalkKit
import Derived.ProofKit
import Derived.OpenShut
import Derived.SizedLaws
import Derived.Deep.CondSized
import Derived.Lib.SmallJoins
namespace Go.Proofs.Ytopjbhnbganlmaa.modelGuesses
open Go.ChangeShapes Go.WideShapes Go.ChangeAt Go.RowKit Go.Joins
set_option linter.unusedVariables false

theorem own : ownKnob Try.prog.godebug = none := by kernel_rfl
theorem laidOut : laidOutB Try.prog = true := by kernel_rfl
theorem i64_bd {x : Int} (h : (Lit.int .i64 x).wf = true) : -9223372036854775808 ≤ x ∧ x < 9223372036854775808 := by
  simp [Lit.wf, IntKind.min, IntKind.max, IntKind.signed, IntKind.bits] at h
  exact ⟨by omega, by omega⟩
theorem u64_bd {x : Int} (h : (Lit.int .u64 x).wf = true) : 0 ≤ x ∧ x < 18446744073709551616 := by
  simp [Lit.wf, IntKind.min, IntKind.max, IntKind.signed, IntKind.bits] at h
  exact ⟨by omega, by omega⟩


theorem bytes_k : Try.prog.bytesOf 22 = 8 := by kernel_rfl


set_option maxRecDepth 100000 in
theorem lifted (os : Os) (started : os.Started) (H : Type) (enc : TypeId × Value → H) :
    ReturnsInHanded {} Try.checked os 5 .any (Rows.modelGuessesSpec.pre6 enc Try.prog Try.f5 Rows.modelGuessesRow.domain false) (Rows.modelGuessesSpec.post enc Try.prog Try.f5 false true false false) := by
  refine returnsInHanded_of_change_sized (C := Try.checked) own started (by kernel_rfl) Try.func5
    (ChangeSpec.witness6 (enc := enc) (C := Try.checked) false ⟨#[], #[.agg #[.int .u64 0, .int .u64 0, .int .u64 0, .int .i64 0, .int .i64 0], .slice none 0 0], []⟩ 8 (by kernel_rfl) (by kernel_rfl) (by kernel_rfl) (by kernel_rfl)) ?_
  intro W base args ds gs before hval0 hW _ hsz0 _
  have hsz : (DataW.weightsEach Try.prog (Try.f5.params.toList ++ Rows.modelGuessesSpec.plain.varTypes Try.prog) (ds ++ gs)).all (· ≤ reachBytes) = true := hsz0
  clear hsz0
  have hval : ∀ (j : Nat) t v, Try.f5.params[j]? = some t → args[j]? = some v → Value.okWide Try.prog W .any base t v := hval0
  have hW' := hW
  obtain ⟨p, q, hA0, hV, rfl, _, _⟩ := hW
  have hA : DataW.TrodAll enc Try.prog W 0 (fun _ => true) true Try.f5.params.toList args.toList ds p := hA0
  rw [Try.params5] at hA hval hsz
  obtain ⟨v0, vs0, d0, ds0, p0, q0, hargs, rfl, rfl, h0, r0⟩ := trodAll_cons hA
  obtain ⟨v1, vs1, d1, ds1, p1, q1, rfl, rfl, rfl, h1, r1⟩ := trodAll_cons r0
  obtain ⟨rfl, rfl, rfl⟩ := trodAll_nil r1
  obtain rfl : args = #[v0, v1] := by cases args; simp_all
  obtain ⟨rfl, rfl⟩ := trodVars_none hV
  have t0 := h0
  obtain ⟨rk0, rs0, ri0, rf0, rt0, rfl, rfl, rfl, hrk0, hrs0, hri0, hrf0, hrt0⟩ := open_raw (hval 0 24 v0 rfl rfl) h0
  have t1 := h1
  obtain ⟨a1, n1, c1, rfl⟩ := okWide_slice Try.underlying33 (hval 1 33 v1 rfl rfl)
  obtain ⟨f1, S1, z1, le1, dd1⟩ := open_keys h1
  have R1 : n1 * 8 ≤ 140737488351232 := by
    rcases dd1 with ⟨_, rfl⟩ | ⟨es, sp, rfl, ee⟩
    · omega
    · have hq := sized_slice hsz (j := 1) (t := 33) (e := 22) rfl rfl Try.underlying33
      rw [bytes_k] at hq
      simp only [reachBytes] at hq
      omega
  clear hA0 hval0
  simp only [List.append_nil] at hW'
  refine (mguesses_walk modelc rk0 rs0 ri0 rf0 rt0 (hrk0).1 (hrk0).2 (hrs0).1 (hrs0).2 (hri0).1 (hri0).2 (hrf0).1 (hrf0).2 (hrt0).1 (hrt0).2 a1 n1 c1 f1 R1 W S1).mono fun e W' ⟨he, hg⟩ => ?_
  subst he
  have A0 : DataW.Trod enc Try.prog W' 0 (fun b => decide (b < W.heap.size)) true 24 (rawV rk0 rs0 ri0 rf0 rt0) (.agg [.lit (.int .u64 rk0), .lit (.int .u64 rs0), .lit (.int .u64 ri0), .lit (.int .i64 rf0), .lit (.int .i64 rt0)]) [] :=
    Below.trod laidOut (by kernel_rfl) (of_decide_eq_true (by kernel_rfl)) t0 hg.below (fun y hy => by cases hy)
  have A1 : DataW.Trod enc Try.prog W' 0 (fun b => decide (b < W.heap.size)) true 33 (.slice a1 n1 c1) d1 p1 :=
    Below.trod laidOut (by kernel_rfl) (of_decide_eq_true (by kernel_rfl)) t1 hg.below (fun y hy => by simpa using hW'.lt y (by simp [hy]))
  exact ⟨_, rfl, _, _, _, [], _, [], hW', trodAll_cons_mk (shut_bool Try.underlying4 true) trodAll_mk0, (trodAll_cons_mk A0 (trodAll_cons_mk A1 trodAll_mk0)), rfl, hg.below.frame _, fun h => by cases h⟩

theorem over : Rows.modelGuessesRow.holds Try.pinned (OpenSpec.ofChange Rows.modelGuessesSpec) :=
  OpenClaim.holds_of_wide 5 Try.f5 rfl rfl rfl rfl rfl rfl rfl ⟨rfl, rfl, rfl, rfl, rfl⟩ rfl rfl rfl rfl rfl (by kernel_rfl) Try.func5 (by kernel_rfl)
    (of_decide_eq_true (by kernel_rfl)) (by unfold Func.isWrapper; first | (rw [if_pos (by decide +kernel)]; kernel_rfl) | (rw [if_neg (by decide +kernel)]; exact ⟨rfl, rfl⟩))
    (fun os started H enc _ => lifted os started H enc)
end Go.Proofs.Ytopjbhnbganlmaa.modelGuesses

namespace Go.Proofs.Ytopjbhnbganlmaa
theorem modelGuesses_holds : Rows.ModelGuessesSaid := modelGuesses.over
#print axioms modelGuesses_holds
end Go.Proofs.Ytopjbhnbganlmaa
