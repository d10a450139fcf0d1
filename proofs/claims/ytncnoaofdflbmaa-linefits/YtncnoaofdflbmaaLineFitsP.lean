/- LineFits returns true for every line, every list of keys and every eps; no condition. -/
import Derived.Test.YtncnoaofdflbmaaRows
import Derived.Test.YtncnoaofdflbmaaLWFits
import Derived.Test.YtncnoaofdflbmaaLC
import Derived.Test.YtncnoaofdflbmaaLAll
import Derived.WalkKit
import Derived.ProofKit
import Derived.OpenShut
import Derived.SizedLaws
import Derived.Deep.CondSized
import Derived.Lib.SmallJoins
namespace Go.Proofs.Ytncnoaofdflbmaa.lineFits
open Go.ChangeShapes Go.WideShapes Go.ChangeAt Go.RowKit Go.Joins
set_option linter.unusedVariables false

theorem own : ownKnob Try.prog.godebug = none := by kernel_rfl
theorem laidOut : laidOutB Try.prog = true := by kernel_rfl
theorem i64_bd {x : Int} (h : (Lit.int .i64 x).wf = true) : -9223372036854775808 ≤ x ∧ x < 9223372036854775808 := by
  simp [Lit.wf, IntKind.min, IntKind.max, IntKind.signed, IntKind.bits] at h
  exact ⟨by omega, by omega⟩
theorem u64_bd {x : Int} (h : (Lit.int .u64 x).wf = true) : 0 ≤ x ∧ x < 18446744073709551616 := by
  simp [Lit.wf, IntKind.min, IntKind.max, IntKind.signed, IntKind.bits] at h
  exact ⟨by omega, by omega⟩
theorem cellsL : Try.prog.cellsOf 27 = 3 := by kernel_rfl
theorem bytes_k : Try.prog.bytesOf 25 = 8 := by kernel_rfl


set_option maxRecDepth 100000 in
theorem lifted (os : Os) (started : os.Started) (H : Type) (enc : TypeId × Value → H) :
    ReturnsInHanded {} Try.checked os 5 .any (Rows.lineFitsSpec.pre6 enc Try.prog Try.f5 Rows.lineFitsRow.domain false) (Rows.lineFitsSpec.post enc Try.prog Try.f5 false true false false) := by
  refine returnsInHanded_of_change_sized (C := Try.checked) own started (by kernel_rfl) Try.func5
    (ChangeSpec.witness6 (enc := enc) (C := Try.checked) false ⟨#[], #[.agg #[.int .u64 0, .int .u64 0, .int .i64 0], .slice none 0 0, .int .i64 0], []⟩ 8 (by kernel_rfl) (by kernel_rfl) (by kernel_rfl) (by kernel_rfl)) ?_
  intro W base args ds gs before hval0 hW _ hsz0 _
  have hsz : (DataW.weightsEach Try.prog (Try.f5.params.toList ++ Rows.lineFitsSpec.plain.varTypes Try.prog) (ds ++ gs)).all (· ≤ reachBytes) = true := hsz0
  clear hsz0
  have hval : ∀ (j : Nat) t v, Try.f5.params[j]? = some t → args[j]? = some v → Value.okWide Try.prog W .any base t v := hval0
  have hW' := hW
  obtain ⟨p, q, hA0, hV, rfl, _, _⟩ := hW
  have hA : DataW.TrodAll enc Try.prog W 0 (fun _ => true) true Try.f5.params.toList args.toList ds p := hA0
  rw [Try.params5] at hA hval hsz
  obtain ⟨v0, vs0, d0, ds0, p0, q0, hargs, rfl, rfl, h0, r0⟩ := trodAll_cons hA
  obtain ⟨v1, vs1, d1, ds1, p1, q1, rfl, rfl, rfl, h1, r1⟩ := trodAll_cons r0
  obtain ⟨v2, vs2, d2, ds2, p2, q2, rfl, rfl, rfl, h2, r2⟩ := trodAll_cons r1
  obtain ⟨rfl, rfl, rfl⟩ := trodAll_nil r2
  obtain rfl : args = #[v0, v1, v2] := by cases args; simp_all
  obtain ⟨rfl, rfl⟩ := trodVars_none hV
  have t0 := h0
  obtain ⟨ca0, cb0, cc0, ya0, yb0, yc0, m0, rfl, rfl, rfl, ha0, hb0, hc0⟩ := open_agg3 Try.underlying27 (by kernel_rfl) cellsL (hval 0 27 v0 rfl rfl) h0
  obtain ⟨la0, ea0, rfl, wla0⟩ := DataW.trod_int Try.underlying25 ha0
  obtain ⟨lb0, eb0, rfl, wlb0⟩ := DataW.trod_int Try.underlying25 hb0
  obtain ⟨lc0, ec0, rfl, wlc0⟩ := DataW.trod_int Try.underlying3 hc0
  simp at ea0 eb0 ec0
  subst ea0 eb0 ec0
  have t1 := h1
  obtain ⟨a1, n1, c1, rfl⟩ := okWide_slice Try.underlying22 (hval 1 22 v1 rfl rfl)
  obtain ⟨f1, S1, z1, le1, dd1⟩ := open_keys h1
  have R1 : n1 * 8 ≤ 140737488351232 := by
    rcases dd1 with ⟨_, rfl⟩ | ⟨es, sp, rfl, ee⟩
    · omega
    · have hq := sized_slice hsz (j := 1) (t := 22) (e := 25) rfl rfl Try.underlying22
      rw [bytes_k] at hq
      simp only [reachBytes] at hq
      omega
  have t2 := h2
  obtain ⟨y2, rfl, rfl, rfl, wy2⟩ := open_int Try.underlying3 (hval 2 3 v2 rfl rfl) h2
  clear hA0 hval0
  simp only [List.append_nil] at hW'
  refine (linefits_walk linec docc la0 lb0 lc0 a1 n1 c1 f1 y2 (u64_bd wla0).1 (u64_bd wla0).2 (u64_bd wlb0).1 (u64_bd wlb0).2 (i64_bd wlc0).1 (i64_bd wlc0).2 (i64_bd wy2).1 (i64_bd wy2).2 R1 W S1).mono fun e W' ⟨he, hg⟩ => ?_
  subst he
  have A0 : DataW.Trod enc Try.prog W' 0 (fun b => decide (b < W.heap.size)) true 27 (.agg #[.int .u64 la0, .int .u64 lb0, .int .i64 lc0]) (.agg [.lit (.int .u64 la0), .lit (.int .u64 lb0), .lit (.int .i64 lc0)]) [] :=
    Below.trod laidOut (by kernel_rfl) (of_decide_eq_true (by kernel_rfl)) t0 hg.below (fun y hy => by simp at hy)
  have A1 : DataW.Trod enc Try.prog W' 0 (fun b => decide (b < W.heap.size)) true 22 (.slice a1 n1 c1) d1 p1 :=
    Below.trod laidOut (by kernel_rfl) (of_decide_eq_true (by kernel_rfl)) t1 hg.below (fun y hy => by simpa using hW'.lt y (by simp [hy]))
  have A2 : DataW.Trod enc Try.prog W' 0 (fun b => decide (b < W.heap.size)) true 3 (.int .i64 y2) (.lit (.int .i64 y2)) [] :=
    Below.trod laidOut (by kernel_rfl) (of_decide_eq_true (by kernel_rfl)) t2 hg.below (fun y hy => by cases hy)
  exact ⟨_, rfl, _, _, _, [], _, [], hW', trodAll_cons_mk (shut_bool Try.underlying4 true) trodAll_mk0, (trodAll_cons_mk A0 (trodAll_cons_mk A1 (trodAll_cons_mk A2 trodAll_mk0))), rfl, hg.below.frame _, fun h => by cases h⟩

theorem over : Rows.lineFitsRow.holds Try.pinned (OpenSpec.ofChange Rows.lineFitsSpec) :=
  OpenClaim.holds_of_wide 5 Try.f5 rfl rfl rfl rfl rfl rfl rfl ⟨rfl, rfl, rfl, rfl, rfl⟩ rfl rfl rfl rfl rfl (by kernel_rfl) Try.func5 (by kernel_rfl)
    (of_decide_eq_true (by kernel_rfl)) (by unfold Func.isWrapper; first | (rw [if_pos (by decide +kernel)]; kernel_rfl) | (rw [if_neg (by decide +kernel)]; exact ⟨rfl, rfl⟩))
    (fun os started H enc _ => lifted os started H enc)
end Go.Proofs.Ytncnoaofdflbmaa.lineFits

namespace Go.Proofs.Ytncnoaofdflbmaa
theorem lineFits_holds : Rows.LineFitsSaid := lineFits.over
#print axioms lineFits_holds
end Go.Proofs.Ytncnoaofdflbmaa
