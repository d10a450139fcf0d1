/- What comes in, opened: a list of steps. -/
import Derived.Test.YtocahgiabeifeaaHOpen
import Derived.Test.YtocahgiabeifeaaHPlays
import Derived.Lib.SmallJoins
namespace Go.Proofs.Ytocahgiabeifeaa
open Go.ChangeShapes Go.WideShapes Go.ChangeAt Go.RowKit
set_option linter.unusedVariables false

theorem cells_st : Try.prog.cellsOf 33 = 4 := by kernel_rfl
theorem cells_i : Try.prog.cellsOf 3 = 1 := by kernel_rfl
theorem i64_wf {x : Int} (h : (Lit.int .i64 x).wf = true) : -9223372036854775808 ≤ x ∧ x < 9223372036854775808 := by
  simp [Lit.wf, IntKind.min, IntKind.max, IntKind.signed, IntKind.bits] at h
  exact ⟨by omega, by omega⟩

theorem open_steps {H : Type} {enc : TypeId × Value → H} {W : World} {ao : Option Addr} {n c : Nat} {d : DataW H} {p : List MemPlace} (h : DataW.Trod enc Try.prog W 0 (fun _ => true) true 22 (.slice ao n c) d p) :
    ∃ kd on nn ky, SS W ao n kd on nn ky ∧ (ao = none → n = 0 ∧ c = 0) ∧ n ≤ c ∧ ((d = .nil ∧ n = 0) ∨ ∃ es sp, d = .slice es sp ∧ es.length + sp.length = c) := by
  obtain ⟨fuel, hf⟩ := h
  rcases Go.Deep.open_slice Try.underlying22 hf with ⟨hcs, hx⟩ | ⟨a, len', cap', m, fu, D, Pl, hcs, _, hl, hmx, hm, hx, hel⟩
  · simp [Value.cells] at hcs
    obtain ⟨rfl, rfl, rfl⟩ := hcs
    simp only [Prod.mk.injEq] at hx
    exact ⟨fun _ => 0, fun _ => 0, fun _ => 0, fun _ => 0, ⟨fun h0 => by omega, fun i hi => by omega⟩, fun _ => ⟨rfl, rfl⟩, Nat.le_refl _, .inl ⟨hx.1, rfl⟩⟩
  · simp [Value.cells] at hcs
    obtain ⟨rfl, rfl, rfl⟩ := hcs
    simp only [Prod.mk.injEq] at hx
    simp only [if_true] at hm
    subst hm
    have each : ∀ i, i < n → ∃ q : Int × Int × Int × Int, W.cell? (a.add (i * 4)) = some (.int .i64 q.1) ∧ W.cell? (a.add (i * 4 + 1)) = some (.int .i64 q.2.1) ∧ W.cell? (a.add (i * 4 + 2)) = some (.int .i64 q.2.2.1) ∧ W.cell? (a.add (i * 4 + 3)) = some (.int .u64 q.2.2.2) ∧ ((-9223372036854775808 ≤ q.2.1 ∧ q.2.1 < 9223372036854775808) ∧ (-9223372036854775808 ≤ q.2.2.1 ∧ q.2.2.1 < 9223372036854775808)) ∧ (0 ≤ q.2.2.2 ∧ q.2.2.2 < 18446744073709551616) := by
      intro i hi
      obtain ⟨cs', h1, h2⟩ := hel i (by omega)
      rw [cells_st] at h1
      obtain ⟨_, hlen, hcc⟩ := World.cells?_some h1
      obtain ⟨y0, y1, y2, y3, fu', _, _, q0, q1, q2, q3⟩ := Go.Joins.trod_struct4 Try.underlying33 h2
      match cs', hlen with
      | [u0, u1, u2, u3], _ =>
        simp [cells_k, cells_i] at q0 q1 q2 q3
        obtain ⟨x0, e0, _, w0⟩ := DataW.trod_int Try.underlying3 q0
        obtain ⟨x1, e1, _, w1⟩ := DataW.trod_int Try.underlying3 q1
        obtain ⟨x2, e2, _, w2⟩ := DataW.trod_int Try.underlying3 q2
        obtain ⟨x3, e3, _, w3⟩ := DataW.trod_int Try.underlying31 q3
        simp at e0 e1 e2 e3
        subst e0 e1 e2 e3
        have c0 := hcc 0 (by omega)
        have c1 := hcc 1 (by omega)
        have c2 := hcc 2 (by omega)
        have c3 := hcc 3 (by omega)
        rw [Go.Deep.add_add] at c0 c1 c2 c3
        exact ⟨(x0, x1, x2, x3), by simpa using c0, by simpa using c1, by simpa using c2, by simpa using c3, ⟨i64_wf w1, i64_wf w2⟩, u64_wf w3⟩
    obtain ⟨q, hq⟩ := Go.Deep.choose_lt each
    refine ⟨fun i => (q i).1, fun i => (q i).2.1, fun i => (q i).2.2.1, fun i => (q i).2.2.2, ⟨fun h0 => ?_, fun i hi => (hq i hi).2.2.2.2⟩, (fun e => by cases e), hl, .inr ⟨_, _, hx.1, by simp; omega⟩⟩
    have c0 := (hq 0 h0).1
    have e0 : a.add (0 * 4) = a := by simp [Addr.add]
    rw [e0] at c0
    have ea := spot_none c0
    refine ⟨a.block, a.off, by rw [← ea], World.block_lt_of_cell? _ _ c0, fun i hi => ?_⟩
    obtain ⟨a1, a2, a3, a4, _⟩ := hq i hi
    rw [ea, Addr.add_lit] at a1 a2 a3 a4
    exact ⟨a1, a2, a3, a4⟩

end Go.Proofs.Ytocahgiabeifeaa
