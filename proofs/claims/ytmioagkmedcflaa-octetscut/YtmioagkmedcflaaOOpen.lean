/- What comes in, opened: bytes, things to be laid down, calls of a reader. -/
import Derived.Test.YtmioagkmedcflaaHOpen
import Derived.Test.YtmioagkmedcflaaOWReads
import Derived.Test.YtmioagkmedcflaaOWBack
import Derived.Lib.SmallJoins
namespace Go.Proofs.Ytmioagkmedcflaa
open Go.ChangeShapes Go.WideShapes Go.ChangeAt Go.RowKit
set_option linter.unusedVariables false

theorem u8_wf {x : Int} (h : (Lit.int .u8 x).wf = true) : 0 ≤ x ∧ x < 256 := by
  simp [Lit.wf, IntKind.min, IntKind.max, IntKind.signed, IntKind.bits] at h
  exact ⟨by omega, by omega⟩
theorem i64_wf {x : Int} (h : (Lit.int .i64 x).wf = true) : -9223372036854775808 ≤ x ∧ x < 9223372036854775808 := by
  simp [Lit.wf, IntKind.min, IntKind.max, IntKind.signed, IntKind.bits] at h
  exact ⟨by omega, by omega⟩
theorem cells_b : Try.prog.cellsOf 5 = 1 := by kernel_rfl
theorem cells_i : Try.prog.cellsOf 3 = 1 := by kernel_rfl
theorem cells_s : Try.prog.cellsOf 9 = 1 := by kernel_rfl

theorem open_bytes {H : Type} {enc : TypeId × Value → H} {W : World} {ao : Option Addr} {n c : Nat} {d : DataW H} {p : List MemPlace} (h : DataW.Trod enc Try.prog W 0 (fun _ => true) true 22 (.slice ao n c) d p) :
    ∃ f, BS W ao n f ∧ (ao = none → n = 0 ∧ c = 0) ∧ n ≤ c ∧ ((d = .nil ∧ n = 0) ∨ ∃ es sp, d = .slice es sp ∧ es.length + sp.length = c) := by
  obtain ⟨fuel, hf⟩ := h
  rcases open_ints Try.underlying22 Try.underlying5 cells_b hf with ⟨hcs, hx⟩ | ⟨a, len', cap', zs, hcs, _, hl, hmx, hz, hx, hcell, hwz⟩
  · simp [Value.cells] at hcs
    obtain ⟨rfl, rfl, rfl⟩ := hcs
    simp only [Prod.mk.injEq] at hx
    exact ⟨fun _ => 0, ⟨fun h0 => by omega, fun i hi => by omega⟩, fun _ => ⟨rfl, rfl⟩, Nat.le_refl _, .inl ⟨hx.1, rfl⟩⟩
  · simp [Value.cells] at hcs
    obtain ⟨rfl, rfl, rfl⟩ := hcs
    simp only [Prod.mk.injEq] at hx
    simp only [if_true] at hz
    refine ⟨fun i => zs.getD i 0, ⟨fun h0 => ?_, fun i hi => ?_⟩, (fun e => by cases e), hl, .inr ⟨_, _, hx.1, by simp [lits]; omega⟩⟩
    · have c0 := hcell 0 (by omega)
      have e0 : a.add 0 = a := by simp [Addr.add]
      rw [e0] at c0
      have ea := spot_none c0
      refine ⟨a.block, a.off, by rw [← ea], World.block_lt_of_cell? _ _ c0, fun i hi => ?_⟩
      have := hcell i (by omega)
      rw [ea, Addr.add_lit] at this
      exact this
    · have hi' : i < zs.length := by omega
      have := u8_wf (hwz zs[i] (List.getElem_mem hi'))
      simpa [List.getD, hi'] using this

theorem cells_it : Try.prog.cellsOf 55 = 2 := by kernel_rfl
set_option maxRecDepth 10000 in
theorem open_items {H : Type} {enc : TypeId × Value → H} {W : World} {ao : Option Addr} {n c : Nat} {d : DataW H} {p : List MemPlace} (h : DataW.Trod enc Try.prog W 0 (fun _ => true) true 53 (.slice ao n c) d p) :
    ∃ k f, IT W ao n k f ∧ (ao = none → n = 0 ∧ c = 0) ∧ n ≤ c ∧ ((d = .nil ∧ n = 0) ∨ ∃ es sp, d = .slice es sp ∧ es.length + sp.length = c) := by
  obtain ⟨fuel, hf⟩ := h
  rcases Go.Deep.open_slice Try.underlying53 hf with ⟨hcs, hx⟩ | ⟨a, len', cap', m, fu, D, Pl, hcs, _, hl, hmx, hm, hx, hel⟩
  · simp [Value.cells] at hcs
    obtain ⟨rfl, rfl, rfl⟩ := hcs
    simp only [Prod.mk.injEq] at hx
    exact ⟨fun _ => 0, fun _ => 0, ⟨fun h0 => by omega, fun i hi => by omega⟩, fun _ => ⟨rfl, rfl⟩, Nat.le_refl _, .inl ⟨hx.1, rfl⟩⟩
  · simp [Value.cells] at hcs
    obtain ⟨rfl, rfl, rfl⟩ := hcs
    simp only [Prod.mk.injEq] at hx
    simp only [if_true] at hm
    subst hm
    have each : ∀ i, i < n → ∃ q : Int × Int, W.cell? (a.add (i * 2)) = some (.int .i64 q.1) ∧ W.cell? (a.add (i * 2 + 1)) = some (.int .u64 q.2) ∧ (-9223372036854775808 ≤ q.1 ∧ q.1 < 9223372036854775808) ∧ (0 ≤ q.2 ∧ q.2 < 18446744073709551616) := by
      intro i hi
      obtain ⟨cs', h1, h2⟩ := hel i (by omega)
      rw [cells_it] at h1
      obtain ⟨_, hlen, hcc⟩ := World.cells?_some h1
      obtain ⟨y0, y1, fu', _, _, q0, q1⟩ := trod_struct2 Try.underlying55 h2
      match cs', hlen with
      | [u0, u1], _ =>
        simp [cells_k, cells_i] at q0 q1
        obtain ⟨x0, e0, _, w0⟩ := DataW.trod_int Try.underlying3 q0
        obtain ⟨x1, e1, _, w1⟩ := DataW.trod_int Try.underlying23 q1
        simp at e0 e1
        subst e0 e1
        have c0 := hcc 0 (by omega)
        have c1 := hcc 1 (by omega)
        rw [Go.Deep.add_add] at c0 c1
        exact ⟨(x0, x1), by simpa using c0, by simpa using c1, i64_wf w0, u64_wf w1⟩
    obtain ⟨q, hq⟩ := Go.Deep.choose_lt each
    refine ⟨fun i => (q i).1, fun i => (q i).2, ⟨fun h0 => ?_, fun i hi => (hq i hi).2.2⟩, (fun e => by cases e), hl, .inr ⟨_, _, hx.1, by simp; omega⟩⟩
    have c0 := (hq 0 h0).1
    have e0 : a.add (0 * 2) = a := by simp [Addr.add]
    rw [e0] at c0
    have ea := spot_none c0
    refine ⟨a.block, a.off, by rw [← ea], World.block_lt_of_cell? _ _ c0, fun i hi => ?_⟩
    obtain ⟨a1, a2, _⟩ := hq i hi
    rw [ea, Addr.add_lit] at a1 a2
    exact ⟨a1, a2⟩
theorem cells_op : Try.prog.cellsOf 38 = 3 := by kernel_rfl
set_option maxRecDepth 10000 in
theorem open_ops {H : Type} {enc : TypeId × Value → H} {W : World} {ao : Option Addr} {n c : Nat} {d : DataW H} {p : List MemPlace} (h : DataW.Trod enc Try.prog W 0 (fun _ => true) true 32 (.slice ao n c) d p) :
    ∃ k f s, OPS W ao n k f s ∧ (ao = none → n = 0 ∧ c = 0) ∧ n ≤ c ∧ ((d = .nil ∧ n = 0) ∨ ∃ es sp, d = .slice es sp ∧ es.length + sp.length = c) := by
  obtain ⟨fuel, hf⟩ := h
  rcases Go.Deep.open_slice Try.underlying32 hf with ⟨hcs, hx⟩ | ⟨a, len', cap', m, fu, D, Pl, hcs, _, hl, hmx, hm, hx, hel⟩
  · simp [Value.cells] at hcs
    obtain ⟨rfl, rfl, rfl⟩ := hcs
    simp only [Prod.mk.injEq] at hx
    exact ⟨fun _ => 0, fun _ => 0, fun _ => ByteArray.empty, ⟨fun h0 => by omega, fun i hi => by omega⟩, fun _ => ⟨rfl, rfl⟩, Nat.le_refl _, .inl ⟨hx.1, rfl⟩⟩
  · simp [Value.cells] at hcs
    obtain ⟨rfl, rfl, rfl⟩ := hcs
    simp only [Prod.mk.injEq] at hx
    simp only [if_true] at hm
    subst hm
    have each : ∀ i, i < n → ∃ q : Int × Int × ByteArray, W.cell? (a.add (i * 3)) = some (.int .i64 q.1) ∧ W.cell? (a.add (i * 3 + 1)) = some (.int .i64 q.2.1) ∧ W.cell? (a.add (i * 3 + 2)) = some (.string q.2.2) ∧ (-9223372036854775808 ≤ q.1 ∧ q.1 < 9223372036854775808) ∧ (-9223372036854775808 ≤ q.2.1 ∧ q.2.1 < 9223372036854775808) := by
      intro i hi
      obtain ⟨cs', h1, h2⟩ := hel i (by omega)
      rw [cells_op] at h1
      obtain ⟨_, hlen, hcc⟩ := World.cells?_some h1
      obtain ⟨y0, y1, y2, fu', _, _, q0, q1, q2⟩ := Go.Deep.trod_struct3 Try.underlying38 h2
      match cs', hlen with
      | [u0, u1, u2], _ =>
        simp [cells_s, cells_i] at q0 q1 q2
        obtain ⟨x0, e0, _, w0⟩ := DataW.trod_int Try.underlying3 q0
        obtain ⟨x1, e1, _, w1⟩ := DataW.trod_int Try.underlying3 q1
        obtain ⟨x2, e2, _⟩ := DataW.trod_string Try.underlying9 q2
        simp at e0 e1 e2
        subst e0 e1 e2
        have c0 := hcc 0 (by omega)
        have c1 := hcc 1 (by omega)
        have c2 := hcc 2 (by omega)
        rw [Go.Deep.add_add] at c0 c1 c2
        exact ⟨(x0, x1, x2), by simpa using c0, by simpa using c1, by simpa using c2, i64_wf w0, i64_wf w1⟩
    obtain ⟨q, hq⟩ := Go.Deep.choose_lt each
    refine ⟨fun i => (q i).1, fun i => (q i).2.1, fun i => (q i).2.2, ⟨fun h0 => ?_, fun i hi => (hq i hi).2.2.2⟩, (fun e => by cases e), hl, .inr ⟨_, _, hx.1, by simp; omega⟩⟩
    have c0 := (hq 0 h0).1
    have e0 : a.add (0 * 3) = a := by simp [Addr.add]
    rw [e0] at c0
    have ea := spot_none c0
    refine ⟨a.block, a.off, by rw [← ea], World.block_lt_of_cell? _ _ c0, fun i hi => ?_⟩
    obtain ⟨a1, a2, a3, _⟩ := hq i hi
    rw [ea, Addr.add_lit] at a1 a2 a3
    exact ⟨a1, a2, a3⟩

end Go.Proofs.Ytmioagkmedcflaa
