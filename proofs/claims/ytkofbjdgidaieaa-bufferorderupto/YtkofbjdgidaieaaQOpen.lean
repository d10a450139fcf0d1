/- What comes in, opened: steps, and numbers. -/
import Derived.Test.YtkofbjdgidaieaaRows
import Derived.Test.YtkofbjdgidaieaaQFour
import Derived.Test.YtkofbjdgidaieaaGOpen
import Derived.OpenShut
import Derived.Lib.SmallJoins
namespace Go.Proofs.Ytkofbjdgidaieaa
open Go.ChangeShapes Go.WideShapes Go.ChangeAt Go.RowKit Go.Joins
set_option linter.unusedVariables false

theorem i64_in14 {x : Int} (h : (Lit.int .i64 x).wf = true) : -9223372036854775808 ≤ x ∧ x < 9223372036854775808 := by
  simp [Lit.wf, IntKind.min, IntKind.max, IntKind.signed, IntKind.bits] at h
  exact ⟨by omega, by omega⟩
theorem cells_i14 : Try.prog.cellsOf 3 = 1 := by kernel_rfl
theorem cells_op14 : Try.prog.cellsOf 37 = 4 := by kernel_rfl
set_option maxRecDepth 10000 in
theorem open_bops {H : Type} {enc : TypeId × Value → H} {W : World} {ao : Option Addr} {n c : Nat} {d : DataW H} {p : List MemPlace} (h : DataW.Trod enc Try.prog W 0 (fun _ => true) true 22 (.slice ao n c) d p) :
    ∃ l : List (Int × Ent), l.length = n ∧ OPL W ao l ∧ (ao = none → n = 0 ∧ c = 0) ∧ n ≤ c ∧ 1 + n ≤ Rows.uptoBulk d := by
  obtain ⟨fuel, hf⟩ := h
  rcases Go.Deep.open_slice Try.underlying22 hf with ⟨hcs, hx⟩ | ⟨a, len', cap', m, fu, D, Pl, hcs, _, hl, hmx, hm, hx, hel⟩
  · simp [Value.cells] at hcs
    obtain ⟨rfl, rfl, rfl⟩ := hcs
    simp only [Prod.mk.injEq] at hx
    exact ⟨[], rfl, ⟨fun h0 => by simp at h0, fun x hx => by cases hx⟩, fun _ => ⟨rfl, rfl⟩, Nat.le_refl _, by rw [hx.1]; simp [Rows.uptoBulk]⟩
  · simp [Value.cells] at hcs
    obtain ⟨rfl, rfl, rfl⟩ := hcs
    simp only [Prod.mk.injEq] at hx
    simp only [if_true] at hm
    subst hm
    have each : ∀ i, i < n → ∃ q : Int × Ent, W.cell? (a.add (i * 4)) = some (.int .i64 q.1) ∧ W.cell? (a.add (i * 4 + 1)) = some (.int .u64 q.2.k) ∧ W.cell? (a.add (i * 4 + 2)) = some (.int .u64 q.2.v) ∧ W.cell? (a.add (i * 4 + 3)) = some (.bool q.2.g) ∧ (-9223372036854775808 ≤ q.1 ∧ q.1 < 9223372036854775808) ∧ q.2.ok := by
      intro i hi
      obtain ⟨cs', h1, h2⟩ := hel i (by omega)
      rw [cells_op14] at h1
      obtain ⟨_, hlen, hcc⟩ := World.cells?_some h1
      obtain ⟨y0, y1, fu', _, _, q0, q1⟩ := trod_struct2 Try.underlying37 h2
      match cs', hlen with
      | [u0, u1, u2, u3], _ =>
        simp [cells_i14, cells_e13] at q0 q1
        obtain ⟨x0, e0, _, w0⟩ := DataW.trod_int Try.underlying3 q0
        obtain ⟨z0, z1, z2, fu'', _, _, r0, r1, r2⟩ := Go.Deep.trod_struct3 Try.underlying35 q1
        simp [cells_u13, cells_b13] at r0 r1 r2
        obtain ⟨x1, e1, _, w1⟩ := DataW.trod_int Try.underlying33 r0
        obtain ⟨x2, e2, _, w2⟩ := DataW.trod_int Try.underlying33 r1
        obtain ⟨x3, e3, _⟩ := DataW.trod_bool Try.underlying4 r2
        simp at e0 e1 e2 e3
        subst e0 e1 e2 e3
        have c0 := hcc 0 (by omega)
        have c1 := hcc 1 (by omega)
        have c2 := hcc 2 (by omega)
        have c3 := hcc 3 (by omega)
        rw [Go.Deep.add_add] at c0 c1 c2 c3
        exact ⟨(x0, ⟨x1, x2, x3⟩), by simpa using c0, by simpa using c1, by simpa using c2, by simpa using c3, i64_in14 w0, u64_in13 w1, u64_in13 w2⟩
    have inh : Inhabited (Int × Ent) := ⟨(0, ent0)⟩
    obtain ⟨q, hq⟩ := Go.Deep.choose_lt each
    have ln : ((List.range n).map q).length = n := by simp
    refine ⟨(List.range n).map q, ln, ⟨fun h0 => ?_, fun x hx => ?_⟩, (fun e => by cases e), hl, ?_⟩
    · rw [ln] at h0
      have c0 := (hq 0 h0).1
      have e0 : a.add (0 * 4) = a := by simp [Addr.add]
      rw [e0] at c0
      have ea := spot_none13 c0
      refine ⟨a.block, a.off, by rw [← ea], World.block_lt_of_cell? _ _ c0, fun i x hx => ?_⟩
      have hi : i < n := by have := (List.getElem?_eq_some_iff.1 hx).1; omega
      have ex : x = q i := by simpa [hi] using hx.symm
      subst ex
      obtain ⟨a1, a2, a3, a4, _⟩ := hq i hi
      rw [ea, Addr.add_lit] at a1 a2 a3 a4
      exact ⟨a1, by rw [Nat.add_assoc]; exact a2, by rw [Nat.add_assoc]; exact a3, by rw [Nat.add_assoc]; exact a4⟩
    · obtain ⟨i, hi, rfl⟩ := List.mem_map.1 hx
      exact (hq i (List.mem_range.1 hi)).2.2.2.2
    · have := heft_many ((List.range n).map D)
      rw [hx.1]
      simp only [Rows.uptoBulk]
      simp at this
      omega
/-- Numbers in memory. -/
structure NLs (w : World) (ao : Option Addr) (l : List Int) : Prop where
  cells : 0 < l.length → ∃ b off, ao = some ⟨b, off, none⟩ ∧ b < w.heap.size ∧ ∀ i x, l[i]? = some x → w.cell? ⟨b, off + i, none⟩ = some (.int .i64 x)
  bd : ∀ x ∈ l, -9223372036854775808 ≤ x ∧ x < 9223372036854775808
theorem NLs.gw {w w' : World} {ao : Option Addr} {l : List Int} (h : NLs w ao l) (g : Gw w w') : NLs w' ao l :=
  ⟨fun h0 => by
    obtain ⟨b, off, e, hb, hc⟩ := h.cells h0
    exact ⟨b, off, e, Nat.lt_of_lt_of_le hb g.size, fun i x hx => (g.cell _ _ hb).trans (hc i x hx)⟩, h.bd⟩
set_option maxRecDepth 10000 in
theorem open_nums {H : Type} {enc : TypeId × Value → H} {W : World} {ao : Option Addr} {n c : Nat} {d : DataW H} {p : List MemPlace} (h : DataW.Trod enc Try.prog W 0 (fun _ => true) true 50 (.slice ao n c) d p) :
    ∃ l : List Int, l.length = n ∧ NLs W ao l ∧ (ao = none → n = 0 ∧ c = 0) ∧ n ≤ c ∧ 1 + n ≤ Rows.uptoBulk d := by
  obtain ⟨fuel, hf⟩ := h
  rcases Go.Deep.open_slice Try.underlying50 hf with ⟨hcs, hx⟩ | ⟨a, len', cap', m, fu, D, Pl, hcs, _, hl, hmx, hm, hx, hel⟩
  · simp [Value.cells] at hcs
    obtain ⟨rfl, rfl, rfl⟩ := hcs
    simp only [Prod.mk.injEq] at hx
    exact ⟨[], rfl, ⟨fun h0 => by simp at h0, fun x hx => by cases hx⟩, fun _ => ⟨rfl, rfl⟩, Nat.le_refl _, by rw [hx.1]; simp [Rows.uptoBulk]⟩
  · simp [Value.cells] at hcs
    obtain ⟨rfl, rfl, rfl⟩ := hcs
    simp only [Prod.mk.injEq] at hx
    simp only [if_true] at hm
    subst hm
    have each : ∀ i, i < n → ∃ q : Int, W.cell? (a.add i) = some (.int .i64 q) ∧ -9223372036854775808 ≤ q ∧ q < 9223372036854775808 := by
      intro i hi
      obtain ⟨cs', h1, h2⟩ := hel i (by omega)
      rw [show Try.prog.cellsOf 3 = 1 by kernel_rfl, Nat.mul_one] at h1
      obtain ⟨_, hlen, hcc⟩ := World.cells?_some h1
      match cs', hlen with
      | [u0], _ =>
        obtain ⟨x0, e0, _, w0⟩ := DataW.trod_int Try.underlying3 h2
        simp at e0
        subst e0
        have c0 := hcc 0 (by omega)
        rw [Go.Deep.add_add] at c0
        exact ⟨x0, by simpa using c0, i64_in14 w0⟩
    obtain ⟨q, hq⟩ := Go.Deep.choose_lt each
    have ln : ((List.range n).map q).length = n := by simp
    refine ⟨(List.range n).map q, ln, ⟨fun h0 => ?_, fun x hx => ?_⟩, (fun e => by cases e), hl, ?_⟩
    · rw [ln] at h0
      have c0 := (hq 0 h0).1
      have e0 : a.add 0 = a := by simp [Addr.add]
      rw [e0] at c0
      have ea := spot_none13 c0
      refine ⟨a.block, a.off, by rw [← ea], World.block_lt_of_cell? _ _ c0, fun i x hx => ?_⟩
      have hi : i < n := by have := (List.getElem?_eq_some_iff.1 hx).1; omega
      have ex : x = q i := by simpa [hi] using hx.symm
      subst ex
      obtain ⟨a1, _⟩ := hq i hi
      rw [ea, Addr.add_lit] at a1
      exact a1
    · obtain ⟨i, hi, rfl⟩ := List.mem_map.1 hx
      exact (hq i (List.mem_range.1 hi)).2
    · have := heft_many ((List.range n).map D)
      rw [hx.1]
      simp only [Rows.uptoBulk]
      simp at this
      omega
end Go.Proofs.Ytkofbjdgidaieaa
