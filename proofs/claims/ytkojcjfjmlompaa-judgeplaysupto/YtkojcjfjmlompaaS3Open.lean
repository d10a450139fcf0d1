/- What comes in, opened: operations, answers, what was seen. -/
import Derived.Test.YtkojcjfjmlompaaRows
import Derived.Test.YtkojcjfjmlompaaS3Law
import Derived.OpenShut
import Derived.Lib.SmallJoins
namespace Go.Proofs.Ytkojcjfjmlompaa
open Go.ChangeShapes Go.WideShapes Go.ChangeAt Go.RowKit Go.Joins
set_option linter.unusedVariables false

theorem u64_in23 {x : Int} (h : (Lit.int .u64 x).wf = true) : 0 ≤ x ∧ x < 18446744073709551616 := by
  simp [Lit.wf, IntKind.min, IntKind.max, IntKind.signed, IntKind.bits] at h
  exact ⟨by omega, by omega⟩
theorem i64_in23 {x : Int} (h : (Lit.int .i64 x).wf = true) : -9223372036854775808 ≤ x ∧ x < 9223372036854775808 := by
  simp [Lit.wf, IntKind.min, IntKind.max, IntKind.signed, IntKind.bits] at h
  exact ⟨by omega, by omega⟩
theorem one_le23 {H : Type} (d : DataW H) : 1 ≤ Rows.uptoBulk d := by
  cases d with
  | lit l => cases l <;> simp [Rows.uptoBulk]
  | nil => simp [Rows.uptoBulk]
  | ptr d => simp [Rows.uptoBulk]
  | slice elems spare => simp [Rows.uptoBulk]
  | agg parts => simp [Rows.uptoBulk]
  | iface t d => simp [Rows.uptoBulk]
  | map entries => simp [Rows.uptoBulk]
  | held h => simp [Rows.uptoBulk]
theorem many_le23 {H : Type} (l : List (DataW H)) : l.length ≤ Rows.uptoBulkAll l := by
  induction l with
  | nil => simp [Rows.uptoBulkAll]
  | cons x r ih => have := one_le23 x; simp only [Rows.uptoBulkAll, List.length_cons]; omega
theorem bulk_le23 {H : Type} {d : DataW H} {l : List (DataW H)} (h : d ∈ l) : Rows.uptoBulk d ≤ Rows.uptoBulkAll l := by
  induction l with
  | nil => cases h
  | cons x r ih =>
    simp only [Rows.uptoBulkAll]
    cases List.mem_cons.1 h with
    | inl e => subst e; omega
    | inr e => have := ih e; omega
theorem spot23 {w : World} {a : Addr} {v : Value} (h : w.cell? a = some v) : a = ⟨a.block, a.off, none⟩ := by
  obtain ⟨b, o, s⟩ := a
  cases s with
  | none => rfl
  | some s => unfold World.cell? at h; split at h <;> simp at h
theorem cells_p23 : Try.prog.cellsOf 44 = 2 := by kernel_rfl
theorem cells_k23 : Try.prog.cellsOf 31 = 1 := by kernel_rfl
set_option maxRecDepth 10000 in
/-- Pairs. -/
theorem open_pairs23 {H : Type} {enc : TypeId × Value → H} {W : World} {u : Value} {fu : Nat} {d : DataW H} {p : List MemPlace} (h : DataW.trod enc Try.prog W 0 (fun _ => true) true fu 34 [u] = some (d, p)) :
    ∃ (l : List (Int × Int)) (bo : Option Addr) (cp : Nat), u = .slice bo l.length cp ∧ PLr W bo l ∧ (bo = none → l.length = 0 ∧ cp = 0) ∧ l.length ≤ Rows.uptoBulk d := by
  rcases Go.Deep.open_slice Try.underlying34 h with ⟨hcs, hx⟩ | ⟨a, n, cap', m, fu, D, Pl, hcs, _, hl, hmx, hm, hx, hel⟩
  · simp at hcs
    subst hcs
    exact ⟨[], none, 0, rfl, ⟨fun h0 => by simp at h0⟩, fun _ => ⟨rfl, rfl⟩, Nat.zero_le _⟩
  · simp at hcs
    subst hcs
    simp only [Prod.mk.injEq] at hx
    simp only [if_true] at hm
    subst hm
    have each : ∀ i, i < n → ∃ q : Int × Int, W.cell? (a.add (i * 2)) = some (.int .u64 q.1) ∧ W.cell? (a.add (i * 2 + 1)) = some (.int .u64 q.2) ∧ (0 ≤ q.1 ∧ q.1 < 18446744073709551616) ∧ (0 ≤ q.2 ∧ q.2 < 18446744073709551616) := by
      intro i hi
      obtain ⟨cs', h1, h2⟩ := hel i (by omega)
      rw [cells_p23] at h1
      obtain ⟨_, hlen, hcc⟩ := World.cells?_some h1
      obtain ⟨y0, y1, fu', ed, _, r0, r1⟩ := trod_struct2 Try.underlying44 h2
      match cs', hlen with
      | [u0, u1], _ =>
        simp [cells_k23] at r0 r1
        obtain ⟨x0, e0, _, w0⟩ := DataW.trod_int Try.underlying31 r0
        obtain ⟨x1, e1, _, w1⟩ := DataW.trod_int Try.underlying31 r1
        simp at e0 e1
        subst e0 e1
        have c0 := hcc 0 (by omega)
        have c1 := hcc 1 (by omega)
        rw [Go.Deep.add_add] at c0 c1
        exact ⟨(x0, x1), by simpa using c0, by simpa using c1, u64_in23 w0, u64_in23 w1⟩
    have inh : Inhabited (Int × Int) := ⟨(0, 0)⟩
    obtain ⟨q, hq⟩ := Go.Deep.choose_lt each
    have ln : ((List.range n).map q).length = n := by simp
    refine ⟨(List.range n).map q, some a, m, by rw [ln], ⟨fun h0 => ?_⟩, (fun e => by cases e), ?_⟩
    · rw [ln] at h0
      have c0 := (hq 0 h0).1
      have e0 : a.add (0 * 2) = a := by simp [Addr.add]
      rw [e0] at c0
      have ea := spot23 c0
      refine ⟨a.block, a.off, by rw [← ea], World.block_lt_of_cell? _ _ c0, fun i x hx j u hu => ?_⟩
      have hi : i < n := by have := (List.getElem?_eq_some_iff.1 hx).1; omega
      have ex : x = q i := by simpa [hi] using hx.symm
      subst ex
      obtain ⟨a1, a2, _⟩ := hq i hi
      rw [ea, Addr.add_lit] at a1 a2
      match j, hu with
      | 0, hu => simp [pc2] at hu; rw [← hu]; exact a1
      | 1, hu => simp [pc2] at hu; rw [← hu, Nat.add_assoc]; exact a2
      | j + 2, hu => simp [pc2] at hu
    · have := many_le23 ((List.range n).map D)
      rw [hx.1, ln]
      simp only [Rows.uptoBulk]
      simp at this
      omega
theorem cells_o23 : Try.prog.cellsOf 33 = 3 := by kernel_rfl
theorem cells_a23 : Try.prog.cellsOf 36 = 6 := by kernel_rfl
theorem cells_er23 : Try.prog.cellsOf 25 = 1 := by kernel_rfl
theorem cells_b23 : Try.prog.cellsOf 4 = 1 := by kernel_rfl
theorem cells_ii23 : Try.prog.cellsOf 3 = 1 := by kernel_rfl
theorem cells_ps23 : Try.prog.cellsOf 34 = 1 := by kernel_rfl
set_option maxRecDepth 10000 in
/-- An operation's cells. -/
theorem open_oc23 {H : Type} {enc : TypeId × Value → H} {W : World} {fu : Nat} {u0 u1 u2 : Value} {d : DataW H} {p : List MemPlace} (h : DataW.trod enc Try.prog W 0 (fun _ => true) true fu 33 [u0, u1, u2] = some (d, p)) :
    ∃ o : Ot, u0 = .int .i64 o.1 ∧ u1 = .int .u64 o.2.1 ∧ u2 = .int .u64 o.2.2 ∧ BdO o := by
  obtain ⟨xs, n, _, hx, hl, hlen, hh⟩ := DataW.trod_struct Try.underlying33 h
  match xs, hlen with
  | [y0, y1, y2], _ =>
    have q0 := hh 0 _ rfl
    have q1 := hh 1 _ rfl
    have q2 := hh 2 _ rfl
    simp [cells_k23, cells_ii23] at q0 q1 q2
    obtain ⟨x0, e0, f0, w0⟩ := DataW.trod_int Try.underlying3 q0
    obtain ⟨x1, e1, f1, w1⟩ := DataW.trod_int Try.underlying31 q1
    obtain ⟨x2, e2, f2, w2⟩ := DataW.trod_int Try.underlying31 q2
    simp at e0 e1 e2
    exact ⟨(x0, x1, x2), e0, e1, e2, u64_in23 w1, u64_in23 w2⟩
set_option maxRecDepth 10000 in
/-- An answer's cells. -/
theorem open_ac23 {H : Type} {enc : TypeId × Value → H} {W : World} {fu : Nat} {u0 u1 u2 u3 u4 u5 : Value} {d : DataW H} {p : List MemPlace} (h : DataW.trod enc Try.prog W 0 (fun _ => true) true fu 36 [u0, u1, u2, u3, u4, u5] = some (d, p)) :
    ∃ (A : Aw) (bo : Option Addr) (c : Nat), u0 = .int .i64 A.c ∧ u1 = .bool A.is ∧ u2 = .int .u64 A.k ∧ u3 = .int .u64 A.v ∧ u4 = .int .i64 A.n ∧ u5 = .slice bo A.L.length c ∧ PLr W bo A.L ∧ (bo = none → A.L.length = 0 ∧ c = 0) ∧ A.L.length ≤ Rows.uptoBulk d := by
  obtain ⟨xs, n, _, hx, hl, hlen, hh⟩ := DataW.trod_struct Try.underlying36 h
  match xs, hlen with
  | [y0, y1, y2, y3, y4, y5], _ =>
    have q0 := hh 0 _ rfl
    have q1 := hh 1 _ rfl
    have q2 := hh 2 _ rfl
    have q3 := hh 3 _ rfl
    have q4 := hh 4 _ rfl
    have q5 := hh 5 _ rfl
    simp [cells_k23, cells_er23, cells_b23, cells_ii23, cells_ps23] at q0 q1 q2 q3 q4 q5
    obtain ⟨x0, e0, f0, w0⟩ := DataW.trod_int Try.underlying25 q0
    obtain ⟨x1, e1, f1⟩ := DataW.trod_bool Try.underlying4 q1
    obtain ⟨x2, e2, f2, w2⟩ := DataW.trod_int Try.underlying31 q2
    obtain ⟨x3, e3, f3, w3⟩ := DataW.trod_int Try.underlying31 q3
    obtain ⟨x4, e4, f4, w4⟩ := DataW.trod_int Try.underlying3 q4
    obtain ⟨l, bo, cp, e5, k1, k2, k3⟩ := open_pairs23 (d := y5.1) (p := y5.2) q5
    simp at e0 e1 e2 e3 e4
    simp only [Prod.mk.injEq] at hx
    refine ⟨⟨x0, x1, x2, x3, x4, l⟩, bo, cp, e0, e1, e2, e3, e4, e5, k1, k2, ?_⟩
    rw [hx.1]
    simp only [List.map, Rows.uptoBulk, Rows.uptoBulkAll]
    omega
set_option maxRecDepth 10000 in
/-- Operations. -/
theorem open_ops23 {H : Type} {enc : TypeId × Value → H} {W : World} {ao : Option Addr} {n c : Nat} {d : DataW H} {p : List MemPlace} (h : DataW.Trod enc Try.prog W 0 (fun _ => true) true 49 (.slice ao n c) d p) :
    ∃ l : List Ot, l.length = n ∧ OLr W ao l ∧ (ao = none → n = 0 ∧ c = 0) ∧ n ≤ c ∧ 1 + n ≤ Rows.uptoBulk d ∧ ∀ x ∈ l, BdO x := by
  obtain ⟨fuel, hf⟩ := h
  rcases Go.Deep.open_slice Try.underlying49 hf with ⟨hcs, hx⟩ | ⟨a, len', cap', m, fu, D, Pl, hcs, _, hl, hmx, hm, hx, hel⟩
  · simp [Value.cells] at hcs
    obtain ⟨rfl, rfl, rfl⟩ := hcs
    simp only [Prod.mk.injEq] at hx
    exact ⟨[], rfl, ⟨fun h0 => by simp at h0⟩, fun _ => ⟨rfl, rfl⟩, Nat.le_refl _, by rw [hx.1]; simp [Rows.uptoBulk], fun x hx => by cases hx⟩
  · simp [Value.cells] at hcs
    obtain ⟨rfl, rfl, rfl⟩ := hcs
    simp only [Prod.mk.injEq] at hx
    simp only [if_true] at hm
    subst hm
    have each : ∀ i, i < n → ∃ q : Ot, W.cell? (a.add (i * 3)) = some (.int .i64 q.1) ∧ W.cell? (a.add (i * 3 + 1)) = some (.int .u64 q.2.1) ∧ W.cell? (a.add (i * 3 + 2)) = some (.int .u64 q.2.2) ∧ BdO q := by
      intro i hi
      obtain ⟨cs', h1, h2⟩ := hel i (by omega)
      rw [cells_o23] at h1
      obtain ⟨_, hlen, hcc⟩ := World.cells?_some h1
      match cs', hlen with
      | [u0, u1, u2], _ =>
        have c0 := hcc 0 (by omega)
        have c1 := hcc 1 (by omega)
        have c2 := hcc 2 (by omega)
        rw [Go.Deep.add_add] at c0 c1 c2
        obtain ⟨o, rfl, rfl, rfl, bd⟩ := open_oc23 h2
        exact ⟨o, by simpa using c0, by simpa using c1, by simpa using c2, bd⟩
    have inh : Inhabited Ot := ⟨(0, 0, 0)⟩
    obtain ⟨q, hq⟩ := Go.Deep.choose_lt each
    have ln : ((List.range n).map q).length = n := by simp
    refine ⟨(List.range n).map q, ln, ⟨fun h0 => ?_⟩, (fun e => by cases e), hl, ?_, fun x hx' => ?_⟩
    · rw [ln] at h0
      have c0 := (hq 0 h0).1
      have e0 : a.add (0 * 3) = a := by simp [Addr.add]
      rw [e0] at c0
      have ea := spot23 c0
      refine ⟨a.block, a.off, by rw [← ea], World.block_lt_of_cell? _ _ c0, fun i x hx j u hu => ?_⟩
      have hi : i < n := by have := (List.getElem?_eq_some_iff.1 hx).1; omega
      have ex : x = q i := by simpa [hi] using hx.symm
      subst ex
      obtain ⟨a1, a2, a3, _⟩ := hq i hi
      rw [ea, Addr.add_lit] at a1 a2 a3
      match j, hu with
      | 0, hu => simp [oc3] at hu; rw [← hu]; exact a1
      | 1, hu => simp [oc3] at hu; rw [← hu, Nat.add_assoc]; exact a2
      | 2, hu => simp [oc3] at hu; rw [← hu, Nat.add_assoc]; exact a3
      | j + 3, hu => simp [oc3] at hu
    · have := many_le23 ((List.range n).map D)
      rw [hx.1]
      simp only [Rows.uptoBulk]
      simp at this
      omega
    · obtain ⟨i, hi, rfl⟩ := List.mem_map.1 hx'
      have hi := List.mem_range.1 hi
      have h6 := bulk_le23 (d := D i) (l := (List.range n).map D) (List.mem_map.2 ⟨i, List.mem_range.2 hi, rfl⟩)
      exact (hq i hi).2.2.2
set_option maxRecDepth 10000 in
/-- Answers. -/
theorem open_anss23 {H : Type} {enc : TypeId × Value → H} {W : World} {ao : Option Addr} {n c : Nat} {d : DataW H} {p : List MemPlace} (h : DataW.Trod enc Try.prog W 0 (fun _ => true) true 50 (.slice ao n c) d p) :
    ∃ l : List Aw, l.length = n ∧ ALr W ao l ∧ (ao = none → n = 0 ∧ c = 0) ∧ n ≤ c ∧ 1 + n ≤ Rows.uptoBulk d ∧ ∀ x ∈ l, x.L.length ≤ Rows.uptoBulk d := by
  obtain ⟨fuel, hf⟩ := h
  rcases Go.Deep.open_slice Try.underlying50 hf with ⟨hcs, hx⟩ | ⟨a, len', cap', m, fu, D, Pl, hcs, _, hl, hmx, hm, hx, hel⟩
  · simp [Value.cells] at hcs
    obtain ⟨rfl, rfl, rfl⟩ := hcs
    simp only [Prod.mk.injEq] at hx
    exact ⟨[], rfl, ⟨fun h0 => by simp at h0⟩, fun _ => ⟨rfl, rfl⟩, Nat.le_refl _, by rw [hx.1]; simp [Rows.uptoBulk], fun x hx => by cases hx⟩
  · simp [Value.cells] at hcs
    obtain ⟨rfl, rfl, rfl⟩ := hcs
    simp only [Prod.mk.injEq] at hx
    simp only [if_true] at hm
    subst hm
    have each : ∀ i, i < n → ∃ q : Aw, (∃ (bo : Option Addr) (cp : Nat), PLr W bo q.L ∧ (bo = none → q.L.length = 0 ∧ cp = 0) ∧ W.cell? (a.add (i * 6)) = some (.int .i64 q.c) ∧ W.cell? (a.add (i * 6 + 1)) = some (.bool q.is) ∧ W.cell? (a.add (i * 6 + 2)) = some (.int .u64 q.k) ∧ W.cell? (a.add (i * 6 + 3)) = some (.int .u64 q.v) ∧ W.cell? (a.add (i * 6 + 4)) = some (.int .i64 q.n) ∧ W.cell? (a.add (i * 6 + 5)) = some (.slice bo q.L.length cp)) ∧ q.L.length ≤ Rows.uptoBulk (D i) := by
      intro i hi
      obtain ⟨cs', h1, h2⟩ := hel i (by omega)
      rw [cells_a23] at h1
      obtain ⟨_, hlen, hcc⟩ := World.cells?_some h1
      match cs', hlen with
      | [u0, u1, u2, u3, u4, u5], _ =>
        have c0 := hcc 0 (by omega)
        have c1 := hcc 1 (by omega)
        have c2 := hcc 2 (by omega)
        have c3 := hcc 3 (by omega)
        have c4 := hcc 4 (by omega)
        have c5 := hcc 5 (by omega)
        rw [Go.Deep.add_add] at c0 c1 c2 c3 c4 c5
        obtain ⟨A, bo, cp, rfl, rfl, rfl, rfl, rfl, rfl, k1, k2, k3⟩ := open_ac23 h2
        exact ⟨A, ⟨bo, cp, k1, k2, by simpa using c0, by simpa using c1, by simpa using c2, by simpa using c3, by simpa using c4, by simpa using c5⟩, k3⟩
    have inh : Inhabited Aw := ⟨aw0⟩
    obtain ⟨q, hq⟩ := Go.Deep.choose_lt each
    have ln : ((List.range n).map q).length = n := by simp
    refine ⟨(List.range n).map q, ln, ⟨fun h0 => ?_⟩, (fun e => by cases e), hl, ?_, fun x hx' => ?_⟩
    · rw [ln] at h0
      obtain ⟨⟨_, _, _, _, c0, _⟩, _⟩ := hq 0 h0
      have e0 : a.add (0 * 6) = a := by simp [Addr.add]
      rw [e0] at c0
      have ea := spot23 c0
      refine ⟨a.block, a.off, by rw [← ea], World.block_lt_of_cell? _ _ c0, fun i x hx => ?_⟩
      have hi : i < n := by have := (List.getElem?_eq_some_iff.1 hx).1; omega
      have ex : x = q i := by simpa [hi] using hx.symm
      subst ex
      obtain ⟨⟨bo, cp, k1, k2, a0, a1, a2, a3, a4, a5⟩, _⟩ := hq i hi
      rw [ea, Addr.add_lit] at a0 a1 a2 a3 a4 a5
      exact ⟨bo, cp, k1, k2, a0, by rw [Nat.add_assoc]; exact a1, by rw [Nat.add_assoc]; exact a2, by rw [Nat.add_assoc]; exact a3, by rw [Nat.add_assoc]; exact a4, by rw [Nat.add_assoc]; exact a5⟩
    · have := many_le23 ((List.range n).map D)
      rw [hx.1]
      simp only [Rows.uptoBulk]
      simp at this
      omega
    · obtain ⟨i, hi, rfl⟩ := List.mem_map.1 hx'
      have hi := List.mem_range.1 hi
      have h6 := bulk_le23 (d := D i) (l := (List.range n).map D) (List.mem_map.2 ⟨i, List.mem_range.2 hi, rfl⟩)
      have h5 := (hq i hi).2
      rw [hx.1]
      simp only [Rows.uptoBulk]
      omega
theorem cells_s23 : Try.prog.cellsOf 38 = 9 := by kernel_rfl
set_option maxRecDepth 10000 in
/-- What was seen. -/
theorem open_seens23 {H : Type} {enc : TypeId × Value → H} {W : World} {ao : Option Addr} {n c : Nat} {d : DataW H} {p : List MemPlace} (h : DataW.Trod enc Try.prog W 0 (fun _ => true) true 22 (.slice ao n c) d p) :
    ∃ l : List (Ot × Aw), l.length = n ∧ SLr W ao l ∧ (ao = none → n = 0 ∧ c = 0) ∧ n ≤ c ∧ 1 + n ≤ Rows.uptoBulk d ∧ ∀ x ∈ l, BdO x.1 ∧ x.2.L.length ≤ Rows.uptoBulk d := by
  obtain ⟨fuel, hf⟩ := h
  rcases Go.Deep.open_slice Try.underlying22 hf with ⟨hcs, hx⟩ | ⟨a, len', cap', m, fu, D, Pl, hcs, _, hl, hmx, hm, hx, hel⟩
  · simp [Value.cells] at hcs
    obtain ⟨rfl, rfl, rfl⟩ := hcs
    simp only [Prod.mk.injEq] at hx
    exact ⟨[], rfl, ⟨fun h0 => by simp at h0⟩, fun _ => ⟨rfl, rfl⟩, Nat.le_refl _, by rw [hx.1]; simp [Rows.uptoBulk], fun x hx => by cases hx⟩
  · simp [Value.cells] at hcs
    obtain ⟨rfl, rfl, rfl⟩ := hcs
    simp only [Prod.mk.injEq] at hx
    simp only [if_true] at hm
    subst hm
    have each : ∀ i, i < n → ∃ q : (Ot × Aw), (W.cell? (a.add (i * 9)) = some (.int .i64 q.1.1) ∧ W.cell? (a.add (i * 9 + 1)) = some (.int .u64 q.1.2.1) ∧ W.cell? (a.add (i * 9 + 2)) = some (.int .u64 q.1.2.2)) ∧ BdO q.1 ∧ (∃ (bo : Option Addr) (cp : Nat), PLr W bo q.2.L ∧ (bo = none → q.2.L.length = 0 ∧ cp = 0) ∧ W.cell? (a.add (i * 9 + 3)) = some (.int .i64 q.2.c) ∧ W.cell? (a.add (i * 9 + 3 + 1)) = some (.bool q.2.is) ∧ W.cell? (a.add (i * 9 + 3 + 2)) = some (.int .u64 q.2.k) ∧ W.cell? (a.add (i * 9 + 3 + 3)) = some (.int .u64 q.2.v) ∧ W.cell? (a.add (i * 9 + 3 + 4)) = some (.int .i64 q.2.n) ∧ W.cell? (a.add (i * 9 + 3 + 5)) = some (.slice bo q.2.L.length cp)) ∧ q.2.L.length ≤ Rows.uptoBulk (D i) := by
      intro i hi
      obtain ⟨cs', h1, h2⟩ := hel i (by omega)
      rw [cells_s23] at h1
      obtain ⟨_, hlen, hcc⟩ := World.cells?_some h1
      obtain ⟨y0, y1, fu', ed, _, r0, r1⟩ := trod_struct2 Try.underlying38 h2
      match cs', hlen with
      | [u0, u1, u2, u3, u4, u5, u6, u7, u8], _ =>
        simp [cells_o23, cells_a23] at r0 r1
        have c0 := hcc 0 (by omega)
        have c1 := hcc 1 (by omega)
        have c2 := hcc 2 (by omega)
        have c3 := hcc 3 (by omega)
        have c4 := hcc 4 (by omega)
        have c5 := hcc 5 (by omega)
        have c6 := hcc 6 (by omega)
        have c7 := hcc 7 (by omega)
        have c8 := hcc 8 (by omega)
        rw [Go.Deep.add_add] at c0 c1 c2 c3 c4 c5 c6 c7 c8
        obtain ⟨o, rfl, rfl, rfl, bd⟩ := open_oc23 (d := y0.1) (p := y0.2) r0
        obtain ⟨A, bo, cp, rfl, rfl, rfl, rfl, rfl, rfl, k1, k2, k3⟩ := open_ac23 (d := y1.1) (p := y1.2) r1
        refine ⟨(o, A), ⟨by simpa using c0, by simpa using c1, by simpa using c2⟩, bd, ⟨bo, cp, k1, k2, by simpa using c3, by simpa using c4, by simpa using c5, by simpa using c6, by simpa using c7, by simpa using c8⟩, ?_⟩
        simp only [Prod.mk.injEq] at ed
        rw [ed.1]
        simp only [Rows.uptoBulk, Rows.uptoBulkAll]
        omega
    have inh : Inhabited (Ot × Aw) := ⟨((0, 0, 0), aw0)⟩
    obtain ⟨q, hq⟩ := Go.Deep.choose_lt each
    have ln : ((List.range n).map q).length = n := by simp
    refine ⟨(List.range n).map q, ln, ⟨fun h0 => ?_⟩, (fun e => by cases e), hl, ?_, fun x hx' => ?_⟩
    · rw [ln] at h0
      obtain ⟨⟨c0, _⟩, _⟩ := hq 0 h0
      have e0 : a.add (0 * 9) = a := by simp [Addr.add]
      rw [e0] at c0
      have ea := spot23 c0
      refine ⟨a.block, a.off, by rw [← ea], World.block_lt_of_cell? _ _ c0, fun i x hx => ?_⟩
      have hi : i < n := by have := (List.getElem?_eq_some_iff.1 hx).1; omega
      have ex : x = q i := by simpa [hi] using hx.symm
      subst ex
      obtain ⟨⟨o0, o1, o2⟩, _, ⟨bo, cp, k1, k2, a0, a1, a2, a3, a4, a5⟩, _⟩ := hq i hi
      rw [ea, Addr.add_lit] at o0 o1 o2 a0 a1 a2 a3 a4 a5
      exact ⟨⟨o0, by rw [Nat.add_assoc]; exact o1, by rw [Nat.add_assoc]; exact o2⟩, bo, cp, k1, k2, by rw [Nat.add_assoc]; exact a0, by rw [Nat.add_assoc a.off]; exact a1, by rw [Nat.add_assoc a.off]; exact a2, by rw [Nat.add_assoc a.off]; exact a3, by rw [Nat.add_assoc a.off]; exact a4, by rw [Nat.add_assoc a.off]; exact a5⟩
    · have := many_le23 ((List.range n).map D)
      rw [hx.1]
      simp only [Rows.uptoBulk]
      simp at this
      omega
    · obtain ⟨i, hi, rfl⟩ := List.mem_map.1 hx'
      have hi := List.mem_range.1 hi
      have h6 := bulk_le23 (d := D i) (l := (List.range n).map D) (List.mem_map.2 ⟨i, List.mem_range.2 hi, rfl⟩)
      have h5 := (hq i hi).2.2.2
      refine ⟨(hq i hi).2.1, ?_⟩
      rw [hx.1]
      simp only [Rows.uptoBulk]
      omega
set_option maxRecDepth 10000 in
/-- One operation. -/
theorem open_op23 {H : Type} {enc : TypeId × Value → H} {W : World} {r : Reach} {b0 : Nat} {v : Value} {d : DataW H} {p : List MemPlace} (hv : Value.okWide Try.prog W r b0 33 v) (h : DataW.Trod enc Try.prog W 0 (fun _ => true) true 33 v d p) :
    ∃ (kind key value : Int), v = .agg #[.int .i64 kind, .int .u64 key, .int .u64 value] ∧ d = .agg [.lit (.int .i64 kind), .lit (.int .u64 key), .lit (.int .u64 value)] ∧ p = [] ∧ BdO (kind, key, value) := by
  obtain ⟨v0, v1, v2, y0, y1, y2, n, rfl, rfl, rfl, r0, r1, r2⟩ := open_agg3 Try.underlying33 (by kernel_rfl) cells_o23 hv h
  obtain ⟨x0, e0, rfl, w0⟩ := DataW.trod_int Try.underlying3 r0
  obtain ⟨x1, e1, rfl, w1⟩ := DataW.trod_int Try.underlying31 r1
  obtain ⟨x2, e2, rfl, w2⟩ := DataW.trod_int Try.underlying31 r2
  simp at e0 e1 e2
  subst e0 e1 e2
  exact ⟨x0, x1, x2, rfl, rfl, rfl, u64_in23 w1, u64_in23 w2⟩
end Go.Proofs.Ytkojcjfjmlompaa
