/- What comes in, opened: commands, an answer. -/
import Derived.Test.YtocnmdabilaccaaDoorRows
import Derived.Test.YtocnmdabilaccaaDoorS1Law
import Derived.OpenShut
import Derived.Lib.SmallJoins
namespace Go.Proofs.YtocnmdabilaccaaDoor
open Go.ChangeShapes Go.WideShapes Go.ChangeAt Go.RowKit Go.Joins
set_option linter.unusedVariables false

theorem u64_in21 {x : Int} (h : (Lit.int .u64 x).wf = true) : 0 ≤ x ∧ x < 18446744073709551616 := by
  simp [Lit.wf, IntKind.min, IntKind.max, IntKind.signed, IntKind.bits] at h
  exact ⟨by omega, by omega⟩
theorem i64_in21 {x : Int} (h : (Lit.int .i64 x).wf = true) : -9223372036854775808 ≤ x ∧ x < 9223372036854775808 := by
  simp [Lit.wf, IntKind.min, IntKind.max, IntKind.signed, IntKind.bits] at h
  exact ⟨by omega, by omega⟩
theorem one_le21 {H : Type} (d : DataW H) : 1 ≤ Rows.uptoBulk d := by
  cases d with
  | lit l => cases l <;> simp [Rows.uptoBulk]
  | nil => simp [Rows.uptoBulk]
  | ptr d => simp [Rows.uptoBulk]
  | slice elems spare => simp [Rows.uptoBulk]
  | agg parts => simp [Rows.uptoBulk]
  | iface t d => simp [Rows.uptoBulk]
  | map entries => simp [Rows.uptoBulk]
  | held h => simp [Rows.uptoBulk]
theorem many_le21 {H : Type} (l : List (DataW H)) : l.length ≤ Rows.uptoBulkAll l := by
  induction l with
  | nil => simp [Rows.uptoBulkAll]
  | cons x r ih => have := one_le21 x; simp only [Rows.uptoBulkAll, List.length_cons]; omega
theorem bulk_le21 {H : Type} {d : DataW H} {l : List (DataW H)} (h : d ∈ l) : Rows.uptoBulk d ≤ Rows.uptoBulkAll l := by
  induction l with
  | nil => cases h
  | cons x r ih =>
    simp only [Rows.uptoBulkAll]
    cases List.mem_cons.1 h with
    | inl e => subst e; omega
    | inr e => have := ih e; omega
theorem spot21 {w : World} {a : Addr} {v : Value} (h : w.cell? a = some v) : a = ⟨a.block, a.off, none⟩ := by
  obtain ⟨b, o, s⟩ := a
  cases s with
  | none => rfl
  | some s => unfold World.cell? at h; split at h <;> simp at h
set_option maxRecDepth 10000 in
/-- Numbers. -/
theorem open_nums21 {H : Type} {enc : TypeId × Value → H} {W : World} {u : Value} {fu : Nat} {d : DataW H} {p : List MemPlace} (h : DataW.trod enc Tryd.prog W 0 (fun _ => true) true fu 28 [u] = some (d, p)) :
    ∃ (ns : List Int) (bo : Option Addr) (cp : Nat), u = .slice bo ns.length cp ∧ KS W bo ns.length (fun j => ns.getD j 0) ∧ (bo = none → cp = 0) ∧ 1 + ns.length ≤ Rows.uptoBulk d := by
  rcases Go.Deep.open_slice Tryd.underlying28 h with ⟨hcs, hx⟩ | ⟨a, n, cap', m, fu, D, Pl, hcs, _, hl, hmx, hm, hx, hel⟩
  · simp at hcs
    subst hcs
    simp only [Prod.mk.injEq] at hx
    exact ⟨[], none, 0, rfl, ⟨fun h0 => by simp at h0, fun i hi => by simp at hi⟩, fun _ => rfl, by rw [hx.1]; simp [Rows.uptoBulk]⟩
  · simp at hcs
    subst hcs
    simp only [Prod.mk.injEq] at hx
    simp only [if_true] at hm
    subst hm
    have each : ∀ i, i < n → ∃ q : Int, W.cell? (a.add i) = some (.int .u64 q) ∧ 0 ≤ q ∧ q < 18446744073709551616 := by
      intro i hi
      obtain ⟨cs', h1, h2⟩ := hel i (by omega)
      rw [show Tryd.prog.cellsOf 31 = 1 by kernel_rfl, Nat.mul_one] at h1
      obtain ⟨_, hlen, hcc⟩ := World.cells?_some h1
      match cs', hlen with
      | [u0], _ =>
        obtain ⟨x0, e0, _, w0⟩ := DataW.trod_int Tryd.underlying31 h2
        simp at e0
        subst e0
        have c0 := hcc 0 (by omega)
        rw [Go.Deep.add_add] at c0
        exact ⟨x0, by simpa using c0, u64_in21 w0⟩
    obtain ⟨q, hq⟩ := Go.Deep.choose_lt each
    have ln : ((List.range n).map q).length = n := by simp
    have gd : ∀ i, i < n → ((List.range n).map q).getD i 0 = q i := fun i hi => by simp [List.getD, hi]
    refine ⟨(List.range n).map q, some a, m, by rw [ln], ⟨fun h0 => ?_, fun i hi => ?_⟩, (fun e => by cases e), ?_⟩
    · rw [ln] at h0
      have c0 := (hq 0 h0).1
      have e0 : a.add 0 = a := by simp [Addr.add]
      rw [e0] at c0
      have ea := spot21 c0
      refine ⟨a.block, a.off, by rw [← ea], World.block_lt_of_cell? _ _ c0, fun i hi => ?_⟩
      rw [ln] at hi
      obtain ⟨a1, _⟩ := hq i hi
      rw [ea, Addr.add_lit] at a1
      rw [a1, gd i hi]
    · rw [ln] at hi
      rw [gd i hi]
      exact (hq i hi).2
    · have := many_le21 ((List.range n).map D)
      rw [hx.1, ln]
      simp only [Rows.uptoBulk]
      simp at this
      omega
theorem cells_t21 : Tryd.prog.cellsOf 9 = 1 := by kernel_rfl
theorem cells_n21 : Tryd.prog.cellsOf 28 = 1 := by kernel_rfl
theorem cells_c21 : Tryd.prog.cellsOf 30 = 2 := by kernel_rfl
set_option maxRecDepth 10000 in
theorem open_cmds {H : Type} {enc : TypeId × Value → H} {W : World} {ao : Option Addr} {n c : Nat} {d : DataW H} {p : List MemPlace} (h : DataW.Trod enc Tryd.prog W 0 (fun _ => true) true 23 (.slice ao n c) d p) :
    ∃ l : List Cd, l.length = n ∧ CS W ao l ∧ (ao = none → n = 0 ∧ c = 0) ∧ n ≤ c ∧ 1 + n ≤ Rows.uptoBulk d ∧ ∀ x ∈ l, x.nums.length ≤ Rows.uptoBulk d := by
  obtain ⟨fuel, hf⟩ := h
  rcases Go.Deep.open_slice Tryd.underlying23 hf with ⟨hcs, hx⟩ | ⟨a, len', cap', m, fu, D, Pl, hcs, _, hl, hmx, hm, hx, hel⟩
  · simp [Value.cells] at hcs
    obtain ⟨rfl, rfl, rfl⟩ := hcs
    simp only [Prod.mk.injEq] at hx
    exact ⟨[], rfl, ⟨fun h0 => by simp at h0⟩, fun _ => ⟨rfl, rfl⟩, Nat.le_refl _, by rw [hx.1]; simp [Rows.uptoBulk], fun x hx => by cases hx⟩
  · simp [Value.cells] at hcs
    obtain ⟨rfl, rfl, rfl⟩ := hcs
    simp only [Prod.mk.injEq] at hx
    simp only [if_true] at hm
    subst hm
    have each : ∀ i, i < n → ∃ q : Cd, ∃ bo cp, W.cell? (a.add (i * 2)) = some (.string (Bs q.word)) ∧ W.cell? (a.add (i * 2 + 1)) = some (.slice bo q.nums.length cp) ∧ KS W bo q.nums.length (fun j => q.nums.getD j 0) ∧ (bo = none → cp = 0) ∧ q.nums.length ≤ Rows.uptoBulk (D i) := by
      intro i hi
      obtain ⟨cs', h1, h2⟩ := hel i (by omega)
      rw [cells_c21] at h1
      obtain ⟨_, hlen, hcc⟩ := World.cells?_some h1
      obtain ⟨y0, y1, fu', ed, _, r0, r1⟩ := trod_struct2 Tryd.underlying30 h2
      match cs', hlen with
      | [u0, u1], _ =>
        simp [cells_t21, cells_n21] at r0 r1
        obtain ⟨x0, e0, _, w0⟩ := DataW.trod_string Tryd.underlying9 r0
        simp at e0
        subst e0
        obtain ⟨ns, bo, cp, rfl, k1, k2, k3⟩ := open_nums21 (d := y1.1) (p := y1.2) r1
        obtain ⟨wd, rfl⟩ := Bs_all x0
        have c0 := hcc 0 (by omega)
        have c1 := hcc 1 (by omega)
        rw [Go.Deep.add_add] at c0 c1
        refine ⟨⟨wd, ns⟩, bo, cp, by simpa using c0, by simpa using c1, k1, k2, ?_⟩
        simp only [Prod.mk.injEq] at ed
        rw [ed.1]
        simp only [Rows.uptoBulk, Rows.uptoBulkAll]
        omega
    have inh : Inhabited Cd := ⟨⟨[], []⟩⟩
    obtain ⟨q, hq⟩ := Go.Deep.choose_lt each
    have ln : ((List.range n).map q).length = n := by simp
    refine ⟨(List.range n).map q, ln, ⟨fun h0 => ?_⟩, (fun e => by cases e), hl, ?_, fun x hx' => ?_⟩
    · rw [ln] at h0
      obtain ⟨_, _, c0, _⟩ := hq 0 h0
      have e0 : a.add (0 * 2) = a := by simp [Addr.add]
      rw [e0] at c0
      have ea := spot21 c0
      refine ⟨a.block, a.off, by rw [← ea], World.block_lt_of_cell? _ _ c0, fun i x hx => ?_⟩
      have hi : i < n := by have := (List.getElem?_eq_some_iff.1 hx).1; omega
      have ex : x = q i := by simpa [hi] using hx.symm
      subst ex
      obtain ⟨bo, cp, a1, a2, a3, a4, _⟩ := hq i hi
      rw [ea, Addr.add_lit] at a1 a2
      exact ⟨bo, cp, a1, by rw [Nat.add_assoc]; exact a2, a3, a4⟩
    · have := many_le21 ((List.range n).map D)
      rw [hx.1]
      simp only [Rows.uptoBulk]
      simp at this
      omega
    · obtain ⟨i, hi, rfl⟩ := List.mem_map.1 hx'
      have hi := List.mem_range.1 hi
      obtain ⟨_, _, _, _, _, _, h5⟩ := hq i hi
      have h6 := bulk_le21 (d := D i) (l := (List.range n).map D) (List.mem_map.2 ⟨i, List.mem_range.2 hi, rfl⟩)
      rw [hx.1]
      simp only [Rows.uptoBulk]
      omega
set_option maxRecDepth 10000 in
/-- One command. -/
theorem open_cmd1 {H : Type} {enc : TypeId × Value → H} {W : World} {r : Reach} {b0 : Nat} {v : Value} {d : DataW H} {p : List MemPlace} (hv : Value.okWide Tryd.prog W r b0 30 v) (h : DataW.Trod enc Tryd.prog W 0 (fun _ => true) true 30 v d p) :
    ∃ (x : Cd) (bo : Option Addr) (cp : Nat), v = .agg #[.string (Bs x.word), .slice bo x.nums.length cp] ∧ KS W bo x.nums.length (fun j => x.nums.getD j 0) ∧ x.nums.length ≤ Rows.uptoBulk d := by
  obtain ⟨v0, v1, y0, y1, n, rfl, rfl, rfl, r0, r1⟩ := open_agg2 Tryd.underlying30 (by kernel_rfl) cells_c21 hv h
  obtain ⟨x0, e0, _, w0⟩ := DataW.trod_string Tryd.underlying9 r0
  simp at e0
  subst e0
  obtain ⟨ns, bo, cp, rfl, k1, k2, k3⟩ := open_nums21 (d := y1.1) (p := y1.2) r1
  obtain ⟨wd, rfl⟩ := Bs_all x0
  refine ⟨⟨wd, ns⟩, bo, cp, rfl, k1, ?_⟩
  simp only [Rows.uptoBulk, Rows.uptoBulkAll]
  omega
theorem array6 {α : Type} {cs : Array α} (h : cs.size = 6) : ∃ c0 c1 c2 c3 c4 c5, cs = #[c0, c1, c2, c3, c4, c5] := by
  obtain ⟨l⟩ := cs
  match l, h with
  | [c0, c1, c2, c3, c4, c5], _ => exact ⟨c0, c1, c2, c3, c4, c5, rfl⟩
theorem cells_o21 : Tryd.prog.cellsOf 38 = 3 := by kernel_rfl
set_option maxRecDepth 10000 in
/-- A question. -/
theorem open_op21 {H : Type} {enc : TypeId × Value → H} {W : World} {r : Reach} {b0 : Nat} {v : Value} {d : DataW H} {p : List MemPlace} (hv : Value.okWide Tryd.prog W r b0 38 v) (h : DataW.Trod enc Tryd.prog W 0 (fun _ => true) true 38 v d p) :
    ∃ (kind key value : Int), v = opw kind key value ∧ d = .agg [.lit (.int .i64 kind), .lit (.int .u64 key), .lit (.int .u64 value)] ∧ p = [] := by
  obtain ⟨v0, v1, v2, y0, y1, y2, n, rfl, rfl, rfl, r0, r1, r2⟩ := open_agg3 Tryd.underlying38 (by kernel_rfl) cells_o21 hv h
  obtain ⟨x0, e0, rfl, w0⟩ := DataW.trod_int Tryd.underlying3 r0
  obtain ⟨x1, e1, rfl, w1⟩ := DataW.trod_int Tryd.underlying31 r1
  obtain ⟨x2, e2, rfl, w2⟩ := DataW.trod_int Tryd.underlying31 r2
  simp at e0 e1 e2
  subst e0 e1 e2
  exact ⟨x0, x1, x2, rfl, rfl, rfl⟩
theorem cells_p21 : Tryd.prog.cellsOf 48 = 2 := by kernel_rfl
theorem cells_k21 : Tryd.prog.cellsOf 31 = 1 := by kernel_rfl
set_option maxRecDepth 10000 in
/-- Pairs. -/
theorem open_pairs21 {H : Type} {enc : TypeId × Value → H} {W : World} {u : Value} {fu : Nat} {d : DataW H} {p : List MemPlace} (h : DataW.trod enc Tryd.prog W 0 (fun _ => true) true fu 42 [u] = some (d, p)) :
    ∃ (l : List (Int × Int)) (bo : Option Addr) (cp : Nat), u = .slice bo l.length cp ∧ PS2 W bo l ∧ l.length ≤ Rows.uptoBulk d := by
  rcases Go.Deep.open_slice Tryd.underlying42 h with ⟨hcs, hx⟩ | ⟨a, n, cap', m, fu, D, Pl, hcs, _, hl, hmx, hm, hx, hel⟩
  · simp at hcs
    subst hcs
    exact ⟨[], none, 0, rfl, ⟨fun h0 => by simp at h0, fun x hx => by cases hx⟩, Nat.zero_le _⟩
  · simp at hcs
    subst hcs
    simp only [Prod.mk.injEq] at hx
    simp only [if_true] at hm
    subst hm
    have each : ∀ i, i < n → ∃ q : Int × Int, W.cell? (a.add (i * 2)) = some (.int .u64 q.1) ∧ W.cell? (a.add (i * 2 + 1)) = some (.int .u64 q.2) ∧ (0 ≤ q.1 ∧ q.1 < 18446744073709551616) ∧ (0 ≤ q.2 ∧ q.2 < 18446744073709551616) := by
      intro i hi
      obtain ⟨cs', h1, h2⟩ := hel i (by omega)
      rw [cells_p21] at h1
      obtain ⟨_, hlen, hcc⟩ := World.cells?_some h1
      obtain ⟨y0, y1, fu', ed, _, r0, r1⟩ := trod_struct2 Tryd.underlying48 h2
      match cs', hlen with
      | [u0, u1], _ =>
        simp [cells_k21] at r0 r1
        obtain ⟨x0, e0, _, w0⟩ := DataW.trod_int Tryd.underlying31 r0
        obtain ⟨x1, e1, _, w1⟩ := DataW.trod_int Tryd.underlying31 r1
        simp at e0 e1
        subst e0 e1
        have c0 := hcc 0 (by omega)
        have c1 := hcc 1 (by omega)
        rw [Go.Deep.add_add] at c0 c1
        exact ⟨(x0, x1), by simpa using c0, by simpa using c1, u64_in21 w0, u64_in21 w1⟩
    have inh : Inhabited (Int × Int) := ⟨(0, 0)⟩
    obtain ⟨q, hq⟩ := Go.Deep.choose_lt each
    have ln : ((List.range n).map q).length = n := by simp
    refine ⟨(List.range n).map q, some a, m, by rw [ln], ⟨fun h0 => ?_, fun x hx' => ?_⟩, ?_⟩
    · rw [ln] at h0
      have c0 := (hq 0 h0).1
      have e0 : a.add (0 * 2) = a := by simp [Addr.add]
      rw [e0] at c0
      have ea := spot21 c0
      refine ⟨a.block, a.off, by rw [← ea], World.block_lt_of_cell? _ _ c0, fun i x hx => ?_⟩
      have hi : i < n := by have := (List.getElem?_eq_some_iff.1 hx).1; omega
      have ex : x = q i := by simpa [hi] using hx.symm
      subst ex
      obtain ⟨a1, a2, _⟩ := hq i hi
      rw [ea, Addr.add_lit] at a1 a2
      exact ⟨a1, by rw [Nat.add_assoc]; exact a2⟩
    · obtain ⟨i, hi, rfl⟩ := List.mem_map.1 hx'
      exact (hq i (List.mem_range.1 hi)).2.2
    · have := many_le21 ((List.range n).map D)
      rw [hx.1, ln]
      simp only [Rows.uptoBulk]
      simp at this
      omega
theorem cells_a21 : Tryd.prog.cellsOf 44 = 6 := by kernel_rfl
theorem cells_er21 : Tryd.prog.cellsOf 24 = 1 := by kernel_rfl
theorem cells_b21 : Tryd.prog.cellsOf 4 = 1 := by kernel_rfl
theorem cells_ii21 : Tryd.prog.cellsOf 3 = 1 := by kernel_rfl
theorem cells_ps21 : Tryd.prog.cellsOf 42 = 1 := by kernel_rfl
set_option maxRecDepth 20000 in
/-- An answer. -/
theorem open_ans21 {H : Type} {enc : TypeId × Value → H} {W : World} {r : Reach} {b0 : Nat} {v : Value} {d : DataW H} {p : List MemPlace} (hv : Value.okWide Tryd.prog W r b0 44 v) (h : DataW.Trod enc Tryd.prog W 0 (fun _ => true) true 44 v d p) :
    ∃ (code : Int) (is : Bool) (key value num : Int) (ao : Option Addr) (cp : Nat) (l : List (Int × Int)), v = anw code is key value num ao l.length cp ∧ PS2 W ao l ∧ (-9223372036854775808 ≤ code ∧ code < 9223372036854775808) ∧ (0 ≤ key ∧ key < 18446744073709551616) ∧ (0 ≤ value ∧ value < 18446744073709551616) ∧ (-9223372036854775808 ≤ num ∧ num < 9223372036854775808) ∧ l.length ≤ Rows.uptoBulk d := by
  obtain ⟨cs, rfl, hsz⟩ := okWide_struct Tryd.underlying44 hv
  obtain ⟨c0, c1, c2, c3, c4, c5, rfl⟩ := array6 (hsz.trans cells_a21)
  obtain ⟨fuel, hf⟩ := h
  obtain ⟨xs, n, _, hx, hl, hlen, hh⟩ := DataW.trod_struct Tryd.underlying44 hf
  match xs, hlen with
  | [y0, y1, y2, y3, y4, y5], _ =>
    have q0 := hh 0 _ rfl
    have q1 := hh 1 _ rfl
    have q2 := hh 2 _ rfl
    have q3 := hh 3 _ rfl
    have q4 := hh 4 _ rfl
    have q5 := hh 5 _ rfl
    simp [Value.cells, cells_k21, cells_er21, cells_b21, cells_ii21, cells_ps21] at q0 q1 q2 q3 q4 q5
    obtain ⟨x0, e0, f0, w0⟩ := DataW.trod_int Tryd.underlying24 q0
    obtain ⟨x1, e1, f1⟩ := DataW.trod_bool Tryd.underlying4 q1
    obtain ⟨x2, e2, f2, w2⟩ := DataW.trod_int Tryd.underlying31 q2
    obtain ⟨x3, e3, f3, w3⟩ := DataW.trod_int Tryd.underlying31 q3
    obtain ⟨x4, e4, f4, w4⟩ := DataW.trod_int Tryd.underlying3 q4
    obtain ⟨l, bo, cp, rfl, k1, k2⟩ := open_pairs21 (d := y5.1) (p := y5.2) q5
    simp at e0 e1 e2 e3 e4
    subst e0 e1 e2 e3 e4
    simp only [Prod.mk.injEq] at hx
    refine ⟨x0, x1, x2, x3, x4, bo, cp, l, rfl, k1, i64_in21 w0, u64_in21 w2, u64_in21 w3, i64_in21 w4, ?_⟩
    rw [hx.1]
    simp only [List.map, Rows.uptoBulk, Rows.uptoBulkAll]
    omega
end Go.Proofs.YtocnmdabilaccaaDoor
