import Derived.Test.YtdikiaeagcokdabGreatPBs
import Derived.ProofKit
import Derived.OpenShut
import Derived.Deep.Slices
import Derived.Deep.Strs
import Derived.SizedLaws
import Derived.Test.YtdikiaeagcokdabGreatPE3
import Derived.Test.YtdikiaeagcokdabGreatPVr
import Derived.Lib.SmallJoins
/- What comes in, opened: a list of keys. -/
namespace Go.Proofs.YtdikiaeagcokdabGreat
open Go.ChangeShapes Go.WideShapes Go.ChangeAt Go.RowKit
set_option linter.unusedVariables false

theorem spot_none {w : World} {a : Addr} {v : Value} (h : w.cell? a = some v) : a = ⟨a.block, a.off, none⟩ := by
  obtain ⟨b, o, s⟩ := a
  cases s with
  | none => rfl
  | some s => unfold World.cell? at h; split at h <;> simp at h

theorem u64_wf {x : Int} (h : (Lit.int .u64 x).wf = true) : 0 ≤ x ∧ x < 18446744073709551616 := by
  simp [Lit.wf, IntKind.min, IntKind.max, IntKind.signed, IntKind.bits] at h
  exact ⟨by omega, by omega⟩

theorem cells_k : Tryz.prog.cellsOf 31 = 1 := by kernel_rfl

theorem open_keys {H : Type} {enc : TypeId × Value → H} {W : World} {ao : Option Addr} {n c : Nat} {d : DataW H} {p : List MemPlace} (h : DataW.Trod enc Tryz.prog W 0 (fun _ => true) true 23 (.slice ao n c) d p) :
    ∃ f, KS W ao n f ∧ (ao = none → n = 0 ∧ c = 0) ∧ n ≤ c ∧ ((d = .nil ∧ n = 0) ∨ ∃ es sp, d = .slice es sp ∧ es.length + sp.length = c) := by
  obtain ⟨fuel, hf⟩ := h
  rcases open_ints Tryz.underlying23 Tryz.underlying31 cells_k hf with ⟨hcs, hx⟩ | ⟨a, len', cap', zs, hcs, _, hl, hmx, hz, hx, hcell, hwz⟩
  · simp [Value.cells] at hcs
    obtain ⟨rfl, rfl, rfl⟩ := hcs
    simp only [Prod.mk.injEq] at hx
    exact ⟨fun _ => 0, ⟨fun h0 => by omega, fun i hi => by omega⟩, fun _ => ⟨rfl, rfl⟩, Nat.le_refl _, .inl ⟨hx.1, rfl⟩⟩
  · simp [Value.cells] at hcs
    obtain ⟨rfl, rfl, rfl⟩ := hcs
    simp only [Prod.mk.injEq] at hx
    simp only [if_true] at hz
    refine ⟨fun i => zs.getD i 0, ⟨fun h0 => ?_, fun i hi => ?_⟩, (fun e => by cases e), hl, .inr ⟨_, _, hx.1, by simp [lits]; omega⟩⟩
    · have c0 := hcell 0 (by omega)
      have e0 : a.add 0 = a := by simp [Addr.add]
      rw [e0] at c0
      have ea := spot_none c0
      refine ⟨a.block, a.off, by rw [← ea], World.block_lt_of_cell? _ _ c0, fun i hi => ?_⟩
      have := hcell i (by omega)
      rw [ea, Addr.add_lit] at this
      exact this
    · have hi' : i < zs.length := by omega
      have := u64_wf (hwz zs[i] (List.getElem_mem hi'))
      simpa [List.getD, hi'] using this

end Go.Proofs.YtdikiaeagcokdabGreat

/- What comes in, opened: a list of entries, a list of what is asked. -/
namespace Go.Proofs.YtdikiaeagcokdabGreat
open Go.ChangeShapes Go.WideShapes Go.ChangeAt Go.RowKit
set_option linter.unusedVariables false

theorem i64_wf11 {x : Int} (h : (Lit.int .i64 x).wf = true) : -9223372036854775808 ≤ x ∧ x < 9223372036854775808 := by
  simp [Lit.wf, IntKind.min, IntKind.max, IntKind.signed, IntKind.bits] at h
  exact ⟨by omega, by omega⟩
theorem cells_e : Tryz.prog.cellsOf 42 = 3 := by kernel_rfl
theorem cells_b : Tryz.prog.cellsOf 4 = 1 := by kernel_rfl
theorem cells_i11 : Tryz.prog.cellsOf 3 = 1 := by kernel_rfl

set_option maxRecDepth 10000 in
theorem open_entries {H : Type} {enc : TypeId × Value → H} {W : World} {ao : Option Addr} {n c : Nat} {d : DataW H} {p : List MemPlace} (h : DataW.Trod enc Tryz.prog W 0 (fun _ => true) true 22 (.slice ao n c) d p) :
    ∃ k v g, ES W ao n k v g ∧ (ao = none → n = 0 ∧ c = 0) ∧ n ≤ c ∧ ((d = .nil ∧ n = 0) ∨ ∃ es sp, d = .slice es sp ∧ es.length + sp.length = c) := by
  obtain ⟨fuel, hf⟩ := h
  rcases Go.Deep.open_slice Tryz.underlying22 hf with ⟨hcs, hx⟩ | ⟨a, len', cap', m, fu, D, Pl, hcs, _, hl, hmx, hm, hx, hel⟩
  · simp [Value.cells] at hcs
    obtain ⟨rfl, rfl, rfl⟩ := hcs
    simp only [Prod.mk.injEq] at hx
    exact ⟨fun _ => 0, fun _ => 0, fun _ => false, ⟨fun h0 => by omega, fun i hi => by omega⟩, fun _ => ⟨rfl, rfl⟩, Nat.le_refl _, .inl ⟨hx.1, rfl⟩⟩
  · simp [Value.cells] at hcs
    obtain ⟨rfl, rfl, rfl⟩ := hcs
    simp only [Prod.mk.injEq] at hx
    simp only [if_true] at hm
    subst hm
    have each : ∀ i, i < n → ∃ q : Int × Int × Bool, W.cell? (a.add (i * 3)) = some (.int .u64 q.1) ∧ W.cell? (a.add (i * 3 + 1)) = some (.int .u64 q.2.1) ∧ W.cell? (a.add (i * 3 + 2)) = some (.bool q.2.2) ∧ (0 ≤ q.1 ∧ q.1 < 18446744073709551616) ∧ (0 ≤ q.2.1 ∧ q.2.1 < 18446744073709551616) := by
      intro i hi
      obtain ⟨cs', h1, h2⟩ := hel i (by omega)
      rw [cells_e] at h1
      obtain ⟨_, hlen, hcc⟩ := World.cells?_some h1
      obtain ⟨y0, y1, y2, fu', _, _, q0, q1, q2⟩ := Go.Deep.trod_struct3 Tryz.underlying42 h2
      match cs', hlen with
      | [u0, u1, u2], _ =>
        simp [cells_k, cells_b] at q0 q1 q2
        obtain ⟨x0, e0, _, w0⟩ := DataW.trod_int Tryz.underlying31 q0
        obtain ⟨x1, e1, _, w1⟩ := DataW.trod_int Tryz.underlying31 q1
        obtain ⟨x2, e2, _⟩ := DataW.trod_bool Tryz.underlying4 q2
        simp at e0 e1 e2
        subst e0 e1 e2
        have c0 := hcc 0 (by omega)
        have c1 := hcc 1 (by omega)
        have c2 := hcc 2 (by omega)
        rw [Go.Deep.add_add] at c0 c1 c2
        exact ⟨(x0, x1, x2), by simpa using c0, by simpa using c1, by simpa using c2, u64_wf w0, u64_wf w1⟩
    obtain ⟨q, hq⟩ := Go.Deep.choose_lt each
    refine ⟨fun i => (q i).1, fun i => (q i).2.1, fun i => (q i).2.2, ⟨fun h0 => ?_, fun i hi => (hq i hi).2.2.2⟩, (fun e => by cases e), hl, .inr ⟨_, _, hx.1, by simp; omega⟩⟩
    have c0 := (hq 0 h0).1
    have e0 : a.add (0 * 3) = a := by simp [Addr.add]
    rw [e0] at c0
    have ea := spot_none c0
    refine ⟨a.block, a.off, by rw [← ea], World.block_lt_of_cell? _ _ c0, fun i hi => ?_⟩
    obtain ⟨a1, a2, a3, _⟩ := hq i hi
    rw [ea, Addr.add_lit] at a1 a2 a3
    exact ⟨a1, a2, a3⟩

/-- What is asked, in memory. -/
structure AQ (w : World) (ao : Option Addr) (n : Nat) (q lv sl : Nat → Int) : Prop where
  cells : 0 < n → ∃ b off, ao = some ⟨b, off, none⟩ ∧ b < w.heap.size ∧ ∀ i, i < n → w.cell? ⟨b, off + i * 3, none⟩ = some (.int .u64 (q i)) ∧ w.cell? ⟨b, off + i * 3 + 1, none⟩ = some (.int .i64 (lv i)) ∧ w.cell? ⟨b, off + i * 3 + 2, none⟩ = some (.int .i64 (sl i))
  bd : ∀ i, i < n → (0 ≤ q i ∧ q i < 18446744073709551616) ∧ (-9223372036854775808 ≤ lv i ∧ lv i < 9223372036854775808) ∧ (-9223372036854775808 ≤ sl i ∧ sl i < 9223372036854775808)
theorem AQ.gw {w w' : World} {ao : Option Addr} {n : Nat} {q lv sl : Nat → Int} (h : AQ w ao n q lv sl) (g : Gw w w') : AQ w' ao n q lv sl :=
  ⟨fun hn => by
    obtain ⟨b, off, e, hb, hc⟩ := h.cells hn
    exact ⟨b, off, e, Nat.lt_of_lt_of_le hb g.size, fun i hi => ⟨(g.cell _ _ hb).trans (hc i hi).1, (g.cell _ _ hb).trans (hc i hi).2.1, (g.cell _ _ hb).trans (hc i hi).2.2⟩⟩, h.bd⟩

end Go.Proofs.YtdikiaeagcokdabGreat

/- What comes in, opened: levels of segments. -/
namespace Go.Proofs.YtdikiaeagcokdabGreat
open Go.ChangeShapes Go.WideShapes Go.ChangeAt Go.RowKit Go.Joins
set_option linter.unusedVariables false

theorem trod_float {H : Type} {enc : TypeId × Value → H} {P : Program} {w : World} {base : Nat} {spare : Nat → Bool} {held : Bool} {fuel : Nat} {t : TypeId} {cs : List Value} {x : DataW H × List MemPlace} {k : FloatKind} (ht : P.underlying t = some (.float k)) (h : DataW.trod enc P w base spare held fuel t cs = some x) : ∃ n, cs = [.float k n] ∧ x = (.lit (.float k n), []) ∧ (Lit.float k n).wf = true := by
  cases fuel with
  | zero => simp [DataW.trod] at h
  | succ n =>
    unfold DataW.trod at h
    rw [ht] at h
    split at h <;> simp_all
theorem cells_sg : Tryz.prog.cellsOf 50 = 5 := by kernel_rfl
theorem cells_sgs : Tryz.prog.cellsOf 77 = 1 := by kernel_rfl
theorem cells_u8 : Tryz.prog.cellsOf 31 = 1 := by kernel_rfl
theorem cells_f8 : Tryz.prog.cellsOf 48 = 1 := by kernel_rfl
theorem cells_i8 : Tryz.prog.cellsOf 3 = 1 := by kernel_rfl
theorem i64_in {x : Int} (h : (Lit.int .i64 x).wf = true) : -9223372036854775808 ≤ x ∧ x < 9223372036854775808 := by
  simp [Lit.wf, IntKind.min, IntKind.max, IntKind.signed, IntKind.bits] at h
  exact ⟨by omega, by omega⟩
theorem u64_in {x : Int} (h : (Lit.int .u64 x).wf = true) : 0 ≤ x ∧ x < 18446744073709551616 := by
  simp [Lit.wf, IntKind.min, IntKind.max, IntKind.signed, IntKind.bits] at h
  exact ⟨by omega, by omega⟩
theorem f64_in {x : Nat} (h : (Lit.float .f64 x).wf = true) : x < 18446744073709551616 := by
  simpa [Lit.wf] using h
theorem spot_none8 {w : World} {a : Addr} {v : Value} (h : w.cell? a = some v) : a = ⟨a.block, a.off, none⟩ := by
  obtain ⟨b, o, s⟩ := a
  cases s with
  | none => rfl
  | some s => unfold World.cell? at h; split at h <;> simp at h

set_option maxRecDepth 10000 in
theorem open_segs {H : Type} {enc : TypeId × Value → H} {W : World} {fuel : Nat} {cs : List Value} {y : DataW H × List MemPlace} (hf : DataW.trod enc Tryz.prog W 0 (fun _ => true) true fuel 77 cs = some y) :
    ∃ (ao : Option Addr) (c : Nat) (l : List Sg), cs = [.slice ao l.length c] ∧ GS W ao l ∧ (ao = none → l.length = 0 ∧ c = 0) ∧ l.length ≤ c ∧ ((y.1 = .nil ∧ l.length = 0) ∨ ∃ es sp, y.1 = .slice es sp ∧ es.length + sp.length = c) := by
  rcases Go.Deep.open_slice Tryz.underlying77 hf with ⟨rfl, rfl⟩ | ⟨a, n, c, m, fu, D, Pl, rfl, _, hl, hmx, hm, rfl, hel⟩
  · exact ⟨none, 0, [], rfl, ⟨fun h0 => by simp at h0, fun i hi => by simp at hi⟩, fun _ => ⟨rfl, rfl⟩, Nat.le_refl _, .inl ⟨rfl, rfl⟩⟩
  · simp only [if_true] at hm
    subst hm
    have each : ∀ i, i < n → ∃ s : Sg, (W.cell? (a.add (i * 5)) = some (.int .u64 s.k) ∧ W.cell? (a.add (i * 5 + 1)) = some (.float .f64 s.sl) ∧ W.cell? (a.add (i * 5 + 2)) = some (.float .f64 s.ic) ∧ W.cell? (a.add (i * 5 + 3)) = some (.int .i64 s.fr) ∧ W.cell? (a.add (i * 5 + 4)) = some (.int .i64 s.te)) ∧ s.ok := by
      intro i hi
      obtain ⟨cs', h1, h2⟩ := hel i (by omega)
      rw [cells_sg] at h1
      obtain ⟨_, hlen, hcc⟩ := World.cells?_some h1
      obtain ⟨xs, fu', _, hx, _, hxl, hh⟩ := DataW.trod_struct Tryz.underlying50 h2
      match cs', hlen, xs, hxl with
      | [u0, u1, u2, u3, u4], _, [y0, y1, y2, y3, y4], _ =>
        have q0 := hh 0 _ rfl
        have q1 := hh 1 _ rfl
        have q2 := hh 2 _ rfl
        have q3 := hh 3 _ rfl
        have q4 := hh 4 _ rfl
        simp [cells_u8, cells_f8, cells_i8] at q0 q1 q2 q3 q4
        obtain ⟨x0, r0, _, w0⟩ := DataW.trod_int Tryz.underlying31 q0
        obtain ⟨x1, r1, _, w1⟩ := trod_float Tryz.underlying48 q1
        obtain ⟨x2, r2, _, w2⟩ := trod_float Tryz.underlying48 q2
        obtain ⟨x3, r3, _, w3⟩ := DataW.trod_int Tryz.underlying3 q3
        obtain ⟨x4, r4, _, w4⟩ := DataW.trod_int Tryz.underlying3 q4
        simp at r0 r1 r2 r3 r4
        subst r0 r1 r2 r3 r4
        have c0 := hcc 0 (by omega)
        have c1 := hcc 1 (by omega)
        have c2 := hcc 2 (by omega)
        have c3 := hcc 3 (by omega)
        have c4 := hcc 4 (by omega)
        rw [Go.Deep.add_add] at c0 c1 c2 c3 c4
        exact ⟨⟨x0, x1, x2, x3, x4⟩, ⟨by simpa using c0, by simpa using c1, by simpa using c2, by simpa using c3, by simpa using c4⟩, ⟨(u64_in w0).1, (u64_in w0).2, f64_in w1, f64_in w2, (i64_in w3).1, (i64_in w3).2, (i64_in w4).1, (i64_in w4).2⟩⟩
    have inh : Inhabited Sg := ⟨sg0⟩
    obtain ⟨q, hq⟩ := Go.Deep.choose_lt each
    have ln : ((List.range n).map q).length = n := by simp
    have gt : ∀ i, i < n → ((List.range n).map q).getD i sg0 = q i := fun i hi => by simp [List.getD, hi]
    refine ⟨some a, _, (List.range n).map q, by rw [ln], ⟨fun h0 => ?_, fun i hi => ?_⟩, (fun e => by cases e), by rw [ln]; exact hl, .inr ⟨_, _, rfl, by simp; omega⟩⟩
    · rw [ln] at h0
      have c0 := (hq 0 h0).1.1
      have e0 : a.add (0 * 5) = a := by simp [Addr.add]
      rw [e0] at c0
      have ea := spot_none8 c0
      refine ⟨a.block, a.off, by rw [← ea], World.block_lt_of_cell? _ _ c0, fun i hi => ?_⟩
      rw [ln] at hi
      rw [gt i hi]
      obtain ⟨⟨a1, a2, a3, a4, a5⟩, _⟩ := hq i hi
      rw [ea, Addr.add_lit] at a1 a2 a3 a4 a5
      exact ⟨a1, by rw [Nat.add_assoc]; exact a2, by rw [Nat.add_assoc]; exact a3, by rw [Nat.add_assoc]; exact a4, by rw [Nat.add_assoc]; exact a5⟩
    · rw [ln] at hi
      rw [gt i hi]
      exact (hq i hi).2

set_option maxRecDepth 10000 in
theorem open_levels {H : Type} {enc : TypeId × Value → H} {W : World} {ao : Option Addr} {n c : Nat} {d : DataW H} {p : List MemPlace} (h : DataW.Trod enc Tryz.prog W 0 (fun _ => true) true 33 (.slice ao n c) d p) :
    ∃ L : List (List Sg), L.length = n ∧ VS W ao L ∧ (ao = none → n = 0 ∧ c = 0) ∧ n ≤ c ∧ ((d = .nil ∧ n = 0) ∨ ∃ es sp, d = .slice es sp ∧ es.length + sp.length = c ∧ ∀ i, i < n → ∃ di ∈ es, (di = .nil ∧ (L.getD i []).length = 0) ∨ ∃ es' sp', di = .slice es' sp' ∧ (L.getD i []).length ≤ es'.length + sp'.length) := by
  obtain ⟨fuel, hf⟩ := h
  rcases Go.Deep.open_slice Tryz.underlying33 hf with ⟨hcs, hx⟩ | ⟨a, len', cap', m, fu, D, Pl, hcs, _, hl, hmx, hm, hx, hel⟩
  · simp [Value.cells] at hcs
    obtain ⟨rfl, rfl, rfl⟩ := hcs
    simp only [Prod.mk.injEq] at hx
    exact ⟨[], rfl, ⟨fun h0 => by simp at h0⟩, fun _ => ⟨rfl, rfl⟩, Nat.le_refl _, .inl ⟨hx.1, rfl⟩⟩
  · simp [Value.cells] at hcs
    obtain ⟨rfl, rfl, rfl⟩ := hcs
    simp only [Prod.mk.injEq] at hx
    simp only [if_true] at hm
    subst hm
    have each : ∀ i, i < n → ∃ q : Option Addr × Nat × List Sg, W.cell? (a.add i) = some (.slice q.1 q.2.2.length q.2.1) ∧ GS W q.1 q.2.2 ∧ (q.1 = none → q.2.2.length = 0 ∧ q.2.1 = 0) ∧ q.2.2.length ≤ q.2.1 ∧ ((D i = .nil ∧ q.2.2.length = 0) ∨ ∃ es sp, D i = .slice es sp ∧ es.length + sp.length = q.2.1) := by
      intro i hi
      obtain ⟨cs', h1, h2⟩ := hel i (by omega)
      rw [cells_sgs, Nat.mul_one] at h1
      obtain ⟨bo, c', l, rfl, k1, k2, k3, k4⟩ := open_segs h2
      obtain ⟨_, _, hcc⟩ := World.cells?_some h1
      have c0 := hcc 0 (by omega)
      rw [Go.Deep.add_add] at c0
      exact ⟨(bo, c', l), by simpa using c0, k1, k2, k3, k4⟩
    obtain ⟨q, hq⟩ := Go.Deep.choose_lt each
    have ln : ((List.range n).map fun i => (q i).2.2).length = n := by simp
    have gt : ∀ i, i < n → ((List.range n).map fun i => (q i).2.2).getD i [] = (q i).2.2 := fun i hi => by simp [List.getD, hi]
    refine ⟨(List.range n).map fun i => (q i).2.2, ln, ⟨fun h0 => ?_⟩, (fun e => by cases e), hl, .inr ⟨_, _, hx.1, by simp; omega, fun i hi => ⟨D i, by simp; exact ⟨i, hi, rfl⟩, ?_⟩⟩⟩
    · rw [ln] at h0
      have c0 := (hq 0 h0).1
      have e0 : a.add 0 = a := by simp [Addr.add]
      rw [e0] at c0
      have ea := spot_none8 c0
      refine ⟨a.block, a.off, by rw [← ea], World.block_lt_of_cell? _ _ c0, fun i hi => ?_⟩
      rw [ln] at hi
      rw [gt i hi]
      obtain ⟨a1, a2, a3, a4, _⟩ := hq i hi
      rw [ea, Addr.add_lit] at a1
      exact ⟨(q i).1, (q i).2.1, a1, a4, a3, a2⟩
    · rw [gt i hi]
      obtain ⟨_, _, _, a4, a5⟩ := hq i hi
      rcases a5 with ⟨e1, e2⟩ | ⟨es, sp, e1, e2⟩
      · exact .inl ⟨e1, e2⟩
      · exact .inr ⟨es, sp, e1, by omega⟩

end Go.Proofs.YtdikiaeagcokdabGreat
