import Derived.Test.YtapjipinceoaoaaPBs
import Derived.ProofKit
import Derived.OpenShut
import Derived.Deep.Slices
import Derived.Deep.Strs
import Derived.SizedLaws
import Derived.Test.YtapjipinceoaoaaZMade
import Derived.Lib.SmallJoins
/- What comes in, opened: a list of keys. -/
namespace Go.Proofs.Ytapjipinceoaoaa
open Go.ChangeShapes Go.WideShapes Go.ChangeAt Go.RowKit
set_option linter.unusedVariables false

theorem spot_none {w : World} {a : Addr} {v : Value} (h : w.cell? a = some v) : a = ⟨a.block, a.off, none⟩ := by
  obtain ⟨b, o, s⟩ := a
  cases s with
  | none => rfl
  | some s => unfold World.cell? at h; split at h <;> simp at h

theorem u64_wf {x : Int} (h : (Lit.int .u64 x).wf = true) : 0 ≤ x ∧ x < 18446744073709551616 := by
  simp [Lit.wf, IntKind.min, IntKind.max, IntKind.signed, IntKind.bits] at h
  exact ⟨by omega, by omega⟩

theorem cells_k : Try.prog.cellsOf 36 = 1 := by kernel_rfl

theorem open_keys {H : Type} {enc : TypeId × Value → H} {W : World} {ao : Option Addr} {n c : Nat} {d : DataW H} {p : List MemPlace} (h : DataW.Trod enc Try.prog W 0 (fun _ => true) true 22 (.slice ao n c) d p) :
    ∃ f, KS W ao n f ∧ (ao = none → n = 0 ∧ c = 0) ∧ n ≤ c ∧ ((d = .nil ∧ n = 0) ∨ ∃ es sp, d = .slice es sp ∧ es.length + sp.length = c) := by
  obtain ⟨fuel, hf⟩ := h
  rcases open_ints Try.underlying22 Try.underlying36 cells_k hf with ⟨hcs, hx⟩ | ⟨a, len', cap', zs, hcs, _, hl, hmx, hz, hx, hcell, hwz⟩
  · simp [Value.cells] at hcs
    obtain ⟨rfl, rfl, rfl⟩ := hcs
    simp only [Prod.mk.injEq] at hx
    exact ⟨fun _ => 0, ⟨fun h0 => by omega, fun i hi => by omega⟩, fun _ => ⟨rfl, rfl⟩, Nat.le_refl _, .inl ⟨hx.1, rfl⟩⟩
  · simp [Value.cells] at hcs
    obtain ⟨rfl, rfl, rfl⟩ := hcs
    simp only [Prod.mk.injEq] at hx
    simp only [if_true] at hz
    refine ⟨fun i => zs.getD i 0, ⟨fun h0 => ?_, fun i hi => ?_⟩, (fun e => by cases e), hl, .inr ⟨_, _, hx.1, by simp [lits]; omega⟩⟩
    · have c0 := hcell 0 (by omega)
      have e0 : a.add 0 = a := by simp [Addr.add]
      rw [e0] at c0
      have ea := spot_none c0
      refine ⟨a.block, a.off, by rw [← ea], World.block_lt_of_cell? _ _ c0, fun i hi => ?_⟩
      have := hcell i (by omega)
      rw [ea, Addr.add_lit] at this
      exact this
    · have hi' : i < zs.length := by omega
      have := u64_wf (hwz zs[i] (List.getElem_mem hi'))
      simpa [List.getD, hi'] using this

end Go.Proofs.Ytapjipinceoaoaa

/- What comes in, opened: keys, an eps and levels told by bits. -/
namespace Go.Proofs.Ytapjipinceoaoaa
open Go.ChangeShapes Go.WideShapes Go.ChangeAt Go.RowKit Go.Joins
set_option linter.unusedVariables false

theorem cells_ug : Try.prog.cellsOf 62 = 5 := by kernel_rfl
theorem cells_ugs : Try.prog.cellsOf 60 = 1 := by kernel_rfl
theorem cells_made : Try.prog.cellsOf 25 = 4 := by kernel_rfl
theorem cells_u9 : Try.prog.cellsOf 36 = 1 := by kernel_rfl
theorem cells_i9 : Try.prog.cellsOf 3 = 1 := by kernel_rfl
theorem cells_b9 : Try.prog.cellsOf 4 = 1 := by kernel_rfl
theorem cells_ks9 : Try.prog.cellsOf 22 = 1 := by kernel_rfl
theorem cells_vs9 : Try.prog.cellsOf 23 = 1 := by kernel_rfl
theorem i64_in9 {x : Int} (h : (Lit.int .i64 x).wf = true) : -9223372036854775808 ≤ x ∧ x < 9223372036854775808 := by
  simp [Lit.wf, IntKind.min, IntKind.max, IntKind.signed, IntKind.bits] at h
  exact ⟨by omega, by omega⟩
theorem u64_in9 {x : Int} (h : (Lit.int .u64 x).wf = true) : 0 ≤ x ∧ x < 18446744073709551616 := by
  simp [Lit.wf, IntKind.min, IntKind.max, IntKind.signed, IntKind.bits] at h
  exact ⟨by omega, by omega⟩
theorem spot_none9 {w : World} {a : Addr} {v : Value} (h : w.cell? a = some v) : a = ⟨a.block, a.off, none⟩ := by
  obtain ⟨b, o, s⟩ := a
  cases s with
  | none => rfl
  | some s => unfold World.cell? at h; split at h <;> simp at h

set_option maxRecDepth 10000 in
theorem open_useg {H : Type} {enc : TypeId × Value → H} {W : World} {fuel : Nat} {cs : List Value} {y : DataW H × List MemPlace} (hf : DataW.trod enc Try.prog W 0 (fun _ => true) true fuel 60 cs = some y) :
    ∃ (ao : Option Addr) (c : Nat) (l : List Sg), cs = [.slice ao l.length c] ∧ UG W ao l ∧ l.length ≤ c ∧ ((y.1 = .nil ∧ l.length = 0) ∨ ∃ es sp, y.1 = .slice es sp ∧ es.length + sp.length = c) := by
  rcases Go.Deep.open_slice Try.underlying60 hf with ⟨rfl, rfl⟩ | ⟨a, n, c, m, fu, D, Pl, rfl, _, hl, hmx, hm, rfl, hel⟩
  · exact ⟨none, 0, [], rfl, ⟨fun h0 => by simp at h0, fun i hi => by simp at hi⟩, Nat.le_refl _, .inl ⟨rfl, rfl⟩⟩
  · simp only [if_true] at hm
    subst hm
    have each : ∀ i, i < n → ∃ s : Sg, (W.cell? (a.add (i * 5)) = some (.int .u64 s.k) ∧ W.cell? (a.add (i * 5 + 1)) = some (.int .u64 (s.sl : Int)) ∧ W.cell? (a.add (i * 5 + 2)) = some (.int .u64 (s.ic : Int)) ∧ W.cell? (a.add (i * 5 + 3)) = some (.int .i64 s.fr) ∧ W.cell? (a.add (i * 5 + 4)) = some (.int .i64 s.te)) ∧ s.ok := by
      intro i hi
      obtain ⟨cs', h1, h2⟩ := hel i (by omega)
      rw [cells_ug] at h1
      obtain ⟨_, hlen, hcc⟩ := World.cells?_some h1
      obtain ⟨xs, fu', _, hx, _, hxl, hh⟩ := DataW.trod_struct Try.underlying62 h2
      match cs', hlen, xs, hxl with
      | [u0, u1, u2, u3, u4], _, [y0, y1, y2, y3, y4], _ =>
        have q0 := hh 0 _ rfl
        have q1 := hh 1 _ rfl
        have q2 := hh 2 _ rfl
        have q3 := hh 3 _ rfl
        have q4 := hh 4 _ rfl
        simp [cells_u9, cells_i9] at q0 q1 q2 q3 q4
        obtain ⟨x0, r0, _, w0⟩ := DataW.trod_int Try.underlying36 q0
        obtain ⟨x1, r1, _, w1⟩ := DataW.trod_int Try.underlying36 q1
        obtain ⟨x2, r2, _, w2⟩ := DataW.trod_int Try.underlying36 q2
        obtain ⟨x3, r3, _, w3⟩ := DataW.trod_int Try.underlying3 q3
        obtain ⟨x4, r4, _, w4⟩ := DataW.trod_int Try.underlying3 q4
        simp at r0 r1 r2 r3 r4
        subst r0 r1 r2 r3 r4
        have c0 := hcc 0 (by omega)
        have c1 := hcc 1 (by omega)
        have c2 := hcc 2 (by omega)
        have c3 := hcc 3 (by omega)
        have c4 := hcc 4 (by omega)
        rw [Go.Deep.add_add] at c0 c1 c2 c3 c4
        obtain ⟨n1, hn1⟩ : ∃ n1 : Nat, x1 = (n1 : Int) := ⟨x1.toNat, by have := (u64_in9 w1).1; omega⟩
        obtain ⟨n2, hn2⟩ : ∃ n2 : Nat, x2 = (n2 : Int) := ⟨x2.toNat, by have := (u64_in9 w2).1; omega⟩
        subst hn1 hn2
        exact ⟨⟨x0, n1, n2, x3, x4⟩, ⟨by simpa using c0, by simpa using c1, by simpa using c2, by simpa using c3, by simpa using c4⟩, ⟨(u64_in9 w0).1, (u64_in9 w0).2, by have := (u64_in9 w1).2; show n1 < _; omega, by have := (u64_in9 w2).2; show n2 < _; omega, (i64_in9 w3).1, (i64_in9 w3).2, (i64_in9 w4).1, (i64_in9 w4).2⟩⟩
    have inh : Inhabited Sg := ⟨sg0⟩
    obtain ⟨q, hq⟩ := Go.Deep.choose_lt each
    have ln : ((List.range n).map q).length = n := by simp
    have gt : ∀ i, i < n → ((List.range n).map q).getD i sg0 = q i := fun i hi => by simp [List.getD, hi]
    refine ⟨some a, _, (List.range n).map q, by rw [ln], ⟨fun h0 => ?_, fun i hi => ?_⟩, by rw [ln]; exact hl, .inr ⟨_, _, rfl, by simp; omega⟩⟩
    · rw [ln] at h0
      have c0 := (hq 0 h0).1.1
      have e0 : a.add (0 * 5) = a := by simp [Addr.add]
      rw [e0] at c0
      have ea := spot_none9 c0
      refine ⟨a.block, a.off, by rw [← ea], World.block_lt_of_cell? _ _ c0, fun i hi => ?_⟩
      rw [ln] at hi
      rw [gt i hi]
      obtain ⟨⟨a1, a2, a3, a4, a5⟩, _⟩ := hq i hi
      rw [ea, Addr.add_lit] at a1 a2 a3 a4 a5
      exact ⟨a1, by rw [Nat.add_assoc]; exact a2, by rw [Nat.add_assoc]; exact a3, by rw [Nat.add_assoc]; exact a4, by rw [Nat.add_assoc]; exact a5⟩
    · rw [ln] at hi
      rw [gt i hi]
      exact (hq i hi).2

set_option maxRecDepth 10000 in
theorem open_ulevels {H : Type} {enc : TypeId × Value → H} {W : World} {fuel : Nat} {cs : List Value} {y : DataW H × List MemPlace} (hf : DataW.trod enc Try.prog W 0 (fun _ => true) true fuel 23 cs = some y) :
    ∃ (ao : Option Addr) (c : Nat) (L : List (List Sg)), cs = [.slice ao L.length c] ∧ UV W ao L ∧ L.length ≤ c ∧ ((y.1 = .nil ∧ L.length = 0) ∨ ∃ es sp, y.1 = .slice es sp ∧ es.length + sp.length = c ∧ ∀ i, i < L.length → ∃ di ∈ es, (di = .nil ∧ (L.getD i []).length = 0) ∨ ∃ es' sp', di = .slice es' sp' ∧ (L.getD i []).length ≤ es'.length + sp'.length) := by
  rcases Go.Deep.open_slice Try.underlying23 hf with ⟨rfl, rfl⟩ | ⟨a, n, c, m, fu, D, Pl, rfl, _, hl, hmx, hm, rfl, hel⟩
  · exact ⟨none, 0, [], rfl, ⟨fun h0 => by simp at h0⟩, Nat.le_refl _, .inl ⟨rfl, rfl⟩⟩
  · simp only [if_true] at hm
    subst hm
    have each : ∀ i, i < n → ∃ q : Option Addr × Nat × List Sg, W.cell? (a.add i) = some (.slice q.1 q.2.2.length q.2.1) ∧ UG W q.1 q.2.2 ∧ q.2.2.length ≤ q.2.1 ∧ ((D i = .nil ∧ q.2.2.length = 0) ∨ ∃ es sp, D i = .slice es sp ∧ es.length + sp.length = q.2.1) := by
      intro i hi
      obtain ⟨cs', h1, h2⟩ := hel i (by omega)
      rw [cells_ugs, Nat.mul_one] at h1
      obtain ⟨bo, c', l, rfl, k1, k3, k4⟩ := open_useg h2
      obtain ⟨_, _, hcc⟩ := World.cells?_some h1
      have c0 := hcc 0 (by omega)
      rw [Go.Deep.add_add] at c0
      exact ⟨(bo, c', l), by simpa using c0, k1, k3, k4⟩
    obtain ⟨q, hq⟩ := Go.Deep.choose_lt each
    have ln : ((List.range n).map fun i => (q i).2.2).length = n := by simp
    have gt : ∀ i, i < n → ((List.range n).map fun i => (q i).2.2).getD i [] = (q i).2.2 := fun i hi => by simp [List.getD, hi]
    refine ⟨some a, _, (List.range n).map fun i => (q i).2.2, by rw [ln], ⟨fun h0 => ?_⟩, by rw [ln]; exact hl, .inr ⟨_, _, rfl, by simp; omega, fun i hi => ⟨D i, by rw [ln] at hi; simp; exact ⟨i, hi, rfl⟩, ?_⟩⟩⟩
    · rw [ln] at h0
      have c0 := (hq 0 h0).1
      have e0 : a.add 0 = a := by simp [Addr.add]
      rw [e0] at c0
      have ea := spot_none9 c0
      refine ⟨a.block, a.off, by rw [← ea], World.block_lt_of_cell? _ _ c0, fun i hi => ?_⟩
      rw [ln] at hi
      rw [gt i hi]
      obtain ⟨a1, a2, a4, _⟩ := hq i hi
      rw [ea, Addr.add_lit] at a1
      exact ⟨(q i).1, (q i).2.1, a1, a4, a2⟩
    · rw [ln] at hi
      rw [gt i hi]
      obtain ⟨_, _, a4, a5⟩ := hq i hi
      rcases a5 with ⟨e1, e2⟩ | ⟨es, sp, e1, e2⟩
      · exact .inl ⟨e1, e2⟩
      · exact .inr ⟨es, sp, e1, by omega⟩

theorem array4 {α : Type} {cs : Array α} (h : cs.size = 4) : ∃ c0 c1 c2 c3, cs = #[c0, c1, c2, c3] := by
  obtain ⟨l⟩ := cs
  match l, h with
  | [c0, c1, c2, c3], _ => exact ⟨c0, c1, c2, c3, rfl⟩
set_option maxRecDepth 20000 in
theorem open_made {H : Type} {enc : TypeId × Value → H} {W : World} {r : Reach} {b0 : Nat} {v : Value} {d : DataW H} {p : List MemPlace} (hv : Value.okWide Try.prog W r b0 25 v) (h : DataW.Trod enc Try.prog W 0 (fun _ => true) true 25 v d p) :
    ∃ (ao : Option Addr) (n cp : Nat) (eps : Int) (own : Bool) (uo : Option Addr) (uc : Nat) (U : List (List Sg)) (f : Nat → Int), v = madeV ao n cp eps own uo U.length uc ∧ KS W ao n f ∧ (ao = none → n = 0 ∧ cp = 0) ∧ n ≤ cp ∧ (-9223372036854775808 ≤ eps ∧ eps < 9223372036854775808) ∧ UV W uo U ∧ U.length ≤ uc ∧ ∃ d0 d1 d2 d3, d = .agg [d0, d1, d2, d3] ∧ ((d0 = .nil ∧ n = 0) ∨ ∃ es sp, d0 = .slice es sp ∧ es.length + sp.length = cp) ∧ ((d3 = .nil ∧ U.length = 0) ∨ ∃ es sp, d3 = .slice es sp ∧ es.length + sp.length = uc ∧ ∀ i, i < U.length → ∃ di ∈ es, (di = .nil ∧ (U.getD i []).length = 0) ∨ ∃ es' sp', di = .slice es' sp' ∧ (U.getD i []).length ≤ es'.length + sp'.length) := by
  obtain ⟨cs, rfl, hsz⟩ := okWide_struct Try.underlying25 hv
  obtain ⟨c0, c1, c2, c3, rfl⟩ := array4 (hsz.trans cells_made)
  obtain ⟨fuel, hf⟩ := h
  obtain ⟨xs, n', _, hx, hl, hlen, hh⟩ := DataW.trod_struct Try.underlying25 hf
  match xs, hlen with
  | [y0, y1, y2, y3], _ =>
    have q0 := hh 0 _ rfl
    have q1 := hh 1 _ rfl
    have q2 := hh 2 _ rfl
    have q3 := hh 3 _ rfl
    simp [Value.cells, cells_i9, cells_b9, cells_ks9, cells_vs9] at q0 q1 q2 q3
    obtain ⟨x1, e1, f1, w1⟩ := DataW.trod_int Try.underlying3 q1
    obtain ⟨x2, e2, f2⟩ := DataW.trod_bool Try.underlying4 q2
    obtain ⟨uo, uc, U, e3, hU, hUc, hd3⟩ := open_ulevels q3
    have k0 : ∃ ao n c, c0 = .slice ao n c := by
      rcases Go.Deep.open_slice Try.underlying22 q0 with ⟨e, _⟩ | ⟨a, n, c, m, fu, D, Pl, e, _⟩
      · simp at e; exact ⟨_, _, _, e⟩
      · simp at e; exact ⟨_, _, _, e⟩
    obtain ⟨ao, n, cp, rfl⟩ := k0
    obtain ⟨f, hk, hz, hle, hd0⟩ := open_keys (d := y0.1) (p := y0.2) (ao := ao) (n := n) (c := cp) ⟨_, by simpa [Value.cells] using q0⟩
    simp at e1 e2 e3
    subst e1 e2 e3
    simp only [Prod.mk.injEq] at hx
    exact ⟨ao, n, cp, x1, x2, uo, uc, U, f, rfl, hk, hz, hle, i64_in9 w1, hU, hUc, y0.1, y1.1, y2.1, y3.1, by simpa using hx.1, hd0, hd3⟩

end Go.Proofs.Ytapjipinceoaoaa
