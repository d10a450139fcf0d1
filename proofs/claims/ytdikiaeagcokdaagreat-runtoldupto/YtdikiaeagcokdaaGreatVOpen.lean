/- What comes in, opened: levels of segments. -/
import Derived.Test.YtdikiaeagcokdaaGreatPVr
import Derived.ProofKit
import Derived.OpenShut
import Derived.Deep.Slices
import Derived.Deep.Strs
import Derived.SizedLaws
import Derived.Lib.SmallJoins
namespace Go.Proofs.YtdikiaeagcokdaaGreat
open Go.ChangeShapes Go.WideShapes Go.ChangeAt Go.RowKit Go.Joins
set_option linter.unusedVariables false

theorem trod_float {H : Type} {enc : TypeId × Value → H} {P : Program} {w : World} {base : Nat} {spare : Nat → Bool} {held : Bool} {fuel : Nat} {t : TypeId} {cs : List Value} {x : DataW H × List MemPlace} {k : FloatKind} (ht : P.underlying t = some (.float k)) (h : DataW.trod enc P w base spare held fuel t cs = some x) : ∃ n, cs = [.float k n] ∧ x = (.lit (.float k n), []) ∧ (Lit.float k n).wf = true := by
  cases fuel with
  | zero => simp [DataW.trod] at h
  | succ n =>
    unfold DataW.trod at h
    rw [ht] at h
    split at h <;> simp_all
theorem cells_sg : Tryz.prog.cellsOf 42 = 5 := by kernel_rfl
theorem cells_sgs : Tryz.prog.cellsOf 39 = 1 := by kernel_rfl
theorem cells_u8 : Tryz.prog.cellsOf 24 = 1 := by kernel_rfl
theorem cells_f8 : Tryz.prog.cellsOf 40 = 1 := by kernel_rfl
theorem cells_i8 : Tryz.prog.cellsOf 3 = 1 := by kernel_rfl
theorem i64_in {x : Int} (h : (Lit.int .i64 x).wf = true) : -9223372036854775808 ≤ x ∧ x < 9223372036854775808 := by
  simp [Lit.wf, IntKind.min, IntKind.max, IntKind.signed, IntKind.bits] at h
  exact ⟨by omega, by omega⟩
theorem u64_in {x : Int} (h : (Lit.int .u64 x).wf = true) : 0 ≤ x ∧ x < 18446744073709551616 := by
  simp [Lit.wf, IntKind.min, IntKind.max, IntKind.signed, IntKind.bits] at h
  exact ⟨by omega, by omega⟩
theorem f64_in {x : Nat} (h : (Lit.float .f64 x).wf = true) : x < 18446744073709551616 := by
  simpa [Lit.wf] using h
theorem spot_none8 {w : World} {a : Addr} {v : Value} (h : w.cell? a = some v) : a = ⟨a.block, a.off, none⟩ := by
  obtain ⟨b, o, s⟩ := a
  cases s with
  | none => rfl
  | some s => unfold World.cell? at h; split at h <;> simp at h

set_option maxRecDepth 10000 in
theorem open_segs {H : Type} {enc : TypeId × Value → H} {W : World} {fuel : Nat} {cs : List Value} {y : DataW H × List MemPlace} (hf : DataW.trod enc Tryz.prog W 0 (fun _ => true) true fuel 39 cs = some y) :
    ∃ (ao : Option Addr) (c : Nat) (l : List Sg), cs = [.slice ao l.length c] ∧ GS W ao l ∧ (ao = none → l.length = 0 ∧ c = 0) ∧ l.length ≤ c ∧ ((y.1 = .nil ∧ l.length = 0) ∨ ∃ es sp, y.1 = .slice es sp ∧ es.length + sp.length = c) := by
  rcases Go.Deep.open_slice Tryz.underlying39 hf with ⟨rfl, rfl⟩ | ⟨a, n, c, m, fu, D, Pl, rfl, _, hl, hmx, hm, rfl, hel⟩
  · exact ⟨none, 0, [], rfl, ⟨fun h0 => by simp at h0, fun i hi => by simp at hi⟩, fun _ => ⟨rfl, rfl⟩, Nat.le_refl _, .inl ⟨rfl, rfl⟩⟩
  · simp only [if_true] at hm
    subst hm
    have each : ∀ i, i < n → ∃ s : Sg, (W.cell? (a.add (i * 5)) = some (.int .u64 s.k) ∧ W.cell? (a.add (i * 5 + 1)) = some (.float .f64 s.sl) ∧ W.cell? (a.add (i * 5 + 2)) = some (.float .f64 s.ic) ∧ W.cell? (a.add (i * 5 + 3)) = some (.int .i64 s.fr) ∧ W.cell? (a.add (i * 5 + 4)) = some (.int .i64 s.te)) ∧ s.ok := by
      intro i hi
      obtain ⟨cs', h1, h2⟩ := hel i (by omega)
      rw [cells_sg] at h1
      obtain ⟨_, hlen, hcc⟩ := World.cells?_some h1
      obtain ⟨xs, fu', _, hx, _, hxl, hh⟩ := DataW.trod_struct Tryz.underlying42 h2
      match cs', hlen, xs, hxl with
      | [u0, u1, u2, u3, u4], _, [y0, y1, y2, y3, y4], _ =>
        have q0 := hh 0 _ rfl
        have q1 := hh 1 _ rfl
        have q2 := hh 2 _ rfl
        have q3 := hh 3 _ rfl
        have q4 := hh 4 _ rfl
        simp [cells_u8, cells_f8, cells_i8] at q0 q1 q2 q3 q4
        obtain ⟨x0, r0, _, w0⟩ := DataW.trod_int Tryz.underlying24 q0
        obtain ⟨x1, r1, _, w1⟩ := trod_float Tryz.underlying40 q1
        obtain ⟨x2, r2, _, w2⟩ := trod_float Tryz.underlying40 q2
        obtain ⟨x3, r3, _, w3⟩ := DataW.trod_int Tryz.underlying3 q3
        obtain ⟨x4, r4, _, w4⟩ := DataW.trod_int Tryz.underlying3 q4
        simp at r0 r1 r2 r3 r4
        subst r0 r1 r2 r3 r4
        have c0 := hcc 0 (by omega)
        have c1 := hcc 1 (by omega)
        have c2 := hcc 2 (by omega)
        have c3 := hcc 3 (by omega)
        have c4 := hcc 4 (by omega)
        rw [Go.Deep.add_add] at c0 c1 c2 c3 c4
        exact ⟨⟨x0, x1, x2, x3, x4⟩, ⟨by simpa using c0, by simpa using c1, by simpa using c2, by simpa using c3, by simpa using c4⟩, ⟨(u64_in w0).1, (u64_in w0).2, f64_in w1, f64_in w2, (i64_in w3).1, (i64_in w3).2, (i64_in w4).1, (i64_in w4).2⟩⟩
    have inh : Inhabited Sg := ⟨sg0⟩
    obtain ⟨q, hq⟩ := Go.Deep.choose_lt each
    have ln : ((List.range n).map q).length = n := by simp
    have gt : ∀ i, i < n → ((List.range n).map q).getD i sg0 = q i := fun i hi => by simp [List.getD, hi]
    refine ⟨some a, _, (List.range n).map q, by rw [ln], ⟨fun h0 => ?_, fun i hi => ?_⟩, (fun e => by cases e), by rw [ln]; exact hl, .inr ⟨_, _, rfl, by simp; omega⟩⟩
    · rw [ln] at h0
      have c0 := (hq 0 h0).1.1
      have e0 : a.add (0 * 5) = a := by simp [Addr.add]
      rw [e0] at c0
      have ea := spot_none8 c0
      refine ⟨a.block, a.off, by rw [← ea], World.block_lt_of_cell? _ _ c0, fun i hi => ?_⟩
      rw [ln] at hi
      rw [gt i hi]
      obtain ⟨⟨a1, a2, a3, a4, a5⟩, _⟩ := hq i hi
      rw [ea, Addr.add_lit] at a1 a2 a3 a4 a5
      exact ⟨a1, by rw [Nat.add_assoc]; exact a2, by rw [Nat.add_assoc]; exact a3, by rw [Nat.add_assoc]; exact a4, by rw [Nat.add_assoc]; exact a5⟩
    · rw [ln] at hi
      rw [gt i hi]
      exact (hq i hi).2

set_option maxRecDepth 10000 in
theorem open_levels {H : Type} {enc : TypeId × Value → H} {W : World} {ao : Option Addr} {n c : Nat} {d : DataW H} {p : List MemPlace} (h : DataW.Trod enc Tryz.prog W 0 (fun _ => true) true 37 (.slice ao n c) d p) :
    ∃ L : List (List Sg), L.length = n ∧ VS W ao L ∧ (ao = none → n = 0 ∧ c = 0) ∧ n ≤ c ∧ ((d = .nil ∧ n = 0) ∨ ∃ es sp, d = .slice es sp ∧ es.length + sp.length = c ∧ ∀ i, i < n → ∃ di ∈ es, (di = .nil ∧ (L.getD i []).length = 0) ∨ ∃ es' sp', di = .slice es' sp' ∧ (L.getD i []).length ≤ es'.length + sp'.length) := by
  obtain ⟨fuel, hf⟩ := h
  rcases Go.Deep.open_slice Tryz.underlying37 hf with ⟨hcs, hx⟩ | ⟨a, len', cap', m, fu, D, Pl, hcs, _, hl, hmx, hm, hx, hel⟩
  · simp [Value.cells] at hcs
    obtain ⟨rfl, rfl, rfl⟩ := hcs
    simp only [Prod.mk.injEq] at hx
    exact ⟨[], rfl, ⟨fun h0 => by simp at h0⟩, fun _ => ⟨rfl, rfl⟩, Nat.le_refl _, .inl ⟨hx.1, rfl⟩⟩
  · simp [Value.cells] at hcs
    obtain ⟨rfl, rfl, rfl⟩ := hcs
    simp only [Prod.mk.injEq] at hx
    simp only [if_true] at hm
    subst hm
    have each : ∀ i, i < n → ∃ q : Option Addr × Nat × List Sg, W.cell? (a.add i) = some (.slice q.1 q.2.2.length q.2.1) ∧ GS W q.1 q.2.2 ∧ (q.1 = none → q.2.2.length = 0 ∧ q.2.1 = 0) ∧ q.2.2.length ≤ q.2.1 ∧ ((D i = .nil ∧ q.2.2.length = 0) ∨ ∃ es sp, D i = .slice es sp ∧ es.length + sp.length = q.2.1) := by
      intro i hi
      obtain ⟨cs', h1, h2⟩ := hel i (by omega)
      rw [cells_sgs, Nat.mul_one] at h1
      obtain ⟨bo, c', l, rfl, k1, k2, k3, k4⟩ := open_segs h2
      obtain ⟨_, _, hcc⟩ := World.cells?_some h1
      have c0 := hcc 0 (by omega)
      rw [Go.Deep.add_add] at c0
      exact ⟨(bo, c', l), by simpa using c0, k1, k2, k3, k4⟩
    obtain ⟨q, hq⟩ := Go.Deep.choose_lt each
    have ln : ((List.range n).map fun i => (q i).2.2).length = n := by simp
    have gt : ∀ i, i < n → ((List.range n).map fun i => (q i).2.2).getD i [] = (q i).2.2 := fun i hi => by simp [List.getD, hi]
    refine ⟨(List.range n).map fun i => (q i).2.2, ln, ⟨fun h0 => ?_⟩, (fun e => by cases e), hl, .inr ⟨_, _, hx.1, by simp; omega, fun i hi => ⟨D i, by simp; exact ⟨i, hi, rfl⟩, ?_⟩⟩⟩
    · rw [ln] at h0
      have c0 := (hq 0 h0).1
      have e0 : a.add 0 = a := by simp [Addr.add]
      rw [e0] at c0
      have ea := spot_none8 c0
      refine ⟨a.block, a.off, by rw [← ea], World.block_lt_of_cell? _ _ c0, fun i hi => ?_⟩
      rw [ln] at hi
      rw [gt i hi]
      obtain ⟨a1, a2, a3, a4, _⟩ := hq i hi
      rw [ea, Addr.add_lit] at a1
      exact ⟨(q i).1, (q i).2.1, a1, a4, a3, a2⟩
    · rw [gt i hi]
      obtain ⟨_, _, _, a4, a5⟩ := hq i hi
      rcases a5 with ⟨e1, e2⟩ | ⟨es, sp, e1, e2⟩
      · exact .inl ⟨e1, e2⟩
      · exact .inr ⟨es, sp, e1, by omega⟩

end Go.Proofs.YtdikiaeagcokdaaGreat
