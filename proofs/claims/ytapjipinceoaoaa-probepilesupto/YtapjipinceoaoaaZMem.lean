/- Lists of visits in memory. -/
import Derived.Test.YtapjipinceoaoaaZPath
import Derived.Test.YtapjipinceoaoaaPVo
namespace Go.Proofs.Ytapjipinceoaoaa
open Go.RowKit
set_option linter.unusedVariables false

def vis0 : Vis := ⟨0, 0, 0, 0, 0, 0⟩
abbrev visV (v : Vis) : Value := .agg #[.int .i64 v.lv, .int .i64 v.sl, .int .i64 v.gu, .int .i64 v.lo, .int .i64 v.hi, .int .i64 v.rk]
def visc (v : Vis) : List Value := [.int .i64 v.lv, .int .i64 v.sl, .int .i64 v.gu, .int .i64 v.lo, .int .i64 v.hi, .int .i64 v.rk]
/-- A visit in memory. -/
structure VisAt (w : World) (b off : Nat) (v : Vis) : Prop where
  c0 : w.cell? ⟨b, off, none⟩ = some (.int .i64 v.lv)
  c1 : w.cell? ⟨b, off + 1, none⟩ = some (.int .i64 v.sl)
  c2 : w.cell? ⟨b, off + 2, none⟩ = some (.int .i64 v.gu)
  c3 : w.cell? ⟨b, off + 3, none⟩ = some (.int .i64 v.lo)
  c4 : w.cell? ⟨b, off + 4, none⟩ = some (.int .i64 v.hi)
  c5 : w.cell? ⟨b, off + 5, none⟩ = some (.int .i64 v.rk)
theorem VisAt.gw {w w' : World} {b off : Nat} {v : Vis} (h : VisAt w b off v) (hb : b < w.heap.size) (g : Gw w w') : VisAt w' b off v :=
  ⟨(g.cell _ _ hb).trans h.c0, (g.cell _ _ hb).trans h.c1, (g.cell _ _ hb).trans h.c2, (g.cell _ _ hb).trans h.c3, (g.cell _ _ hb).trans h.c4, (g.cell _ _ hb).trans h.c5⟩
/-- A list of visits in memory. -/
structure PV (w : World) (ao : Option Addr) (l : List Vis) : Prop where
  cells : 0 < l.length → ∃ b off, ao = some ⟨b, off, none⟩ ∧ b < w.heap.size ∧ ∀ i, i < l.length → VisAt w b (off + i * 6) (l.getD i vis0)
theorem PV.gw {w w' : World} {ao : Option Addr} {l : List Vis} (h : PV w ao l) (g : Gw w w') : PV w' ao l :=
  ⟨fun h0 => by
    obtain ⟨b, off, e, hb, hc⟩ := h.cells h0
    exact ⟨b, off, e, Nat.lt_of_lt_of_le hb g.size, fun i hi => (hc i hi).gw hb g⟩⟩
theorem info_vis : (Try.prog.info? 40).map (fun i => (i.zero, i.size, i.bytes)) = some (some (.agg #[.int .i64 0, .int .i64 0, .int .i64 0, .int .i64 0, .int .i64 0, .int .i64 0]), 6, 48) := by kernel_rfl
/-- A row of visits, of the call's own from block 'base' on. -/
def VR (w : World) (base : Nat) (v : Value) (l : List Vis) : Prop := w.ownsRow base 40 6 v l.length (l.flatMap visc)
theorem visc_one (s : Vis) : ∀ u ∈ visc s, u.oneCell' = true := by
  intro u hu
  simp only [visc, List.mem_cons, List.not_mem_nil, or_false] at hu
  rcases hu with rfl | rfl | rfl | rfl | rfl | rfl <;> rfl
theorem vflat_len : ∀ l : List Vis, (l.flatMap visc).length = l.length * 6 := by
  intro l
  induction l with
  | nil => rfl
  | cons s l ih => rw [List.flatMap_cons, List.length_append, ih, List.length_cons]; show 6 + l.length * 6 = _; omega
theorem vflat_one (l : List Vis) (s : Vis) : (l ++ [s]).flatMap visc = l.flatMap visc ++ visc s := by simp
theorem vflat_get : ∀ (l : List Vis) (i : Nat), i < l.length → ∀ j, j < 6 → (l.flatMap visc)[i * 6 + j]? = (visc (l.getD i vis0))[j]? := by
  intro l
  induction l with
  | nil => intro i hi; simp at hi
  | cons s l ih =>
    intro i hi j hj
    rw [List.flatMap_cons]
    cases i with
    | zero =>
      rw [Nat.zero_mul, Nat.zero_add, List.getElem?_append_left (by show j < 6; exact hj)]
      rfl
    | succ i =>
      have e : (i + 1) * 6 + j = i * 6 + j + 6 := by omega
      rw [e, List.getElem?_append_right (by show 6 ≤ _; omega), show i * 6 + j + 6 - (visc s).length = i * 6 + j by show i * 6 + j + 6 - 6 = _; omega]
      exact ih i (by simpa using hi) j hj
theorem vr_pv {w : World} {base : Nat} {bo : Option Addr} {cap : Nat} {l : List Vis} (h : VR w base (.slice bo l.length cap) l) : PV w bo l := by
  refine ⟨fun h0 => ?_⟩
  rcases h.2 with ⟨e, z⟩ | ⟨g, cap', cur, e, hb, hh, r⟩
  · omega
  · cases e
    refine ⟨g, 0, rfl, (Array.getElem?_eq_some_iff.1 hh).1, fun i hi => ?_⟩
    have c : ∀ j, j < 6 → w.cell? ⟨g, 0 + i * 6 + j, none⟩ = (visc (l.getD i vis0))[j]? := fun j hj => by
      have := World.ownsRow.cellAt h (i * 6 + j) (by omega)
      rw [Nat.zero_add, this]
      exact vflat_get l i hi j hj
    exact ⟨c 0 (by decide), c 1 (by decide), c 2 (by decide), c 3 (by decide), c 4 (by decide), c 5 (by decide)⟩
theorem new_vis (w : World) (s : Vis) : ∀ j u, (visc s)[j]? = some u → (w.alloc (.cells #[.int .i64 s.lv, .int .i64 s.sl, .int .i64 s.gu, .int .i64 s.lo, .int .i64 s.hi, .int .i64 s.rk] 40)).cell? ((⟨w.heap.size, 0, none⟩ : Addr).add j) = some u := by
  intro j u hu
  have h := heap_alloc_new w (.cells #[.int .i64 s.lv, .int .i64 s.sl, .int .i64 s.gu, .int .i64 s.lo, .int .i64 s.hi, .int .i64 s.rk] 40)
  rw [Addr.add_lit, Nat.zero_add]
  simp only [World.cell?, h]
  simpa [visc] using hu

/-- The document's keys of a level. -/
theorem row_ok {w : World} {ao : Option Addr} {n : Nat} {f : Nat → Int} {lo : Option Addr} {L : List (List Sg)} (h : KS w ao n f) (v : VS w lo L) (i : Nat) (hi : i ≤ L.length) : ∀ t, t < rowN n L i → 0 ≤ rowF f L i t ∧ rowF f L i t < 18446744073709551616 := by
  unfold rowN rowF
  by_cases z : i = 0
  · rw [if_pos z, if_pos z]; exact h.bd
  · rw [if_neg z, if_neg z]
    obtain ⟨b, off, _, _, hc⟩ := v.cells (by omega)
    obtain ⟨bo, c, _, _, _, g⟩ := hc (i - 1) (by omega)
    exact fst8_ok g


end Go.Proofs.Ytapjipinceoaoaa
