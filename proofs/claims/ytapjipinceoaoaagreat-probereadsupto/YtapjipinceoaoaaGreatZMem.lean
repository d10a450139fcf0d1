/- Lists of visits in memory. -/
import Derived.Test.YtapjipinceoaoaaGreatZPath
import Derived.Test.YtapjipinceoaoaaGreatPVo
namespace Go.Proofs.YtapjipinceoaoaaGreat
open Go.RowKit
set_option linter.unusedVariables false

def vis0 : Vis := ⟨0, 0, 0, 0, 0, 0⟩
abbrev visV (v : Vis) : Value := .agg #[.int .i64 v.lv, .int .i64 v.sl, .int .i64 v.gu, .int .i64 v.lo, .int .i64 v.hi, .int .i64 v.rk]
def visc (v : Vis) : List Value := [.int .i64 v.lv, .int .i64 v.sl, .int .i64 v.gu, .int .i64 v.lo, .int .i64 v.hi, .int .i64 v.rk]
/-- A visit in memory. -/
structure VisAt (w : World) (b off : Nat) (v : Vis) : Prop where
  c0 : w.cell? ⟨b, off, none⟩ = some (.int .i64 v.lv)
  c1 : w.cell? ⟨b, off + 1, none⟩ = some (.int .i64 v.sl)
  c2 : w.cell? ⟨b, off + 2, none⟩ = some (.int .i64 v.gu)
  c3 : w.cell? ⟨b, off + 3, none⟩ = some (.int .i64 v.lo)
  c4 : w.cell? ⟨b, off + 4, none⟩ = some (.int .i64 v.hi)
  c5 : w.cell? ⟨b, off + 5, none⟩ = some (.int .i64 v.rk)
theorem VisAt.gw {w w' : World} {b off : Nat} {v : Vis} (h : VisAt w b off v) (hb : b < w.heap.size) (g : Gw w w') : VisAt w' b off v :=
  ⟨(g.cell _ _ hb).trans h.c0, (g.cell _ _ hb).trans h.c1, (g.cell _ _ hb).trans h.c2, (g.cell _ _ hb).trans h.c3, (g.cell _ _ hb).trans h.c4, (g.cell _ _ hb).trans h.c5⟩
/-- A list of visits in memory. -/
structure PV (w : World) (ao : Option Addr) (l : List Vis) : Prop where
  cells : 0 < l.length → ∃ b off, ao = some ⟨b, off, none⟩ ∧ b < w.heap.size ∧ ∀ i, i < l.length → VisAt w b (off + i * 6) (l.getD i vis0)
theorem PV.gw {w w' : World} {ao : Option Addr} {l : List Vis} (h : PV w ao l) (g : Gw w w') : PV w' ao l :=
  ⟨fun h0 => by
    obtain ⟨b, off, e, hb, hc⟩ := h.cells h0
    exact ⟨b, off, e, Nat.lt_of_lt_of_le hb g.size, fun i hi => (hc i hi).gw hb g⟩⟩
theorem info_vis : (Tryz.prog.info? 55).map (fun i => (i.zero, i.size, i.bytes)) = some (some (.agg #[.int .i64 0, .int .i64 0, .int .i64 0, .int .i64 0, .int .i64 0, .int .i64 0]), 6, 48) := by kernel_rfl
/-- A row of visits, of the call's own from block 'base' on. -/
def VR (w : World) (base : Nat) (v : Value) (l : List Vis) : Prop := w.ownsRow base 55 6 v l.length (l.flatMap visc)
theorem visc_one (s : Vis) : ∀ u ∈ visc s, u.oneCell' = true := by
  intro u hu
  simp only [visc, List.mem_cons, List.not_mem_nil, or_false] at hu
  rcases hu with rfl | rfl | rfl | rfl | rfl | rfl <;> rfl
theorem vflat_len : ∀ l : List Vis, (l.flatMap visc).length = l.length * 6 := by
  intro l
  induction l with
  | nil => rfl
  | cons s l ih => rw [List.flatMap_cons, List.length_append, ih, List.length_cons]; show 6 + l.length * 6 = _; omega
theorem vflat_one (l : List Vis) (s : Vis) : (l ++ [s]).flatMap visc = l.flatMap visc ++ visc s := by simp
theorem vflat_get : ∀ (l : List Vis) (i : Nat), i < l.length → ∀ j, j < 6 → (l.flatMap visc)[i * 6 + j]? = (visc (l.getD i vis0))[j]? := by
  intro l
  induction l with
  | nil => intro i hi; simp at hi
  | cons s l ih =>
    intro i hi j hj
    rw [List.flatMap_cons]
    cases i with
    | zero =>
      rw [Nat.zero_mul, Nat.zero_add, List.getElem?_append_left (by show j < 6; exact hj)]
      rfl
    | succ i =>
      have e : (i + 1) * 6 + j = i * 6 + j + 6 := by omega
      rw [e, List.getElem?_append_right (by show 6 ≤ _; omega), show i * 6 + j + 6 - (visc s).length = i * 6 + j by show i * 6 + j + 6 - 6 = _; omega]
      exact ih i (by simpa using hi) j hj
theorem vr_pv {w : World} {base : Nat} {bo : Option Addr} {cap : Nat} {l : List Vis} (h : VR w base (.slice bo l.length cap) l) : PV w bo l := by
  refine ⟨fun h0 => ?_⟩
  rcases h.2 with ⟨e, z⟩ | ⟨g, cap', cur, e, hb, hh, r⟩
  · omega
  · cases e
    refine ⟨g, 0, rfl, (Array.getElem?_eq_some_iff.1 hh).1, fun i hi => ?_⟩
    have c : ∀ j, j < 6 → w.cell? ⟨g, 0 + i * 6 + j, none⟩ = (visc (l.getD i vis0))[j]? := fun j hj => by
      have := World.ownsRow.cellAt h (i * 6 + j) (by omega)
      rw [Nat.zero_add, this]
      exact vflat_get l i hi j hj
    exact ⟨c 0 (by decide), c 1 (by decide), c 2 (by decide), c 3 (by decide), c 4 (by decide), c 5 (by decide)⟩
theorem new_vis (w : World) (s : Vis) : ∀ j u, (visc s)[j]? = some u → (w.alloc (.cells #[.int .i64 s.lv, .int .i64 s.sl, .int .i64 s.gu, .int .i64 s.lo, .int .i64 s.hi, .int .i64 s.rk] 55)).cell? ((⟨w.heap.size, 0, none⟩ : Addr).add j) = some u := by
  intro j u hu
  have h := heap_alloc_new w (.cells #[.int .i64 s.lv, .int .i64 s.sl, .int .i64 s.gu, .int .i64 s.lo, .int .i64 s.hi, .int .i64 s.rk] 55)
  rw [Addr.add_lit, Nat.zero_add]
  simp only [World.cell?, h]
  simpa [visc] using hu

/-- The document's keys of a level. -/
theorem row_ok {w : World} {ao : Option Addr} {n : Nat} {f : Nat → Int} {lo : Option Addr} {L : List (List Sg)} (h : KS w ao n f) (v : VS w lo L) (i : Nat) (hi : i ≤ L.length) : ∀ t, t < rowN n L i → 0 ≤ rowF f L i t ∧ rowF f L i t < 18446744073709551616 := by
  unfold rowN rowF
  by_cases z : i = 0
  · rw [if_pos z, if_pos z]; exact h.bd
  · rw [if_neg z, if_neg z]
    obtain ⟨b, off, _, _, hc⟩ := v.cells (by omega)
    obtain ⟨bo, c, _, _, _, g⟩ := hc (i - 1) (by omega)
    exact fst8_ok g

set_option maxRecDepth 10000 in
set_option maxHeartbeats 4000000 in
theorem rkeysof_any (ao : Option Addr) (n cp : Nat) (f : Nat → Int) (lo : Option Addr) (lc : Nat) (L : List (List Sg)) (i : Nat) (hn : n ≤ cp) (hL : L.length ≤ 4000000) (hl : ∀ i, i < L.length → (L.getD i []).length ≤ 4000000) (hi : i ≤ L.length) (w : World) (h : KS w ao n f) (hv : VS w lo L) :
    Calls Tryz.prog 22 #[.slice ao n cp, .slice lo L.length lc, .int .i64 (i : Int)] w fun e w' => (∃ bo c, e = .returned (.slice bo (rowN n L i) c) ∧ rowN n L i ≤ c ∧ KS w' bo (rowN n L i) (rowF f L i) ∧ ((i = 0 ∧ bo = ao) ∨ ∀ a, bo = some a → w.heap.size ≤ a.block)) ∧ Gw w w' := by
  have HK : Aside (KS w ao n f) := h
  have HV : Aside (VS w lo L) := hv
  clear h hv
  by_cases z : i = 0
  · subst z
    go_enter Tryz.func22, Tryz.ntmps22
    go_wp2_with fail
    go_ret
    exact ⟨⟨ao, cp, rfl, hn, HK.out, (by first | exact .inl ⟨rfl, rfl⟩ | exact .inl ⟨trivial, rfl⟩)⟩, Gw.refl w⟩
  · obtain ⟨j, rfl⟩ : ∃ j, i = j + 1 := ⟨i - 1, by omega⟩
    have tz : (((j + 1 : Nat) : Int) == 0) = false := by simp; omega
    have wj : IntKind.i64.wrap (((j + 1 : Nat) : Int) - 1) = (j : Int) := by rw [IntKind.wrap_i64]; omega
    have e1 : rowN n L (j + 1) = (L.getD j []).length := by unfold rowN; rw [if_neg (by omega)]; rfl
    have e2 : rowF f L (j + 1) = fst8 (L.getD j []) := by unfold rowF; rw [if_neg (by omega)]; rfl
    rw [e1, e2]
    obtain ⟨l, hlj⟩ : ∃ l, L.getD j [] = l := ⟨_, rfl⟩
    have sl := hl j (by omega)
    have LJ : Aside (L.getD j [] = l) := hlj
    rw [hlj] at sl ⊢
    obtain ⟨ln, hln⟩ : ∃ ln, L.length = ln := ⟨_, rfl⟩
    have LN : Aside (L.length = ln) := hln
    rw [hln] at hi hL ⊢
    obtain ⟨m, hm⟩ : ∃ m, l.length = m := ⟨_, rfl⟩
    have LM : Aside (l.length = m) := hm
    rw [hm] at sl ⊢
    obtain ⟨J, hJ⟩ : ∃ J : Int, ((j + 1 : Nat) : Int) = J := ⟨_, rfl⟩
    rw [hJ] at tz wj ⊢
    clear hln hm hlj e1 e2 hJ hl z
    obtain ⟨ii, hii, hz, hs, hby⟩ := info_parts info_k
    have R3 : Aside (w.ownsRow w.heap.size 36 1 (.slice none 0 0) 0 ((List.range 0).map fun j => Value.int .u64 (fst8 l j))) := World.ownsRow_nil w _ _ _
    have jl : (j : Int) < (ln : Int) := by omega
    have jl' : j < ln := by omega
    go_enter Tryz.func22, Tryz.ntmps22
    go_wp2_with fail
    go_loopg [7, 8] m (fun gg s7 s8 wr => ∃ (i cap : Nat) (bo : Option Addr), s7 = .slice bo i cap ∧ s8 = .int .i64 i ∧ i ≤ m ∧ m - i ≤ gg ∧ Aside (wr.ownsRow w.heap.size 36 1 (.slice bo i cap) i ((List.range i).map fun j => Value.int .u64 (fst8 l j))) ∧ Aside (Gw w wr))
    case atStart => exact ⟨0, 0, none, rfl, rfl, Nat.zero_le _, by omega, R3, (show Aside _ from Gw.refl w)⟩
    case round =>
      clear R3
      obtain ⟨i, cap, bo, rfl, rfl, h1, h2, R, G⟩ := hrel
      obtain ⟨ab, af, rfl, hab, hac⟩ := (HV.out.gw G.out).cells (by rw [LN.out]; omega)
      obtain ⟨so, sc, p1, _, _, p4⟩ := hac j (by rw [LN.out]; exact jl')
      rw [LJ.out] at p1 p4
      rw [LM.out] at p1
      clear hac
      by_cases hlt : i < m
      · obtain ⟨bk, off, rfl, hbk, hc⟩ := p4.cells (by rw [LM.out]; omega)
        have q1 := (hc i (by rw [LM.out]; exact hlt)).c0
        obtain ⟨fi, hfi⟩ : ∃ y, fst8 l i = y := ⟨_, rfl⟩
        have FI : Aside (fst8 l i = fi) := hfi
        have q2 : wr.cell? ⟨bk, off + i * 5, none⟩ = some (.int .u64 fi) := by rw [← hfi]; exact q1
        clear hc hfi q1 p4
        have z0 := G.out.size
        go_wp2_with (at_builtin; refine wpList_append_own _ rfl _ _ 22 rfl w.heap.size 36 ii (.int .u64 0) 1 8 Tryz.underlying22 hii hz hs hby rfl (by decide) _ i _ rfl (R.out.alloc _) ⟨wr.heap.size, 0, none⟩ 1 1 [.int .u64 fi] rfl rfl (new_one wr fi) (ints_oneCell .u64 [fi]) (by simp only [maxLen]; omega) (by omega) (by simp; omega) ?_)
        intro v' w5 r1' r2' r3'
        obtain ⟨b5, cap5, rfl, hb5, _, _⟩ := own_slice r1' (by simpa using r3')
        have R5 : Aside (w5.ownsRow w.heap.size 36 1 (.slice (some ⟨b5, 0, none⟩) (i + 1) cap5) (i + 1) ((List.range (i + 1)).map fun j => Value.int .u64 (fst8 l j))) := by
          have := r1'
          rw [← FI.out] at this
          rw [List.range_succ, List.map_append]
          exact this
        have G5 : Aside (Gw w w5) := (G.out.alloc _ _).grown r2' (fun k hk => (R.out.lt k hk).1)
        clear r1' r2' r3' R G hb5 q2 FI
        go_wp2_with fail
        go_roundg (m - (i + 1))
        case measure => omega
        case rel => exact ⟨i + 1, cap5, some ⟨b5, 0, none⟩, rfl, by go_num, by omega, Nat.le_refl _, R5, G5⟩
      · have ei : i = m := by omega
        subst ei
        have RB : Aside (∀ a, bo = some a → w.heap.size ≤ a.block) := fun a ea => by
          subst ea
          exact (R.out.lt a.block rfl).1
        have K4 : Aside (KS wr bo i (fst8 l) ∧ i ≤ cap) := by
          have bd : ∀ t, t < i → 0 ≤ fst8 l t ∧ fst8 l t < 18446744073709551616 := fun t ht => fst8_ok p4 t (by rw [LM.out]; exact ht)
          rcases R.out.2 with ⟨e, zz⟩ | ⟨g, cap', cur, e, hb, hh, hc, _⟩
          · cases e
            exact ⟨⟨fun h0 => by omega, bd⟩, by omega⟩
          · cases e
            exact ⟨ks_own R.out (Nat.le_refl _) (fun j hj => by simp [hj]) bd, hc⟩
        clear R p4
        go_wp2_with fail
        go_ret
        exact ⟨⟨bo, cap, rfl, K4.out.2, K4.out.1, .inr RB.out⟩, G.out⟩

end Go.Proofs.YtapjipinceoaoaaGreat
