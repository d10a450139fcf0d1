/- Package levels: the function that Check hands to climb. -/
import Derived.Test.YtmmkmakajolfhabYLevel
import Derived.Test.YtmmkmakajolfhabYMade
namespace Go.Proofs.Ytmmkmakajolfhab
open Go.RowKit
set_option linter.unusedVariables false

/-- Keys do not lie in a variable of ints. -/
theorem ks_far {w : World} {bo : Option Addr} {m : Nat} {g : Nat → Int} (h : KS w bo m g) {bh : Nat} {x : Int} {t : TypeId} (hx : Box w bh (.int .i64 x) t) (v : Value) : KS (w.setCell ⟨bh, 0, none⟩ v) bo m g := by
  refine ⟨fun h0 => ?_, h.bd⟩
  obtain ⟨b, off, e, hb, hc⟩ := h.cells h0
  have ne : b ≠ bh := fun q => by
    subst q
    have c := hc 0 h0
    unfold Box at hx
    simp only [World.cell?, hx] at c
    cases off with
    | zero => simp at c
    | succ o => simp at c
  have blk : (w.setCell ⟨bh, 0, none⟩ v).heap[b]? = w.heap[b]? := Go.Deep.blk_setCell_other _ _ _ _ ne
  exact ⟨b, off, e, by simpa using hb, fun i hi => (World.cell?_of_block (a := ⟨b, off + i, none⟩) blk).trans (hc i hi)⟩
/-- What is so whenever Check's function is called. -/
structure CI (w0 : World) (bp bl be bh : Nat) (eps : Int) (lo : Option Addr) (lc : Nat) (L : List (List Sg)) (W : World) (i : Nat) : Prop where
  gw : Gw w0 W
  ep : Box W bp (.int .i64 eps) 3
  lx : Box W bl (.slice lo L.length lc) 24
  er : Box W be (.int .i64 0) 25
  hx : Box W bh (.int .i64 (i : Int)) 3
theorem CI.mono {w0 : World} {bp bl be bh : Nat} {eps : Int} {lo : Option Addr} {lc : Nat} {L : List (List Sg)} {W W' : World} {i : Nat} (h : CI w0 bp bl be bh eps lo lc L W i) (g : Gw W W') : CI w0 bp bl be bh eps lo lc L W' i := ⟨h.gw.trans g, h.ep.gw g, h.lx.gw g, h.er.gw g, h.hx.gw g⟩
theorem CI.up {w0 : World} {bp bl be bh : Nat} {eps : Int} {lo : Option Addr} {lc : Nat} {L : List (List Sg)} {W : World} {i : Nat} (h : CI w0 bp bl be bh eps lo lc L W i) (n1 : bp ≠ bh) (n2 : bl ≠ bh) (n3 : be ≠ bh) (hb : w0.heap.size ≤ bh) (j : Nat) : CI w0 bp bl be bh eps lo lc L (W.setCell ⟨bh, 0, none⟩ (.int .i64 (j : Int))) j :=
  ⟨h.gw.setCell hb _, h.ep.other _ _ n1, h.lx.other _ _ n2, h.er.other _ _ n3, h.hx.set _⟩
/-- What Check tells when its function has been called i times. -/
def leftE (eps : Int) (L : List (List Sg)) (i : Nat) (g : Nat → Int) (m : Nat) : Int := if i < L.length then chkE eps g m (L.drop i) else if i = 0 then 0 else if (L.getD (i - 1) []).length = 1 then 0 else 84
def CIn (w0 : World) (bp bl be bh : Nat) (eps : Int) (lo : Option Addr) (lc : Nat) (L : List (List Sg)) (E : Int) (r : Nat) (W : World) (bo : Option Addr) (m c : Nat) (g : Nat → Int) : Prop :=
  ∃ i, CI w0 bp bl be bh eps lo lc L W i ∧ KS W bo m g ∧ Up g m ∧ m ≤ 2000000 ∧ m ≤ c ∧ i ≤ L.length ∧ (i < L.length → 0 < m) ∧ E = leftE eps L i g m ∧ L.length + 1 - i ≤ r
def COut (w0 : World) (bp bl be bh : Nat) (eps : Int) (lo : Option Addr) (lc : Nat) (L : List (List Sg)) (E : Int) (W : World) : Prop := CI w0 bp bl be bh eps lo lc L W L.length ∧ E = if L.length = 0 then 0 else if (L.getD (L.length - 1) []).length = 1 then 0 else 84
def CDie (w0 : World) (be : Nat) (E : Int) (ch : List PanicEntry) (W : World) : Prop := ch = thrown E ∧ Gw w0 W ∧ Box W be (.int .i64 0) 25

set_option maxRecDepth 10000 in
set_option maxHeartbeats 4000000 in
theorem over_check (M : ModelC) (w0 : World) (bp bl be bh : Nat) (eps : Int) (lo : Option Addr) (lc : Nat) (L : List (List Sg)) (E : Int) (hL : Short L) (hv : VS w0 lo L) (n1 : bp ≠ bh) (n2 : bl ≠ bh) (n3 : be ≠ bh) (hb : w0.heap.size ≤ bh) :
    OverC 32 (fun v => #[v, .pointer (some ⟨bh, 0, none⟩), .pointer (some ⟨bl, 0, none⟩), .pointer (some ⟨bp, 0, none⟩)]) (CIn w0 bp bl be bh eps lo lc L E) (COut w0 bp bl be bh eps lo lc L E) (CDie w0 be E) := by
  rintro r W bo m c g ⟨i, hCI, hK, hU, m1, mc, hi, hm, hE, hr⟩
  have HC : Aside (CI w0 bp bl be bh eps lo lc L W i) := hCI
  have HK : Aside (KS W bo m g) := hK
  have UP : Aside (Up g m) := hU
  have HV : Aside (VS w0 lo L) := hv
  have HL : Aside (Short L) := hL
  have HE : Aside (E = leftE eps L i g m) := hE
  have cl := hCI.lx.cell
  have ll := hCI.lx.lt
  have cp := hCI.ep.cell
  have lp := hCI.ep.lt
  have ch := hCI.hx.cell
  have fh := hCI.hx.fz
  have lh := hCI.hx.lt
  have NL : Hid _ := fun (ao : Option Addr) (cl : Nat) (l : List Sg) (hl : l.length ≤ 4000000) (w : World) (k : KS w bo m g) (h : GS w ao l) => needlevel_any M eps bo m c g (by omega) mc UP.out ao cl l hl w k h
  have hLn := hL.1
  obtain ⟨ln, hln⟩ : ∃ ln, L.length = ln := ⟨_, rfl⟩
  have LN : Aside (L.length = ln) := hln
  rw [hln] at cl hi hm hr hLn
  clear hln hCI hK hU hv hE hL M
  by_cases ilt : i < ln
  · have z0 : ((i : Int) == (ln : Int)) = false := by simp; omega
    have z1 : ¬ i = ln := by omega
    obtain ⟨lb, lf, rfl, hlb0, hc⟩ := HV.out.cells (by rw [LN.out]; omega)
    obtain ⟨so, sc, q1', q2, q3, q4⟩ := hc i (by rw [LN.out]; exact ilt)
    have q1 := (HC.out.gw.cell _ _ hlb0).trans q1'
    have hlb := Nat.lt_of_lt_of_le hlb0 HC.out.gw.size
    have lbh : ¬ lb = bh := by omega
    clear q1' hlb0
    have sl := HL.out.2 i (by rw [LN.out]; exact ilt)
    have ED : Aside (E = chkE eps g m (L.getD i [] :: L.drop (i + 1))) := by
      have := HE.out
      unfold leftE at this
      rw [if_pos (by rw [LN.out]; exact ilt), dropL_at (by rw [LN.out]; exact ilt)] at this
      exact this
    have EF : Aside (i + 1 = ln → L.drop (i + 1) = []) := fun q => List.drop_eq_nil_of_le (by rw [LN.out]; omega)
    have EG : Aside (i + 1 < ln → L.drop (i + 1) ≠ []) := fun q e => by have := congrArg List.length e; rw [List.length_drop, LN.out] at this; simp at this; omega
    have LAST : Aside (L.getD (i + 1 - 1) [] = L.getD i []) := rfl
    clear hc HE
    obtain ⟨l, hl⟩ : ∃ l, L.getD i [] = l := ⟨_, rfl⟩
    rw [hl] at q1 q2 q3 q4 sl ED LAST
    have GL : Aside (GS w0 so l) := q4
    have NL' := NL.out so sc l (by omega)
    obtain ⟨sn, hsn⟩ : ∃ sn, l.length = sn := ⟨_, rfl⟩
    have SN : Aside (l.length = sn) := hsn
    rw [hsn] at q1 q2 q3 sl NL'
    have NH : Hid (∀ W, KS W bo m g → GS W so l → _) := fun W k h => NL' W k h
    clear hl hsn q4 NL NL'
    have wi : IntKind.i64.wrap ((i : Int) + 1) = ((i + 1 : Nat) : Int) := by rw [IntKind.wrap_i64]; omega
    go_enter Try.func32, Try.ntmps32
    have C2 : Aside (CI w0 bp bl be bh eps (some ⟨lb, lf, none⟩) lc L (W.setCell ⟨bh, 0, none⟩ (.int .i64 ((i : Int) + 1))) (i + 1)) := HC.out.up n1 n2 n3 hb (i + 1)
    have K2 : Aside (KS (W.setCell ⟨bh, 0, none⟩ (.int .i64 ((i : Int) + 1))) bo m g) := ks_far HK.out HC.out.hx _
    go_wp2_with fail
    generalize W.setCell ⟨bh, 0, none⟩ (.int .i64 ((i : Int) + 1)) = W2 at C2 K2 ⊢
    refine (NH.out _ K2.out (GL.out.gw C2.out.gw)).mono ?_
    rintro e w3 ⟨he, g3⟩
    have C3 : Aside (CI w0 bp bl be bh eps (some ⟨lb, lf, none⟩) lc L w3 (i + 1)) := C2.out.mono g3
    have m0 : 0 < m := hm ilt
    clear g3 NH
    by_cases tb : tileB m 0 l = true
    · have ne : l.isEmpty = false := by
        cases l with
        | nil => have := tileB_nil.1 tb; omega
        | cons s l => rfl
      have EI : E = if lvlE eps g l ≠ 0 then lvlE eps g l else restE eps l (L.drop (i + 1)) := by
        rw [ED.out, chkE_cons, if_neg (by rw [tb, ne]; decide)]
      unfold levE at he
      rw [if_pos tb] at he
      rcases he with ⟨v0, rfl⟩ | ⟨v0, rfl⟩
      · rw [if_neg (fun q => q v0)] at EI
        have ER : Aside (E = restE eps l (L.drop (i + 1))) := EI
        have OKS := lvlE_ok.1 v0
        have UN : Aside (Up (fst8 l) l.length) := (fst8_up UP.out tb (fun s hs => (segE_ok.1 (OKS s hs)).2.1)).1
        have sn0 : 0 < sn := by
          rw [← SN.out]
          cases l with
          | nil => cases ne
          | cons s l => simp
        have NX : Aside (E = leftE eps L (i + 1) (fst8 l) l.length) := by
          show E = _
          unfold leftE
          by_cases q : i + 1 < ln
          · rw [if_pos (by rw [LN.out]; exact q), ER.out]
            unfold restE
            rw [if_neg (EG.out q)]
          · rw [if_neg (by rw [LN.out]; exact q), if_neg (by omega), LAST.out, ER.out]
            unfold restE
            rw [if_pos (EF.out (by omega))]
        clear EI ER OKS tb ne ED EF EG LAST v0
        go_wp2_with fail
        go_ret
        exact .inr (.inl ⟨so, sc, l, r - 1, by rw [SN.out]; rfl, by rw [SN.out]; exact sn0, by rw [SN.out]; omega, GL.out.gw C3.out.gw, by omega, fun b9 w9 g9 k9 => ⟨i + 1, C3.out.mono g9, k9, UN.out, by rw [SN.out]; omega, Nat.le_refl _, by rw [LN.out]; omega, fun _ => by rw [SN.out]; exact sn0, NX.out, by rw [LN.out]; omega⟩⟩)
      · rw [if_pos v0] at EI
        have R : Aside (CDie w0 be E (thrown (lvlE eps g l)) w3) := ⟨by rw [EI], C3.out.gw, C3.out.er⟩
        clear EI ED EF EG LAST v0 tb ne
        generalize lvlE eps g l = EE at R ⊢
        go_wp2_with fail
        exact ⟨rfl, .inr (.inr ⟨_, rfl, R.out⟩)⟩
    · have tf : tileB m 0 l = false := by simpa using tb
      have EI : E = 82 := by rw [ED.out, chkE_cons, if_pos (by rw [tf]; rfl)]
      unfold levE at he
      rw [if_neg tb] at he
      obtain rfl : e = .panicked (thrown 82) := by
        rcases he with ⟨q, _⟩ | ⟨_, q⟩
        · exact absurd q (by decide)
        · exact q
      have R : Aside (CDie w0 be E (thrown 82) w3) := ⟨by rw [EI], C3.out.gw, C3.out.er⟩
      clear EI ED EF EG LAST tb tf he
      go_wp2_with fail
      exact ⟨rfl, .inr (.inr ⟨_, rfl, R.out⟩)⟩
  · have ei : i = ln := by omega
    subst ei
    have R : Aside (COut w0 bp bl be bh eps lo lc L E W) := by
      refine ⟨by rw [LN.out]; exact HC.out, ?_⟩
      have := HE.out
      unfold leftE at this
      rw [if_neg (by rw [LN.out]; omega)] at this
      rw [LN.out]
      exact this
    clear HE NL
    go_enter Try.func32, Try.ntmps32
    go_wp2_with fail
    go_ret
    exact .inl ⟨none, 0, rfl, R.out⟩

end Go.Proofs.Ytmmkmakajolfhab
