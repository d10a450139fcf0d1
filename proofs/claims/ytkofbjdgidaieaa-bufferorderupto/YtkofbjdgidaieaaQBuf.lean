/- Package buffer: New, Full, Len, List, Empty, Get. -/
import Derived.Test.YtkofbjdgidaieaaQSeek
import Derived.Deep.RegionHeld3
namespace Go.Proofs.Ytkofbjdgidaieaa
open Go.RowKit
set_option linter.unusedVariables false

theorem blk_set {w : World} {p o : Nat} {vs : Array Value} {t : TypeId} {v : Value} (h : w.heap[p]? = some (.cells vs t (0, 0))) : (w.setCell ⟨p, o, none⟩ v).heap[p]? = some (.cells (vs.setIfInBounds o v) t (0, 0)) := by
  simp [World.setCell, Array.getElem?_modify, h]
/-- A box of three cells, written over. -/
theorem box3 {b : Nat} {w : World} {x y z : Value} {t : TypeId} (h : w.heap[b]? = some (.cells #[x, y, z] t (0, 0))) (e : Ent) : (((w.setCell ⟨b, 0, none⟩ (.int .u64 e.k)).setCell ⟨b, 1, none⟩ (.int .u64 e.v)).setCell ⟨b, 2, none⟩ (.bool e.g)).cell? ⟨b, 0, none⟩ = some (.int .u64 e.k) ∧ (((w.setCell ⟨b, 0, none⟩ (.int .u64 e.k)).setCell ⟨b, 1, none⟩ (.int .u64 e.v)).setCell ⟨b, 2, none⟩ (.bool e.g)).cell? ⟨b, 1, none⟩ = some (.int .u64 e.v) ∧ (((w.setCell ⟨b, 0, none⟩ (.int .u64 e.k)).setCell ⟨b, 1, none⟩ (.int .u64 e.v)).setCell ⟨b, 2, none⟩ (.bool e.g)).cell? ⟨b, 2, none⟩ = some (.bool e.g) := by
  have h3 := blk_set (o := 2) (v := .bool e.g) (blk_set (o := 1) (v := .int .u64 e.v) (blk_set (o := 0) (v := .int .u64 e.k) h))
  exact ⟨blkc h3 rfl, blkc h3 rfl, blkc h3 rfl⟩

theorem new14_ok (most : Int) (h1 : 1 ≤ most) (h2 : most ≤ 4294967296) (w : World) :
    Calls Try.prog 7 #[.int .i64 most] w fun e w' => (e = .returned (.tuple #[.pointer (some ⟨w.heap.size, 0, none⟩), .int .i64 0]) ∧ HB 53 w' w.heap.size (fun q => q = w.heap.size) most []) ∧ Gw w w' := by
  have N : Aside (HB 53 (w.alloc (.cells #[.int .i64 most, .slice none 0 0] 53)) w.heap.size (fun q => q = w.heap.size) most []) := HB.new _ w most (by omega)
  have t1 : decide (most < 1) = false := by simp; omega
  have t2 : decide (4294967296 < most) = false := by simp; omega
  clear h1 h2
  go_enter Try.func7, Try.ntmps7
  go_wp2_with fail
  go_ret2
  exact ⟨⟨rfl, N.out⟩, (Gw.refl w).alloc _ _⟩
theorem new14_no (most : Int) (h : ¬ (1 ≤ most ∧ most ≤ 4294967296)) (w : World) :
    Calls Try.prog 7 #[.int .i64 most] w fun e w' => e = .returned (.tuple #[.pointer none, .int .i64 1]) ∧ Gw w w' := by
  by_cases c : most < 1
  · have t1 : decide (most < 1) = true := by simpa using c
    clear h c
    go_enter Try.func7, Try.ntmps7
    go_wp2_with fail
    go_ret2
    exact ⟨rfl, Gw.refl w⟩
  · have t1 : decide (most < 1) = false := by simpa using c
    have t2 : decide (4294967296 < most) = true := by simp; omega
    clear h c
    go_enter Try.func7, Try.ntmps7
    go_wp2_with fail
    go_ret2
    exact ⟨rfl, Gw.refl w⟩
theorem full14 (p : Nat) (S : Nat → Prop) (most : Int) (l : List Ent) (w : World) (h : HB 53 w p S most l) :
    Calls Try.prog 22 #[.pointer (some ⟨p, 0, none⟩)] w fun e w' => e = .returned (.bool ((l.length : Int) == most)) ∧ Gw w w' := by
  obtain ⟨v, h1, h2, h3, h4⟩ := h.lies
  obtain ⟨bo, c, rfl, hc, _⟩ := eo_shape h2
  have c0 := blkc (o := 0) h1 rfl
  have c1 := blkc (o := 1) h1 rfl
  generalize l.length = n at c1 ⊢
  clear h h1 h2 h3 h4 hc
  go_enter Try.func22, Try.ntmps22
  go_wp2_with fail
  try go_quiet (fail)
  try go_wp2_with fail
  go_ret
  first | exact ⟨rfl, Gw.refl w⟩ | exact ⟨rfl, (Gw.refl w).drewN _⟩
theorem len14 (p : Nat) (S : Nat → Prop) (most : Int) (l : List Ent) (w : World) (h : HB 53 w p S most l) :
    Calls Try.prog 21 #[.pointer (some ⟨p, 0, none⟩)] w fun e w' => e = .returned (.int .i64 (l.length : Int)) ∧ Gw w w' := by
  obtain ⟨v, h1, h2, h3, h4⟩ := h.lies
  obtain ⟨bo, c, rfl, hc, _⟩ := eo_shape h2
  have c1 := blkc (o := 1) h1 rfl
  generalize l.length = n at c1 ⊢
  clear h h1 h2 h3 h4 hc
  go_enter Try.func21, Try.ntmps21
  go_wp2_with fail
  go_ret
  exact ⟨rfl, Gw.refl w⟩
set_option maxHeartbeats 1000000 in
theorem clone14s (v : Value) (l : List Ent) (hn : l.length ≤ 4000000) (w : World) (h : EO w 0 v l) (ok : ∀ e ∈ l, e.ok) :
    Calls Try.prog 26 #[v] w fun e w' => (∃ v', e = .returned v' ∧ EO w' w.heap.size v' l) ∧ Gw w w' := by
  obtain ⟨ao, cp, rfl, hc, hz⟩ := eo_shape h
  have HE := eo_el h ok
  obtain ⟨n, hln⟩ : ∃ n, l.length = n := ⟨_, rfl⟩
  have LN : Aside (l.length = n) := hln
  cases ao with
  | none =>
    obtain ⟨z1, z2⟩ := hz rfl
    have l0 : l = [] := List.eq_nil_of_length_eq_zero z1
    subst l0 z2
    clear h hc hz HE LN hln
    have hq : ∀ W : World, (binOp .eql 40 (.slice none 0 0) (.slice none 0 0)).run Try.prog W = .ok (.bool true) W := fun _ => by kernel_rfl
    simp only [List.length_nil]
    go_enter Try.func26, Try.ntmps26
    go_wp2_with fail
    go_ret
    exact ⟨⟨_, rfl, World.ownsRow_nil _ _ _ _⟩, Gw.refl w⟩
  | some ad =>
    have O0 : Hid ((w.alloc (.cells #[] 35)).ownsRow w.heap.size 35 3 (.slice (some ⟨w.heap.size, 0, none⟩) 0 0) 0 []) := World.ownsRow_made w #[] 0 (Nat.le_refl _) (Nat.zero_le _) rfl
    have NW : Hid (∀ x, (some ad : Option Addr) = some x → ∀ j u, (l.flatMap ent3)[j]? = some u → (w.alloc (.cells #[] 35)).cell? (x.add j) = some u) := el_news (HE.gw ((Gw.refl w).alloc _ _))
    obtain ⟨ii, hii, hz, hs, hby⟩ := info_parts info_e
    rw [hln] at hn hc ⊢
    have FL : Aside ((l.flatMap ent3).length = n * 3) := by show _ = _; rw [flat_len, LN.out]
    clear h HE hln
    have hq : ∀ W : World, (binOp .eql 40 (.slice (some ad) n cp) (.slice none 0 0)).run Try.prog W = .ok (.bool false) W := fun _ => by kernel_rfl
    go_enter Try.func26, Try.ntmps26
    go_wp2_with (at_builtin; refine wpList_append_src _ rfl _ _ 40 rfl w.heap.size 35 ii (.agg #[.int .u64 0, .int .u64 0, .bool false]) 3 24 Try.underlying40 hii hz hs hby rfl (by decide) _ 0 [] rfl O0.out (some ad) n cp (l.flatMap ent3) rfl (fun q => by cases q) FL.out NW.out (flat_ones l) (by simp only [maxLen]; omega) (by omega) (by simp) ?_)
    intro v' w7 q1 q2 q3
    have G7 : Aside (Gw w w7) := ((Gw.refl w).alloc _ _).grown q2 (fun k hk => by cases hk; exact Nat.le_refl _)
    have R5 : EO w7 w.heap.size v' l := by show World.ownsRow _ _ _ _ _ _ _; rw [LN.out]; simpa using q1
    obtain ⟨bo, bc, rfl, _, _⟩ := eo_shape R5
    have RES : Aside (EO w7 w.heap.size (.slice bo l.length bc) l) := R5
    clear q1 q2 q3 hii hz hs hby R5
    go_wp2_with fail
    go_ret
    exact ⟨⟨_, rfl, RES.out⟩, G7.out⟩
theorem list14 (p : Nat) (S : Nat → Prop) (most : Int) (l : List Ent) (hn : l.length ≤ 4000000) (w : World) (h : HB 53 w p S most l) :
    Calls Try.prog 14 #[.pointer (some ⟨p, 0, none⟩)] w fun e w' => (∃ v', e = .returned v' ∧ EO w' w.heap.size v' l) ∧ Gw w w' := by
  obtain ⟨v, h1, h2, h3, h4⟩ := h.lies
  have c1 := blkc (o := 1) h1 rfl
  have CL : Hid (Calls Try.prog 26 #[v] w fun e w' => (∃ v', e = .returned v' ∧ EO w' w.heap.size v' l) ∧ Gw w w') := clone14s v l hn w h2 h.ok
  obtain ⟨bo, c, rfl, hc, _⟩ := eo_shape h2
  clear h h1 h2 h3 h4 hc hn
  generalize l.length = n at CL c1
  go_enter Try.func14, Try.ntmps14
  go_wp2_with fail
  refine CL.out.mono ?_
  rintro e w' ⟨⟨v', rfl, r⟩, g⟩
  have R : Aside (EO w' w.heap.size v' l) := r
  have G : Aside (Gw w w') := g
  clear r g CL
  obtain ⟨bo', c', rfl, hc, _⟩ := eo_shape R.out
  go_wp2_with fail
  go_ret
  exact ⟨⟨_, rfl, R.out⟩, G.out⟩
theorem empty14 (p : Nat) (S : Nat → Prop) (most : Int) (l : List Ent) (hm : 0 ≤ most) (w : World) (h : HB 53 w p S most l) :
    Calls Try.prog 16 #[.pointer (some ⟨p, 0, none⟩)] w fun e w' => (∃ v', e = .returned v' ∧ EO w' 0 v' l ∧ (∀ q, v'.ownBlock = some q → S q ∧ q ≠ p) ∧ HB 53 w' p (fun q => q = p) most []) ∧ Gx S w w' := by
  obtain ⟨v, h1, h2, h3, h4⟩ := h.lies
  have c1 := blkc (o := 1) h1 rfl
  have f1 := blkf (o := 1) h1
  have hp := blkl h1
  have FIN : Aside ((EO (w.setCell ⟨p, 1, none⟩ (.slice none 0 0)) 0 v l ∧ (∀ q, v.ownBlock = some q → S q ∧ q ≠ p) ∧ HB 53 (w.setCell ⟨p, 1, none⟩ (.slice none 0 0)) p (fun q => q = p) most []) ∧ Gx S w (w.setCell ⟨p, 1, none⟩ (.slice none 0 0))) := by
    refine ⟨⟨eo_keep h2 fun q hq => Go.Deep.blk_setCell_other _ _ _ _ (h3 q hq), fun q hq => ⟨(h4 q).2 (.inr hq), h3 q hq⟩, ⟨⟨.slice none 0 0, ?_, World.ownsRow_nil _ _ _ _, (fun q e => by cases e), fun q => ⟨fun e => .inl e, fun e => e.elim id (fun x => by cases x)⟩⟩, List.Pairwise.nil, (fun e he => by cases he), by simpa using hm⟩⟩, (Gx.refl S w).set (.inl h.own) _ _⟩
    rw [blk_set h1]; rfl
  obtain ⟨bo, c, rfl, hc, _⟩ := eo_shape h2
  generalize l.length = n at c1 FIN
  clear h h1 h2 h3 h4 hc
  go_enter Try.func16, Try.ntmps16
  go_wp2_with fail
  go_ret
  exact ⟨⟨_, rfl, FIN.out.1⟩, FIN.out.2⟩
set_option maxHeartbeats 1000000 in
theorem get14 (p : Nat) (S : Nat → Prop) (most : Int) (l : List Ent) (x : Int) (hn : l.length ≤ 4000000) (w : World) (h : HB 53 w p S most l) :
    Calls Try.prog 20 #[.pointer (some ⟨p, 0, none⟩), .int .u64 x] w fun e w' => e = .returned (getV14 (look Ent.k x l)) ∧ Gw w w' := by
  have FD : Hid (∀ W, Gw w W → Calls Try.prog 23 #[.pointer (some ⟨p, 0, none⟩), .int .u64 x] W fun e w' => e = .returned (.tuple #[.int .i64 (plc Ent.k x l : Int), .bool (look Ent.k x l).isSome]) ∧ Gw W w') := fun W g => find14 p S most l x hn W (h.gw g)
  have H : Aside (HB 53 w p S most l) := h
  clear h
  obtain ⟨bq, hbq⟩ : ∃ b, w.heap.size = b := ⟨_, rfl⟩
  have BQ : Aside (w.heap.size = bq) := hbq
  have NEW : Hid (∀ u1, Gw (w.alloc (.cells #[.int .u64 0, .int .u64 0, .bool false] 35)) u1 → u1.heap[bq]? = some (.cells #[.int .u64 0, .int .u64 0, .bool false] 35 (0, 0))) := fun u1 gg => by
    rw [← BQ.out]
    exact (gg.below.block _ (by simp)).trans (heap_alloc_new _ _)
  cases hk : look Ent.k x l with
  | none =>
    rw [hk] at FD
    generalize plc Ent.k x l = pp at FD
    clear hk
    go_enter Try.func20, Try.ntmps20
    go_wp2_with fail
    refine (FD.out _ ((Gw.refl w).alloc _ _)).mono ?_
    rintro e u1 ⟨rfl, g⟩
    have GG : Aside (Gw w u1) := ((Gw.refl w).alloc _ _).trans g
    have NB := NEW.out u1 g
    have m0 : u1.cell? ⟨bq, 0, none⟩ = some (.int .u64 0) := blkc NB rfl
    have m1 : u1.cell? ⟨bq, 1, none⟩ = some (.int .u64 0) := blkc NB rfl
    have m2 : u1.cell? ⟨bq, 2, none⟩ = some (.bool false) := blkc NB rfl
    have z0 := blkf (o := 0) NB
    have z1 := blkf (o := 1) NB
    have z2 := blkf (o := 2) NB
    have bl := blkl NB
    have TT := box3 NB ent0
    simp only [ent0] at TT
    clear g FD NB NEW
    clear hbq
    go_wp2_with fail
    exact bodyPost_ret (v := .tuple #[.agg #[.int .u64 0, .int .u64 0, .bool false], .bool false]) (by simp [results, Try.results20, go_sem, TT.1, TT.2.1, TT.2.2]) rfl ⟨rfl, ((GG.out.setCell (Nat.le_of_eq BQ.out) _).setCell (Nat.le_of_eq BQ.out) _).setCell (Nat.le_of_eq BQ.out) _⟩
  | some y =>
    obtain ⟨f1, f2⟩ := plc_found H.out.rise hk
    have f3 := plc_found_lt H.out.rise hk
    have CE : Hid (∀ W, Gw w W → ∃ (c b : Nat), W.cell? ⟨p, 1, none⟩ = some (.slice (some ⟨b, 0, none⟩) l.length c) ∧ W.cell? ⟨b, plc Ent.k x l * 3, none⟩ = some (.int .u64 y.k) ∧ W.cell? ⟨b, plc Ent.k x l * 3 + 1, none⟩ = some (.int .u64 y.v) ∧ W.cell? ⟨b, plc Ent.k x l * 3 + 2, none⟩ = some (.bool y.g)) := fun W g => by
      obtain ⟨v, h1, h2, h3, h4⟩ := (H.out.gw g).lies
      obtain ⟨bo, c, rfl, hc, _⟩ := eo_shape h2
      obtain ⟨b, rfl, _, _, _, hcc⟩ := eo_form h2 rfl (by omega)
      obtain ⟨a1, a2, a3⟩ := hcc _ f3
      have e : l.getD (plc Ent.k x l) ent0 = y := by simp [List.getD, f1]
      rw [e] at a1 a2 a3
      exact ⟨c, b, blkc (o := 1) h1 rfl, a1, a2, a3⟩
    rw [hk] at FD
    obtain ⟨yk, yv, yg⟩ := y
    generalize plc Ent.k x l = pp at FD CE f3
    generalize l.length = n at CE f3 hn
    have f4 : (pp : Int) < (n : Int) := by omega
    clear hk f1 f2 H
    go_enter Try.func20, Try.ntmps20
    go_wp2_with fail
    refine (FD.out _ ((Gw.refl w).alloc _ _)).mono ?_
    rintro e u1 ⟨rfl, g⟩
    have GG : Aside (Gw w u1) := ((Gw.refl w).alloc _ _).trans g
    obtain ⟨c, b, e1, e2, e3, e4⟩ := CE.out u1 GG.out
    have e2' : u1.cell? ⟨b, pp * 3, none⟩ = some (.int .u64 yk) := e2
    have e3' : u1.cell? ⟨b, pp * 3 + 1, none⟩ = some (.int .u64 yv) := e3
    have e4' : u1.cell? ⟨b, pp * 3 + 2, none⟩ = some (.bool yg) := e4
    have NB := NEW.out u1 g
    have m0 : u1.cell? ⟨bq, 0, none⟩ = some (.int .u64 0) := blkc NB rfl
    have m1 : u1.cell? ⟨bq, 1, none⟩ = some (.int .u64 0) := blkc NB rfl
    have m2 : u1.cell? ⟨bq, 2, none⟩ = some (.bool false) := blkc NB rfl
    have z0 := blkf (o := 0) NB
    have z1 := blkf (o := 1) NB
    have z2 := blkf (o := 2) NB
    have bl := blkl NB
    have TT := box3 NB ⟨yk, yv, yg⟩
    simp only at TT
    clear g FD NB NEW CE e2 e3 e4
    clear hbq
    go_wp2_with fail
    exact bodyPost_ret (v := .tuple #[.agg #[.int .u64 yk, .int .u64 yv, .bool yg], .bool true]) (by simp [results, Try.results20, go_sem, TT.1, TT.2.1, TT.2.2]) rfl ⟨rfl, ((GG.out.setCell (Nat.le_of_eq BQ.out) _).setCell (Nat.le_of_eq BQ.out) _).setCell (Nat.le_of_eq BQ.out) _⟩
end Go.Proofs.Ytkofbjdgidaieaa
