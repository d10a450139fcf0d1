/- The document's layer 14: New, place, Get, Full, Empty, Clone, Put. -/
import Derived.Test.YtkofbjdgidaieaaQMem
import Derived.Test.YtkofbjdgidaieaaQBuf
import Derived.Deep.LoopGhost
import Derived.Maps.AppendAt
import Derived.BigQuiet
namespace Go.Proofs.Ytkofbjdgidaieaa
open Go.RowKit
set_option linter.unusedVariables false

theorem rnew14_ok (most : Int) (h1 : 1 ≤ most) (h2 : most ≤ 4294967296) (w : World) :
    Calls Try.prog 8 #[.int .i64 most] w fun e w' => (e = .returned (.tuple #[.pointer (some ⟨w.heap.size, 0, none⟩), .int .i64 0]) ∧ HB 55 w' w.heap.size (fun q => q = w.heap.size) most []) ∧ Gw w w' := by
  have N : Aside (HB 55 (w.alloc (.cells #[.int .i64 most, .slice none 0 0] 55)) w.heap.size (fun q => q = w.heap.size) most []) := HB.new _ w most (by omega)
  have t1 : decide (most < 1) = false := by simp; omega
  have t2 : decide (4294967296 < most) = false := by simp; omega
  clear h1 h2
  go_enter Try.func8, Try.ntmps8
  go_wp2_with fail
  go_ret2
  exact ⟨⟨rfl, N.out⟩, (Gw.refl w).alloc _ _⟩
theorem rnew14_no (most : Int) (h : ¬ (1 ≤ most ∧ most ≤ 4294967296)) (w : World) :
    Calls Try.prog 8 #[.int .i64 most] w fun e w' => e = .returned (.tuple #[.pointer none, .int .i64 1]) ∧ Gw w w' := by
  by_cases c : most < 1
  · have t1 : decide (most < 1) = true := by simpa using c
    clear h c
    go_enter Try.func8, Try.ntmps8
    go_wp2_with fail
    go_ret2
    exact ⟨rfl, Gw.refl w⟩
  · have t1 : decide (most < 1) = false := by simpa using c
    have t2 : decide (4294967296 < most) = true := by simp; omega
    clear h c
    go_enter Try.func8, Try.ntmps8
    go_wp2_with fail
    go_ret2
    exact ⟨rfl, Gw.refl w⟩
theorem rfull14 (p : Nat) (S : Nat → Prop) (most : Int) (l : List Ent) (w : World) (h : HB 55 w p S most l) :
    Calls Try.prog 28 #[.pointer (some ⟨p, 0, none⟩)] w fun e w' => e = .returned (.bool ((l.length : Int) == most)) ∧ Gw w w' := by
  obtain ⟨v, h1, h2, h3, h4⟩ := h.lies
  obtain ⟨bo, c, rfl, hc, _⟩ := eo_shape h2
  have c0 := blkc (o := 0) h1 rfl
  have c1 := blkc (o := 1) h1 rfl
  generalize l.length = n at c1 ⊢
  clear h h1 h2 h3 h4 hc
  go_enter Try.func28, Try.ntmps28
  go_wp2_with fail
  try go_quiet (fail)
  try go_wp2_with fail
  go_ret
  first | exact ⟨rfl, Gw.refl w⟩ | exact ⟨rfl, (Gw.refl w).drewN _⟩
theorem rempty14 (p : Nat) (S : Nat → Prop) (most : Int) (l : List Ent) (hm : 0 ≤ most) (w : World) (h : HB 55 w p S most l) :
    Calls Try.prog 17 #[.pointer (some ⟨p, 0, none⟩)] w fun e w' => (∃ v', e = .returned v' ∧ EO w' 0 v' l ∧ (∀ q, v'.ownBlock = some q → S q ∧ q ≠ p) ∧ HB 55 w' p (fun q => q = p) most []) ∧ Gx S w w' := by
  obtain ⟨v, h1, h2, h3, h4⟩ := h.lies
  have c1 := blkc (o := 1) h1 rfl
  have f1 := blkf (o := 1) h1
  have hp := blkl h1
  have FIN : Aside ((EO (w.setCell ⟨p, 1, none⟩ (.slice none 0 0)) 0 v l ∧ (∀ q, v.ownBlock = some q → S q ∧ q ≠ p) ∧ HB 55 (w.setCell ⟨p, 1, none⟩ (.slice none 0 0)) p (fun q => q = p) most []) ∧ Gx S w (w.setCell ⟨p, 1, none⟩ (.slice none 0 0))) := by
    refine ⟨⟨eo_keep h2 fun q hq => Go.Deep.blk_setCell_other _ _ _ _ (h3 q hq), fun q hq => ⟨(h4 q).2 (.inr hq), h3 q hq⟩, ⟨⟨.slice none 0 0, ?_, World.ownsRow_nil _ _ _ _, (fun q e => by cases e), fun q => ⟨fun e => .inl e, fun e => e.elim id (fun x => by cases x)⟩⟩, List.Pairwise.nil, (fun e he => by cases he), by simpa using hm⟩⟩, (Gx.refl S w).set (.inl h.own) _ _⟩
    rw [blk_set h1]; rfl
  obtain ⟨bo, c, rfl, hc, _⟩ := eo_shape h2
  generalize l.length = n at c1 FIN
  clear h h1 h2 h3 h4 hc
  go_enter Try.func17, Try.ntmps17
  go_wp2_with fail
  go_ret
  exact ⟨⟨_, rfl, FIN.out.1⟩, FIN.out.2⟩
set_option maxHeartbeats 2000000 in
theorem rplace14 (p : Nat) (S : Nat → Prop) (most : Int) (l : List Ent) (x : Int) (hn : l.length ≤ 4000000) (w : World) (h : HB 55 w p S most l) :
    Calls Try.prog 25 #[.pointer (some ⟨p, 0, none⟩), .int .u64 x] w fun e w' => e = .returned (.int .i64 (plc Ent.k x l : Int)) ∧ w' = w := by
  obtain ⟨v, h1, h2, h3, h4⟩ := h.lies
  obtain ⟨bo, c, rfl, hc, _⟩ := eo_shape h2
  have c1 := blkc (o := 1) h1 rfl
  have HE : Aside (EL w bo l) := eo_el h2 h.ok
  obtain ⟨n, hln⟩ : ∃ n, l.length = n := ⟨_, rfl⟩
  have LN : Aside (l.length = n) := hln
  rw [hln] at hn
  have c1' : w.cell? ⟨p, 1, none⟩ = some (.slice bo n c) := by rw [← hln]; exact c1
  clear h h1 h2 h3 h4 hc c1 hln
  go_enter Try.func25, Try.ntmps25
  go_wp2_with fail
  go_loopg [5] n (fun gg s wr => ∃ i : Nat, s = .int .i64 (i : Int) ∧ i ≤ n ∧ n - i ≤ gg ∧ Aside (∀ t y, t < i → l[t]? = some y → y.k < x) ∧ wr = w)
  case atStart => exact ⟨0, rfl, Nat.zero_le _, by omega, (show Aside _ from fun j y hj => by omega), rfl⟩
  case round =>
    obtain ⟨i, rfl, a1, a2, LO, rfl⟩ := hrel
    by_cases hlt : i < n
    · have hlt' : (i : Int) < (n : Int) := by omega
      obtain ⟨lb, loff, rfl, hlb, hlc⟩ := HE.out.cells (by rw [LN.out]; omega)
      obtain ⟨kc, _, _⟩ := hlc i (by rw [LN.out]; exact hlt)
      have AT : Aside (l[i]? = some (l.getD i ent0)) := by show _ = _; simp [List.getD, show i < l.length by rw [LN.out]; exact hlt]
      clear hlc
      generalize l.getD i ent0 = y at AT kc
      obtain ⟨yk, yv, yg⟩ := y
      have kc' : wr.cell? ⟨lb, loff + i * 3, none⟩ = some (.int .u64 yk) := kc
      clear kc
      by_cases e : yk < x
      · have t1 : decide (yk < x) = true := by simpa using e
        have LO' : Aside (∀ t y, t < i + 1 → l[t]? = some y → y.k < x) := fun t y ht hy => by
          by_cases q : t = i
          · rw [q, AT.out] at hy; cases hy; exact e
          · exact LO.out t y (by omega) hy
        clear e LO
        go_wp2_with fail
        go_roundg (n - (i + 1))
        case measure => omega
        case rel => exact ⟨i + 1, by go_num, by omega, Nat.le_refl _, LO', rfl⟩
      · have t1 : decide (yk < x) = false := by simpa using e
        have PL : Aside (plc Ent.k x l = i) := plc_one (by rw [LN.out]; omega) LO.out (fun y hy => by rw [AT.out] at hy; cases hy; exact e)
        clear e LO
        go_wp2_with fail
        go_ret
        exact ⟨by rw [PL.out]; rfl, rfl⟩
    · have ei : i = n := by omega
      subst ei
      have PL : Aside (plc Ent.k x l = i) := plc_one (by rw [LN.out]; omega) LO.out (fun y hy => by have := (List.getElem?_eq_some_iff.1 hy).1; have := LN.out; omega)
      clear LO
      go_wp2_with fail
      go_ret
      exact ⟨by rw [PL.out]; rfl, rfl⟩
set_option maxHeartbeats 2000000 in
theorem rget14 (p : Nat) (S : Nat → Prop) (most : Int) (l : List Ent) (x : Int) (hn : l.length ≤ 4000000) (w : World) (h : HB 55 w p S most l) :
    Calls Try.prog 27 #[.pointer (some ⟨p, 0, none⟩), .int .u64 x] w fun e w' => e = .returned (getV14 (look Ent.k x l)) ∧ Gw w w' := by
  have FD : Hid (∀ W, Gw w W → Calls Try.prog 25 #[.pointer (some ⟨p, 0, none⟩), .int .u64 x] W fun e w' => e = .returned (.int .i64 (plc Ent.k x l : Int)) ∧ w' = W) := fun W g => rplace14 p S most l x hn W (h.gw g)
  obtain ⟨bq, hbq⟩ : ∃ b, w.heap.size = b := ⟨_, rfl⟩
  have BQ : Aside (w.heap.size = bq) := hbq
  obtain ⟨u1, hu1⟩ : ∃ u, w.alloc (.cells #[.int .u64 0, .int .u64 0, .bool false] 35) = u := ⟨_, rfl⟩
  have NB : u1.heap[bq]? = some (.cells #[.int .u64 0, .int .u64 0, .bool false] 35 (0, 0)) := by rw [← hu1, ← hbq]; exact heap_alloc_new _ _
  have GG : Aside (Gw w u1) := by rw [← hu1]; exact (Gw.refl w).alloc _ _
  have H : Aside (HB 55 u1 p S most l) := h.gw GG.out
  have m0 : u1.cell? ⟨bq, 0, none⟩ = some (.int .u64 0) := blkc NB rfl
  have m1 : u1.cell? ⟨bq, 1, none⟩ = some (.int .u64 0) := blkc NB rfl
  have m2 : u1.cell? ⟨bq, 2, none⟩ = some (.bool false) := blkc NB rfl
  have z0 := blkf (o := 0) NB
  have z1 := blkf (o := 1) NB
  have z2 := blkf (o := 2) NB
  have bl := blkl NB
  have TT := box3 NB
  obtain ⟨v, h1, h2, h3, h4⟩ := H.out.lies
  obtain ⟨bo, c, rfl, hc, _⟩ := eo_shape h2
  have c1 : u1.cell? ⟨p, 1, none⟩ = some (.slice bo l.length c) := blkc h1 rfl
  have CE : Hid (∀ y, l[plc Ent.k x l]? = some y → ∃ b, bo = some ⟨b, 0, none⟩ ∧ plc Ent.k x l < l.length ∧ u1.cell? ⟨b, plc Ent.k x l * 3, none⟩ = some (.int .u64 y.k) ∧ u1.cell? ⟨b, plc Ent.k x l * 3 + 1, none⟩ = some (.int .u64 y.v) ∧ u1.cell? ⟨b, plc Ent.k x l * 3 + 2, none⟩ = some (.bool y.g)) := fun y hy => by
    have hi := (List.getElem?_eq_some_iff.1 hy).1
    obtain ⟨b, rfl, _, _, _, hcc⟩ := eo_form h2 rfl (by omega)
    obtain ⟨a1, a2, a3⟩ := hcc _ hi
    have e : l.getD (plc Ent.k x l) ent0 = y := by simp [List.getD, hy]
    rw [e] at a1 a2 a3
    exact ⟨b, rfl, hi, a1, a2, a3⟩
  have LK := plc_look (key := Ent.k) (k := x) h.rise
  have pn := plc_le (key := Ent.k) x l
  have EN : Aside (l[plc Ent.k x l]? = none → ¬ plc Ent.k x l < l.length) := fun q z => by rw [List.getElem?_eq_getElem z] at q; cases q
  rw [LK]
  clear LK
  generalize plc Ent.k x l = pp at FD CE EN pn ⊢
  clear h h1 h2 h3 h4 hc NB H
  cases hy : l[pp]? with
  | none =>
    have np : ¬ pp < l.length := EN.out hy
    generalize l.length = n at c1 np hn pn
    have TT0 := TT ent0
    simp only [ent0] at TT0
    clear hy TT CE EN
    go_enter Try.func27, Try.ntmps27
    go_wp2_with fail
    refine (FD.out _ GG.out).mono ?_
    rintro e w2 ⟨rfl, e2⟩
    have e3 := e2.symm
    subst e3
    clear e2 FD
    go_wp2_with fail
    exact bodyPost_ret (v := .tuple #[.agg #[.int .u64 0, .int .u64 0, .bool false], .bool false]) (by simp [results, Try.results27, go_sem, TT0.1, TT0.2.1, TT0.2.2]) rfl ⟨rfl, ((GG.out.setCell (Nat.le_of_eq BQ.out) _).setCell (Nat.le_of_eq BQ.out) _).setCell (Nat.le_of_eq BQ.out) _⟩
  | some y =>
    obtain ⟨b, rfl, pl, k0, k1, k2⟩ := CE.out y hy
    obtain ⟨yk, yv, yg⟩ := y
    have k0' : u1.cell? ⟨b, pp * 3, none⟩ = some (.int .u64 yk) := k0
    have k1' : u1.cell? ⟨b, pp * 3 + 1, none⟩ = some (.int .u64 yv) := k1
    have k2' : u1.cell? ⟨b, pp * 3 + 2, none⟩ = some (.bool yg) := k2
    generalize l.length = n at c1 pl hn pn
    have t0 : (pp : Int) < (n : Int) := by omega
    clear hy CE EN k0 k1 k2
    by_cases e : yk = x
    · subst e
      show Calls _ _ _ _ fun e w' => e = .returned (getV14 (if yk = yk then some (⟨yk, yv, yg⟩ : Ent) else none)) ∧ Gw w w'
      rw [if_pos rfl]
      have TT0 := TT ⟨yk, yv, yg⟩
      simp only at TT0
      clear TT
      go_enter Try.func27, Try.ntmps27
      go_wp2_with fail
      refine (FD.out _ GG.out).mono ?_
      rintro e w2 ⟨rfl, e2⟩
      have e3 := e2.symm
      subst e3
      clear e2 FD
      go_wp2_with fail
      exact bodyPost_ret (v := .tuple #[.agg #[.int .u64 yk, .int .u64 yv, .bool yg], .bool true]) (by simp [results, Try.results27, go_sem, TT0.1, TT0.2.1, TT0.2.2]) rfl ⟨by rfl, ((GG.out.setCell (Nat.le_of_eq BQ.out) _).setCell (Nat.le_of_eq BQ.out) _).setCell (Nat.le_of_eq BQ.out) _⟩
    · have t1 : (yk == x) = false := by simpa using e
      show Calls _ _ _ _ fun e w' => e = .returned (getV14 (if yk = x then some (⟨yk, yv, yg⟩ : Ent) else none)) ∧ Gw w w'
      rw [if_neg e]
      have TT0 := TT ent0
      simp only [ent0] at TT0
      clear e TT
      go_enter Try.func27, Try.ntmps27
      go_wp2_with fail
      refine (FD.out _ GG.out).mono ?_
      rintro e w2 ⟨rfl, e2⟩
      have e3 := e2.symm
      subst e3
      clear e2 FD
      go_wp2_with fail
      exact bodyPost_ret (v := .tuple #[.agg #[.int .u64 0, .int .u64 0, .bool false], .bool false]) (by simp [results, Try.results27, go_sem, TT0.1, TT0.2.1, TT0.2.2]) rfl ⟨by rfl, ((GG.out.setCell (Nat.le_of_eq BQ.out) _).setCell (Nat.le_of_eq BQ.out) _).setCell (Nat.le_of_eq BQ.out) _⟩
end Go.Proofs.Ytkofbjdgidaieaa
