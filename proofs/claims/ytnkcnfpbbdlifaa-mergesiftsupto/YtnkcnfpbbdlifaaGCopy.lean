/- Layer 13's statements' own: copied, asWere. -/
import Derived.Test.YtnkcnfpbbdlifaaGLaw
namespace Go.Proofs.Ytnkcnfpbbdlifaa
open Go.RowKit
set_option linter.unusedVariables false

def e77 : Ent := ⟨77, 77, false⟩
theorem flat_len : ∀ l : List Ent, (l.flatMap ent3).length = l.length * 3 := by
  intro l
  induction l with
  | nil => rfl
  | cons s l ih => rw [List.flatMap_cons, List.length_append, ih, List.length_cons]; show 3 + l.length * 3 = _; omega
theorem flat_ones (l : List Ent) : ∀ u ∈ l.flatMap ent3, u.oneCell' = true := by
  intro u hu
  obtain ⟨e, _, h⟩ := List.mem_flatMap.1 hu
  exact ent3_one e u h
theorem el_news {w : World} {ao : Option Addr} {l : List Ent} (h : EL w ao l) : ∀ ad, ao = some ad → ∀ j u, (l.flatMap ent3)[j]? = some u → w.cell? (ad.add j) = some u := by
  intro ad e j u hu
  have hj : j < l.length * 3 := by
    have := (List.getElem?_eq_some_iff.1 hu).1
    rwa [flat_len] at this
  obtain ⟨b, off, e', _, hc⟩ := h.cells (by omega)
  rw [e] at e'
  cases e'
  rw [Addr.add_lit]
  have hi : j / 3 < l.length := by omega
  obtain ⟨c0, c1, c2⟩ := hc (j / 3) hi
  have fe := flat_e l (j / 3) hi (j % 3) (by omega)
  rw [show j / 3 * 3 + j % 3 = j by omega, hu] at fe
  have hr : j % 3 = 0 ∨ j % 3 = 1 ∨ j % 3 = 2 := by omega
  rcases hr with r | r | r
  · rw [r] at fe
    rw [show off + j = off + j / 3 * 3 by omega]
    exact c0.trans fe.symm
  · rw [r] at fe
    rw [show off + j = off + j / 3 * 3 + 1 by omega]
    exact c1.trans fe.symm
  · rw [r] at fe
    rw [show off + j = off + j / 3 * 3 + 2 by omega]
    exact c2.trans fe.symm
theorem getD_app {l : List Ent} {e : Ent} {i : Nat} (hi : i < l.length) : (l ++ [e]).getD i ent0 = l.getD i ent0 := by
  rw [List.getD_eq_getElem?_getD, List.getElem?_append_left hi, ← List.getD_eq_getElem?_getD]
theorem EL.front {w : World} {ao : Option Addr} {l : List Ent} {e : Ent} (h : EL w ao (l ++ [e])) : EL w ao l := by
  have hl : (l ++ [e]).length = l.length + 1 := by simp
  refine ⟨fun h0 => ?_, fun i hi => ?_⟩
  · obtain ⟨b, off, q, hb, hc⟩ := h.cells (by omega)
    refine ⟨b, off, q, hb, fun i hi => ?_⟩
    have := hc i (by omega)
    rw [getD_app hi] at this
    exact this
  · have := h.bd i (by omega)
    rw [getD_app hi] at this
    exact this
theorem EL.keep {w w' : World} {rb : Nat} {l : List Ent} (h : EL w (some ⟨rb, 0, none⟩) l) (hb : rb < w'.heap.size) (k : w'.heap[rb]? = w.heap[rb]?) : EL w' (some ⟨rb, 0, none⟩) l :=
  ⟨fun h0 => by
    obtain ⟨b, off, e, _, hc⟩ := h.cells h0
    cases e
    refine ⟨rb, 0, rfl, hb, fun i hi => ?_⟩
    have := hc i hi
    simp only [World.cell?] at this ⊢
    rw [k]
    exact this, h.bd⟩
/-- Rows with a mark behind each, of a call's own. -/
structure CI (w : World) (ob : Nat) (vals : List Value) (L : List (List Ent)) : Prop where
  len : vals.length = L.length
  row : ∀ i, i < L.length → ∃ rb rc, vals[i]? = some (.slice (some ⟨rb, 0, none⟩) (L.getD i []).length rc) ∧ (L.getD i []).length + 1 ≤ rc ∧ rb ≠ ob ∧ rb < w.heap.size ∧ EL w (some ⟨rb, 0, none⟩) (L.getD i [] ++ [e77])
theorem CI.gw {w w' : World} {ob : Nat} {vals : List Value} {L : List (List Ent)} (h : CI w ob vals L) (g : Gw w w') : CI w' ob vals L :=
  ⟨h.len, fun i hi => by
    obtain ⟨rb, rc, h1, h0, h2, h3, h4⟩ := h.row i hi
    exact ⟨rb, rc, h1, h0, h2, Nat.lt_of_lt_of_le h3 g.size, h4.gw g⟩⟩
theorem CI.more {w w8 : World} {o : Obj} {ob ob' : Nat} {vals : List Value} {L : List (List Ent)} {l : List Ent} {rb rc : Nat} (h : CI w ob vals L) (r2 : (w.alloc o).grownBy w8 (some ob)) (o8 : ob' = ob ∨ w.heap.size ≤ ob') (rn : rb ≠ ob) (rl : rb < w.heap.size) (hc : l.length + 1 ≤ rc) (ks : EL w (some ⟨rb, 0, none⟩) (l ++ [e77])) : CI w8 ob' (vals ++ [.slice (some ⟨rb, 0, none⟩) l.length rc]) (L ++ [l]) := by
  have kp : ∀ q, q < w.heap.size → q ≠ ob → w8.heap[q]? = w.heap[q]? := fun q hq hn => (r2.block q (by simp; omega) (fun e => hn (by cases e; rfl))).trans (heap_alloc_old w _ hq)
  have lt8 : ∀ q, q < w.heap.size → q ≠ ob → q < w8.heap.size := fun q hq hn => by
    have e := kp q hq hn
    rw [Array.getElem?_eq_getElem hq] at e
    exact (Array.getElem?_eq_some_iff.1 e).1
  refine ⟨by rw [List.length_append, List.length_append, h.len]; rfl, fun i hi => ?_⟩
  by_cases e : i < L.length
  · obtain ⟨b, c, h1, h0, h2, h3, h4⟩ := h.row i e
    have eg : (L ++ [l]).getD i [] = L.getD i [] := by
      rw [List.getD_eq_getElem?_getD, List.getElem?_append_left e, ← List.getD_eq_getElem?_getD]
    rw [eg]
    refine ⟨b, c, by rw [List.getElem?_append_left (by rw [h.len]; exact e)]; exact h1, h0, ?_, lt8 b h3 h2, h4.keep (lt8 b h3 h2) (kp b h3 h2)⟩
    rcases o8 with q | q
    · rw [q]; exact h2
    · omega
  · have ei : i = L.length := by
      rw [List.length_append] at hi
      simp at hi
      omega
    subst ei
    have eg : (L ++ [l]).getD L.length [] = l := by simp [List.getD]
    rw [eg]
    refine ⟨rb, rc, by rw [← h.len]; simp, hc, ?_, lt8 rb rl rn, ks.keep (lt8 rb rl rn) (kp rb rl rn)⟩
    rcases o8 with q | q
    · rw [q]; exact rn
    · omega
/-- Lists with a mark behind each. -/
structure EX (w : World) (ao : Option Addr) (L : List (List Ent)) : Prop where
  cells : 0 < L.length → ∃ b off, ao = some ⟨b, off, none⟩ ∧ b < w.heap.size ∧ ∀ i, i < L.length → ∃ bo c, w.cell? ⟨b, off + i, none⟩ = some (.slice bo (L.getD i []).length c) ∧ (L.getD i []).length + 1 ≤ c ∧ EL w bo (L.getD i [] ++ [e77])
theorem EX.gw {w w' : World} {ao : Option Addr} {L : List (List Ent)} (h : EX w ao L) (g : Gw w w') : EX w' ao L :=
  ⟨fun h0 => by
    obtain ⟨b, off, e, hb, hc⟩ := h.cells h0
    refine ⟨b, off, e, Nat.lt_of_lt_of_le hb g.size, fun i hi => ?_⟩
    obtain ⟨bo, c, h1, h2, h3⟩ := hc i hi
    exact ⟨bo, c, (g.cell _ _ hb).trans h1, h2, h3.gw g⟩⟩
theorem EX.ev {w : World} {ao : Option Addr} {L : List (List Ent)} (h : EX w ao L) : EV w ao L :=
  ⟨fun h0 => by
    obtain ⟨b, off, e, hb, hc⟩ := h.cells h0
    refine ⟨b, off, e, hb, fun i hi => ?_⟩
    obtain ⟨bo, c, h1, h2, h3⟩ := hc i hi
    refine ⟨bo, c, h1, by omega, h3.front, fun q => ?_⟩
    obtain ⟨_, _, q', _⟩ := h3.cells (by simp)
    rw [q] at q'
    cases q'⟩
theorem CI.ex {w : World} {base ob n oc : Nat} {vals : List Value} {L : List (List Ent)} (h : CI w ob vals L) (o : w.ownsRow base 25 1 (.slice (some ⟨ob, 0, none⟩) n oc) n vals) (hn : L.length = n) : EX w (some ⟨ob, 0, none⟩) L :=
  ⟨fun h0 => ⟨ob, 0, rfl, (o.lt ob rfl).2, fun i hi => by
    obtain ⟨rb, rc, h1, h0, _, _, h4⟩ := h.row i hi
    refine ⟨some ⟨rb, 0, none⟩, rc, ?_, h0, h4⟩
    rw [Nat.zero_add, World.ownsRow.cellAt o i (by omega)]
    exact h1⟩⟩
theorem info_es13 : (Try.prog.info? 25).map (fun i => (i.zero, i.size, i.bytes)) = some (some (.slice none 0 0), 1, 24) := by kernel_rfl
theorem orow13' {w w' : World} {base e size n : Nat} {v : Value} {xs : List Value} (h : w.ownsRow base e size v n xs) (g : Gw w w') : w'.ownsRow base e size v n xs := by
  refine ⟨h.1, ?_⟩
  rcases h.2 with q | ⟨b, cap, cur, rfl, hb, hh, r⟩
  · exact .inl q
  · exact .inr ⟨b, cap, cur, rfl, hb, (g.below.block b (Array.getElem?_eq_some_iff.1 hh).1).trans hh, r⟩
theorem new_v13' (w : World) (x : Value) (t : TypeId) : ∀ j u, [x][j]? = some u → (w.alloc (.cells #[x] t)).cell? ((⟨w.heap.size, 0, none⟩ : Addr).add j) = some u := by
  intro j u hu
  cases j with
  | zero =>
    simp only [List.getElem?_cons_zero, Option.some.injEq] at hu
    subst hu
    simp [Addr.add, go_sem]
  | succ j => simp at hu
set_option maxRecDepth 10000 in
set_option maxHeartbeats 8000000 in
theorem copied13 (ao : Option Addr) (c : Nat) (L : List (List Ent)) (hl : L.length ≤ 2000000) (hs : ∀ i, i < L.length → (L.getD i []).length ≤ 2000000) (w : World) (h : EV w ao L) :
    Calls Try.prog 10 #[.slice ao L.length c] w fun e w' => (∃ ob oc, e = .returned (.slice (some ⟨ob, 0, none⟩) L.length oc) ∧ EX w' (some ⟨ob, 0, none⟩) L ∧ L.length ≤ oc) ∧ Gw w w' := by
  have HE : Aside (EV w ao L) := h
  have HS : Aside (∀ i, i < L.length → (L.getD i []).length ≤ 2000000) := hs
  obtain ⟨ln, hln⟩ : ∃ ln, L.length = ln := ⟨_, rfl⟩
  have LN : Aside (L.length = ln) := hln
  rw [hln] at hl HS ⊢
  clear h hs hln
  obtain ⟨jj, hjj, jz, js, jby⟩ := info_parts info_es13
  obtain ⟨ii, hii, hz, hs', hby⟩ := info_parts info_e
  have R1 : Aside ((w.alloc (.cells #[] 25)).ownsRow w.heap.size 25 1 (.slice (some ⟨w.heap.size, 0, none⟩) 0 0) 0 []) := World.ownsRow_made w #[] 0 (Nat.le_refl _) (Nat.zero_le _) rfl
  have K1 : Aside (CI (w.alloc (.cells #[] 25)) w.heap.size [] (L.take 0)) := ⟨by simp, fun i hi => by simp at hi⟩
  have G1 : Aside (Gw w (w.alloc (.cells #[] 25))) := (Gw.refl w).alloc _ _
  go_enter Try.func10, Try.ntmps10
  go_wp2_with fail
  generalize w.alloc (.cells #[] 25) = w1 at R1 K1 G1 ⊢
  go_loopg [3, 4] ln (fun gg s3 s4 wr => ∃ (i ob oc : Nat) (vals : List Value), s3 = .slice (some ⟨ob, 0, none⟩) i oc ∧ s4 = .int .i64 (i : Int) ∧ i ≤ ln ∧ ln - i ≤ gg ∧ Aside (wr.ownsRow w.heap.size 25 1 (.slice (some ⟨ob, 0, none⟩) i oc) i vals) ∧ Aside (CI wr ob vals (L.take i)) ∧ Aside (Gw w wr))
  case atStart => exact ⟨0, w.heap.size, 0, [], rfl, rfl, Nat.zero_le _, by omega, R1, K1, G1⟩
  case round =>
    clear R1 K1 G1
    obtain ⟨i, ob, oc, vals, rfl, rfl, a1, a2, R, KK, G⟩ := hrel
    by_cases ilt : i < ln
    · have ilt' : (i : Int) < (ln : Int) := by omega
      have TK : Aside (L.take (i + 1) = L.take i ++ [L.getD i []]) := by
        show _ = _
        have hi : i < L.length := by rw [LN.out]; exact ilt
        rw [List.take_add_one, List.getElem?_eq_getElem hi, List.getD_eq_getElem?_getD, List.getElem?_eq_getElem hi]
        rfl
      have lb1 := HS.out i ilt
      obtain ⟨lb, loff, hao, hlb0, hlc⟩ := HE.out.cells (by rw [LN.out]; omega)
      subst hao
      obtain ⟨eo, ec, p1, p2, p3, p4⟩ := hlc i (by rw [LN.out]; exact ilt)
      have NIL : Aside (eo = none → (L.getD i []).length = 0 ∧ ec = 0) := p4
      obtain ⟨l, hl'⟩ : ∃ l, L.getD i [] = l := ⟨_, rfl⟩
      rw [hl'] at TK lb1 p1 p2 p3 NIL
      obtain ⟨n, hn⟩ : ∃ n, l.length = n := ⟨_, rfl⟩
      have LL : Aside (l.length = n) := hn
      rw [hn] at lb1 p1 p2 NIL
      have EW : Aside (∀ W, Gw w W → W.cell? ⟨lb, loff + i, none⟩ = some (.slice eo n ec) ∧ lb < W.heap.size ∧ EL W eo l) := fun W gg => ⟨(gg.cell _ _ hlb0).trans p1, Nat.lt_of_lt_of_le hlb0 gg.size, p3.gw gg⟩
      clear hl' hn hlc p1 p2 p3 p4
      obtain ⟨wS, hwS⟩ : ∃ wx, wx = wr := ⟨_, rfl⟩
      subst hwS
      have O4 : Aside ((wS.alloc (.cells #[] 32)).ownsRow wS.heap.size 32 3 (.slice (some ⟨wS.heap.size, 0, none⟩) 0 0) 0 []) := World.ownsRow_made wS #[] 0 (Nat.le_refl _) (Nat.zero_le _) rfl
      have G4 : Aside (Gw w (wS.alloc (.cells #[] 32))) := G.out.alloc _ _
      have NS : Aside (∀ y, eo = some y → ∀ j u, (l.flatMap ent3)[j]? = some u → (wS.alloc (.cells #[] 32)).cell? (y.add j) = some u) := el_news (EW.out _ G4.out).2.2
      obtain ⟨q1, q2, _⟩ := EW.out _ G4.out
      have FL : Aside ((l.flatMap ent3).length = n * 3) := by show _ = _; rw [flat_len, LL.out]
      go_wp2_with (at_builtin; refine wpList_append_src _ rfl _ _ 25 rfl wS.heap.size 32 ii (.agg #[.int .u64 0, .int .u64 0, .bool false]) 3 24 Try.underlying25 hii hz hs' hby rfl (by decide) _ 0 [] rfl O4.out eo n ec (l.flatMap ent3) rfl NIL.out FL.out NS.out (flat_ones l) (by simp only [maxLen]; omega) (by omega) (by simp) ?_)
      intro v5 w5 r1 r2 r3
      obtain ⟨b5, c5, rfl, hb5, _, _⟩ := own_slice r1 r3
      have G5 : Aside (Gw w w5) := G4.out.grown r2 (fun q hq => by have e' : wS.heap.size = q := (by simpa [Value.ownBlock] using hq); have := G.out.size; omega)
      have GS5 : Aside (Gw wS w5) := ((Gw.refl wS).alloc _ _).grown r2 (fun q hq => by have e' : wS.heap.size = q := (by simpa [Value.ownBlock] using hq); omega)
      have O5 : Aside (w5.ownsRow wS.heap.size 32 3 (.slice (some ⟨b5, 0, none⟩) n c5) n (l.flatMap ent3)) := r1
      have z5 := GS5.out.size
      clear r1 r2 r3 O4 NS q1 q2 hb5
      go_wp2_with (at_builtin; refine wpList_append_own _ rfl _ _ 25 rfl wS.heap.size 32 ii (.agg #[.int .u64 0, .int .u64 0, .bool false]) 3 24 Try.underlying25 hii hz hs' hby rfl (by decide) _ n _ rfl (O5.out.alloc _) ⟨w5.heap.size, 0, none⟩ 1 1 (ent3 e77) rfl rfl (new_ent w5 e77) (ent3_one _) (by simp only [maxLen]; omega) (by omega) (by simp; omega) ?_)
      intro v6 w6 r1 r2 r3
      obtain ⟨b6, c6, rfl, hb6, hc6, _⟩ := own_slice r1 (by simpa using r3)
      have G6 : Aside (Gw w w6) := (G5.out.alloc _ _).grown r2 (fun q hq => by have := (World.ownsRow.lt O5.out q hq).1; have := G.out.size; omega)
      have GS6 : Aside (Gw wS w6) := (GS5.out.alloc _ _).grown r2 (fun q hq => (World.ownsRow.lt O5.out q hq).1)
      have EO6 : Aside (EO w6 wS.heap.size (.slice (some ⟨b6, 0, none⟩) (l ++ [e77]).length c6) (l ++ [e77])) := by
        have := eo_more (l := l) (e := e77) (v := .slice (some ⟨b6, 0, none⟩) (n + 1) c6) (by rw [LL.out]; exact r1)
        rw [show (l ++ [e77]).length = n + 1 by rw [List.length_append, LL.out]; rfl]
        exact this
      have b6l : b6 < w6.heap.size := (World.ownsRow.lt r1 b6 rfl).2
      have nc6 : n + 1 ≤ c6 := hc6
      clear r1 r2 r3 O5
      obtain ⟨q1, q2, q3⟩ := EW.out _ G6.out
      have L6 : Aside (EL w6 (some ⟨b6, 0, none⟩) (l ++ [e77])) := eo_el EO6.out (fun e he => by
        rcases List.mem_append.1 he with q | q
        · exact q3.all e q
        · rw [List.mem_singleton.1 q]; exact ⟨by decide, by decide⟩)
      have obl := (R.out.lt ob rfl).2
      have rbo : b6 ≠ ob := by omega
      have R6 : Aside (w6.ownsRow w.heap.size 25 1 (.slice (some ⟨ob, 0, none⟩) i oc) i vals) := orow13' R.out GS6.out
      have K6 : Aside (CI w6 ob vals (L.take i)) := KK.out.gw GS6.out
      have wz := G6.out.size
      have nc6' : (n : Int) ≤ (c6 : Int) := by omega
      clear R KK EO6 q3 GS5 G5 GS6
      go_wp2_with (at_builtin; refine wpList_append_own_at _ rfl _ _ 22 rfl w.heap.size 25 jj (.slice none 0 0) 1 24 Try.underlying22 hjj jz js jby rfl (by decide) _ i _ rfl (R6.out.alloc _) ⟨w6.heap.size, 0, none⟩ 1 1 [(.slice (some ⟨b6, 0, none⟩) n c6)] rfl rfl (new_v13' w6 (.slice (some ⟨b6, 0, none⟩) n c6) 25) (fun u hu => by simp at hu; subst hu; rfl) (by simp only [maxLen]; omega) (by omega) (by simp; omega) ?_)
      intro v' w8 r1 r2 r3 r4
      obtain ⟨b8, cap8, rfl, hb8, _, _⟩ := own_slice r1 (by simpa using r3)
      have ob8 : b8 = ob ∨ w6.heap.size ≤ b8 := by
        rcases r4 with q | q
        · have q' : b8 = ob := by simpa [Value.ownBlock] using q
          exact .inl q'
        · have q' : b8 = w6.heap.size + 1 := by simpa [Value.ownBlock] using q
          exact .inr (by omega)
      have r2' : (w6.alloc (.cells #[(.slice (some ⟨b6, 0, none⟩) n c6)] 25)).grownBy w8 (some ob) := r2
      have K8 : Aside (CI w8 b8 (vals ++ [(.slice (some ⟨b6, 0, none⟩) n c6)]) (L.take (i + 1))) := by
        rw [TK.out]
        have := K6.out.more (rc := c6) r2' ob8 rbo b6l (by rw [LL.out]; exact nc6) L6.out
        rw [LL.out] at this
        exact this
      have G8 : Aside (Gw w w8) := (G6.out.alloc _ _).grown r2 (fun q hq => (World.ownsRow.lt R6.out q hq).1)
      have R8 : Aside (w8.ownsRow w.heap.size 25 1 (.slice (some ⟨b8, 0, none⟩) (i + 1) cap8) (i + 1) (vals ++ [(.slice (some ⟨b6, 0, none⟩) n c6)])) := r1
      clear r1 r2 r3 r4 r2' hb8 R6 K6 G6 L6
      go_wp2_with fail
      go_roundg (ln - (i + 1))
      case measure => omega
      case rel => exact ⟨i + 1, b8, cap8, _, rfl, by go_num, by omega, Nat.le_refl _, R8, K8, G8⟩
    · have ei : i = ln := by omega
      subst ei
      have X1 : Aside (EX wr (some ⟨ob, 0, none⟩) L) := by
        have t : L.take i = L := List.take_of_length_le (by rw [LN.out]; exact Nat.le_refl _)
        have := KK.out
        rw [t] at this
        exact this.ex R.out LN.out
      have ioc : i ≤ oc := (own_slice R.out (by simp)).elim fun _ ⟨_, ev, _, h, _⟩ => by cases ev; exact h
      clear R KK
      go_wp2_with fail
      refine bodyPost_ret (v := .slice (some ⟨ob, 0, none⟩) i oc) (by simp [results, Try.results10, go_sem]) rfl ⟨⟨ob, oc, rfl, X1.out, ioc⟩, G.out⟩
set_option maxRecDepth 10000 in
set_option maxHeartbeats 8000000 in
theorem asWere13 (oo : Option Addr) (oc : Nat) (ao : Option Addr) (c : Nat) (L : List (List Ent)) (hl : L.length ≤ 2000000) (hs : ∀ i, i < L.length → (L.getD i []).length ≤ 2000000) (w : World) (ho : EX w oo L) (h : EV w ao L) :
    Calls Try.prog 14 #[.slice oo L.length oc, .slice ao L.length c] w fun e w' => e = .returned (.bool true) ∧ Gw w w' := by
  have HE : Aside (EV w ao L) := h
  have HO : Aside (EX w oo L) := ho
  have HS : Aside (∀ i, i < L.length → (L.getD i []).length ≤ 2000000) := hs
  obtain ⟨ln, hln⟩ : ∃ ln, L.length = ln := ⟨_, rfl⟩
  have LN : Aside (L.length = ln) := hln
  rw [hln] at hl HS ⊢
  clear h hs hln ho
  go_enter Try.func14, Try.ntmps14
  go_wp2_with fail
  go_loopg [5] ln (fun gg s wr => ∃ i : Nat, s = .int .i64 (i : Int) ∧ i ≤ ln ∧ ln - i ≤ gg ∧ Aside (Gw w wr))
  case atStart => exact ⟨0, rfl, Nat.zero_le _, by omega, (show Aside _ from Gw.refl w)⟩
  case round =>
    obtain ⟨i, rfl, a1, a2, G⟩ := hrel
    obtain ⟨wS, hwS⟩ : ∃ wx, wx = wr := ⟨_, rfl⟩
    subst hwS
    by_cases ilt : i < ln
    · have ilt' : (i : Int) < (ln : Int) := by omega
      obtain ⟨lb, loff, rfl, hlb, hlc⟩ := (HE.out.gw G.out).cells (by rw [LN.out]; omega)
      obtain ⟨eo, ec, p1, p2, p3, _⟩ := hlc i (by rw [LN.out]; exact ilt)
      obtain ⟨xb, xoff, rfl, hxb, hxc⟩ := (HO.out.gw G.out).cells (by rw [LN.out]; omega)
      obtain ⟨fo, fc, q1, q2, q3⟩ := hxc i (by rw [LN.out]; exact ilt)
      have lb1 := HS.out i ilt
      have SM : Hid (∀ W, Gw wS W → Calls Try.prog 13 #[.slice fo (L.getD i []).length fc, .slice eo (L.getD i []).length ec] W fun e w' => e = .returned (.bool true) ∧ Gw W w') := fun W gg => same13 fo eo fc ec (L.getD i []) (by omega) W (q3.gw gg).front (p3.gw gg)
      obtain ⟨fb, foff, rfl, hfb, hfc⟩ := q3.cells (by simp)
      obtain ⟨m0, _, _⟩ := hfc (L.getD i []).length (by simp)
      have e77' : ((L.getD i [] ++ [e77]).getD (L.getD i []).length ent0).k = 77 := by simp [List.getD, e77]
      rw [e77'] at m0
      obtain ⟨n, hn⟩ : ∃ n, (L.getD i []).length = n := ⟨_, rfl⟩
      rw [hn] at p1 p2 q1 q2 lb1 SM m0
      have x0 := GX.cell p1 hlb
      have x1 := GX.cell q1 hxb
      have x2 := GX.cell m0 hfb
      have ne := GX.some wS
      have wn : IntKind.i64.wrap ((n : Int) + 1) = ((n + 1 : Nat) : Int) := by rw [IntKind.wrap_i64]; omega
      have q2' : ((n + 1 : Nat) : Int) ≤ (fc : Int) := by omega
      have q2'' : n + 1 ≤ fc := q2
      have n1 : (n : Int) < ((n + 1 : Nat) : Int) := by omega
      clear hlc hxc hfc p3 q3 e77' hn p1 q1 m0
      go_wp2_with fail
      refine wp_region_growx (by kernel_rfl) (by kernel_rfl) ?_
      repeat (go_big_quiet_step (fail))
      go_big_quiet_want
      go_big_quiet_op
      go_big_quiet_call (exact growx_of (SM.out _ (GX.gw _)))
      repeat (go_big_quiet_step (fail))
      refine wpQuiet_nil ?_
      rintro _ ⟨gw, rfl⟩
      go_wp2_with fail
      go_roundg (ln - (i + 1))
      case measure => omega
      case rel => exact ⟨i + 1, by go_num, by omega, Nat.le_refl _, (show Aside _ from G.out.trans gw.gw)⟩
    · go_wp2_with fail
      go_ret
      exact ⟨rfl, G.out⟩
end Go.Proofs.Ytnkcnfpbbdlifaa
