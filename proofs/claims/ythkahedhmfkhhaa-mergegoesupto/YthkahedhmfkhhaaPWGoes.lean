/- MergeGoes: the walk. -/
import Derived.Test.YthkahedhmfkhhaaPGo
import Derived.Test.YthkahedhmfkhhaaPMge
import Derived.Test.YthkahedhmfkhhaaPWd
import Derived.Test.YthkahedhmfkhhaaPSm
import Derived.Test.YthkahedhmfkhhaaPRq
import Derived.Maps.OwnIn
import Derived.Sort.CutIn
import Derived.Lib.QuietBelowIn
namespace Go.Proofs.Ythkahedhmfkhhaa
open Go.RowKit Go.Shelf
set_option linter.unusedVariables false

attribute [local go_sem] Oper.semAt_some
theorem run_store_fn13 {P : Program} {w : World} {a : Addr} {m : Mode} (f : Fn) (x y : Array Value) : (store a (.func f x y) m).run P w = stored P w a (.func f x y) m := run_store P w a _ m rfl
attribute [local go_sem] run_store_fn13

def inn13 (le m k : Nat) : Nat := if 1 ≤ le ∧ le ≤ k then m else 0
theorem slice_front13 (W : World) (ob m oc u : Nat) (h : u ≤ oc) : (Instr.slice 24 (.slice (some ⟨ob, 0, none⟩) m oc) none (some (.int .i64 (u : Int))) none).run Try.prog W = .ok (.slice (some ⟨ob, 0, none⟩) u oc) W := by
  have h' : 0 ≤ (u : Int) ∧ (u : Int) ≤ (oc : Int) := ⟨by omega, by omega⟩
  rcases Nat.eq_zero_or_pos oc with z | z
  · subst z
    have : u = 0 := by omega
    subst this
    simp [go_sem, Instr.slice]
  · have : ¬ oc = 0 := by omega
    simp [go_sem, Instr.slice, h'.2]
theorem info_fe13 : (Try.prog.info? 28).map (fun i => (i.zero, i.size, i.bytes)) = some (some .nilFunc, 1, 8) := by kernel_rfl
set_option maxRecDepth 100000 in
set_option maxHeartbeats 8000000 in
theorem goes_walk (ao : Option Addr) (c : Nat) (L0 : List (List Ent)) (hL0 : L0.length ≤ 1048576) (hS0 : sizes L0 ≤ 1048576) (leave : Int) (lo : -9223372036854775808 ≤ leave) (hi : leave < 9223372036854775808) (w : World) (h : EV w ao L0) :
    Calls Try.prog 3 #[.slice ao L0.length c, .int .i64 leave] w fun e w' => e = .returned (.bool true) ∧ Gw w w' := by
  have hr : ∀ i, i < L0.length → (L0.getD i []).length ≤ 2000000 := fun i hi => Nat.le_trans (rows_le hi) (by omega)
  obtain ⟨L, hL, lv, lok, lel⟩ := ev_lists h hr
  have OKS : Hid (∀ l ∈ L0, ∀ x ∈ l, x.ok) := h.oks
  have RE : Hid (∀ W, Gw w W → Calls Try.prog 7 #[.slice ao L0.length c] W fun e w' => (∃ ob oc o, e = .returned (.slice (some ⟨ob, 0, none⟩) o.length oc) ∧ EO w' W.heap.size (.slice (some ⟨ob, 0, none⟩) o.length oc) o ∧ Mg Ent.k L0 o) ∧ Gw W w') := fun W g => rentries13 ao c L0 (by omega) hr (by omega) W (h.gw g)
  refine (callsIn_wide (n := 3)).1 ?_
  have h1 : 1 ≤ 3 := by omega
  have hro : Fence.wide.round = none := rfl
  obtain ⟨n, hn⟩ : ∃ n, L0.length = n := ⟨_, rfl⟩
  have LN : Hid (L.length = n) := by rw [← hn, ← hL]; exact (List.length_map _).symm
  have L0H : Hid (L.map Lst.l = L0) := hL
  have LVH : Hid (LV w ao L) := lv
  have LOKH : Hid (∀ s ∈ L, LOk Ent.ok w.heap.size s) := lok
  have LELH : Hid (∀ s ∈ L, s.l ≠ [] → ElE w s) := lel
  rw [hn] at hL0 RE ⊢
  clear h hr hL lv lok lel hn
  obtain ⟨N, hN⟩ : ∃ N, w.heap.size = N := ⟨_, rfl⟩
  obtain ⟨w0, E0⟩ : ∃ w0, w.alloc (.cells #[.int .i64 leave] 3) = w0 := ⟨_, rfl⟩
  have E0H : Hid (w.alloc (.cells #[.int .i64 leave] 3) = w0) := E0
  have NH : Hid (w.heap.size = N) := hN
  have BA0 : Hid (w0.heap[N]? = some (.cells #[.int .i64 leave] 3 (0, 0))) := by show _ = _; rw [← E0, ← hN]; exact heap_alloc_new w _
  have G0 : Hid (Gw w w0) := by show Gw _ _; rw [← E0]; exact (Gw.refl w).alloc _ _
  clear E0
  refine callsIn_of_wp_marks Try.func3 rfl trivial ?_ hro
  simp only [Try.ntmps3, List.size_toArray, List.length_nil, List.nil_append, List.length_cons, Nat.reduceAdd, Nat.reduceSub, Array.replicate_succ, Array.replicate_zero, List.push_toArray, List.append_toArray, List.cons_append]
  gi_wp2
  rw [E0H.out]
  refine ⟨trivial, ?_⟩
  refine CallsIn.mono (callsIn_wide.2 (shown13 _)) ?_
  rintro e w1 ⟨rfl, g1⟩
  have G1 : Hid (Gw w w1) := G0.out.trans g1
  have BA1 : Hid (w1.heap[N]? = some (.cells #[.int .i64 leave] 3 (0, 0))) := (g1.below.block N (blkl BA0.out)).trans BA0.out
  clear g1 BA0 G0 E0H
  gi_wp2
  refine ⟨trivial, ?_⟩
  refine CallsIn.mono (callsIn_wide.2 (RE.out w1 G1.out)) ?_
  rintro e w2 ⟨⟨ob, oc, out, rfl, eo, mg⟩, g2⟩
  have EOH : Hid (EO w2 w1.heap.size (.slice (some ⟨ob, 0, none⟩) out.length oc) out) := eo
  have MGH : Hid (Mg Ent.k L0 out) := mg
  have G2 : Hid (Gw w w2) := G1.out.trans g2
  have BA2 : Hid (w2.heap[N]? = some (.cells #[.int .i64 leave] 3 (0, 0))) := (g2.below.block N (blkl BA1.out)).trans BA1.out
  have OBN : Hid (N < ob) := by have := (World.ownsRow.lt EOH.out ob rfl).1; have := blkl BA1.out; show _ < _; omega
  obtain ⟨m, hm⟩ : ∃ m, out.length = m := ⟨_, rfl⟩
  have MH : Hid (out.length = m) := hm
  have mb : m ≤ 1048576 := by have := mg.few; omega
  rw [hm]
  clear g2 eo mg hm BA1 G1 RE
  gi_wp2
  obtain ⟨bw, hbw⟩ : ∃ b, w2.heap.size = b := ⟨_, rfl⟩
  obtain ⟨w3, E3⟩ : ∃ W, w2.alloc (.cells #[.slice (some ⟨ob, 0, none⟩) m oc] 24) = W := ⟨_, rfl⟩
  have G3 : Hid (Gw w w3) := by show Gw _ _; rw [← E3]; exact G2.out.alloc _ _
  have BW3 : Hid (w3.heap[bw]? = some (.cells #[.slice (some ⟨ob, 0, none⟩) m oc] 24 (0, 0))) := by show _ = _; rw [← E3, ← hbw]; exact heap_alloc_new _ _
  have EO3 : Hid (EO w3 0 (.slice (some ⟨ob, 0, none⟩) m oc) out) := by rw [← E3, ← MH.out]; exact eo_base (eo_gw EOH.out ((Gw.refl w2).alloc _ _)) (Nat.zero_le _)
  have BA3 : Hid (w3.heap[N]? = some (.cells #[.int .i64 leave] 3 (0, 0))) := by show _ = _; rw [← E3]; exact (Below.heap_alloc _ _ _ (blkl BA2.out)).trans BA2.out
  have OBB : Hid (ob < bw ∧ N < bw) := by have a := (World.ownsRow.lt EOH.out ob rfl).2; have b := blkl BA2.out; rw [hbw] at a b; exact ⟨a, b⟩
  obtain ⟨w4, E4⟩ : ∃ W, w3.alloc (.cells #[] 28) = W := ⟨_, rfl⟩
  have I4 : Hid (GoI w3.heap.size L 0 w3.heap.size 0 [] w4) := by
    refine ⟨by rw [← E4]; exact World.ownsRow_made w3 #[] 0 (Nat.le_refl _) (Nat.zero_le _) rfl, Fle.none w4, ?_, fun i hi => by omega⟩
    rintro q ⟨i, hi, _⟩
    simp at hi
  have G4 : Hid (Gw w3 w4) := by show Gw _ _; rw [← E4]; exact (Gw.refl w3).alloc _ _
  have z3 : w3.heap.size = bw + 1 := by rw [← E3, ← hbw]; simp
  have KEEP : Hid (∀ W, Gw w3 W → ∀ i, i < n → ∃ (lb lo : Nat) (bo : Option Addr) (sc : Nat) (h : i < L.length), ao = some ⟨lb, lo, none⟩ ∧ W.cell? ⟨lb, lo + i, none⟩ = some (.slice bo L[i].l.length sc) ∧ (L[i].l ≠ [] → bo = some ⟨L[i].b, L[i].off, none⟩ ∧ L[i].b < w3.heap.size ∧ ElE W L[i])) := fun W g => by
    intro i hi
    have il : i < L.length := by rw [LN.out]; exact hi
    obtain ⟨lb, lo, e, hb, hc⟩ := (LVH.out.gw (G3.out.trans g)).cells (by omega)
    obtain ⟨bo, sc, q1, q2⟩ := hc i il
    refine ⟨lb, lo, bo, sc, il, e, q1, fun ne => ?_⟩
    have s1 := (LOKH.out L[i] (List.getElem_mem il) ne).1
    refine ⟨(q2 (List.length_pos_iff.2 ne)).1, Nat.lt_of_lt_of_le s1 G3.out.size, (LELH.out L[i] (List.getElem_mem il) ne).keep ((G3.out.trans g).below.block _ s1)⟩
  have Z3 : Hid (w3.heap.size = bw + 1) := z3
  rw [hbw, E3, ← z3, E4]
  clear E3 E4 EOH BA2 G2 hbw z3
  gi_loopg [7, 8] n (fun gg s7 s8 wr => ∃ (i fb fc : Nat) (B : List Bxe), s7 = .slice (some ⟨fb, 0, none⟩) i fc ∧ s8 = .int .i64 (i : Int) ∧ i ≤ n ∧ n - i ≤ gg ∧ Hid (GoI w3.heap.size L i fb fc B wr) ∧ Hid (Gw w3 wr))
  case atStart => exact ⟨0, _, _, [], rfl, rfl, Nat.zero_le _, by omega, I4, G4⟩
  case round =>
    clear I4 G4
    obtain ⟨i, fb, fc, B, rfl, rfl, hin, hgg, WR, G⟩ := hrel
    obtain ⟨wS, hwS⟩ : ∃ wx, wx = wr := ⟨_, rfl⟩
    subst hwS
    by_cases ilt : i < n
    · have ilt' : (i : Int) < (n : Int) := by omega
      obtain ⟨lb, l0, bo, bc, il, eao, p1, p3⟩ := KEEP.out wS G.out i ilt
      subst eao
      have P3 : Hid (L[i].l ≠ [] → bo = some ⟨L[i].b, L[i].off, none⟩ ∧ L[i].b < w3.heap.size ∧ ElE wS L[i]) := p3
      obtain ⟨m1, hm⟩ : ∃ m, L[i].l.length = m := ⟨_, rfl⟩
      have MH1 : Hid (L[i].l.length = m1) := hm
      rw [hm] at p1
      have TM : Hid _ := mlisted_e bo m1 bc wS
      clear p3 hm
      gi_wp2
      refine ⟨trivial, ?_⟩
      refine CallsIn.mono (callsIn_wide.2 TM.out) ?_
      rintro e w5 ⟨rfl, e5⟩
      have E5 : Hid (wS.alloc (.cells #[.slice bo m1 bc] 24) = w5) := e5.symm
      have z5 : w5.heap.size = wS.heap.size + 1 := by rw [e5]; simp
      clear e5 TM
      obtain ⟨w6, E6⟩ : ∃ w6, w5.alloc (.cells #[.func (.func 23) #[] #[.pointer (some ⟨wS.heap.size, 0, none⟩)]] 28) = w6 := ⟨_, rfl⟩
      have g6 : Gw wS w6 := by rw [← E6, ← E5.out]; exact ((Gw.refl wS).alloc _ _).alloc _ _
      have z6 : w6.heap.size = wS.heap.size + 1 + 1 := by rw [← E6]; simp [z5]
      obtain ⟨ii, hii, hz', hsz', hby'⟩ := info_parts info_fe13
      have gz := G.out.size
      have RF6 : Hid _ := orow13 WR.out.rf g6
      have NW : Hid (∀ j u, [Value.func (.func 23) #[] #[.pointer (some ⟨wS.heap.size, 0, none⟩)]][j]? = some u → w6.cell? ((⟨wS.heap.size + 1, 0, none⟩ : Addr).add j) = some u) := by show ∀ j u, _; rw [← E6, ← z5]; exact new_v13 w5 _ _
      gi_wp2_with (gi_at_builtin; refine wpListIn_append_own_at _ rfl _ _ 26 rfl w3.heap.size 28 ii .nilFunc 1 8 Try.underlying26 hii hz' hsz' hby' rfl (by decide) (.slice (some ⟨fb, 0, none⟩) i fc) i (fnFe B) rfl RF6.out ⟨wS.heap.size + 1, 0, none⟩ 1 1 [.func (.func 23) #[] #[.pointer (some ⟨wS.heap.size, 0, none⟩)]] rfl rfl NW.out (fun u hu => by simp at hu; subst hu; rfl) (by simp only [maxLen]; omega) (by omega) (by omega) ?_)
      intro v7 w7 q1 q2 q3 q4
      obtain ⟨b8, cap8, ev, hb8, _, _⟩ := own_slice q1 (by simpa using q3)
      subst ev
      have B6 : w6.heap[wS.heap.size]? = some (.cells #[.slice bo m1 bc] 24 (0, 0)) := by
        rw [← E6, ← E5.out]; exact (Below.heap_alloc _ _ _ (by simp)).trans (heap_alloc_new wS _)
      have W7 : Hid (GoI w3.heap.size L (i + 1) b8 cap8 (B ++ [⟨wS.heap.size, bo, bc⟩]) w7) := WR.out.fn il (by omega) g6 (by rw [MH1.out]; exact B6) P3.out gz q1 q2 (by
        rcases q4 with q | q
        · exact .inl (by simpa [Value.ownBlock] using q)
        · exact .inr (by rw [z6]; simpa [Value.ownBlock] using q))
      have G7 : Hid (Gw w3 w7) := (G.out.trans g6).grown q2 (fun k hk => (World.ownsRow.lt WR.out.rf k hk).1)
      clear hii hz' hsz' hby' q1 q2 q3 q4 NW RF6 E6 g6 z6 z5 B6 E5 P3 p1 WR G gz
      gi_wp2
      gi_roundg (n - (i + 1))
      case measure => omega
      case rel => exact ⟨i + 1, b8, cap8, _, rfl, by go_num, by omega, Nat.le_refl _, W7, G7⟩
    · have ei : n = i := by omega
      subst ei
      have TLn : L.take n = L := List.take_of_length_le (by rw [LN.out]; exact Nat.le_refl _)
      have BB : Hid (∀ i, i < n → w3.heap.size ≤ (B.getD i bx0e).b) := WR.out.hb
      have FLH : Hid (Fle L B wS) := by have := WR.out.fl; rw [TLn] at this; exact this
      have BLn : B.length = n := by rw [FLH.out.len]; exact LN.out
      obtain ⟨fo, fcap, fev, FRW⟩ := frow_e BLn WR.out.rf
      cases fev
      have MG : Hid _ := merge_e (w := wS) (K := 10) (cp := fc) FRW (by omega)
      clear TLn BLn FRW WR KEEP
      gi_wp2
      refine ⟨trivial, ?_⟩
      refine CallsIn.mono (callsIn_wide.2 MG.out) ?_
      rintro e w7 ⟨⟨bk, bl, bo, c7, rfl, mr, hbk, hbl, hbo⟩, g7⟩
      have MR : Hid (MrAe 10 bk bl bo n c7 (fvFe B) (fun _ => False) w7) := mr _ (fun q e => e.elim)
      have G7 : Hid (Gw wS w7) := g7
      have F7 : Hid (Fle L B w7) := FLH.out.gw G7.out
      have RL : Hid (∀ q, rdMe (rdFe L B) bk bl bo n q ∨ False → q < w7.heap.size ∧ q ≠ N) := fun q hq => by
        have nN := NH.out
        have zS := G.out.size
        have z3 := Z3.out
        have o2 := OBB.out
        rcases hq with (e | e | e | ⟨e0, a, e1, e2⟩) | e
        · refine ⟨F7.out.lt q e, ?_⟩
          obtain ⟨i, hi, e | ⟨ne, e⟩⟩ := e
          · have := BB.out i (by rw [← LN.out]; exact hi)
            omega
          · have := (LOKH.out L[i] (List.getElem_mem hi) ne).1
            omega
        · rw [e]; exact ⟨blkl MR.out.k, by omega⟩
        · rw [e]; exact ⟨blkl MR.out.l, by omega⟩
        · obtain ⟨b, off, e3, h1, _⟩ := MR.out.r.cells e0
          have := hbo a e1
          rw [e3] at e1; cases e1; rw [← e2]; exact ⟨h1, by dsimp only at this ⊢; omega⟩
        · exact e.elim
      have PCK : ∃ (R : Nat → Prop) (A : World → Prop), SeqO Fence.wide 2 Try.prog 25 #[.pointer (some ⟨bk, 0, none⟩), .pointer (some ⟨bl, 0, none⟩)] (fun x : Ent => #[encE x]) out R (fun _ => False) A A ∧ (∀ q, R q ∨ False → q < w7.heap.size ∧ q ≠ N) ∧ (∀ W W', A W → W.heap.size ≤ W'.heap.size → (∀ q, R q → W'.heap[q]? = W.heap[q]?) → A W') ∧ A w7 := by
        refine ⟨_, _, merge1_e 10 Ent.k key_e13 bk bl bo n c7 L0 (fvFe B) (rdFe L B) (fun _ => False) (fun _ => Fle L B) (by
          have := fam_le L B (fun s hs => by
            have a : s.l ∈ L0 := by rw [← L0H.out]; exact List.mem_map.2 ⟨s, hs, rfl⟩
            have := mem_sizes13 a
            omega)
          rw [L0H.out] at this
          exact this) (by rw [← L0H.out, List.length_map]; exact LN.out) (by omega) (by omega) OKS.out ⟨fun e => e, fun e => e⟩ out MGH.out, RL.out, ?_, MR.out, F7.out⟩
        intro W W' h z k
        exact ⟨h.1.keep (R := rdFe L B) z k, h.2.keep z fun q hq => k q (.inl hq)⟩
      obtain ⟨R, A, sq, rlt, akp, a7⟩ := PCK
      have SQ : Hid (SeqO Fence.wide 2 Try.prog 25 #[.pointer (some ⟨bk, 0, none⟩), .pointer (some ⟨bl, 0, none⟩)] (fun x : Ent => #[encE x]) out R (fun _ => False) A A) := sq
      have RLT : Hid (∀ q, R q ∨ False → q < w7.heap.size ∧ q ≠ N) := rlt
      have AKP : Hid (∀ W W', A W → W.heap.size ≤ W'.heap.size → (∀ q, R q → W'.heap[q]? = W.heap[q]?) → A W') := akp
      have A7 : Hid (A w7) := a7
      have OKO : Hid (∀ e ∈ out, e.ok) := MGH.out.oks OKS.out
      clear sq rlt akp a7 RL MR F7 FLH BB
      have nn : ∀ W : World, (binOp .eql 28 (.func (.func 25) #[] #[.pointer (some ⟨bk, 0, none⟩), .pointer (some ⟨bl, 0, none⟩)]) .nilFunc).run Try.prog W = .ok (.bool false) W := fun W => by kernel_rfl
      obtain ⟨bn, hbn⟩ : ∃ b, w7.heap.size = b := ⟨_, rfl⟩
      obtain ⟨w8, E8⟩ : ∃ W, w7.alloc (.cells #[.func (.func 25) #[] #[.pointer (some ⟨bk, 0, none⟩), .pointer (some ⟨bl, 0, none⟩)]] 28) = W := ⟨_, rfl⟩
      have HBN : Hid (w7.heap.size = bn) := hbn
      have E8H : Hid (w7.alloc (.cells #[.func (.func 25) #[] #[.pointer (some ⟨bk, 0, none⟩), .pointer (some ⟨bl, 0, none⟩)]] 28) = w8) := E8
      have G8 : Hid (Gw w7 w8) := by show Gw _ _; rw [← E8]; exact (Gw.refl w7).alloc _ _
      have z8 : w8.heap.size = bn + 1 := by rw [← E8, ← hbn]; simp
      have Z8 : Hid (w8.heap.size = bn + 1) := z8
      have BS8 : Hid (w8.heap[bn]? = some (.cells #[.func (.func 25) #[] #[.pointer (some ⟨bk, 0, none⟩), .pointer (some ⟨bl, 0, none⟩)]] 28 (0, 0))) := by show _ = _; rw [← E8, ← hbn]; exact heap_alloc_new _ _
      have G38 : Hid (Gw w3 w8) := (G.out.trans G7.out).trans G8.out
      have BA8 : w8.heap[N]? = some (.cells #[.int .i64 leave] 3 (0, 0)) := (G38.out.below.block N (blkl BA3.out)).trans BA3.out
      have BAH : Hid (w8.heap[N]? = some (.cells #[.int .i64 leave] 3 (0, 0))) := BA8
      have ca : w8.cell? ⟨N, 0, none⟩ = some (.int .i64 leave) := blkc BA8 rfl
      have fa := blkf (o := 0) BA8
      have la := blkl BA8
      clear E8 hbn z8 BA8 mr g7 MG
      gi_upto_region 13 with (fail)
      rw [E8H.out, HBN.out]
      clear nn
      gi_upto_if 43 with (fail)
      gi_cut [] from 18 (fun wc => ∃ lv : Int, 0 ≤ lv ∧ lv < 9223372036854775808 ∧ Hid (wc.heap[N]? = some (.cells #[.int .i64 lv] 3 (0, 0))) ∧ Hid (Gx (fun q => q = N) w8 wc))
      case first =>
        have B2 : Hid (∀ v, (w8.setCell ⟨N, 0, none⟩ v).heap[N]? = some (.cells #[v] 3 (0, 0))) := fun v => blk_set (o := 0) BAH.out v
        have G2 : Hid (∀ v, Gx (fun q => q = N) w8 (w8.setCell ⟨N, 0, none⟩ v)) := fun v => (Gx.refl (fun q => q = N) w8).set (.inl rfl) _ _
        by_cases ln : leave < 0
        · have wk : IntKind.i64.wrap (leave + 1) = leave + 1 := by rw [IntKind.wrap_i64]; omega
          have wk2 : IntKind.i64.wrap (-(leave + 1)) = -(leave + 1) := by rw [IntKind.wrap_i64]; omega
          gi_wp2
          gi_meet
          case rel => exact ⟨-(leave + 1), by omega, by omega, B2.out _, G2.out _⟩
        · gi_wp2
          gi_meet
          case rel => exact ⟨leave, by omega, by omega, BAH, Gx.refl _ _⟩
      case rest =>
        obtain ⟨lv, lv0, lv1, BN, GN⟩ := hcut
        clear ca fa la BAH
        have ca : wc.cell? ⟨N, 0, none⟩ = some (.int .i64 lv) := blkc BN.out rfl
        have fa := blkf (o := 0) BN.out
        have la := blkl BN.out
        have BW8 : Hid (w8.heap[bw]? = some (.cells #[.slice (some ⟨ob, 0, none⟩) m oc] 24 (0, 0))) := (G38.out.below.block bw (blkl BW3.out)).trans BW3.out
        have nbw : bw ≠ N := by have := OBB.out.2; omega
        have cw : wc.cell? ⟨bw, 0, none⟩ = some (.slice (some ⟨ob, 0, none⟩) m oc) := blkc ((GN.out.block bw (blkl BW8.out) nbw).trans BW8.out) rfl
        have lbw : bw < wc.heap.size := Nat.lt_of_lt_of_le (blkl BW8.out) GN.out.size
        have wk : IntKind.i64.wrap ((m : Int) + 2) = (m : Int) + 2 := by rw [IntKind.wrap_i64]; omega
        gi_upto_region 17 with (fail)
        obtain ⟨le, hle⟩ : ∃ le : Nat, lv % ((m : Int) + 2) = (le : Int) := ⟨(lv % ((m : Int) + 2)).toNat, by have := Int.emod_nonneg lv (b := (m : Int) + 2) (by omega); omega⟩
        have leb : le ≤ m + 1 := by have := Int.emod_lt_of_pos lv (b := (m : Int) + 2) (by omega); omega
        obtain ⟨r0, hr0⟩ : ∃ r, wc.heap.size = r := ⟨_, rfl⟩
        obtain ⟨X9, E9⟩ : ∃ W, ((wc.setCell ⟨N, 0, none⟩ (.int .i64 (le : Int))).alloc (.cells #[] 32)).alloc (.cells #[.slice (some ⟨r0, 0, none⟩) 0 0] 24) = W := ⟨_, rfl⟩
        rw [hle, hr0, E9]
        have SZC : (wc.setCell ⟨N, 0, none⟩ (.int .i64 (le : Int))).heap.size = r0 := by rw [← hr0]; simp
        have z9 : X9.heap.size = r0 + 1 + 1 := by rw [← E9]; simp [SZC]
        have Z9 : Hid (X9.heap.size = r0 + 1 + 1) := z9
        have K9 : ∀ q, q < r0 → q ≠ N → X9.heap[q]? = w8.heap[q]? ∨ w8.heap.size ≤ q := fun q hq hn => by
          by_cases e : q < w8.heap.size
          · left
            rw [← E9]
            exact (Below.heap_alloc _ _ _ (by simp [SZC]; omega)).trans ((Below.heap_alloc _ _ _ (by rw [SZC]; exact hq)).trans ((Go.Deep.blk_setCell_other _ _ _ _ hn).trans (GN.out.block q e hn)))
          · right; omega
        have r08 : w8.heap.size ≤ r0 := by rw [← hr0]; exact GN.out.size
        have N8 : N < r0 := by rw [← hr0]; exact la
        have BN9 : X9.heap[N]? = some (.cells #[.int .i64 (le : Int)] 3 (0, 0)) := by
          rw [← E9]
          exact (Below.heap_alloc _ _ _ (by simp [SZC]; omega)).trans ((Below.heap_alloc _ _ _ (by rw [SZC]; exact N8)).trans (blk_set (o := 0) BN.out _))
        have GX9 : Hid (Gx (fun q => q = N) w8 X9) := by
          show Gx _ _ _
          rw [← E9]
          have a : Gx (fun q => q = N) w8 (wc.setCell ⟨N, 0, none⟩ (.int .i64 (le : Int))) := GN.out.set (.inl rfl) _ _
          have b : Gx (fun q => q = N) (wc.setCell ⟨N, 0, none⟩ (.int .i64 (le : Int))) (((wc.setCell ⟨N, 0, none⟩ (.int .i64 (le : Int))).alloc (.cells #[] 32)).alloc (.cells #[.slice (some ⟨r0, 0, none⟩) 0 0] 24)) := (((Gw.refl _).alloc _ _).alloc _ _).gx _
          exact a.trans b (fun q hq => .inl hq)
        have ST : Hid (∀ W, X9.heap.size ≤ W.heap.size → (∀ q, q < r0 → W.heap[q]? = X9.heap[q]?) → (W.cell? ⟨bn, 0, none⟩ = some (.func (.func 25) #[] #[.pointer (some ⟨bk, 0, none⟩), .pointer (some ⟨bl, 0, none⟩)]) ∧ W.cell? ⟨N, 0, none⟩ = some (.int .i64 (le : Int)) ∧ W.cell? ⟨bw, 0, none⟩ = some (.slice (some ⟨ob, 0, none⟩) m oc)) ∧ EL W (some ⟨ob, 0, none⟩) out ∧ A W) := fun W zW kW => by
          have z8 := Z8.out
          have k8 : ∀ q, q < w8.heap.size → q ≠ N → W.heap[q]? = w8.heap[q]? := fun q hq hn => (kW q (by omega)).trans ((K9 q (by omega) hn).resolve_right (by omega))
          have k7 : ∀ q, q < w7.heap.size → q ≠ N → W.heap[q]? = w7.heap[q]? := fun q hq hn => (k8 q (by have := HBN.out; omega) hn).trans (G8.out.below.block q hq)
          have NB : N < w7.heap.size := Nat.lt_of_lt_of_le (blkl BA3.out) (G.out.trans G7.out).size
          refine ⟨⟨blkc ((k8 bn (blkl BS8.out) (by have := HBN.out; omega)).trans BS8.out) rfl, blkc ((kW N N8).trans BN9) rfl, blkc ((k8 bw (blkl BW8.out) nbw).trans BW8.out) rfl⟩, ?_, AKP.out w7 W A7.out (by have := HBN.out; omega) fun q hq => k7 q (RLT.out q (.inl hq)).1 (RLT.out q (.inl hq)).2⟩
          have e8 : EO w8 0 (.slice (some ⟨ob, 0, none⟩) out.length oc) out := by rw [MH.out]; exact eo_gw EO3.out G38.out
          exact eo_el (eo_keep e8 fun q hq => by
            have eq : ob = q := by simpa [Value.ownBlock] using hq
            subst eq
            exact k8 ob (World.ownsRow.lt e8 ob rfl).2 (by have := OBN.out; omega)) OKO.out
        have AC9 : Hid (AccI X9 (r0 + 1) r0 (fun q => q = r0 + 1 ∨ q = r0) [] (fun _ => False) X9) := by
          refine ⟨⟨r0, 0, ?_, .inl rfl, ?_⟩, Gx.refl _ _⟩
          · rw [← E9]
            have := heap_alloc_new ((wc.setCell ⟨N, 0, none⟩ (.int .i64 (le : Int))).alloc (.cells #[] 32)) (.cells #[.slice (some ⟨r0, 0, none⟩) 0 0] 24)
            rw [World.size_alloc, SZC] at this
            exact this
          · have := eo_new (wc.setCell ⟨N, 0, none⟩ (.int .i64 (le : Int))) r0 (by rw [SZC]; exact Nat.le_refl _)
            rw [SZC] at this
            rw [← E9]
            exact eo_gw this ((Gw.refl _).alloc _ _)
        have RR : Hid (r0 = r0 ∧ w8.heap.size ≤ r0 ∧ w7.heap.size < r0 ∧ N < r0) := ⟨rfl, r08, by have := Z8.out; have := HBN.out; omega, N8⟩
        obtain ⟨⟨cs, cl, cb⟩, _, _⟩ := ST.out X9 (Nat.le_refl _) (fun _ _ => rfl)
        clear E9 SZC K9 r08 N8 BN9 hr0 hle wk cw lbw ca fa la BN GN z9
        gi_wp2
        refine range_brk (ps := #[54]) 2 hro h1 (gf := 25) (lb := #[.pointer (some ⟨bk, 0, none⟩), .pointer (some ⟨bl, 0, none⟩)]) rfl trivial (fun _ _ => rfl) SQ.out
          (fun W g => (ST.out W g.size (fun q hq => g.below.block q (by have := Z9.out; omega))).2.2) (fun _ => rfl)
          (fun q => q = r0 + 1 ∨ q = r0) (fun q hq => ⟨by have := (RLT.out q hq).1; have := RR.out.2.2.1; have := Z9.out; omega, fun e => by have := (RLT.out q hq).1; have := RR.out.2.2.1; omega⟩) (fun q hq => by have := Z9.out; omega)
          (fun pre O W => AccI X9 (r0 + 1) r0 (fun q => q = r0 + 1 ∨ q = r0) pre O W ∧ pre.length ≤ le) (fun ys O W => ∃ pre x, ys = pre ++ [x] ∧ pre.length = le ∧ AccI X9 (r0 + 1) r0 (fun q => q = r0 + 1 ∨ q = r0) pre O W)
          (fun pre O X Y h k => ⟨h.1.ko (by have := Z9.out; omega) (by have := Z9.out; omega) k, h.2⟩)
          (fun pre O X Y h k => by
            obtain ⟨p, x, e1, e2, e3⟩ := h
            exact ⟨p, x, e1, e2, e3.ko (by have := Z9.out; omega) (by have := Z9.out; omega) k⟩)
          (fun W W' z zs k => AKP.out W W' z zs fun q hq => k q (by have := (RLT.out q (.inl hq)).1; have := RR.out.2.2.1; have := Z9.out; omega))
          ⟨AC9.out, Nat.zero_le _⟩ ?round ?hq ?fin
        case round => as_aux_lemma =>
          intro l n1 hl hn1 pre x O W hi hn hr ho hx
          simp only [encE]
          gi_wp2
          refine ⟨(Gw.refl W).alloc _ _, ?_⟩
          rintro W2 ⟨ac, ple⟩ r2 k2 z2
          have z9 := Z9.out
          obtain ⟨rr, hrr⟩ := hr
          have ll := blkl hrr
          have zz : W2.heap.size = W.heap.size + 1 := by rw [z2]; simp
          have bx2 : W2.heap[W.heap.size]? = some (.cells #[.int .u64 x.k, .int .u64 x.v, .bool x.g] 32 (0, 0)) := (k2 _ (by omega)).trans (heap_alloc_new W _)
          have AC : Hid (AccI X9 (r0 + 1) r0 (fun q => q = r0 + 1 ∨ q = r0) pre O W2) := ac
          obtain ⟨rb, rc, b1, b2, b3⟩ := ac.ex
          obtain ⟨⟨_, cl2, _⟩, _, _⟩ := ST.out W2 ac.gx.size (fun q hq => ac.gx.block q (by omega) (by omega))
          have B1 : Hid (W2.heap[r0 + 1]? = some (.cells #[.slice (some ⟨rb, 0, none⟩) pre.length rc] 24 (0, 0))) := b1
          have B2 : Hid (rb = r0 ∨ O rb) := b2
          have cx : W2.cell? ⟨r0 + 1, 0, none⟩ = some (.slice (some ⟨rb, 0, none⟩) pre.length rc) := blkc b1 rfl
          have fx := blkf (o := 0) b1
          have lx := blkl b1
          have x0 := blkc (o := 0) bx2 rfl
          have x1 := blkc (o := 1) bx2 rfl
          have x2 := blkc (o := 2) bx2 rfl
          have HO : Hid (∀ q, O q → n1 ≤ q) := ho
          have HN : Hid (X9.heap.size ≤ n1 ∧ W.heap.size ≤ W2.heap.size ∧ X9.heap.size ≤ W.heap.size) := ⟨by omega, by omega, by omega⟩
          have plen : pre.length + 1 ≤ out.length := by obtain ⟨t, ht⟩ := hx; rw [← ht]; simp only [List.length_append, List.length_singleton]; omega
          have OW : Hid ((W2.alloc (.cells #[.int .u64 x.k, .int .u64 x.v, .bool x.g] 32)).ownsRow r0 32 3 (.slice (some ⟨rb, 0, none⟩) pre.length rc) pre.length (pre.flatMap ent3)) := World.ownsRow.alloc b3 _
          have mm := MH.out
          obtain ⟨k, hk⟩ : ∃ k, pre.length = k := ⟨_, rfl⟩
          have HK : Hid (pre.length = k) := hk
          have STP : Hid (k ≤ le) := by rw [hk] at ple; exact ple
          have hb0 : r0 < W2.heap.size := by omega
          rw [hk] at cx plen OW
          clear ac hi hn hrr ho b1 b2 b3 k2 hk r2 z2 bx2 zz ple
          by_cases e : (k : Int) = (le : Int)
          · have e' : ((k : Int) == (le : Int)) = true := by simpa using e
            have el : k = le := by omega
            clear e
            gi_wp2
            obtain ⟨O', o1, o2⟩ := AC.out.own
            exact ⟨O', fun q hq => ⟨.inl (o1 q hq).1, (o1 q hq).2⟩, Gx.refl _ _, rfl, pre, x, rfl, by rw [HK.out]; exact el, o2⟩
          · have e' : ((k : Int) == (le : Int)) = false := by simpa using e
            obtain ⟨ii, hii, hz', hsz', hby'⟩ := info_parts info_e
            gi_wp2_with (gi_at_builtin; refine wpListIn_append_own_at _ rfl _ _ 24 rfl r0 32 ii (.agg #[.int .u64 0, .int .u64 0, .bool false]) 3 24 Try.underlying24 hii hz' hsz' hby' rfl (by decide) (.slice (some ⟨rb, 0, none⟩) k rc) k _ rfl OW.out ⟨W2.heap.size, 0, none⟩ 1 1 (ent3 x) rfl rfl (new_ent W2 x) (ent3_one _) (by simp only [maxLen]; omega) (by omega) (by simp; omega) ?_)
            intro v' W4 q1 q2 q3 q4
            obtain ⟨b8, cap8, ev, hb8, _, _⟩ := own_slice q1 (by simpa using q3)
            subst ev
            have nrb : r0 + 1 ≠ rb := by
              rcases B2.out with e2 | e2
              · omega
              · have := HO.out rb e2; have := HN.out.1; omega
            have b4 : W4.heap[r0 + 1]? = _ := (q2.block (r0 + 1) (by simp; omega) (fun e => nrb (by simpa [Value.ownBlock] using e))).trans ((Below.heap_alloc _ _ _ lx).trans B1.out)
            have FIN : Hid _ := AC.out.step (x := x) (z := W.heap.size) B1.out B2.out (by omega) (by omega) (by omega) (.inl rfl) (.inr rfl) HO.out HN.out.1 HN.out.2.1 HN.out.2.2 ((Gw.refl W2).alloc _ _) (W4 := W4) (b8 := b8) (c8 := cap8) (by rw [HK.out]; exact q1) (by simpa [Value.ownBlock] using q2) (by
              rcases q4 with q | q
              · exact .inl (by simpa [Value.ownBlock] using q)
              · exact .inr (by simpa [Value.ownBlock] using q))
            rw [HK.out] at FIN b4
            have c4 := blkc (o := 0) b4 rfl
            have f4 := blkf (o := 0) b4
            have l4 := blkl b4
            have kl : k + 1 ≤ le := by have := STP.out; omega
            have KL : Hid (k + 1 ≤ le) := kl
            clear q1 q2 q3 q4 b4 hii hz' hsz' hby' OW cx fx lx x0 x1 x2 cl2
            gi_wp2
            obtain ⟨O', o1, o2, o3⟩ := FIN.out
            exact ⟨O', o1, o2, o3, by rw [List.length_append, HK.out]; exact KL.out⟩
        case hq => intro a W h; exact h
        case fin =>
          rintro D O W hD nD hO hI hZ bD
          have mm := MH.out
          have z9 := Z9.out
          obtain ⟨u, hu⟩ : ∃ u : Nat, u = min le m := ⟨_, rfl⟩
          have ACu : Hid (AccI X9 (r0 + 1) r0 (fun q => q = r0 + 1 ∨ q = r0) (out.take u) O W) := by
            rcases hI with ⟨a1, a2⟩ | ⟨ys, hp, pre, x, rfl, a1, a2⟩
            · have : out.take u = out := List.take_of_length_le (by omega)
              rw [this]; exact a1
            · obtain ⟨t, ht⟩ := hp
              have l1 : (pre ++ [x]).length ≤ out.length := by have := congrArg List.length ht; simp only [List.length_append] at this ⊢; omega
              simp only [List.length_append, List.length_singleton] at l1
              have : out.take u = pre := by
                have eu : u = pre.length := by omega
                rw [eu, ← ht, List.append_assoc, List.take_left]
              rw [this]; exact a2
          have UL : Hid ((out.take u).length = u) := by show _ = _; rw [List.length_take]; omega
          obtain ⟨sb, sc, csm, els⟩ := ACu.out.el (fun e he => OKO.out e (List.mem_of_mem_take he))
          have kW : ∀ q, q < r0 → W.heap[q]? = X9.heap[q]? := fun q hq => ACu.out.gx.block q (by omega) (by omega)
          obtain ⟨⟨cs2, cl2, cb2⟩, elw, aw⟩ := ST.out W ACu.out.gx.size kW
          have SM : Hid (∀ W', Gw W W' → Calls Try.prog 11 #[.slice (some ⟨sb, 0, none⟩) u sc, .slice (some ⟨ob, 0, none⟩) u oc] W' fun e w' => e = .returned (.bool true) ∧ Gw W' w') := fun W' g => by
            have := same13 (some ⟨sb, 0, none⟩) (some ⟨ob, 0, none⟩) sc oc (out.take u) (by rw [UL.out]; omega) W' (els.gw g) ((elw.cut u).gw g)
            rw [UL.out] at this
            exact this
          rw [UL.out] at csm
          have GX10 : Hid (Gx (fun q => q = N ∨ q = r0 + 1 ∨ q = r0) w8 W) := (GX9.out.mono (fun q hq => .inl (Or.inl hq))).trans ACu.out.gx (fun q hq => .inl (Or.inr hq))
          have BD : Hid (W.heap[D]? = some (.deferred (some []))) := bD
          have ulm : u ≤ m := by omega
          have ulo : m ≤ oc := by
            have e8 : EO w3 0 (.slice (some ⟨ob, 0, none⟩) out.length oc) out := by rw [MH.out]; exact EO3.out
            obtain ⟨_, _, e, _, q, _⟩ := own_slice e8 (by simp)
            cases e
            omega
          have HU : Hid (u = min le m) := hu
          clear hu hI hZ bD nD hO els elw aw cs cl cb
          gi_upto_region 21 with (fail)
          gi_cut [12] from 18 (fun s12 wx => s12 = .int .i64 (u : Int) ∧ wx = W)
          case first =>
            by_cases e : le ≤ m
            · have eu : u = le := by have := HU.out; omega
              have e' : (le : Int) ≤ (m : Int) := by omega
              gi_wp2
              gi_meet
              case rel => exact ⟨by rw [eu], rfl⟩
            · have eu : u = m := by have := HU.out; omega
              have e' : (m : Int) < (le : Int) := by omega
              gi_wp2
              gi_meet
              case rel => exact ⟨by rw [eu], rfl⟩
          case rest =>
            obtain ⟨e12, ew⟩ := hcut
            have ew' := ew.symm
            subst e12 ew'
            clear ew
            gi_upto_region 22 with (fail)
            gi_cut [72] from 18 (fun s72 wx => s72 = .bool false ∧ Hid (Gw W wx))
            case first =>
              have SL : ∀ W : World, (Instr.slice 24 (.slice (some ⟨ob, 0, none⟩) m oc) none (some (.int .i64 (u : Int))) none).run Try.prog W = .ok (.slice (some ⟨ob, 0, none⟩) u oc) W := fun W => slice_front13 W ob m oc u (by omega)
              have mo : Try.prog.follows .mixedOrders = true := by kernel_rfl
              have hA : (u : Int) ≤ (oc : Int) := by omega
              have hA' : u ≤ oc := by omega
              clear SQ RLT A7 OKO GX9 ST AC9 RR ACu UL BD GX10 Z9 Z8 HBN BS8 G38 BW8 G8 G7 G AKP MH EO3 BA3 OBB BW3 G3 OBN MGH L0H LVH LOKH LELH LN OKS NH cs2 cl2 z9 mm ulo ulm lv0 lv1 leb kW
              have k1 : ∀ d os, (Go.Sort.grow (redrawn W d) os).cell? ⟨r0 + 1, 0, none⟩ = some (.slice (some ⟨sb, 0, none⟩) u sc) := cell_regrown csm
              have k2 : ∀ d os, (Go.Sort.grow (redrawn W d) os).cell? ⟨bw, 0, none⟩ = some (.slice (some ⟨ob, 0, none⟩) m oc) := cell_regrown cb2
              have KC : Hid (∀ k d os, CallsIn Fence.wide k Try.prog 11 #[.slice (some ⟨sb, 0, none⟩) u sc, .slice (some ⟨ob, 0, none⟩) u oc] (Go.Sort.grow (redrawn W d) os) fun e w'' => e = .returned (.bool true) ∧ ∃ p : Regrown, w'' = Go.Sort.grow (redrawn W p.d) p.os) := fun k d os => CallsIn.regrown_of (callsIn_wide.2 ((SM.out _ ⟨below_regrown W d os⟩).mono fun e w' ⟨h1, h2⟩ => ⟨h1, h2.below⟩))
              clear SM
              refine wpIn_region_quiet_below hro mo (by kernel_rfl) ?_
              repeat (
                refine wpQuietIn_step (fun _ _ _ _ => trivial) (fun K hK => ?_)
                go_simp
                first
                  | (refine hK _ ?_; clear hK K)
                  | (apply Exists.intro; refine ⟨fun _ => ?_, hK _ ?_⟩; (first | exact ⟨trivial, KC.out _ _ _⟩ | exact KC.out _ _ _); clear hK K))
              refine wpQuietIn_nil ?_
              intro w5 hw'
              have G5 : Hid (Gw W w5) := by
                obtain ⟨p, e⟩ := hw'
                rw [e]
                exact ⟨below_regrown W _ _⟩
              clear hw' KC k1 k2
              gi_wp2
              gi_meet
              case rel => exact ⟨rfl, G5⟩
            case rest =>
              obtain ⟨e72, G11⟩ := hcut
              subst e72
              clear SM
              obtain ⟨w11, hw11⟩ : ∃ wx, wx = wc := ⟨_, rfl⟩
              subst hw11
              have GX11 : Hid (Gx (fun q => q = N ∨ q = r0 + 1 ∨ q = r0) w8 w11) := GX10.out.trans (G11.out.gx (fun _ => False)) (fun q hq => hq.elim)
              have SZ11 : X9.heap.size ≤ w11.heap.size := Nat.le_trans ACu.out.gx.size G11.out.size
              have K11 : Hid (∀ q, q < r0 → w11.heap[q]? = X9.heap[q]?) := fun q hq => (G11.out.below.block q (by have := ACu.out.gx.size; omega)).trans (kW q hq)
              have BD11 : Hid (w11.heap[D]? = some (.deferred (some []))) := (G11.out.below.block D (blkl BD.out)).trans BD.out
              clear cs2 cl2 cb2 csm
              gi_upto_region 27 with (fail)
              obtain ⟨r1, hr1⟩ : ∃ r, w11.heap.size = r := ⟨_, rfl⟩
              rw [hr1]
              obtain ⟨X12, E12⟩ : ∃ W, (((w11.alloc (.cells #[] 32)).alloc (.cells #[.slice (some ⟨r1, 0, none⟩) 0 0] 24)).alloc (.cells #[.int .i64 0] 3)).alloc (.cells #[.bool true] 4) = W := ⟨_, rfl⟩
              rw [E12]
              have G12 : Hid (Gw w11 X12) := by show Gw _ _; rw [← E12]; exact ((((Gw.refl w11).alloc _ _).alloc _ _).alloc _ _).alloc _ _
              have z12 : X12.heap.size = r1 + 1 + 1 + 1 + 1 := by rw [← E12]; simp [hr1]
              have Z12 : Hid (X12.heap.size = r1 + 1 + 1 + 1 + 1) := z12
              have BAL : X12.heap[r1 + 1]? = some (.cells #[.slice (some ⟨r1, 0, none⟩) 0 0] 24 (0, 0)) := by
                rw [← E12]
                have := heap_alloc_new (w11.alloc (.cells #[] 32)) (.cells #[.slice (some ⟨r1, 0, none⟩) 0 0] 24)
                simp only [World.size_alloc, hr1] at this
                exact (Below.heap_alloc _ _ _ (by simp [hr1])).trans ((Below.heap_alloc _ _ _ (by simp [hr1])).trans this)
              have BIN : Hid (X12.heap[r1 + 1 + 1]? = some (.cells #[.int .i64 ((0 : Nat) : Int)] 3 (0, 0))) := by
                show _ = _
                rw [← E12]
                have := heap_alloc_new ((w11.alloc (.cells #[] 32)).alloc (.cells #[.slice (some ⟨r1, 0, none⟩) 0 0] 24)) (.cells #[.int .i64 0] 3)
                simp only [World.size_alloc, hr1] at this
                exact (Below.heap_alloc _ _ _ (by simp [hr1])).trans this
              have BOK : Hid (X12.heap[r1 + 1 + 1 + 1]? = some (.cells #[.bool true] 4 (0, 0))) := by
                show _ = _
                rw [← E12]
                have := heap_alloc_new (((w11.alloc (.cells #[] 32)).alloc (.cells #[.slice (some ⟨r1, 0, none⟩) 0 0] 24)).alloc (.cells #[.int .i64 0] 3)) (.cells #[.bool true] 4)
                simpa only [World.size_alloc, hr1] using this
              have AC12 : Hid (AccI X12 (r1 + 1) r1 (fun q => q = r1 + 1 ∨ q = r1 ∨ q = r1 + 1 + 1 ∨ q = r1 + 1 + 1 + 1) [] (fun _ => False) X12) := by
                refine ⟨⟨r1, 0, BAL, .inl rfl, ?_⟩, Gx.refl _ _⟩
                have := eo_new w11 r1 (by rw [hr1]; exact Nat.le_refl _)
                rw [hr1] at this
                rw [← E12]
                exact eo_gw this ((((Gw.refl _).alloc _ _).alloc _ _).alloc _ _)
              have R01 : Hid (r0 + 1 + 1 ≤ r1) := by rw [← hr1, ← Z9.out]; exact SZ11
              have ST2 : Hid (∀ W, X12.heap.size ≤ W.heap.size → (∀ q, q < r1 → W.heap[q]? = X12.heap[q]?) → (W.cell? ⟨bn, 0, none⟩ = some (.func (.func 25) #[] #[.pointer (some ⟨bk, 0, none⟩), .pointer (some ⟨bl, 0, none⟩)]) ∧ W.cell? ⟨N, 0, none⟩ = some (.int .i64 (le : Int)) ∧ W.cell? ⟨bw, 0, none⟩ = some (.slice (some ⟨ob, 0, none⟩) m oc)) ∧ EL W (some ⟨ob, 0, none⟩) out ∧ A W) := fun W zW kW => ST.out W (by have := G12.out.size; omega) (fun q hq => (kW q (by have := R01.out; omega)).trans ((G12.out.below.block q (by have := R01.out; omega)).trans (K11.out q hq)))
              have BD12 : Hid (X12.heap[D]? = some (.deferred (some []))) := (G12.out.below.block D (blkl BD11.out)).trans BD11.out
              have DR : Hid (D < r1) := by have := blkl BD11.out; show _ < _; omega
              have GX12 : Hid (Gx (fun q => q = N ∨ q = r0 + 1 ∨ q = r0) w8 X12) := GX11.out.trans (G12.out.gx (fun _ => False)) (fun q hq => hq.elim)
              obtain ⟨⟨cs, cl, cb⟩, _, _⟩ := ST2.out X12 (Nat.le_refl _) (fun _ _ => rfl)
              clear E12 BAL z12 hr1 ST AC9 ACu GX9 GX10 GX11 G11 G12 BD BD11 kW K11 SZ11 UL
              gi_wp2
              refine range_out (ps := #[75]) hro h1 (gf := 25) (lb := #[.pointer (some ⟨bk, 0, none⟩), .pointer (some ⟨bl, 0, none⟩)]) rfl trivial (fun _ _ => rfl) SQ.out
                (fun W g => (ST2.out W g.size (fun q hq => g.below.block q (by have := Z12.out; omega))).2.2) (fun _ => rfl)
                (fun q => q = r1 + 1 ∨ q = r1 ∨ q = r1 + 1 + 1 ∨ q = r1 + 1 + 1 + 1) (fun q hq => ⟨by have := (RLT.out q hq).1; have := RR.out.2.2.1; have := Z12.out; have := R01.out; omega, fun e => by have := (RLT.out q hq).1; have := RR.out.2.2.1; have := R01.out; omega⟩) (fun q hq => by have := Z12.out; omega)
                (fun pre O W => AccI X12 (r1 + 1) r1 (fun q => q = r1 + 1 ∨ q = r1 ∨ q = r1 + 1 + 1 ∨ q = r1 + 1 + 1 + 1) pre O W ∧ W.heap[r1 + 1 + 1]? = some (.cells #[.int .i64 ((inn13 le m pre.length : Nat) : Int)] 3 (0, 0)) ∧ W.heap[r1 + 1 + 1 + 1]? = some (.cells #[.bool true] 4 (0, 0))) (fun _ _ _ _ => False)
                (fun pre O X Y h k => ⟨h.1.ko (by have := Z12.out; omega) (by have := Z12.out; omega) k, (k.block _ (blkl h.2.1) (.inl ⟨by have := Z12.out; omega, fun e => e⟩)).trans h.2.1, (k.block _ (blkl h.2.2) (.inl ⟨by have := Z12.out; omega, fun e => e⟩)).trans h.2.2⟩)
                (fun _ _ _ _ _ h _ => h)
                (fun W W' z zs k => AKP.out W W' z zs fun q hq => k q (by have := (RLT.out q (.inl hq)).1; have := RR.out.2.2.1; have := Z12.out; have := R01.out; omega))
                ⟨AC12.out, by have e : inn13 le m ([] : List Ent).length = 0 := (if_neg (by simp; omega)); rw [e]; exact BIN.out, BOK.out⟩ ?round ?done (fun _ _ _ _ _ _ _ _ _ h _ _ => h.elim)
              case round => as_aux_lemma =>
                intro l n1 hl hn1 pre x O W hi hn hr ho hx
                simp only [encE]
                gi_wp2
                refine ⟨(Gw.refl W).alloc _ _, ?_⟩
                rintro W2 ⟨ac, bi, bko⟩ ⟨rl2, r2⟩ k2 z2
                have z9 := Z12.out
                obtain ⟨rr, hrr⟩ := hr
                have ll := blkl hrr
                have zz : W2.heap.size = W.heap.size + 1 := by rw [z2]; simp
                have bx2 : W2.heap[W.heap.size]? = some (.cells #[.int .u64 x.k, .int .u64 x.v, .bool x.g] 32 (0, 0)) := (k2 _ (by omega)).trans (heap_alloc_new W _)
                have AC : Hid (AccI X12 (r1 + 1) r1 (fun q => q = r1 + 1 ∨ q = r1 ∨ q = r1 + 1 + 1 ∨ q = r1 + 1 + 1 + 1) pre O W2) := ac
                obtain ⟨rb, rc, b1, b2, b3⟩ := ac.ex
                have B1 : Hid (W2.heap[r1 + 1]? = some (.cells #[.slice (some ⟨rb, 0, none⟩) pre.length rc] 24 (0, 0))) := b1
                have B2 : Hid (rb = r1 ∨ O rb) := b2
                have BI2 : Hid (W2.heap[r1 + 1 + 1]? = some (.cells #[.int .i64 ((inn13 le m pre.length : Nat) : Int)] 3 (0, 0))) := bi
                have BO2 : Hid (W2.heap[r1 + 1 + 1 + 1]? = some (.cells #[.bool true] 4 (0, 0))) := bko
                have RL2 : Hid (W2.heap[l]? = some (.loop rl2)) := r2
                have cx : W2.cell? ⟨r1 + 1, 0, none⟩ = some (.slice (some ⟨rb, 0, none⟩) pre.length rc) := blkc b1 rfl
                have fx := blkf (o := 0) b1
                have lx := blkl b1
                have x0 := blkc (o := 0) bx2 rfl
                have x1 := blkc (o := 1) bx2 rfl
                have x2 := blkc (o := 2) bx2 rfl
                have HO : Hid (∀ q, O q → n1 ≤ q) := ho
                have HN : Hid (X12.heap.size ≤ n1 ∧ W.heap.size ≤ W2.heap.size ∧ X12.heap.size ≤ W.heap.size ∧ n1 ≤ W.heap.size ∧ X12.heap.size ≤ l ∧ l < n1) := ⟨by omega, by omega, by omega, hn, hl, hn1⟩
                have plen : pre.length + 1 ≤ out.length := by obtain ⟨t, ht⟩ := hx; rw [← ht]; simp only [List.length_append, List.length_singleton]; omega
                have OW : Hid ((W2.alloc (.cells #[.int .u64 x.k, .int .u64 x.v, .bool x.g] 32)).ownsRow r1 32 3 (.slice (some ⟨rb, 0, none⟩) pre.length rc) pre.length (pre.flatMap ent3)) := World.ownsRow.alloc b3 _
                have mm := MH.out
                obtain ⟨k, hk⟩ : ∃ k, pre.length = k := ⟨_, rfl⟩
                have HK : Hid (pre.length = k) := hk
                have hb0 : r1 < W2.heap.size := by omega
                rw [hk] at cx plen OW
                clear ac hi hn hrr ho b1 b2 b3 k2 hk z2 bx2 zz bi bko r2 cs cl cb
                obtain ⟨ii, hii, hz', hsz', hby'⟩ := info_parts info_e
                gi_wp2_with (gi_at_builtin; refine wpListIn_append_own_at _ rfl _ _ 24 rfl r1 32 ii (.agg #[.int .u64 0, .int .u64 0, .bool false]) 3 24 Try.underlying24 hii hz' hsz' hby' rfl (by decide) (.slice (some ⟨rb, 0, none⟩) k rc) k _ rfl OW.out ⟨W2.heap.size, 0, none⟩ 1 1 (ent3 x) rfl rfl (new_ent W2 x) (ent3_one _) (by simp only [maxLen]; omega) (by omega) (by simp; omega) ?_)
                intro v' W4 q1 q2 q3 q4
                obtain ⟨b8, cap8, ev, hb8, _, _⟩ := own_slice q1 (by simpa using q3)
                subst ev
                have rbn : ∀ q, q < n1 → q ≠ r1 → q ≠ rb := fun q hq hn => by
                  rcases B2.out with e2 | e2
                  · omega
                  · have := HO.out rb e2; omega
                have KQ : Hid (∀ q, q < W2.heap.size → q < n1 → q ≠ r1 → W4.heap[q]? = W2.heap[q]?) := fun q hq hq1 hn => (q2.block q (by simp; omega) (fun e => rbn q hq1 hn (by simpa [Value.ownBlock] using e))).trans (Below.heap_alloc _ _ _ hq)
                have b4 : W4.heap[r1 + 1]? = _ := (KQ.out (r1 + 1) lx (by have := HN.out; omega) (by omega)).trans B1.out
                have FIN : Hid _ := AC.out.step (x := x) (z := W.heap.size) B1.out B2.out (by omega) (by omega) (by omega) (.inl rfl) (.inr (.inl rfl)) HO.out HN.out.1 HN.out.2.1 HN.out.2.2.1 ((Gw.refl W2).alloc _ _) (W4 := W4) (b8 := b8) (c8 := cap8) (by rw [HK.out]; exact q1) (by simpa [Value.ownBlock] using q2) (by
                  rcases q4 with q | q
                  · exact .inl (by simpa [Value.ownBlock] using q)
                  · exact .inr (by simpa [Value.ownBlock] using q))
                rw [HK.out] at FIN b4
                have c4 := blkc (o := 0) b4 rfl
                have f4 := blkf (o := 0) b4
                have l4 := blkl b4
                obtain ⟨W5, E5⟩ : ∃ W5, W4.setCell ⟨r1 + 1, 0, none⟩ (.slice (some ⟨b8, 0, none⟩) (k + 1) cap8) = W5 := ⟨_, rfl⟩
                have E5H : Hid (W4.setCell ⟨r1 + 1, 0, none⟩ (.slice (some ⟨b8, 0, none⟩) (k + 1) cap8) = W5) := E5
                have B5 : W5.heap[r1 + 1]? = some (.cells #[.slice (some ⟨b8, 0, none⟩) (k + 1) cap8] 24 (0, 0)) := by rw [← E5]; exact blk_set (o := 0) b4 _
                have KQ5 : ∀ q, q < W2.heap.size → q < n1 → q ≠ r1 → q ≠ r1 + 1 → W5.heap[q]? = W2.heap[q]? := fun q h1 h2 h3 h4 => by
                  rw [← E5]
                  exact (Go.Deep.blk_setCell_other _ _ _ _ h4).trans (KQ.out q h1 h2 h3)
                have BI5 : Hid (W5.heap[r1 + 1 + 1]? = some (.cells #[.int .i64 ((inn13 le m pre.length : Nat) : Int)] 3 (0, 0))) := (KQ5 _ (blkl BI2.out) (by have := HN.out; omega) (by omega) (by omega)).trans BI2.out
                have BO5 : Hid (W5.heap[r1 + 1 + 1 + 1]? = some (.cells #[.bool true] 4 (0, 0))) := (KQ5 _ (blkl BO2.out) (by have := HN.out; omega) (by omega) (by omega)).trans BO2.out
                have RL5 : Hid (W5.heap[l]? = some (.loop rl2)) := (KQ5 l (blkl RL2.out) (by have := HN.out; omega) (by have := HN.out; omega) (by have := HN.out; omega)).trans RL2.out
                rw [E5] at FIN
                have ACE : Hid (∃ O', (∀ q, O' q → (O q ∨ W.heap.size ≤ q) ∧ q < W5.heap.size) ∧ Gx (fun q => (q < X12.heap.size ∧ (q = r1 + 1 ∨ q = r1 ∨ q = r1 + 1 + 1 ∨ q = r1 + 1 + 1 + 1)) ∨ O q ∨ W.heap.size ≤ q) W2 W5 ∧ AccI X12 (r1 + 1) r1 (fun q => q = r1 + 1 ∨ q = r1 ∨ q = r1 + 1 + 1 ∨ q = r1 + 1 + 1 + 1) (pre ++ [x]) O' W5) := FIN.out
                have c5 := blkc (o := 0) B5 rfl
                obtain ⟨⟨cs5, cl5, cb5⟩, _, _⟩ : _ ∧ _ ∧ A W5 := ST2.out W5 (by obtain ⟨_, _, _, a⟩ := ACE.out; exact a.gx.size) (fun q hq => by obtain ⟨_, _, _, a⟩ := ACE.out; exact a.gx.block q (by omega) (by omega))
                clear q1 q2 q3 q4 b4 hii hz' hsz' hby' OW cx fx lx x0 x1 x2 FIN KQ5 E5 B5 rbn
                gi_upto_region 30 with (fail)
                rw [E5H.out]
                clear c4 f4 l4 E5H KQ
                have S5 : Hid (X12.heap.size ≤ W5.heap.size) := by obtain ⟨_, _, _, a⟩ := ACE.out; exact a.gx.size
                have K5 : Hid (∀ q, q < r1 → W5.heap[q]? = X12.heap[q]?) := fun q hq => by obtain ⟨_, _, _, a⟩ := ACE.out; exact a.gx.block q (by omega) (by omega)
                have LEN : Hid ((pre ++ [x]).length = k + 1) := by show _ = _; rw [List.length_append, HK.out]; rfl
                by_cases e : k + 1 = le
                · have e' : ((k : Int) + 1 == (le : Int)) = true := by simp; omega
                  have ELE : Hid (k + 1 = le) := e
                  clear e
                  gi_wp2
                  refine range_in (F := Fence.wide.inRound l) (ps := #[85]) (l0 := l) (r0 := rl2) rfl RL5.out (by omega) (gf := 25) (lb := #[.pointer (some ⟨bk, 0, none⟩), .pointer (some ⟨bl, 0, none⟩)]) rfl trivial (fun _ _ => rfl) (SeqO.round l SQ.out)
                    (fun W g => (ST2.out W (Nat.le_trans S5.out g.size) (fun q hq => (g.below.block q (by have := S5.out; omega)).trans (K5.out q hq))).2.2) (fun _ => rfl)
                    (fun q => q = r1 + 1 + 1 ∨ q = r1 + 1 + 1 + 1) (fun q hq => ⟨by have := (RLT.out q hq).1; have := RR.out.2.2.1; have := S5.out; have := R01.out; omega, fun e => by have := (RLT.out q hq).1; have := RR.out.2.2.1; have := R01.out; omega⟩) (fun q hq => by have := S5.out; omega)
                    (fun p3 O3 W => W.heap[r1 + 1 + 1]? = some (.cells #[.int .i64 (p3.length : Int)] 3 (0, 0)) ∧ W.heap[r1 + 1 + 1 + 1]? = some (.cells #[.bool true] 4 (0, 0)) ∧ Gx (fun q => q = r1 + 1 + 1 ∨ q = r1 + 1 + 1 + 1) W5 W) (fun _ _ _ _ => False)
                    (fun p3 O3 X Y h kk => ⟨(kk.block _ (blkl h.1) (.inl ⟨by have := S5.out; omega, fun e => e⟩)).trans h.1, (kk.block _ (blkl h.2.1) (.inl ⟨by have := S5.out; omega, fun e => e⟩)).trans h.2.1, ⟨kk.os.trans h.2.2.os, kk.tape.trans h.2.2.tape, kk.output.trans h.2.2.output, Nat.le_trans h.2.2.size kk.size, fun q hq hs => (kk.block q (Nat.lt_of_lt_of_le hq h.2.2.size) (.inl ⟨hq, fun e => e⟩)).trans (h.2.2.block q hq hs)⟩⟩)
                    (fun _ _ _ _ _ h _ => h)
                    (fun W W' z zs kk => AKP.out W W' z zs fun q hq => kk q (by have := (RLT.out q (.inl hq)).1; have := RR.out.2.2.1; have := S5.out; have := R01.out; omega))
                    ⟨by have e : inn13 le m pre.length = 0 := (if_neg (by have := ELE.out; have := HK.out; omega)); have b := BI5.out; rw [e] at b; exact b, BO5.out, Gx.refl _ _⟩ ?round3 ?done3 (fun _ _ _ _ _ _ h _ => h.elim)
                  case round3 => as_aux_lemma =>
                    intro l3 n3 hl3 hn3 p3 y O3 W6 hi hn hr ho hx
                    simp only [encE]
                    gi_wp2
                    refine ⟨(Gw.refl W6).alloc _ _, ?_⟩
                    rintro W7 ⟨i1, i2, i3⟩ _ k3 z3
                    obtain ⟨rr, hrr⟩ := hr
                    have ll := blkl hrr
                    have s5 := S5.out
                    have zz : W7.heap.size = W6.heap.size + 1 := by rw [z3]; simp
                    have by2 : W7.heap[W6.heap.size]? = some (.cells #[.int .u64 y.k, .int .u64 y.v, .bool y.g] 32 (0, 0)) := (k3 _ (by omega)).trans (heap_alloc_new W6 _)
                    obtain ⟨⟨_, _, cb7⟩, el7, _⟩ := ST2.out W7 (Nat.le_trans S5.out i3.size) (fun q hq => (i3.block q (by omega) (by omega)).trans (K5.out q hq))
                    have mm := MH.out
                    have hx' : out[p3.length]? = some y := by
                      obtain ⟨t, rfl⟩ := hx
                      simp
                    have plen : p3.length < m := by have := (List.getElem?_eq_some_iff.1 hx').1; omega
                    obtain ⟨eb, eo, ee, ebl, ec⟩ := el7.cells (by omega)
                    cases ee
                    obtain ⟨e0, e1, e2⟩ := ec p3.length (by omega)
                    have gy : out.getD p3.length ent0 = y := by rw [List.getD_eq_getElem?_getD, hx']; rfl
                    rw [gy] at e0 e1 e2
                    simp only [Nat.zero_add] at e0 e1 e2
                    have ci := blkc (o := 0) i1 rfl
                    have fi := blkf (o := 0) i1
                    have li := blkl i1
                    have co := blkc (o := 0) i2 rfl
                    have fo := blkf (o := 0) i2
                    have lo' := blkl i2
                    have y0 := blkc (o := 0) by2 rfl
                    have y1 := blkc (o := 1) by2 rfl
                    have y2 := blkc (o := 2) by2 rfl
                    have SET : ∀ nq, (W7.drewN nq).setCell ⟨r1 + 1 + 1 + 1, 0, none⟩ (.bool true) = W7.drewN nq := fun nq => set_self13 (w := W7.drewN nq) i2
                    have FI3 : Hid (∀ (W9 : World) (v : Int), W9.heap = W7.heap → W9.os = W7.os → W9.tape = W7.tape → W9.output = W7.output → v = ((p3 ++ [y]).length : Int) → ((W9.setCell ⟨r1 + 1 + 1, 0, none⟩ (.int .i64 v)).heap[r1 + 1 + 1]? = some (.cells #[.int .i64 ((p3 ++ [y]).length : Int)] 3 (0, 0)) ∧ (W9.setCell ⟨r1 + 1 + 1, 0, none⟩ (.int .i64 v)).heap[r1 + 1 + 1 + 1]? = some (.cells #[.bool true] 4 (0, 0)) ∧ Gx (fun q => q = r1 + 1 + 1 ∨ q = r1 + 1 + 1 + 1) W5 (W9.setCell ⟨r1 + 1 + 1, 0, none⟩ (.int .i64 v))) ∧ Gx (fun q => (q < W5.heap.size ∧ (q = r1 + 1 + 1 ∨ q = r1 + 1 + 1 + 1)) ∨ O3 q ∨ W6.heap.size ≤ q) W7 (W9.setCell ⟨r1 + 1 + 1, 0, none⟩ (.int .i64 v))) := fun W9 v e1 e2 e3 e4 hv => by
                      subst hv
                      have g23 : ∀ S : Nat → Prop, Gx S W7 W9 := fun S => ⟨e2, e3, e4, by rw [e1]; exact Nat.le_refl _, fun q _ _ => by rw [e1]⟩
                      refine ⟨⟨blk_set (o := 0) (by rw [e1]; exact i1) _, (Go.Deep.blk_setCell_other _ _ _ _ (by simp)).trans (by rw [e1]; exact i2), ((i3.trans (g23 (fun q => q = r1 + 1 + 1 ∨ q = r1 + 1 + 1 + 1)) (fun q hq => .inl hq)).set (.inl (.inl rfl)) _ _)⟩, ((g23 _).set (.inl (.inl ⟨by omega, .inl rfl⟩)) _ _)⟩
                    generalize hk3 : p3.length = kk at ci plen e0 e1 e2
                    have wk : IntKind.i64.wrap ((kk : Int) + 1) = (kk : Int) + 1 := by rw [IntKind.wrap_i64]; omega
                    have dk : ¬ m ≤ kk := by omega
                    have km' : (kk : Int) < (m : Int) := by omega
                    have HK3 : Hid (p3.length = kk) := hk3
                    clear hi ho i1 i2 i3 k3 z3 hk3 el7 ec ebl by2 hrr gy hx' cs5 cl5 cb5 c5
                    gi_wp2
                    refine round_quiet (F := Fence.wide) (l := l3) rfl (by kernel_rfl) (by kernel_rfl) (by kernel_rfl) ?_
                    repeat (gi_big_quiet_step (fail))
                    refine wpQuietIn_nil ?_
                    rintro _ ⟨nq, rfl⟩
                    gi_wp2
                    obtain ⟨q1, q2⟩ := FI3.out (W7.drewN nq) ((kk : Int) + 1) rfl rfl rfl rfl (by rw [List.length_append, HK3.out]; simp)
                    exact ⟨fun _ => False, fun q e => e.elim, q2, q1⟩
                  case done3 =>
                    rintro O3 W8 hO3 ⟨i1, i2, i3⟩ _
                    rw [MH.out] at i1
                    have E1 : Hid (W8.heap[r1 + 1 + 1]? = some (.cells #[.int .i64 (m : Int)] 3 (0, 0)) ∧ W8.heap[r1 + 1 + 1 + 1]? = some (.cells #[.bool true] 4 (0, 0)) ∧ Gx (fun q => q = r1 + 1 + 1 ∨ q = r1 + 1 + 1 + 1) W5 W8) := ⟨i1, i2, i3⟩
                    clear i1 i2 i3
                    gi_wp2
                    obtain ⟨O', o1, o2, o3⟩ := ACE.out
                    obtain ⟨i1, i2, i3⟩ := E1.out
                    have s5 := S5.out
                    have zx := Z12.out
                    have hno := HN.out
                    refine ⟨O', fun q hq => ⟨(o1 q hq).1, Nat.lt_of_lt_of_le (o1 q hq).2 i3.size⟩, o2.trans i3 (fun q hq => .inl (.inl ⟨by omega, by omega⟩)), o3.side i3 (fun q hq => ⟨by omega, by omega, by omega, by omega⟩) (fun q hq => by
                      rcases (o1 q hq).1 with x | x
                      · have := HO.out q x; omega
                      · omega), ?_, i2⟩
                    rw [LEN.out]
                    have e : inn13 le m (k + 1) = m := if_pos (by have := ELE.out; omega)
                    rw [e]; exact i1
                · have e' : ((k : Int) + 1 == (le : Int)) = false := by simp; omega
                  have ELE : Hid (¬ k + 1 = le) := e
                  clear e
                  gi_wp2
                  obtain ⟨O', o1, o2, o3⟩ := ACE.out
                  refine ⟨O', o1, o2, o3, ?_, BO5.out⟩
                  rw [LEN.out]
                  have e : inn13 le m (k + 1) = inn13 le m pre.length := by
                    have := ELE.out
                    rw [HK.out]
                    unfold inn13
                    split <;> split <;> omega
                  rw [e]; exact BI5.out
              case done =>
                rintro D2 O W hD nD hO ⟨ac, bi, bko⟩ hZ bD2
                obtain ⟨ab, ac', cal, ela⟩ := ac.el OKO.out
                have zx := Z12.out
                obtain ⟨⟨_, cl9, cb9⟩, elw, _⟩ := ST2.out W ac.gx.size (fun q hq => ac.gx.block q (by omega) (by omega))
                have mm := MH.out
                rw [mm] at cal bi
                have cin := blkc (o := 0) bi rfl
                have cok := blkc (o := 0) bko rfl
                have KC : Hid (Calls Try.prog 11 #[.slice (some ⟨ab, 0, none⟩) m ac', .slice (some ⟨ob, 0, none⟩) m oc] W fun e w'' => e = .returned (.bool true) ∧ Gw W w'') := by
                  have := same13 (some ⟨ab, 0, none⟩) (some ⟨ob, 0, none⟩) ac' oc out (by omega) W ela elw
                  rw [mm] at this
                  exact this
                have CE : Hid (∀ U, Gw W U → U.cell? ⟨bw, 0, none⟩ = some (.slice (some ⟨ob, 0, none⟩) m oc) ∧ U.cell? ⟨r1 + 1 + 1, 0, none⟩ = some (.int .i64 ((inn13 le m m : Nat) : Int)) ∧ U.cell? ⟨N, 0, none⟩ = some (.int .i64 (le : Int))) := fun U g => ⟨(g.cell _ _ (by have := ac.gx.size; have := blkl BW8.out; have := RR.out.2.1; have := R01.out; omega)).trans cb9, blkc ((g.below.block _ (blkl bi)).trans bi) rfl, (g.cell _ _ (by have := ac.gx.size; have := RR.out.2.2.2; have := R01.out; omega)).trans cl9⟩
                have BD2 : Hid (W.heap[D2]? = some (.deferred (some []))) := bD2
                have BD1 : Hid (W.heap[D]? = some (.deferred (some []))) := (ac.gx.block D (by have := DR.out; omega) (by have := DR.out; omega)).trans BD12.out
                have DD : Hid (w.heap.size ≤ D ∧ w.heap.size ≤ D2 ∧ D ≠ D2) := by
                  have h1 := NH.out
                  have h2 := RR.out
                  have h3 := DR.out
                  have h4 := Z9.out
                  exact ⟨by omega, by omega, by omega⟩
                have GF : Hid (Gw w W) := by
                  have g8 : Gw w w8 := G3.out.trans G38.out
                  have gx : Gx (fun q => q = N ∨ (q = r0 + 1 ∨ q = r0) ∨ (q = r1 + 1 ∨ q = r1 ∨ q = r1 + 1 + 1 ∨ q = r1 + 1 + 1 + 1)) w8 W := (GX12.out.mono (fun q hq => .inl (by omega))).trans ac.gx (fun q hq => .inl (.inr (.inr hq)))
                  exact Gx.gw g8 gx (fun q hq => by have h1 := NH.out; have h2 := RR.out; have h3 := R01.out; omega)
                have mo : Try.prog.follows .mixedOrders = true := by kernel_rfl
                obtain ⟨iv, hiv⟩ : ∃ iv, inn13 le m m = iv := ⟨_, rfl⟩
                have IV : Hid ((iv = m) ∨ (iv = 0 ∧ (le = 0 ∨ m < le))) := by
                  rw [← hiv]
                  unfold inn13
                  split
                  · exact .inl rfl
                  · exact .inr ⟨rfl, by omega⟩
                rw [hiv] at CE cin
                clear ac bi bko hZ bD2 nD hO ela elw cs cl cb SQ RLT A7 AKP ST2 AC12 BIN BOK BD12 GX12 hiv OKO OKS
                gi_wp2
                refine ⟨trivial, ?_⟩
                refine CallsIn.mono (callsIn_wide.2 KC.out) ?_
                rintro e u1 ⟨rfl, g1⟩
                have GU : Hid (Gw W u1) := g1
                obtain ⟨d1, d2, d3⟩ := CE.out u1 g1
                have BU2 : Hid (u1.heap[D2]? = some (.deferred (some []))) := (g1.below.block D2 (blkl BD2.out)).trans BD2.out
                have BU1 : Hid (u1.heap[D]? = some (.deferred (some []))) := (g1.below.block D (blkl BD1.out)).trans BD1.out
                have GFU : Hid (Gw w u1) := GF.out.trans g1
                have FL : Hid (∀ (tm : Array Value), (∀ W', (results Try.f3 tm).run Try.prog W' = .ok (.bool true) W') → LeavesInM Fence.wide 3 Try.prog Try.f3 tm (fun e w' => e = .returned (.bool true) ∧ Gw w w') ([D2, D].map mark) .returning u1) := fun tm ht => by
                  have dd := DD.out
                  refine leaves_marks [D2, D] u1 (by simp; omega) (fun E hE => ?_) (fun W' k1 k2 k3 k4 k5 => ⟨.bool true, ht W', rfl, ?_⟩)
                  · simp at hE
                    rcases hE with e | e
                    · rw [e]; exact BU2.out
                    · rw [e]; exact BU1.out
                  · exact Gx.gw GFU.out (⟨k3, k4, k5, by rw [k2]; exact Nat.le_refl _, fun q _ hs => k1 q (by simp; omega)⟩ : Gx (fun q => q = D2 ∨ q = D) u1 W') (fun q hq => by omega)
                clear g1 KC CE cal cin cok cl9 cb9 BD1 BD2 GF
                by_cases c1 : iv = m
                · have c4 : ((iv : Int) == (m : Int)) = true := by simp; omega
                  clear c1
                  gi_wp2
                  all_goals first
                    | exact FL.out _ (fun W' => by simp [results, Try.f3, go_sem])
                    | (rename_i hh _; cases hh)
                    | (rename_i hh _; exact absurd hh (by simp [undef]))
                · obtain ⟨c2, c3⟩ := IV.out.resolve_left c1
                  have c4 : ((iv : Int) == (m : Int)) = false := by simp; omega
                  have c5 : ((iv : Int) == 0) = true := by simp; omega
                  by_cases c6 : le = 0
                  · have c7 : ((le : Int) == 0) = true := by simp; omega
                    gi_wp2
                    exact FL.out _ (fun W' => by simp [results, Try.f3, go_sem])
                  · have c7 : ((le : Int) == 0) = false := by simp; omega
                    have c8 : (m : Int) < (le : Int) := by omega
                    gi_wp2
                    exact FL.out _ (fun W' => by simp [results, Try.f3, go_sem])
end Go.Proofs.Ythkahedhmfkhhaa
