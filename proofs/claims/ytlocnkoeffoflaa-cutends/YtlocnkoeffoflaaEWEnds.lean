/- CutEnds' walk. -/
import Derived.Test.YtlocnkoeffoflaaEWFew
namespace Go.Proofs.Ytlocnkoeffoflaa
open Go.RowKit
set_option linter.unusedVariables false

/-- A row of a call's own: whose block is another's is kept. -/
theorem own_keep {w w' : World} {base e size n : Nat} {v : Value} {xs : List Value} (own : w.ownsRow base e size v n xs) (k : ∀ q, v.ownBlock = some q → w'.heap[q]? = w.heap[q]?) : w'.ownsRow base e size v n xs := by
  refine ⟨own.1, ?_⟩
  rcases own.2 with q | ⟨g, cap, cur, rfl, hb, hh, r⟩
  · exact .inl q
  · exact .inr ⟨g, cap, cur, rfl, hb, (k g rfl).trans hh, r⟩
/-- A store into such a row. -/
theorem own_set {w : World} {base e g n cap : Nat} {xs : List Value} (h : w.ownsRow base e 1 (.slice (some ⟨g, 0, none⟩) n cap) n xs) (i : Nat) (hi : i < n) (u : Value) (hu : u.oneCell' = true) : (w.setCell ⟨g, i, none⟩ u).ownsRow base e 1 (.slice (some ⟨g, 0, none⟩) n cap) n (xs.set i u) := by
  obtain ⟨h1, h2⟩ := h
  refine ⟨by simpa using h1, .inr ?_⟩
  rcases h2 with ⟨q, _⟩ | ⟨g', cap', cur, e', hb, hh, r1, r2, r3, r4⟩
  · cases q
  · cases e'
    refine ⟨g, cap, cur.setIfInBounds i u, rfl, hb, ?_, r1, r2, by simpa using r3, ?_⟩
    · simp [World.setCell, Array.getElem?_modify, hh]
    · rw [← r4]
      simp [List.take_set]

/-- Rows of ints by their values. -/
theorem ir_vals {w : World} {base : Nat} {v : Value} {l : List Nat} (h : IR w base v l) : w.ownsRow base 3 1 v l.length (l.map fun (j : Nat) => Value.int .i64 (j : Int)) := h

set_option maxRecDepth 10000 in
set_option maxHeartbeats 8000000 in
theorem ends_walk (CC : CutC) (ao : Option Addr) (n cp : Nat) (f : Nat → Int) (eps : Int) (p0 : -9223372036854775808 ≤ eps) (p1 : eps < 9223372036854775808) (hn : n * 8 ≤ 140737488351232) (hao : ao = none → n = 0 ∧ cp = 0) (w : World) (h : KS w ao n f) :
    Calls Try.prog 3 #[.slice ao n cp, .int .i64 eps] w fun e w' => e = .returned (.bool true) ∧ Gw w w' := by
  have HK : Aside (KS w ao n f) := h
  clear h
  have SH : Hid _ := fun W => eshown CC W
  by_cases h300 : 300 < n
  · have t0' : (300 : Int) < (n : Int) := by omega
    clear CC hao
    go_enter Try.func3, Try.ntmps3
    go_wp2_with fail
    refine (SH.out _).mono ?_
    rintro e w1 ⟨rfl, g1⟩
    go_wp2_with fail
    go_ret
    exact ⟨rfl, g1⟩
  · have t0' : ¬ (300 : Int) < (n : Int) := by omega
    have EE : Hid _ := fun bo c hc W h => CC.ends eps bo n c f p0 p1 (by omega) hc W h
    have RE : Hid _ := fun W h => rends_any eps ao n cp f p0 p1 (by omega) W h
    clear CC
    obtain ⟨ii, hii, hz, hs, hby⟩ := info_parts info_k
    obtain ⟨jj, hjj, jz, js, jby⟩ := info_parts info_i
    have A : Hid (ao = none → n = 0 ∧ cp = 0) := hao
    clear hao
    go_enter Try.func3, Try.ntmps3
    go_wp2_with fail
    refine (SH.out _).mono ?_
    rintro e w1 ⟨rfl, g1⟩
    have G1 : Aside (Gw w w1) := g1
    have hO' : Hid ((w1.alloc (.cells #[] 24)).ownsRow w1.heap.size 24 1 (.slice (some ⟨w1.heap.size, 0, none⟩) 0 0) 0 []) := World.ownsRow_made w1 #[] 0 (Nat.le_refl _) (Nat.zero_le _) rfl
    have G0' : Hid (Gw w (w1.alloc (.cells #[] 24))) := g1.alloc _ _
    have hK' : Hid (∀ ad, ao = some ad → ∀ j u, ((List.range n).map fun i => Value.int .u64 (f i))[j]? = some u → (w1.alloc (.cells #[] 24)).cell? (ad.add j) = some u) := ks_news (HK.out.gw G0'.out)
    clear g1
    go_wp2_with (at_builtin; refine wpList_append_src _ rfl _ _ 22 rfl w1.heap.size 24 ii (.int .u64 0) 1 8 Try.underlying22 hii hz hs hby rfl (by decide) _ 0 [] rfl hO'.out ao n cp ((List.range n).map fun i => Value.int .u64 (f i)) rfl A.out (by simp) hK'.out (keys_one n f) (by simp only [maxLen]; omega) (by omega) (by simp) ?_)
    intro v' w2 q1 q2 q3
    obtain ⟨b, cap, rfl, hb, hcap, hb2⟩ := own_slice q1 q3
    have Q1 : Hid (w2.ownsRow w1.heap.size 24 1 (.slice (some ⟨b, 0, none⟩) n cap) n ((List.range n).map fun i => Value.int .u64 (f i))) := q1
    have Q2 : Hid (Gw w w2) := G0'.out.grown q2 (fun q hq => by cases hq; exact G1.out.size)
    have hb' : w.heap.size ≤ b := Nat.le_trans G1.out.size hb
    clear q1 q2 q3 hO' hK' G0'
    go_wp2_with (at_builtin; refine wpList_append_own _ rfl _ _ 22 rfl w1.heap.size 24 ii (.int .u64 0) 1 8 Try.underlying22 hii hz hs hby rfl (by decide) _ n _ rfl (Q1.out.alloc _) ⟨w2.heap.size, 0, none⟩ 1 1 [.int .u64 77] rfl rfl (new_one w2 77) (ints_oneCell .u64 [77]) (by simp only [maxLen]; omega) (by omega) (by simp; omega) ?_)
    intro v' w3 q1 q2 q3
    obtain ⟨b3, cap3, rfl, hb3, hcap3, hb4⟩ := own_slice q1 q3
    have G3 : Aside (Gw w w3) := (Q2.out.alloc _ _).grown q2 (fun q hq => by cases hq; exact hb')
    have K3 : Aside (KS w3 (some ⟨b3, 0, none⟩) n f) := ks_own q1 (by omega) (fun i hi => by rw [List.getElem?_append_left (by simpa using hi)]; simp [hi]) HK.out.bd
    have c3 : w3.cell? ⟨b3, n, none⟩ = some (.int .u64 77) := by
      rw [q1.cellAt n (by omega), List.getElem?_append_right (by simp)]
      simp
    have C77 : Aside (∀ w', Gw w3 w' → w'.cell? ⟨b3, n, none⟩ = some (.int .u64 77) ∧ b3 < w'.heap.size) := fun w' g => ⟨(g.cell _ _ hb4).trans c3, Nat.lt_of_lt_of_le hb4 g.size⟩
    have nc3 : n ≤ cap3 := by omega
    clear q1 q2 q3 Q1 Q2 c3 hb hb' hb2 hcap hb3 G1
    go_wp2_with fail
    refine (EE.out _ _ nc3 _ K3.out).mono ?_
    rintro e w4 ⟨⟨va, la, erra, rfl, hE, hI⟩, g4⟩
    have EA : Aside (EndsR eps f n la erra) := hE
    have IA : Aside (IR w4 w3.heap.size va la) := hI
    have G4 : Aside (Gw w3 w4) := g4
    clear hE hI g4
    obtain ⟨bo, capa, rfl, _⟩ := ir_ls IA.out
    go_wp2_with fail
    refine (RE.out _ (HK.out.gw (G3.out.trans G4.out))).mono ?_
    rintro e w5 ⟨⟨vw, lw, errw, rfl, hE, hI⟩, g5⟩
    obtain ⟨rfl, rfl⟩ := hE.one EA.out
    have llw : lw.length ≤ 300 := by
      rcases EA.out with ⟨_, e, _⟩ | ⟨_, _, e, _⟩ | ⟨_, _, e, _⟩
      · rw [e]; simp
      · rw [e]; simp
      · have := e.len; omega
    have IW : Aside (IR w5 w4.heap.size vw lw) := hI
    have G5 : Aside (Gw w3 w5) := G4.out.trans g5
    have IA5 : Aside (IR w5 w3.heap.size (.slice bo lw.length capa) lw) := ir_gw IA.out g5
    have AB : Aside (∀ q, bo = some q → q.block < w4.heap.size) := fun q hq => by
      subst hq
      exact (ir_lt IA.out q.block rfl).2
    clear hE hI g5 IA
    obtain ⟨bow, capw, rfl, _⟩ := ir_ls IW.out
    go_wp2_with fail
    obtain ⟨_, _, e1, hL1⟩ := ir_ls IA5.out
    obtain ⟨_, _, e2, hL2⟩ := ir_ls IW.out
    cases e1
    cases e2
    refine (same_any bo bow capa capw lw lw (by omega) (by omega) _ hL1 hL2).mono ?_
    rintro e w6 ⟨rfl, g6⟩
    have dt : decide (lw = lw) = true := by simp
    rw [dt]
    have G6 : Aside (Gw w3 w6) := G5.out.trans g6
    have IA6 : Aside (IR w6 w3.heap.size (.slice bo lw.length capa) lw) := ir_gw IA5.out g6
    have IW6 : Aside (IR w6 w4.heap.size (.slice bow lw.length capw) lw) := ir_gw IW.out g6
    clear hL1 hL2 g6 IA5 IW G5
    obtain ⟨c77, b77⟩ := C77.out w6 G6.out
    have n77 : n < n + 1 := by omega
    go_wp2_with fail
    have GK : Aside (Gw w w6) := G3.out.trans G6.out
    clear c77 b77
    obtain ⟨m, hm⟩ : ∃ m, lw.length = m := ⟨_, rfl⟩
    have EL : Aside (lw.length = m) := hm
    rw [hm] at llw ⊢
    clear hm
    go_loopg [11] n (fun gg s11 wr => ∃ i : Nat, s11 = .int .i64 i ∧ i ≤ n ∧ n - i ≤ gg ∧ Aside (Gw w6 wr))
    case atStart => exact ⟨0, rfl, Nat.zero_le _, by omega, (show Aside _ from Gw.refl w6)⟩
    case round =>
      obtain ⟨i, rfl, h1, h2, G⟩ := hrel
      by_cases hlt : i < n
      · obtain ⟨bk, off, rfl, hbk, hc⟩ := (HK.out.gw (GK.out.trans G.out)).cells (by omega)
        obtain ⟨b', off', e', hbk', hc'⟩ := (K3.out.gw (G6.out.trans G.out)).cells (by omega)
        cases e'
        have q1 := hc i hlt
        have q2 := hc' i hlt
        clear hc hc'
        obtain ⟨fi, hfi⟩ : ∃ y, f i = y := ⟨_, rfl⟩
        rw [hfi] at q1 q2
        rw [Nat.zero_add] at q2
        clear hfi
        have ti : (i : Int) < ((n + 1 : Nat) : Int) := by omega
        have ti' : i < n + 1 := by omega
        go_wp2_with fail
        go_quiet (fail)
        go_wp2_with fail
        go_roundg (n - (i + 1))
        case measure => omega
        case rel => exact ⟨i + 1, by go_num, by omega, Nat.le_refl _, (show Aside _ from G.out.drewN _)⟩
      · have ei : i = n := by omega
        subst ei
        have I7 : Aside (IR wr w3.heap.size (.slice bo m capa) lw) := by rw [← EL.out]; exact ir_gw IA6.out G.out
        have W7 : Aside (IR wr w4.heap.size (.slice bow m capw) lw) := by rw [← EL.out]; exact ir_gw IW6.out G.out
        have R7 : Aside (wr.ownsRow w3.heap.size 3 1 (.slice bo m capa) m ((List.replicate 0 (Value.int .i64 (-9))) ++ (lw.map fun (j : Nat) => Value.int .i64 (j : Int)).drop 0)) := by
          have := I7.out
          rw [IR, EL.out] at this
          show World.ownsRow _ _ _ _ _ _ _
          simpa using this
        have G7 : Aside (Gw w3 wr) := G6.out.trans G.out
        clear I7 IA6 IW6 G6 GK G
        go_wp2_with fail
        go_loopg [12] m (fun gg s12 wq => ∃ k : Nat, s12 = .int .i64 k ∧ k ≤ m ∧ m - k ≤ gg ∧ Aside (wq.ownsRow w3.heap.size 3 1 (.slice bo m capa) m ((List.replicate k (Value.int .i64 (-9))) ++ (lw.map fun (j : Nat) => Value.int .i64 (j : Int)).drop k)) ∧ Aside (IR wq w4.heap.size (.slice bow m capw) lw) ∧ Aside (Gw w3 wq))
        case atStart => exact ⟨0, rfl, Nat.zero_le _, by omega, R7, W7, G7⟩
        case round =>
          clear R7 W7 G7
          obtain ⟨k, rfl, k1, k2, R, W, G⟩ := hrel
          by_cases hk : k < m
          · obtain ⟨g, cg, eg, hgb, _, hgl⟩ := own_slice R.out (fun q => by cases q; omega)
            cases eg
            have gne : ∀ q, (Value.slice bow m capw).ownBlock = some q → q ≠ g := fun q hq => by
              have h1 := (ir_lt W.out q hq).1
              have h2 := AB.out _ rfl
              show q ≠ g
              intro e
              subst e
              exact absurd h1 (Nat.not_le_of_lt h2)
            have r0 := R.out.cellAt k (by omega)
            have f0 : wr.frozen? ⟨g, k, none⟩ = false := by
              rcases R.out.2 with ⟨e, _⟩ | ⟨g', cap', cur, e, _, hh, _⟩
              · cases e
              · cases e
                simp [World.frozen?, hh]
            have c0 : ∃ u, wr.cell? ⟨g, k, none⟩ = some u := by
              rw [r0]
              have hl : k < ((List.replicate k (Value.int .i64 (-9))) ++ (lw.map fun (j : Nat) => Value.int .i64 (j : Int)).drop k).length := by simp [EL.out]; omega
              exact ⟨_, List.getElem?_eq_getElem hl⟩
            obtain ⟨u, cu⟩ := c0
            have R8 : Aside ((wr.setCell ⟨g, k, none⟩ (.int .i64 (-9))).ownsRow w3.heap.size 3 1 (.slice (some ⟨g, 0, none⟩) m capa) m ((List.replicate (k + 1) (Value.int .i64 (-9))) ++ (lw.map fun (j : Nat) => Value.int .i64 (j : Int)).drop (k + 1))) := by
              have := own_set R.out k hk (.int .i64 (-9)) rfl
              have e : ((List.replicate k (Value.int .i64 (-9))) ++ (lw.map fun (j : Nat) => Value.int .i64 (j : Int)).drop k).set k (.int .i64 (-9)) = (List.replicate (k + 1) (Value.int .i64 (-9))) ++ (lw.map fun (j : Nat) => Value.int .i64 (j : Int)).drop (k + 1) := by
                rw [List.set_append_right _ _ (by simp)]
                have hd : (lw.map fun (j : Nat) => Value.int .i64 (j : Int)).drop k = (lw.map fun (j : Nat) => Value.int .i64 (j : Int))[k]'(by simp [EL.out]; exact hk) :: (lw.map fun (j : Nat) => Value.int .i64 (j : Int)).drop (k + 1) := List.drop_eq_getElem_cons _
                rw [hd, List.replicate_succ']
                simp
              rw [e] at this
              exact this
            have W8 : Aside (IR (wr.setCell ⟨g, k, none⟩ (.int .i64 (-9))) w4.heap.size (.slice bow m capw) lw) := ir_keep W.out fun q hq => Go.Deep.blk_setCell_other _ _ _ _ (gne q hq)
            have G8 : Aside (Gw w3 (wr.setCell ⟨g, k, none⟩ (.int .i64 (-9)))) := G.out.setCell (show w3.heap.size ≤ g from hgb) _
            have hkm : (k : Int) < (m : Int) := by omega
            clear R W G r0 gne
            go_wp2_with fail
            go_roundg (m - (k + 1))
            case measure => omega
            case rel => exact ⟨k + 1, by go_num, by omega, Nat.le_refl _, R8, W8, G8⟩
          · have ek : k = m := by omega
            subst ek
            have z0 := G.out.size
            have gne : Aside (∀ q q', (Value.slice bow k capw).ownBlock = some q → (Value.slice bo k capa).ownBlock = some q' → q ≠ q') := fun q q' hq hq' => by
              have h1 := (ir_lt W.out q hq).1
              cases bo with
              | none => cases hq'
              | some ad =>
                cases hq'
                have h2 := AB.out ad rfl
                intro e
                subst e
                exact absurd h1 (Nat.not_le_of_lt h2)
            go_wp2_with (at_builtin; refine wpList_append_own _ rfl _ _ 25 rfl w3.heap.size 3 jj (.int .i64 0) 1 8 Try.underlying25 hjj jz js jby rfl (by decide) _ k _ rfl (R.out.alloc _) ⟨wr.heap.size, 0, none⟩ 1 1 [.int .i64 (-8)] rfl rfl (new_i wr (-8)) (ints_oneCell .i64 [-8]) (by simp only [maxLen]; omega) (by omega) (by simp; omega) ?_)
            intro v' w8 r1 r2 r3
            obtain ⟨g8, c8, rfl, hg8, _, hl8⟩ := own_slice r1 (by simpa using r3)
            have m8 : w8.cell? ⟨g8, k, none⟩ = some (.int .i64 (-8)) := by
              rw [r1.cellAt k (by omega), List.getElem?_append_right (by simp)]
              simp [EL.out]
            have C8 : Aside (∀ w', Gw w8 w' → w'.cell? ⟨g8, k, none⟩ = some (.int .i64 (-8)) ∧ g8 < w'.heap.size) := fun w' g => ⟨(g.cell _ _ hl8).trans m8, Nat.lt_of_lt_of_le hl8 g.size⟩
            have ra : ∀ q, (Value.slice bo k capa).ownBlock = some q → w3.heap.size ≤ q := fun q hq => (R.out.lt q hq).1
            have G8 : Aside (Gw w3 w8) := (G.out.alloc _ _).grown r2 (fun q hq => ra q hq)
            have W8 : Aside (IR w8 w4.heap.size (.slice bow k capw) lw) := ir_keep (ir_gw W.out ((Gw.refl wr).alloc #[.int .i64 (-8)] 3)) fun q hq => r2.block q (by have := (ir_lt W.out q hq).2; simp; omega) (fun e => gne.out q q hq e.symm rfl)
            clear r1 r2 r3 R W G m8 ra gne
            go_wp2_with fail
            refine (EE.out _ _ nc3 _ (K3.out.gw G8.out)).mono ?_
            rintro e w9 ⟨⟨vb, lb, errb, rfl, hE, hI⟩, g9⟩
            obtain ⟨rfl, rfl⟩ := hE.one EA.out
            obtain ⟨bob, capb, rfl, hLb⟩ := ir_ls hI
            have B9 : Aside (LS w9 bob lb) := hLb
            have W9 : Aside (LS w9 bow lb) := by
              obtain ⟨_, _, e2, hL2⟩ := ir_ls W8.out
              cases e2
              exact hL2.gw g9
            have G9 : Aside (Gw w8 w9) := g9
            have LE : Aside (lb.length ≤ 4000000) := by rw [EL.out]; show _ ≤ _; omega
            clear hE hI hLb g9 W8 EA
            go_wp2_with fail
            rw [← EL.out]
            refine (same_any bob bow capb capw lb lb LE.out LE.out _ B9.out W9.out).mono ?_
            rintro e w10 ⟨rfl, g10⟩
            have dt9 : decide (lb = lb) = true := by simp
            rw [dt9]
            obtain ⟨c10, l10⟩ := C8.out w10 (G9.out.trans g10)
            have GF : Aside (Gw w w10) := ((G3.out.trans G8.out).trans G9.out).trans g10
            rw [EL.out]
            clear g10 B9 W9 LE
            go_wp2_with fail
            go_ret
            exact ⟨rfl, GF.out⟩

end Go.Proofs.Ytlocnkoeffoflaa
