/- MergeEntries: the walk. -/
import Derived.Test.YtnkcnfpbbdlifaaGC
namespace Go.Proofs.Ytnkcnfpbbdlifaa
open Go.RowKit
set_option linter.unusedVariables false

def e99 : Ent := ⟨9, 9, false⟩
def e8 : Ent := ⟨8, 0, false⟩
/-- The first i are turned. -/
def turned (o : List Ent) (i : Nat) : List Ent := List.replicate i e99 ++ o.drop i
theorem turned_len {o : List Ent} {i : Nat} (h : i ≤ o.length) : (turned o i).length = o.length := by
  unfold turned
  rw [List.length_append, List.length_replicate, List.length_drop]
  omega
theorem turned_next {o : List Ent} {i : Nat} (h : i < o.length) : (turned o i).set i e99 = turned o (i + 1) := by
  unfold turned
  have e : o.drop i = o[i] :: o.drop (i + 1) := (List.drop_eq_getElem_cons h)
  rw [e, List.set_append, if_neg (by simp), List.length_replicate, Nat.sub_self, List.set_cons_zero, List.replicate_succ', List.append_assoc]
  rfl
set_option maxRecDepth 10000 in
set_option maxHeartbeats 8000000 in
theorem entries_walk (MC : MergeC) (ao : Option Addr) (c : Nat) (L : List (List Ent)) (hl : L.length ≤ 2000000) (hs : ∀ i, i < L.length → (L.getD i []).length ≤ 2000000) (hN : sizes L ≤ 2000000) (w : World) (h : EV w ao L) :
    Calls Try.prog 3 #[.slice ao L.length c] w fun e w' => e = .returned (.bool true) ∧ Gw w w' := by
  have M : Hid MergeC := MC
  have HE : Hid (EV w ao L) := h
  have HS : Hid (∀ i, i < L.length → (L.getD i []).length ≤ 2000000) := hs
  have ES : Hid (∀ (W : World) (ob : Nat) (oc : Nat), L.length ≤ oc → EX W (some ⟨ob, 0, none⟩) L → Calls Try.prog 12 #[.slice (some ⟨ob, 0, none⟩) L.length oc] W fun e w' => (∃ bo oc o, e = .returned (.slice bo o.length oc) ∧ EO w' W.heap.size (.slice bo o.length oc) o ∧ Mg Ent.k L o) ∧ Gw W w') := fun W ob oc hc hx => M.out.entries (some ⟨ob, 0, none⟩) oc L hl hs hN hc (fun q => by cases q) W hx.ev
  have CO : Hid (∀ W, EV W ao L → _) := fun W hh => copied13 ao c L hl hs W hh
  have RE : Hid (∀ W, EV W ao L → _) := fun W hh => rentries13 ao c L hl hs hN W hh
  have AW : Hid (∀ (oo : Option Addr) (oc : Nat) (W : World), EX W oo L → EV W ao L → Calls Try.prog 14 #[.slice oo L.length oc, .slice ao L.length c] W fun e w' => e = .returned (.bool true) ∧ Gw W w') := fun oo oc W h1 h2 => asWere13 oo oc ao c L hl hs W h1 h2
  have OKS : Hid (∀ o, Mg Ent.k L o → ∀ e ∈ o, e.ok) := fun o ho => ho.oks HE.out.oks
  have FEW : Hid (∀ o, Mg Ent.k L o → o.length ≤ 2000000) := fun o ho => Nat.le_trans ho.few hN
  obtain ⟨ln, hln⟩ : ∃ ln, L.length = ln := ⟨_, rfl⟩
  rw [hln] at ES CO RE AW ⊢
  have LN : Hid (L.length = ln) := hln
  clear h hs hln MC hl hN
  obtain ⟨ii, hii, hz, hs', hby⟩ := info_parts info_e
  go_enter Try.func3, Try.ntmps3
  go_wp2_with fail
  refine Calls.mono (M.out.shown w) ?_
  rintro e w1 ⟨rfl, g1⟩
  have G1 : Hid (Gw w w1) := g1
  clear g1
  go_wp2_with fail
  refine Calls.mono (CO.out w1 (HE.out.gw G1.out)) ?_
  rintro e w2 ⟨⟨ob, oc, rfl, ex, loc⟩, g2⟩
  have X2 : Hid (EX w2 (some ⟨ob, 0, none⟩) L) := ex
  have G2 : Hid (Gw w w2) := G1.out.trans g2
  have LOC : Hid (ln ≤ oc) := loc
  clear ex g2 loc CO
  go_wp2_with fail
  refine Calls.mono (RE.out w2 (HE.out.gw G2.out)) ?_
  rintro e w3 ⟨⟨wb, wc, o, rfl, eo, mg⟩, g3⟩
  have MG : Hid (Mg Ent.k L o) := mg
  have W3 : Hid (EL w3 (some ⟨wb, 0, none⟩) o) := eo_el eo (OKS.out o mg)
  have X3 : Hid (EX w3 (some ⟨ob, 0, none⟩) L) := X2.out.gw g3
  have G3 : Hid (Gw w w3) := G2.out.trans g3
  have on := FEW.out o mg
  clear eo mg g3 RE X2
  go_wp2_with fail
  refine Calls.mono (ES.out w3 ob oc LOC.out X3.out) ?_
  rintro e w4 ⟨⟨bo, ac, o', rfl, eo, mg⟩, g4⟩
  have eq : o' = o := mg.one MG.out
  subst eq
  have E4 : Hid (EO w4 w3.heap.size (.slice bo o'.length ac) o') := eo
  have G34 : Hid (Gw w3 w4) := g4
  clear eo mg g4
  have S1 := same13 bo (some ⟨wb, 0, none⟩) ac wc o' (by omega) w4 (eo_el E4.out (OKS.out o' MG.out)) (W3.out.gw G34.out)
  have S2 : Hid (∀ W bo bc, Gw w3 W → EL W bo o' → Calls Try.prog 13 #[.slice bo o'.length bc, .slice (some ⟨wb, 0, none⟩) o'.length wc] W fun e w' => e = .returned (.bool true) ∧ Gw W w') := fun W bo bc gg hh => same13 bo (some ⟨wb, 0, none⟩) bc wc o' (by omega) W hh (W3.out.gw gg)
  obtain ⟨n, hn⟩ : ∃ n, o'.length = n := ⟨_, rfl⟩
  have NL : Hid (o'.length = n) := hn
  rw [hn] at S1 S2 E4 on ⊢
  have S1H : Hid (Calls Try.prog 13 #[.slice bo n ac, .slice (some ⟨wb, 0, none⟩) n wc] w4 fun e w' => e = .returned (.bool true) ∧ Gw w4 w') := S1
  clear S1 hn
  go_wp2_with fail
  refine Calls.mono S1H.out ?_
  rintro e w5 ⟨rfl, g5⟩
  have G35 : Hid (Gw w3 w5) := G34.out.trans g5
  have E5 : Hid (EO w5 w3.heap.size (.slice bo n ac) o') := eo_gw E4.out g5
  clear g5 S1H E4 G34
  go_wp2_with fail
  refine Calls.mono (AW.out _ oc w5 (X3.out.gw G35.out) (HE.out.gw (G3.out.trans G35.out))) ?_
  rintro e w6 ⟨rfl, g6⟩
  have G36 : Hid (Gw w3 w6) := G35.out.trans g6
  have E6 : Hid (EO w6 w3.heap.size (.slice bo n ac) (turned o' 0)) := eo_gw E5.out g6
  clear g6 E5 G35
  go_wp2_with fail
  go_loopg [7] n (fun gg s7 wr => ∃ i : Nat, s7 = .int .i64 (i : Int) ∧ i ≤ n ∧ n - i ≤ gg ∧ Aside (EO wr w3.heap.size (.slice bo n ac) (turned o' i)) ∧ Aside (Gw w3 wr))
  case atStart => exact ⟨0, rfl, Nat.zero_le _, by omega, (show Aside _ from E6.out), (show Aside _ from G36.out)⟩
  case round =>
    clear E6 G36
    obtain ⟨i, rfl, a1, a2, E, G⟩ := hrel
    by_cases ilt : i < n
    · have ilt' : (i : Int) < (n : Int) := by omega
      have TL : (turned o' i).length = n := by rw [turned_len (by rw [NL.out]; omega), NL.out]
      obtain ⟨b, rfl, hb1, hb2, hfz, hcs⟩ := eo_form E.out TL (by omega)
      obtain ⟨c0, c1, c2⟩ := hcs i ilt
      have f0 := hfz (i * 3)
      have f1 := hfz (i * 3 + 1)
      have f2 := hfz (i * 3 + 2)
      have E7 : Aside (EO (put3 wr b (i * 3) e99) w3.heap.size (.slice (some ⟨b, 0, none⟩) n ac) (turned o' (i + 1))) := by
        rw [← turned_next (by rw [NL.out]; exact ilt)]
        exact eo_put E.out TL (by rw [TL]; exact ilt) e99
      have G7 : Aside (Gw w3 (put3 wr b (i * 3) e99)) := ((G.out.setCell hb1 _).setCell hb1 _).setCell hb1 _
      clear hcs hfz TL
      go_wp2_with fail
      go_roundg (n - (i + 1))
      case measure => omega
      case rel => exact ⟨i + 1, by go_num, by omega, Nat.le_refl _, E7, G7⟩
    · have ei : i = n := by omega
      subst ei
      have TL : Aside ((turned o' i).length = i) := by
        show _ = _
        rw [turned_len (by rw [NL.out]; omega), NL.out]
      have EOW : Aside (wr.ownsRow w3.heap.size 32 3 (.slice bo i ac) i ((turned o' i).flatMap ent3)) := by
        have := E.out
        unfold EO at this
        rw [TL.out] at this
        exact this
      have wz := G.out.size
      go_wp2_with (at_builtin; refine wpList_append_own _ rfl _ _ 25 rfl w3.heap.size 32 ii (.agg #[.int .u64 0, .int .u64 0, .bool false]) 3 24 Try.underlying25 hii hz hs' hby rfl (by decide) _ i _ rfl (EOW.out.alloc _) ⟨wr.heap.size, 0, none⟩ 1 1 (ent3 e8) rfl rfl (new_ent wr e8) (ent3_one _) (by simp only [maxLen]; omega) (by omega) (by simp; omega) ?_)
      intro v' w7 r1 r2 r3
      obtain ⟨b7, c7, rfl, hb7, _, _⟩ := own_slice r1 (by simpa using r3)
      have G37 : Hid (Gw w3 w7) := (G.out.alloc _ _).grown r2 (fun q hq => (World.ownsRow.lt EOW.out q hq).1)
      have E7 : Hid (EO w7 w3.heap.size (.slice (some ⟨b7, 0, none⟩) (i + 1) c7) (turned o' i ++ [e8])) := eo_more (by rw [TL.out]; exact r1)
      clear r1 r2 r3 E EOW G hb7
      go_wp2_with fail
      refine Calls.mono (ES.out w7 ob oc LOC.out (X3.out.gw G37.out)) ?_
      rintro e w8 ⟨⟨bo8, c8, o8, rfl, eo8, mg8⟩, g8⟩
      have eq8 : o8 = o' := mg8.one MG.out
      subst eq8
      have E8 : Hid (EL w8 bo8 o8) := eo_el eo8 (OKS.out o8 MG.out)
      have G38 : Hid (Gw w3 w8) := G37.out.trans g8
      have G78 : Hid (Gw w7 w8) := g8
      clear eo8 mg8 g8
      have e8n := NL.out
      rw [e8n]
      clear e8n
      go_wp2_with fail
      refine Calls.mono (S2.out w8 bo8 c8 G38.out E8.out) ?_
      rintro e w9 ⟨rfl, g9⟩
      have G39 : Hid (Gw w3 w9) := G38.out.trans g9
      have G79 : Hid (Gw w7 w9) := G78.out.trans g9
      clear g9 G38 G78 E8
      go_wp2_with fail
      refine Calls.mono (AW.out _ oc w9 (X3.out.gw G39.out) (HE.out.gw (G3.out.trans G39.out))) ?_
      rintro e w10 ⟨rfl, g10⟩
      have G710 : Hid (Gw w7 w10) := G79.out.trans g10
      have G310 : Hid (Gw w3 w10) := G39.out.trans g10
      obtain ⟨b, eb, hb1, hb2, hfz, hcs⟩ := eo_form (eo_gw E7.out G710.out) (by rw [List.length_append, TL.out]; rfl) (by omega)
      cases eb
      obtain ⟨c0, _, _⟩ := hcs i (by omega)
      have ke : ((turned o8 i ++ [e8]).getD i ent0).k = 8 := by
        rw [List.getD_eq_getElem?_getD, List.getElem?_append_right (by rw [TL.out]; exact Nat.le_refl _), TL.out, Nat.sub_self]
        rfl
      rw [ke] at c0
      clear hcs hfz ke g10
      go_wp2_with fail
      go_ret
      exact ⟨rfl, G3.out.trans G310.out⟩
end Go.Proofs.Ytnkcnfpbbdlifaa
