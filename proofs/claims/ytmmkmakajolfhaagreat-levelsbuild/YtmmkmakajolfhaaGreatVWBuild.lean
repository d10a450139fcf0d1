/- LevelsBuild's walk. -/
import Derived.Test.YtmmkmakajolfhaaGreatPVo
import Derived.Test.YtmmkmakajolfhaaGreatVSame
import Derived.Test.YtmmkmakajolfhaaGreatVBuild
import Derived.Test.YtmmkmakajolfhaaGreatVShown
namespace Go.Proofs.YtmmkmakajolfhaaGreat
open Go.RowKit
set_option linter.unusedVariables false
attribute [local go_sem] run_store_float

/-- How long levels are that were built of few keys. -/
theorem BuildE.few {eps : Int} {f : Nat → Int} {n : Nat} {L : List (List Sg)} {err : Int} (h : BuildE eps f n L err) (n1 : n ≤ 2000000) (bd : ∀ t, t < n → 0 ≤ f t ∧ f t < 18446744073709551616) : L.length ≤ 2000000 ∧ ∀ i, i < L.length → (L.getD i []).length ≤ 2000000 := by
  rcases h with ⟨_, rfl, _⟩ | ⟨_, _, rfl, _⟩ | ⟨k, u, b, _⟩
  · exact ⟨by simp, fun i hi => by simp at hi⟩
  · exact ⟨by simp, fun i hi => by simp at hi⟩
  · refine ⟨?_, fun i hi => by have := b.short n1 bd u i hi; omega⟩
    have a := b.low k.1 n1 bd u
    have c := hgt_le (e := eps.toNat) (by omega) n
    omega

def s9 : Sg := ⟨0, 0, 0, -9, 0⟩
def s8 : Sg := ⟨0, 0, 0, -8, 0⟩

set_option maxRecDepth 10000 in
set_option maxHeartbeats 16000000 in
theorem build8_walk (LL : LevelsC) (BO : BuildOwn) (O5 : Of5C) (ao : Option Addr) (n cp : Nat) (f : Nat → Int) (eps : Int) (e0 : -9223372036854775808 ≤ eps) (e1 : eps < 9223372036854775808) (hn : n * 8 ≤ 140737488351232) (hcp : n ≤ cp) (hao : ao = none → n = 0 ∧ cp = 0) (w : World) (h : KS w ao n f) :
    Calls Tryz.prog 3 #[.slice ao n cp, .int .i64 eps] w fun e w' => e = .returned (.bool true) ∧ Gw w w' := by
  have HK : Aside (KS w ao n f) := h
  clear h
  have SH : Hid (∀ W, Calls Tryz.prog 4 #[] W fun e w' => e = .returned (.bool true) ∧ Gw W w') := fun W => shown8 LL W
  clear LL
  by_cases h300 : 300 < n
  · have t0' : (300 : Int) < (n : Int) := by omega
    clear hao BO O5
    go_enter Tryz.func3, Tryz.ntmps3
    go_wp2_with fail
    refine (SH.out _).mono ?_
    rintro e w1 ⟨rfl, g1⟩
    go_wp2_with fail
    go_ret
    exact ⟨rfl, g1⟩
  have t0' : ¬ (300 : Int) < (n : Int) := by omega
  have EE : Hid _ := fun bo c hc W h => BO eps bo n c f e0 e1 (by omega) hc W h
  have RE : Hid _ := fun W h => rbuild_any O5 eps ao n cp f e0 e1 (by omega) hcp W h
  clear BO O5
  obtain ⟨ii, hii, hz, hs, hby⟩ := info_parts info_k
  obtain ⟨jj, hjj, jz, js, jby⟩ := info_parts info_sg
  have A : Hid (ao = none → n = 0 ∧ cp = 0) := hao
  clear hao
  go_enter Tryz.func3, Tryz.ntmps3
  go_wp2_with fail
  refine (SH.out _).mono ?_
  rintro e w1 ⟨rfl, g1⟩
  have G1 : Aside (Gw w w1) := g1
  have hO' : Hid ((w1.alloc (.cells #[] 24)).ownsRow w1.heap.size 24 1 (.slice (some ⟨w1.heap.size, 0, none⟩) 0 0) 0 []) := World.ownsRow_made w1 #[] 0 (Nat.le_refl _) (Nat.zero_le _) rfl
  have G0' : Hid (Gw w (w1.alloc (.cells #[] 24))) := g1.alloc _ _
  have hK' : Hid (∀ ad, ao = some ad → ∀ j u, ((List.range n).map fun i => Value.int .u64 (f i))[j]? = some u → (w1.alloc (.cells #[] 24)).cell? (ad.add j) = some u) := ks_news (HK.out.gw G0'.out)
  clear g1
  go_wp2_with (at_builtin; refine wpList_append_src _ rfl _ _ 22 rfl w1.heap.size 24 ii (.int .u64 0) 1 8 Tryz.underlying22 hii hz hs hby rfl (by decide) _ 0 [] rfl hO'.out ao n cp ((List.range n).map fun i => Value.int .u64 (f i)) rfl A.out (by simp) hK'.out (keys_one n f) (by simp only [maxLen]; omega) (by omega) (by simp) ?_)
  intro v' w2 q1 q2 q3
  obtain ⟨b, cap, rfl, hb, hcap, hb2⟩ := own_slice q1 q3
  have Q1 : Hid (w2.ownsRow w1.heap.size 24 1 (.slice (some ⟨b, 0, none⟩) n cap) n ((List.range n).map fun i => Value.int .u64 (f i))) := q1
  have Q2 : Hid (Gw w w2) := G0'.out.grown q2 (fun q hq => by cases hq; exact G1.out.size)
  have hb' : w.heap.size ≤ b := Nat.le_trans G1.out.size hb
  clear q1 q2 q3 hO' hK' G0'
  go_wp2_with (at_builtin; refine wpList_append_own _ rfl _ _ 22 rfl w1.heap.size 24 ii (.int .u64 0) 1 8 Tryz.underlying22 hii hz hs hby rfl (by decide) _ n _ rfl (Q1.out.alloc _) ⟨w2.heap.size, 0, none⟩ 1 1 [.int .u64 77] rfl rfl (new_one w2 77) (ints_oneCell .u64 [77]) (by simp only [maxLen]; omega) (by omega) (by simp; omega) ?_)
  intro v' w3 q1 q2 q3
  obtain ⟨b3, cap3, rfl, hb3, hcap3, hb4⟩ := own_slice q1 q3
  have G3 : Aside (Gw w w3) := (Q2.out.alloc _ _).grown q2 (fun q hq => by cases hq; exact hb')
  have K3 : Aside (KS w3 (some ⟨b3, 0, none⟩) n f) := ks_own q1 (by omega) (fun i hi => by rw [List.getElem?_append_left (by simpa using hi)]; simp [hi]) HK.out.bd
  have c3 : w3.cell? ⟨b3, n, none⟩ = some (.int .u64 77) := by
    rw [q1.cellAt n (by omega), List.getElem?_append_right (by simp)]
    simp
  have C77 : Aside (∀ w', Gw w3 w' → w'.cell? ⟨b3, n, none⟩ = some (.int .u64 77) ∧ b3 < w'.heap.size) := fun w' g => ⟨(g.cell _ _ hb4).trans c3, Nat.lt_of_lt_of_le hb4 g.size⟩
  have nc3 : n ≤ cap3 := by omega
  clear q1 q2 q3 Q1 Q2 c3 hb hb' hb2 hcap hb3 G1
  go_wp2_with fail
  refine (EE.out _ _ nc3 _ K3.out).mono ?_
  rintro e w4 ⟨⟨lo, lc, L, err, vals, rfl, hE, hlc, hO, hk⟩, g4⟩
  have EA : Aside (BuildE eps f n L err) := hE
  have OA : Aside (OwnV w4 w3.heap.size (.slice lo L.length lc) L vals) := hO
  have OK : Aside (Lok L) := hk
  have G4 : Aside (Gw w3 w4) := g4
  clear hE hO hk g4
  have ST : Aside (L.length ≤ 2000000 ∧ ∀ i, i < L.length → (L.getD i []).length ≤ 2000000) := EA.out.few (by omega) HK.out.bd
  go_wp2_with fail
  refine (RE.out _ (HK.out.gw (G3.out.trans G4.out))).mono ?_
  rintro e w5 ⟨⟨lw, lcw, Lw, errw, rfl, hE, hV, hlw⟩, g5⟩
  obtain ⟨rfl, rfl⟩ := hE.one EA.out
  have VW : Aside (VSf w5 w4.heap.size lw Lw) := hV
  have G5 : Aside (Gw w3 w5) := G4.out.trans g5
  have OA5 : Aside (OwnV w5 w3.heap.size (.slice lo Lw.length lc) Lw vals) := OA.out.gw g5
  have BK : Aside ((∀ q, (Value.slice lo Lw.length lc).ownBlock = some q → w3.heap.size ≤ q ∧ q < w4.heap.size) ∧ ∀ j, j < Lw.length → ∀ q, (vals.getD j nilS).ownBlock = some q → w3.heap.size ≤ q ∧ q < w4.heap.size) := ⟨fun q hq => OA.out.outer.lt q hq, fun j hj q hq => sr_lt (OA.out.rows j hj) q hq⟩
  clear hE hV g5 OA
  have SA : Hid _ := fun W (h : VS W lo Lw) (h' : VS W lw Lw) => same8_any lo lw lc lcw Lw (by have := ST.out.1; omega) (fun i hi => by have := ST.out.2 i hi; omega) W h h'
  obtain ⟨m, hm⟩ : ∃ m, Lw.length = m := ⟨_, rfl⟩
  have LM : Aside (Lw.length = m) := hm
  have m2 : m ≤ 2000000 := by rw [← hm]; exact ST.out.1
  rw [hm] at hlc hlw SA ⊢
  clear hm
  go_wp2_with fail
  refine (SA.out _ (OA5.out.vsf OK.out).vs VW.out.vs).mono ?_
  rintro e w6 ⟨rfl, g6⟩
  have G6 : Aside (Gw w3 w6) := G5.out.trans g6
  have OA6 : Aside (OwnV w6 w3.heap.size (.slice lo Lw.length lc) Lw vals) := OA5.out.gw g6
  have VW6 : Aside (VSf w6 w4.heap.size lw Lw) := VW.out.gw g6
  clear g6 OA5 VW G5 SA
  obtain ⟨c77, b77⟩ := C77.out w6 G6.out
  have n77 : n < n + 1 := by omega
  go_wp2_with fail
  clear c77 b77
  go_loopg [11] n (fun gg s11 wr => ∃ i : Nat, s11 = .int .i64 i ∧ i ≤ n ∧ n - i ≤ gg ∧ Aside (Gw w6 wr))
  case atStart => exact ⟨0, rfl, Nat.zero_le _, by omega, (show Aside _ from Gw.refl w6)⟩
  case round =>
    obtain ⟨i, rfl, h1, h2, G⟩ := hrel
    by_cases hlt : i < n
    · obtain ⟨bk, off, rfl, hbk, hc⟩ := (HK.out.gw (G3.out.trans (G6.out.trans G.out))).cells (by omega)
      obtain ⟨b', off', e', hbk', hc'⟩ := (K3.out.gw (G6.out.trans G.out)).cells (by omega)
      cases e'
      have q1 := hc i hlt
      have q2 := hc' i hlt
      clear hc hc'
      obtain ⟨fi, hfi⟩ : ∃ y, f i = y := ⟨_, rfl⟩
      rw [hfi] at q1 q2
      rw [Nat.zero_add] at q2
      clear hfi
      have ti : (i : Int) < ((n + 1 : Nat) : Int) := by omega
      have ti' : i < n + 1 := by omega
      go_wp2_with fail
      go_quiet (fail)
      go_wp2_with fail
      go_roundg (n - (i + 1))
      case measure => omega
      case rel => exact ⟨i + 1, by go_num, by omega, Nat.le_refl _, (show Aside _ from G.out.drewN _)⟩
    · have ei : i = n := by omega
      subst ei
      have O7 : Aside (OwnV wr w3.heap.size (.slice lo Lw.length lc) Lw vals) := OA6.out.gw G.out
      have W7 : Aside (VSf wr w4.heap.size lw Lw) := VW6.out.gw G.out
      have G7 : Aside (Gw w3 wr) := G6.out.trans G.out
      clear OA6 VW6 G6 G
      have AP : Aside (∀ j, j < m → ∀ q, (vals.getD j nilS).ownBlock = some q → (Value.slice lo m lc).ownBlock ≠ some q ∧ ∀ x, x < m → (vals.getD x nilS).ownBlock = some q → x = j) := by
        have := O7.out.apart
        rw [LM.out] at this
        exact this
      have R7 : Aside (∃ vs, wr.ownsRow w3.heap.size 30 1 (.slice lo m lc) m vs ∧ ∀ x, 0 ≤ x → x < m → vs.getD x nilS = vals.getD x nilS) := by
        have := O7.out.outer
        rw [LM.out] at this
        exact ⟨vals, this, fun _ _ _ => rfl⟩
      have S7 : Aside (∀ x, 0 ≤ x → x < m → SR wr w3.heap.size (vals.getD x nilS) (Lw.getD x [])) := fun x _ hx => O7.out.rows x (by rw [LM.out]; exact hx)
      have BK' : Aside ((∀ q, (Value.slice lo m lc).ownBlock = some q → w3.heap.size ≤ q ∧ q < w4.heap.size) ∧ ∀ j, j < m → ∀ q, (vals.getD j nilS).ownBlock = some q → w3.heap.size ≤ q ∧ q < w4.heap.size) := by
        have := BK.out
        rw [LM.out] at this
        exact this
      have ST' : Aside (∀ x, x < m → (Lw.getD x []).length ≤ 2000000) := fun x hx => ST.out.2 x (by rw [LM.out]; exact hx)
      clear O7 BK ST
      go_wp2_with fail
      go_loopg [12] m (fun gg s12 wq => ∃ j : Nat, s12 = .int .i64 j ∧ j ≤ m ∧ m - j ≤ gg ∧ Aside (∃ vs, wq.ownsRow w3.heap.size 30 1 (.slice lo m lc) m vs ∧ ∀ x, j ≤ x → x < m → vs.getD x nilS = vals.getD x nilS) ∧ Aside (∀ x, j ≤ x → x < m → SR wq w3.heap.size (vals.getD x nilS) (Lw.getD x [])) ∧ Aside (VSf wq w4.heap.size lw Lw) ∧ Aside (Gw w3 wq))
      case atStart => exact ⟨0, rfl, Nat.zero_le _, by omega, R7, S7, W7, G7⟩
      case round =>
        clear R7 S7 W7 G7
        obtain ⟨j, rfl, h1, h2, RO, RS, VW, G⟩ := hrel
        by_cases jlt : j < m
        · obtain ⟨w8, hw8⟩ : ∃ wx, wx = wr := ⟨_, rfl⟩
          subst hw8
          obtain ⟨vs, hO, hV⟩ := RO.out
          have OO : Aside (w8.ownsRow w3.heap.size 30 1 (.slice lo m lc) m vs ∧ ∀ x, j ≤ x → x < m → vs.getD x nilS = vals.getD x nilS) := ⟨hO, hV⟩
          have vl : vs.length = m := by have := hO.1; omega
          obtain ⟨gA, cA, eA, hA0, _, hAl⟩ := own_slice hO (fun q => by cases q; omega)
          cases eA
          have cj := hO.cellAt j (by omega)
          have vj : vs[j]? = some (vals.getD j nilS) := by
            rw [← hV j (Nat.le_refl _) jlt, List.getD_eq_getElem?_getD, List.getElem?_eq_getElem (by omega)]
            rfl
          rw [vj] at cj
          obtain ⟨bo, c, f1, f2, f3, f4⟩ := sr_form (RS.out j (Nat.le_refl _) jlt)
          have SJ : Aside (SR w8 w3.heap.size (vals.getD j nilS) (Lw.getD j [])) := RS.out j (Nat.le_refl _) jlt
          have nl := ST'.out j jlt
          have APj := AP.out j jlt
          have BKj := BK'.out.2 j jlt
          rw [f1] at cj SJ APj BKj
          obtain ⟨l, hlj⟩ : ∃ l, Lw.getD j [] = l := ⟨_, rfl⟩
          rw [hlj] at cj SJ f1 f2 f3 nl APj BKj
          obtain ⟨ni, hni⟩ : ∃ ni, l.length = ni := ⟨_, rfl⟩
          have NI : Aside (l.length = ni) := hni
          rw [hni] at cj SJ f1 f2 f3 nl APj BKj
          have FJ : Aside (vals.getD j nilS = .slice bo ni c) := f1
          have AJ : Aside (∀ q, (Value.slice bo ni c).ownBlock = some q → (Value.slice (some ⟨gA, 0, none⟩) m lc).ownBlock ≠ some q ∧ ∀ x, x < m → (vals.getD x nilS).ownBlock = some q → x = j) := APj
          have BJ : Aside (∀ q, (Value.slice bo ni c).ownBlock = some q → w3.heap.size ≤ q ∧ q < w4.heap.size) := BKj
          have F4 : Aside ((bo = none → ni = 0 ∧ c = 0) ∧ ∀ a, bo = some a → a = ⟨a.block, 0, none⟩) := ⟨f3, fun a ea => (f4 a ea).1⟩
          have CA : Aside (w8.cell? ⟨gA, j, none⟩ = some (.slice bo ni c) ∧ gA < w8.heap.size) := ⟨cj, hAl⟩
          have S0 : Aside (SR w8 w3.heap.size (.slice bo ni c) (List.replicate 0 s9 ++ l.drop 0)) := by show SR _ _ _ _; simpa using SJ.out
          clear hO hV vj vl APj BKj f1 f3 f4 hni hlj SJ RO
          go_wp2_with fail
          clear cj hAl
          go_loopg [13] ni (fun gg s13 wk => ∃ k : Nat, s13 = .int .i64 k ∧ k ≤ ni ∧ ni - k ≤ gg ∧ Aside (SR wk w3.heap.size (.slice bo ni c) (List.replicate k s9 ++ l.drop k)) ∧ Aside ((∀ q, (Value.slice bo ni c).ownBlock ≠ some q → wk.heap[q]? = w8.heap[q]?) ∧ wk.heap.size = w8.heap.size) ∧ Aside (Gw w3 wk))
          case atStart => exact ⟨0, rfl, Nat.zero_le _, by omega, S0, (show Aside _ from ⟨fun _ _ => rfl, rfl⟩), G⟩
          case round =>
            clear S0
            obtain ⟨k, rfl, k1, k2, SK, KK, GK⟩ := hrel
            have nA : (Value.slice bo ni c).ownBlock ≠ some gA := fun e => (AJ.out gA e).1 rfl
            have cA : wr.cell? ⟨gA, j, none⟩ = some (.slice bo ni c) := by
              have := CA.out.1
              unfold World.cell? at this ⊢
              rw [KK.out.1 gA nA]
              exact this
            have lA : gA < wr.heap.size := by rw [KK.out.2]; exact CA.out.2
            by_cases klt : k < ni
            · obtain ⟨g, rfl⟩ : ∃ g, bo = some ⟨g, 0, none⟩ := by
                cases bo with
                | none => have := (F4.out.1 rfl).1; omega
                | some a => exact ⟨a.block, by rw [← F4.out.2 a rfl]⟩
              have gA' : ¬ gA = g := fun e => nA (by rw [e]; rfl)
              have gA'' : ¬ g = gA := fun e => gA' e.symm
              have XL : (List.replicate k s9 ++ l.drop k).length = ni := by simp [NI.out]; omega
              have SK' : Aside (SR wr w3.heap.size (.slice (some ⟨g, 0, none⟩) (List.replicate k s9 ++ l.drop k).length c) (List.replicate k s9 ++ l.drop k)) := by rw [XL]; exact SK
              have cc : ∀ r, r < 5 → wr.cell? ⟨g, k * 5 + r, none⟩ = some (flc (List.replicate k s9 ++ l.drop k) (k * 5 + r)) := fun r hr => by
                have h' : wr.ownsRow w3.heap.size 33 5 (.slice (some ⟨g, 0, none⟩) (List.replicate k s9 ++ l.drop k).length c) (List.replicate k s9 ++ l.drop k).length ((List.replicate k s9 ++ l.drop k).flatMap sgc) := SK'.out
                rw [h'.cellAt _ (by omega)]
                exact flc_get _ _ (by omega)
              have fz : ∀ r, wr.frozen? ⟨g, r, none⟩ = false := fun r => World.ownsRow.frozenAt SK'.out r
              have x0 := cc 0 (by decide)
              have x1 := cc 1 (by decide)
              have x2 := cc 2 (by decide)
              have x3 := cc 3 (by decide)
              have x4 := cc 4 (by decide)
              rw [Nat.add_zero] at x0
              have y0 := fz (k * 5)
              have y1 := fz (k * 5 + 1)
              have y2 := fz (k * 5 + 2)
              have y3 := fz (k * 5 + 3)
              have y4 := fz (k * 5 + 4)
              generalize flc (List.replicate k s9 ++ l.drop k) (k * 5) = z0 at x0
              generalize flc (List.replicate k s9 ++ l.drop k) (k * 5 + 1) = z1 at x1
              generalize flc (List.replicate k s9 ++ l.drop k) (k * 5 + 2) = z2 at x2
              generalize flc (List.replicate k s9 ++ l.drop k) (k * 5 + 3) = z3 at x3
              generalize flc (List.replicate k s9 ++ l.drop k) (k * 5 + 4) = z4 at x4
              have gl : g < wr.heap.size := (sr_lt SK.out g rfl).2
              have kc : (k : Int) < (ni : Int) := by omega
              have gb : w3.heap.size ≤ g := (BJ.out g rfl).1
              have SK9 : Aside (SR (put5 wr g (k * 5) s9) w3.heap.size (.slice (some ⟨g, 0, none⟩) ni c) (List.replicate (k + 1) s9 ++ l.drop (k + 1))) := by
                have r := sr_put SK'.out (k := k) (by omega) s9
                have e : (List.replicate k s9 ++ l.drop k).set k s9 = List.replicate (k + 1) s9 ++ l.drop (k + 1) := by
                  rw [List.set_append_right _ _ (by simp)]
                  have hd : l.drop k = l[k]'(by rw [NI.out]; exact klt) :: l.drop (k + 1) := List.drop_eq_getElem_cons _
                  rw [List.length_replicate, Nat.sub_self, hd, List.set_cons_zero, List.replicate_succ', List.append_assoc]
                  rfl
                rw [e] at r
                have el : (List.replicate (k + 1) s9 ++ l.drop (k + 1)).length = ni := by simp [NI.out]; omega
                rw [el] at r
                exact r
              have KK9 : Aside ((∀ q, (Value.slice (some ⟨g, 0, none⟩) ni c).ownBlock ≠ some q → (put5 wr g (k * 5) s9).heap[q]? = w8.heap[q]?) ∧ (put5 wr g (k * 5) s9).heap.size = w8.heap.size) :=
                ⟨fun q hq => (put5_other wr g (k * 5) s9 (fun e => hq (by rw [e]; rfl))).trans (KK.out.1 q hq), (put5_size _ _ _ _).trans KK.out.2⟩
              have GK9 : Aside (Gw w3 (put5 wr g (k * 5) s9)) := put5_gw GK.out gb
              clear cc fz XL SK SK' KK GK nA
              go_wp2_with fail
              go_roundg (ni - (k + 1))
              case measure => omega
              case rel => exact ⟨k + 1, by go_num, by omega, Nat.le_refl _, SK9, KK9, GK9⟩
            · have ek : k = ni := by omega
              subst ek
              have z0 := GK.out.size
              have SK' : Aside (wr.ownsRow w3.heap.size 33 5 (.slice bo k c) k ((List.replicate k s9 ++ l.drop k).flatMap sgc)) := by
                have h' : wr.ownsRow w3.heap.size 33 5 (.slice bo k c) (List.replicate k s9 ++ l.drop k).length ((List.replicate k s9 ++ l.drop k).flatMap sgc) := SK.out
                rwa [show (List.replicate k s9 ++ l.drop k).length = k by simp [NI.out]] at h'
              have XL : ((List.replicate k s9 ++ l.drop k).flatMap sgc).length = k * 5 := by rw [flat_len]; simp [NI.out]
              have XA : Aside (((List.replicate k s9 ++ l.drop k).flatMap sgc).length = k * 5) := XL
              clear SK XL
              generalize (List.replicate k s9 ++ l.drop k).flatMap sgc = xs at SK' XA
              have NS : Hid _ := new_sg wr s8
              go_wp2_with (at_builtin; refine wpList_append_own _ rfl _ _ 30 rfl w3.heap.size 33 jj (.agg #[.int .u64 0, .float .f64 0, .float .f64 0, .int .i64 0, .int .i64 0]) 5 40 Tryz.underlying30 hjj jz js jby rfl (by decide) _ k _ rfl (SK'.out.alloc _) ⟨wr.heap.size, 0, none⟩ 1 1 (sgc s8) rfl rfl NS.out (sgc_one _) (by simp only [maxLen]; omega) (by omega) (by simp; omega) ?_)
              intro v' w10 r1 r2 r3
              obtain ⟨g10, c10, rfl, hg10, hc10, hl10⟩ := own_slice r1 (by simpa using r3)
              have m8 : w10.cell? ⟨g10, k * 5 + 3, none⟩ = some (.int .i64 (-8)) := by
                rw [r1.cellAt (k * 5 + 3) (by omega), List.getElem?_append_right (by rw [XA.out]; omega), XA.out, show k * 5 + 3 - k * 5 = 3 by omega]
                rfl
              have K10 : Aside ((∀ q, q < w8.heap.size → (Value.slice bo k c).ownBlock ≠ some q → w10.heap[q]? = w8.heap[q]?) ∧ w8.heap.size ≤ w10.heap.size) := by
                have sz := KK.out.2
                refine ⟨fun q hq hne => ?_, ?_⟩
                · exact (r2.block q (by simp; omega) (fun e => hne e.symm)).trans ((heap_alloc_old wr _ (by omega)).trans (KK.out.1 q hne))
                · have := r2.size; simp at this; omega
              have c10' : w10.cell? ⟨gA, j, none⟩ = some (.slice bo k c) := by
                have := CA.out.1
                unfold World.cell? at this ⊢
                rw [K10.out.1 gA CA.out.2 nA]
                exact this
              have z10 : w10.frozen? ⟨gA, j, none⟩ = false := by
                have := World.ownsRow.frozenAt OO.out.1 j
                unfold World.frozen? at this ⊢
                rw [K10.out.1 gA CA.out.2 nA]
                exact this
              have lA10 : gA < w10.heap.size := Nat.lt_of_lt_of_le CA.out.2 K10.out.2
              have G10 : Aside (Gw w3 w10) := (GK.out.alloc _ _).grown r2 (fun q hq => (BJ.out q hq).1)
              have kc : (k : Int) < ((k + 1 : Nat) : Int) := by omega
              have kc' : k < k + 1 := by omega
              have nz : ¬ gA = w10.heap.size := by omega
              have nz' : ¬ w10.heap.size = gA := by omega
              have nB : Aside ((Value.slice bo k c).ownBlock ≠ some gA) := nA
              clear r1 r2 r3 cA lA nA KK GK SK' NS hg10 hc10
              go_wp2_with fail
              go_roundg (m - (j + 1))
              case measure => omega
              case rel =>
                have KW : ∀ q, q < w8.heap.size → q ≠ gA → (Value.slice bo k c).ownBlock ≠ some q → ((w10.setCell ⟨gA, j, none⟩ (.slice (some ⟨w10.heap.size, 0, none⟩) 0 0)).alloc (.cells #[] 33)).heap[q]? = w8.heap[q]? := fun q hq h1 h2 =>
                  (heap_alloc_old _ _ (by have := K10.out.2; simp; omega)).trans ((Go.Deep.blk_setCell_other _ _ _ _ h1).trans (K10.out.1 q hq h2))
                have O10 := own_kept (w' := w10) OO.out.1 (fun q hq => by
                  cases hq
                  exact K10.out.1 gA CA.out.2 nB.out)
                have gb := BK'.out.1 gA rfl
                refine ⟨j + 1, by go_num, by omega, Nat.le_refl _, (show Aside _ from ⟨_, ((O10.stored j (.slice (some ⟨w10.heap.size, 0, none⟩) 0 0)).1).alloc _, fun x h3 h4 => ?_⟩), (show Aside _ from fun x h3 h4 => ?_), (show Aside _ from ?_), (show Aside _ from ?_)⟩
                · rw [← OO.out.2 x (by omega) h4, List.getD_eq_getElem?_getD, List.getElem?_set_ne (by omega), ← List.getD_eq_getElem?_getD]
                · have R := RS.out x (by omega) h4
                  refine sr_keep R fun q hq => KW q (sr_lt R q hq).2 (fun e => ?_) (fun e => ?_)
                  · subst e; exact (AP.out x h4 _ hq).1 rfl
                  · have := (AJ.out q e).2 x h4 hq; omega
                · refine VW.out.keep (fun q h5 h6 => KW q h6 (by omega) (fun e => by have := (BJ.out q e).2; omega)) ?_
                  have := K10.out.2
                  simp; omega
                · exact (G10.out.setCell (p := ⟨gA, j, none⟩) gb.1 _).alloc _ _
        · have ej : j = m := by omega
          subst ej
          clear RO RS
          go_wp2_with fail
          refine (EE.out _ _ nc3 _ (K3.out.gw G.out)).mono ?_
          rintro e w9 ⟨⟨lb, lcb, Lb, errb, valsb, rfl, hE, hlcb, hOb, hkb⟩, g9⟩
          obtain ⟨rfl, rfl⟩ := hE.one EA.out
          have SB : Hid _ := fun _ : Unit => same8_any lb lw lcb lcw Lb (by rw [LM.out]; omega) (fun x hx => by have := ST'.out x (by rw [← LM.out]; exact hx); omega) w9 (hOb.vsf hkb).vs (VW.out.gw g9).vs
          have G9 : Aside (Gw w w9) := G3.out.trans (G.out.trans g9)
          rw [LM.out] at SB ⊢
          clear hE hOb hkb g9 VW G
          go_wp2_with fail
          refine (SB.out ()).mono ?_
          rintro e w11 ⟨rfl, g11⟩
          have G11 : Aside (Gw w w11) := G9.out.trans g11
          clear g11 G9
          go_wp2_with fail
          go_ret
          exact ⟨rfl, G11.out⟩

end Go.Proofs.YtmmkmakajolfhaaGreat
