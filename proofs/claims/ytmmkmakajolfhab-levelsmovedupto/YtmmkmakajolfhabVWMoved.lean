/- LevelsMoved's walk. -/
import Derived.Test.YtmmkmakajolfhabPVo
import Derived.Test.YtmmkmakajolfhabVSame
import Derived.Test.YtmmkmakajolfhabVShown
import Derived.Test.YtmmkmakajolfhabPBs
namespace Go.Proofs.Ytmmkmakajolfhab
open Go.RowKit
set_option linter.unusedVariables false
attribute [local go_sem] run_store_float

theorem row_cap {w : World} {base e size g n cap : Nat} {xs : List Value} (h : w.ownsRow base e size (.slice (some ⟨g, 0, none⟩) n cap) n xs) : n ≤ cap := by
  rcases h.2 with ⟨q, _⟩ | ⟨g', cap', cur, q, _, _, r, _⟩
  · cases q
  · cases q; exact r
/-- How long levels are that were built. -/
theorem BuildE.brief {eps : Int} {f : Nat → Int} {n : Nat} {L : List (List Sg)} {err : Int} (h : BuildE eps f n L err) (n1 : n ≤ 2000000) (bd : ∀ t, t < n → 0 ≤ f t ∧ f t < 18446744073709551616) : L.length ≤ 2000000 ∧ ∀ i, i < L.length → (L.getD i []).length ≤ 2000000 := by
  rcases h with ⟨_, rfl, _⟩ | ⟨_, _, rfl, _⟩ | ⟨k, u, b, _⟩
  · exact ⟨by simp, fun i hi => by simp at hi⟩
  · exact ⟨by simp, fun i hi => by simp at hi⟩
  · refine ⟨?_, fun i hi => by have := b.short n1 bd u i hi; omega⟩
    have a := b.low k.1 n1 bd u
    have c := hgt_le (e := eps.toNat) (by omega) n
    omega
theorem BuildE.moved {eps B : Int} {f g : Nat → Int} {n : Nat} {L : List (List Sg)} {err : Int} (d : ∀ t, t < n → g t = f t + B) (h : BuildE eps f n L err) : BuildE eps g n (L.map fun l => l.map (mv B)) err := by
  have up : Up g n ↔ Up f n := by
    unfold Up
    constructor
    · intro q j hj
      have := q j hj
      rw [d j (by omega), d (j + 1) hj] at this
      omega
    · intro q j hj
      have := q j hj
      rw [d j (by omega), d (j + 1) hj]
      omega
  rcases h with ⟨a, rfl, rfl⟩ | ⟨a, b, rfl, rfl⟩ | ⟨a, b, c, rfl⟩
  · exact .inl ⟨a, rfl, rfl⟩
  · exact .inr (.inl ⟨a, fun q => b (up.1 q), rfl, rfl⟩)
  · exact .inr (.inr ⟨a, up.2 b, c.moved d, rfl⟩)

/-- The first j rows moved. -/
def mix (B : Int) (L : List (List Sg)) (j : Nat) : List (List Sg) := (L.take j).map (fun l => l.map (mv B)) ++ L.drop j
theorem mix_len (B : Int) (L : List (List Sg)) (j : Nat) : (mix B L j).length = L.length := by
  unfold mix; simp; omega
theorem mix_zero (B : Int) (L : List (List Sg)) : mix B L 0 = L := by simp [mix]
theorem mix_all (B : Int) (L : List (List Sg)) : mix B L L.length = L.map fun l => l.map (mv B) := by simp [mix]
theorem mix_get (B : Int) (L : List (List Sg)) (j x : Nat) (hx : x < L.length) : (mix B L j).getD x [] = if x < j then (L.getD x []).map (mv B) else L.getD x [] := by
  unfold mix
  rw [List.getD_eq_getElem?_getD, List.getD_eq_getElem?_getD]
  by_cases h : x < j
  · rw [if_pos h, List.getElem?_append_left (by simp; omega), List.getElem?_map, List.getElem?_take, if_pos h, List.getElem?_eq_getElem hx]
    rfl
  · rw [if_neg h, List.getElem?_append_right (by simp; omega), List.getElem?_drop]
    congr 2
    simp; omega
/-- The first k segments moved. -/
def mixr (B : Int) (l : List Sg) (k : Nat) : List Sg := (l.take k).map (mv B) ++ l.drop k
theorem mixr_len (B : Int) (l : List Sg) (k : Nat) : (mixr B l k).length = l.length := by
  unfold mixr; simp; omega
theorem mixr_zero (B : Int) (l : List Sg) : mixr B l 0 = l := by simp [mixr]
theorem mixr_all (B : Int) (l : List Sg) : mixr B l l.length = l.map (mv B) := by simp [mixr]
theorem mixr_at (B : Int) (l : List Sg) (k : Nat) (hk : k < l.length) : (mixr B l k).getD k sg0 = l.getD k sg0 := by
  unfold mixr
  rw [List.getD_eq_getElem?_getD, List.getD_eq_getElem?_getD, List.getElem?_append_right (by simp; omega), List.getElem?_drop]
  congr 2
  simp; omega
theorem mixr_next (B : Int) (l : List Sg) (k : Nat) (hk : k < l.length) : (mixr B l k).set k (mv B (l.getD k sg0)) = mixr B l (k + 1) := by
  unfold mixr
  have hm : ((l.take k).map (mv B)).length = k := by simp; omega
  have hd : l.drop k = l[k] :: l.drop (k + 1) := List.drop_eq_getElem_cons _
  have gd : l.getD k sg0 = l[k] := by rw [List.getD_eq_getElem?_getD, List.getElem?_eq_getElem hk]; rfl
  rw [List.set_append_right _ _ (by omega), hm, Nat.sub_self, hd, List.set_cons_zero, gd, List.take_add_one, List.getElem?_eq_getElem hk, List.map_append, List.append_assoc]
  rfl
theorem flat_first : ∀ (l : List Sg) (k : Nat) (B : Int), k < l.length → (l.flatMap sgc).set (k * 5) (.int .u64 ((l.getD k sg0).k + B)) = (l.set k (mv B (l.getD k sg0))).flatMap sgc := by
  intro l
  induction l with
  | nil => intro k B hk; simp at hk
  | cons t l ih =>
    intro k B hk
    cases k with
    | zero => simp [sgc, mv]
    | succ k =>
      have := ih k B (by simpa using hk)
      rw [List.set_cons_succ, List.flatMap_cons, List.flatMap_cons]
      have g1 : (t :: l).getD (k + 1) sg0 = l.getD k sg0 := rfl
      rw [g1, ← this, show (k + 1) * 5 = k * 5 + 5 by omega]
      simp [sgc]
theorem sr_first {w : World} {base g cap k : Nat} {l : List Sg} {B : Int} (h : SR w base (.slice (some ⟨g, 0, none⟩) l.length cap) l) (hk : k < l.length) : SR (w.setCell ⟨g, k * 5, none⟩ (.int .u64 ((l.getD k sg0).k + B))) base (.slice (some ⟨g, 0, none⟩) l.length cap) (l.set k (mv B (l.getD k sg0))) := by
  have h' : w.ownsRow base 38 5 (.slice (some ⟨g, 0, none⟩) l.length cap) l.length (l.flatMap sgc) := h
  have r := (h'.stored (k * 5) (.int .u64 ((l.getD k sg0).k + B))).1
  rw [flat_first l k B hk] at r
  show World.ownsRow _ _ _ _ _ _ _
  rw [List.length_set]
  exact r

set_option maxRecDepth 10000 in
set_option maxHeartbeats 16000000 in
theorem moved8_walk (LL : LevelsC) (BO : BuildOwn) (ao : Option Addr) (n cp : Nat) (f : Nat → Int) (eps far : Int) (e0 : -9223372036854775808 ≤ eps) (e1 : eps < 9223372036854775808) (s0 : 0 ≤ far) (s1 : far < 18446744073709551616) (hn : n ≤ 1048576) (hcp : n ≤ cp) (w : World) (h : KS w ao n f) :
    Calls Try.prog 5 #[.slice ao n cp, .int .i64 eps, .int .u64 far] w fun e w' => e = .returned (.bool true) ∧ Gw w w' := by
  have HK : Aside (KS w ao n f) := h
  clear h
  obtain ⟨ii, hii, hz, hs, hby⟩ := info_parts info_k
  have SH : Hid (∀ W, Calls Try.prog 7 #[] W fun e w' => e = .returned (.bool true) ∧ Gw W w') := fun W => shown8 LL W
  have RI : Hid _ := fun W h => rrising_any ao n cp f (by omega) W h
  have EE : Hid _ := fun W h => BO eps ao n cp f e0 e1 (by omega) hcp W h
  have EM : Hid _ := fun bo c g hc W h => BO eps bo n c g e0 e1 (by omega) hc W h
  clear LL BO
  go_enter Try.func5, Try.ntmps5
  go_wp2_with fail
  refine (SH.out _).mono ?_
  rintro e w1 ⟨rfl, g1⟩
  have G1 : Aside (Gw w w1) := g1
  clear g1
  by_cases n0 : n = 0
  · subst n0
    go_wp2_with fail
    go_ret
    exact ⟨rfl, G1.out⟩
  have tn : ((n : Int) == 0) = false := by simp; omega
  go_wp2_with fail
  refine (RI.out _ (HK.out.gw G1.out)).mono ?_
  rintro e w2 ⟨⟨r, rfl, hr⟩, g2⟩
  have HR : Aside (r = true ↔ Up f n) := hr
  have G2 : Aside (Gw w w2) := G1.out.trans g2
  clear hr g2 G1
  cases r with
  | false =>
    clear HR
    go_wp2_with fail
    go_ret
    exact ⟨rfl, G2.out⟩
  | true =>
    have UP : Aside (Up f n) := HR.out.1 rfl
    clear HR
    obtain ⟨bk, off, rfl, hbk, hc⟩ := (HK.out.gw G2.out).cells (by omega)
    have ln := hc (n - 1) (by omega)
    obtain ⟨l0, l1⟩ := HK.out.bd (n - 1) (by omega)
    have LM : Aside (∀ i, i < n → 0 ≤ f i ∧ f i ≤ f (n - 1)) := fun i hi => ⟨(HK.out.bd i hi).1, UP.out.le (by omega) (by omega)⟩
    obtain ⟨v, hv⟩ : ∃ v, f (n - 1) = v := ⟨_, rfl⟩
    rw [hv] at ln l0 l1 LM
    clear hv hc
    have wn : IntKind.i64.wrap ((n : Int) - 1) = ((n - 1 : Nat) : Int) := by rw [IntKind.wrap_i64]; omega
    have wv : IntKind.u64.wrap (18446744073709551615 - v) = 18446744073709551615 - v := by rw [IntKind.wrap_u64]; omega
    have lt1 : n - 1 < n := by omega
    obtain ⟨n1, hn1⟩ : ∃ n1, n - 1 = n1 := ⟨_, rfl⟩
    rw [hn1] at ln wn lt1
    by_cases hzv : 0 < v
    · have tz : decide (18446744073709551615 - v < 18446744073709551615) = true := by simp; omega
      have wr1 : IntKind.u64.wrap (18446744073709551615 - v + 1) = 18446744073709551616 - v := by rw [IntKind.wrap_u64]; omega
      have r0 : (18446744073709551616 - v == 0) = false := by simp; omega
      have r1 : ¬ 18446744073709551616 - v = 0 := by omega
      obtain ⟨B, hB⟩ : ∃ B, far % (18446744073709551616 - v) = B := ⟨_, rfl⟩
      have tB : far.tmod (18446744073709551616 - v) = B := by rw [Int.tmod_eq_emod_of_nonneg s0]; exact hB
      have B0 : 0 ≤ B := by rw [← hB]; exact Int.emod_nonneg _ r1
      have B1 : B < 18446744073709551616 - v := by rw [← hB]; exact Int.emod_lt_of_pos _ (by omega)
      have MB : Aside (∀ i, i < n → 0 ≤ f i + B ∧ f i + B < 18446744073709551616) := fun i hi => by have := LM.out i hi; omega
      have R3 : Aside ((w2.alloc (.cells #[] 31)).ownsRow w.heap.size 31 1 (.slice (some ⟨w2.heap.size, 0, none⟩) 0 0) 0 ((List.range 0).map fun j => Value.int .u64 (f j + B))) := World.ownsRow_made w2 #[] 0 G2.out.size (Nat.zero_le _) rfl
      have G3 : Aside (Gw w (w2.alloc (.cells #[] 31))) := G2.out.alloc _ _
      have B3 : Aside (w.heap.size ≤ w2.heap.size) := G2.out.size
      clear hB
      go_wp2_with fail
      generalize w2.alloc (.cells #[] 31) = w3 at R3 G3 ⊢
      clear ln G2
      go_loopg [9, 10] n (fun gg s9 s10 wr => ∃ i b cap : Nat, s9 = .slice (some ⟨b, 0, none⟩) i cap ∧ s10 = .int .i64 i ∧ i ≤ n ∧ n - i ≤ gg ∧ Aside (w.heap.size ≤ b) ∧ Aside (wr.ownsRow w.heap.size 31 1 (.slice (some ⟨b, 0, none⟩) i cap) i ((List.range i).map fun j => Value.int .u64 (f j + B))) ∧ Aside (Gw w wr))
      case atStart => exact ⟨0, w2.heap.size, 0, rfl, rfl, Nat.zero_le _, by omega, B3, R3, G3⟩
      case round =>
        clear R3 G3 B3
        obtain ⟨i, b, cap, rfl, rfl, h1, h2, BW, R, G⟩ := hrel
        by_cases hlt : i < n
        · obtain ⟨bk', off', e, hbk', hc⟩ := (HK.out.gw G.out).cells (by omega)
          cases e
          have q1 := hc i hlt
          have mb := MB.out i hlt
          obtain ⟨fi, hfi⟩ : ∃ y, f i = y := ⟨_, rfl⟩
          have FI : Aside (f i = fi) := hfi
          rw [hfi] at q1 mb
          clear hc hfi
          have wb : IntKind.u64.wrap (fi + B) = fi + B := by rw [IntKind.wrap_u64]; omega
          have z0 := G.out.size
          go_wp2_with (at_builtin; refine wpList_append_own _ rfl _ _ 22 rfl w.heap.size 31 ii (.int .u64 0) 1 8 Try.underlying22 hii hz hs hby rfl (by decide) _ i _ rfl (R.out.alloc _) ⟨wr.heap.size, 0, none⟩ 1 1 [.int .u64 (fi + B)] rfl rfl (new_one wr (fi + B)) (ints_oneCell .u64 [fi + B]) (by simp only [maxLen]; omega) (by omega) (by simp; omega) ?_)
          intro v' w5 r1' r2' r3'
          obtain ⟨b5, cap5, rfl, hb5, _, _⟩ := own_slice r1' (by simpa using r3')
          have R5 : Aside (w5.ownsRow w.heap.size 31 1 (.slice (some ⟨b5, 0, none⟩) (i + 1) cap5) (i + 1) ((List.range (i + 1)).map fun j => Value.int .u64 (f j + B))) := by
            have := r1'
            rw [← FI.out] at this
            rw [List.range_succ, List.map_append]
            exact this
          have G5 : Aside (Gw w w5) := (G.out.alloc _ _).grown r2' (fun k hk => by cases hk; exact BW.out)
          have B5 : Aside (w.heap.size ≤ b5) := hb5
          clear r1' r2' r3' R G BW hb5 q1 FI
          go_wp2_with fail
          go_roundg (n - (i + 1))
          case measure => omega
          case rel => exact ⟨i + 1, b5, cap5, rfl, by go_num, by omega, Nat.le_refl _, B5, R5, G5⟩
        · have ei : i = n := by omega
          subst ei
          have icp := row_cap R.out
          have K4 : Aside (KS wr (some ⟨b, 0, none⟩) i (fun j => f j + B)) := ks_own R.out (Nat.le_refl _) (fun j hj => by simp [hj]) MB.out
          have IB : 0 ≤ B ∧ B < 18446744073709551616 := by omega
          clear R B0 B1 MB
          go_wp2_with fail
          refine (EE.out _ (HK.out.gw G.out)).mono ?_
          rintro e w6 ⟨⟨lo, lc, L, err, vals, rfl, hE, hlc, hO, hk⟩, g6⟩
          have E6 : Aside (BuildE eps f i L err) := hE
          have O6 : Aside (OwnV w6 wr.heap.size (.slice lo L.length lc) L vals) := hO
          have G6 : Aside (Gw w w6) := G.out.trans g6
          have K6 : Aside (KS w6 (some ⟨b, 0, none⟩) i (fun j => f j + B)) := K4.out.gw g6
          have GS0 : Aside (w.heap.size ≤ wr.heap.size) := G.out.size
          have ST : Aside (L.length ≤ 2000000 ∧ ∀ x, x < L.length → (L.getD x []).length ≤ 2000000) := hE.brief (by omega) HK.out.bd
          clear hE hO hk g6 G K4
          go_wp2_with fail
          refine (EM.out _ _ _ icp _ K6.out).mono ?_
          rintro e w7 ⟨⟨lo2, lc2, L2, err2, vals2, rfl, hE, hlc2, hO2, hk2⟩, g7⟩
          have M7 := E6.out.moved (g := fun j => f j + B) (fun t _ => rfl)
          obtain ⟨rfl, rfl⟩ := hE.one M7
          have OK2 : Aside (Lok (L.map fun l => l.map (mv B))) := hk2
          have V7 : Aside (VSf w7 w6.heap.size lo2 (L.map fun l => l.map (mv B))) := hO2.vsf hk2
          have O7 : Aside (OwnV w7 wr.heap.size (.slice lo L.length lc) L vals) := O6.out.gw g7
          have BK : Aside ((∀ q, (Value.slice lo L.length lc).ownBlock = some q → wr.heap.size ≤ q ∧ q < w6.heap.size) ∧ ∀ j, j < L.length → ∀ q, (vals.getD j nilS).ownBlock = some q → wr.heap.size ≤ q ∧ q < w6.heap.size) := ⟨fun q hq => O6.out.outer.lt q hq, fun j hj q hq => sr_lt (O6.out.rows j hj) q hq⟩
          have G7 : Aside (Gw w w7) := G6.out.trans g7
          clear hE hO2 hk2 g7 G6 K6 M7 O6 E6
          obtain ⟨b0, hb0⟩ : ∃ b0, wr.heap.size = b0 := ⟨_, rfl⟩
          rw [hb0] at O7 BK GS0
          obtain ⟨b1, hb1⟩ : ∃ b1, w6.heap.size = b1 := ⟨_, rfl⟩
          rw [hb1] at BK V7
          have ml : (L.map fun l => l.map (mv B)).length = L.length := by simp
          rw [ml] at hlc2 ⊢
          obtain ⟨m, hm⟩ : ∃ m, L.length = m := ⟨_, rfl⟩
          have LN : Aside (L.length = m) := hm
          have m2 : m ≤ 2000000 := by rw [← hm]; exact ST.out.1
          rw [hm] at hlc hlc2 BK ⊢
          clear hm hb0 hb1 ml
          have O8 : Aside (OwnV w7 b0 (.slice lo m lc) (mix B L 0) vals) := by
            have := O7.out
            rw [LN.out] at this
            rw [mix_zero]
            exact this
          have AP : Aside (∀ j, j < m → ∀ q, (vals.getD j nilS).ownBlock = some q → (Value.slice lo m lc).ownBlock ≠ some q ∧ ∀ x, x < m → (vals.getD x nilS).ownBlock = some q → x = j) := by
            have := O7.out.apart
            rw [LN.out] at this
            exact this
          clear O7
          go_wp2_with fail
          go_loopg [15] m (fun gg s15 wq => ∃ j : Nat, s15 = .int .i64 j ∧ j ≤ m ∧ m - j ≤ gg ∧ Aside (OwnV wq b0 (.slice lo m lc) (mix B L j) vals) ∧ Aside (VSf wq b1 lo2 (L.map fun l => l.map (mv B))) ∧ Aside (Gw w wq))
          case atStart => exact ⟨0, rfl, Nat.zero_le _, by omega, O8, V7, G7⟩
          case round =>
            clear O8 V7 G7
            obtain ⟨j, rfl, h3, h4, OV, VB, G⟩ := hrel
            by_cases jlt : j < m
            · obtain ⟨w8, hw8⟩ : ∃ wx, wx = wr := ⟨_, rfl⟩
              subst hw8
              have vl := OV.out.len
              rw [mix_len, LN.out] at vl
              have hO : w8.ownsRow b0 34 1 (.slice lo m lc) m vals := by
                have := OV.out.outer
                rwa [mix_len, LN.out] at this
              obtain ⟨gA, cA, eA, hA0, _, hAl⟩ := own_slice hO (fun q => by cases q; omega)
              cases eA
              have cj := hO.cellAt j (by omega)
              have vj : vals[j]? = some (vals.getD j nilS) := by
                rw [List.getD_eq_getElem?_getD, List.getElem?_eq_getElem (by omega)]
                rfl
              rw [vj] at cj
              have RJ := OV.out.rows j (by rw [mix_len, LN.out]; exact jlt)
              rw [mix_get B L j j (by rw [LN.out]; exact jlt), if_neg (Nat.lt_irrefl j)] at RJ
              obtain ⟨bo, c, f1, f2, f3, f4⟩ := sr_form RJ
              have nl := ST.out.2 j (by rw [LN.out]; exact jlt)
              have APj := AP.out j jlt
              have BKj := BK.out.2 j jlt
              have OKj : ∀ x, x < (L.getD j []).length → (mv B ((L.getD j []).getD x sg0)).ok := fun x hx => by
                have := OK2.out j (by simp [LN.out]; exact jlt)
                have e : (L.map fun l => l.map (mv B)).getD j [] = (L.getD j []).map (mv B) := by
                  rw [List.getD_eq_getElem?_getD, List.getD_eq_getElem?_getD, List.getElem?_map, List.getElem?_eq_getElem (by rw [LN.out]; exact jlt)]
                  rfl
                rw [e] at this
                have q := this x (by simpa using hx)
                rw [List.getD_eq_getElem?_getD, List.getElem?_map, List.getElem?_eq_getElem hx] at q
                rw [List.getD_eq_getElem?_getD, List.getElem?_eq_getElem hx]
                exact q
              rw [f1] at cj RJ APj BKj
              obtain ⟨l, hlj⟩ : ∃ l, L.getD j [] = l := ⟨_, rfl⟩
              have LJ : Aside (L.getD j [] = l) := hlj
              rw [hlj] at cj RJ f1 f2 f3 nl APj BKj OKj
              obtain ⟨ni, hni⟩ : ∃ ni, l.length = ni := ⟨_, rfl⟩
              have NI : Aside (l.length = ni) := hni
              rw [hni] at cj RJ f1 f2 f3 nl APj BKj OKj
              have FJ : Aside (vals.getD j nilS = .slice bo ni c) := f1
              have AJ : Aside (∀ q, (Value.slice bo ni c).ownBlock = some q → (Value.slice (some ⟨gA, 0, none⟩) m lc).ownBlock ≠ some q ∧ ∀ x, x < m → (vals.getD x nilS).ownBlock = some q → x = j) := APj
              have BJ : Aside (∀ q, (Value.slice bo ni c).ownBlock = some q → b0 ≤ q ∧ q < b1) := BKj
              have OJ : Aside (∀ x, x < ni → (mv B (l.getD x sg0)).ok) := OKj
              have F4 : Aside ((bo = none → ni = 0 ∧ c = 0) ∧ ∀ a, bo = some a → a = ⟨a.block, 0, none⟩) := ⟨f3, fun a ea => (f4 a ea).1⟩
              have CA : Aside (w8.cell? ⟨gA, j, none⟩ = some (.slice bo ni c) ∧ gA < w8.heap.size) := ⟨cj, hAl⟩
              have S0 : Aside (SR w8 b0 (.slice bo ni c) (mixr B l 0)) := by rw [mixr_zero]; exact RJ
              clear hO vj vl APj BKj OKj f1 f3 f4 hni hlj RJ
              go_wp2_with fail
              clear cj hAl
              go_loopg [16] ni (fun gg s16 wk => ∃ k : Nat, s16 = .int .i64 k ∧ k ≤ ni ∧ ni - k ≤ gg ∧ Aside (SR wk b0 (.slice bo ni c) (mixr B l k)) ∧ Aside ((∀ q, (Value.slice bo ni c).ownBlock ≠ some q → wk.heap[q]? = w8.heap[q]?) ∧ wk.heap.size = w8.heap.size) ∧ Aside (Gw w wk))
              case atStart => exact ⟨0, rfl, Nat.zero_le _, by omega, S0, (show Aside _ from ⟨fun _ _ => rfl, rfl⟩), G⟩
              case round =>
                clear S0
                obtain ⟨k, rfl, k1, k2, SK, KK, GK⟩ := hrel
                have nA : (Value.slice bo ni c).ownBlock ≠ some gA := fun e => (AJ.out gA e).1 rfl
                have cA : wr.cell? ⟨gA, j, none⟩ = some (.slice bo ni c) := by
                  have := CA.out.1
                  unfold World.cell? at this ⊢
                  rw [KK.out.1 gA nA]
                  exact this
                have lA : gA < wr.heap.size := by rw [KK.out.2]; exact CA.out.2
                by_cases klt : k < ni
                · obtain ⟨g, rfl⟩ : ∃ g, bo = some ⟨g, 0, none⟩ := by
                    cases bo with
                    | none => have := (F4.out.1 rfl).1; omega
                    | some a => exact ⟨a.block, by rw [← F4.out.2 a rfl]⟩
                  have gA' : ¬ gA = g := fun e => nA (by rw [e]; rfl)
                  have gA'' : ¬ g = gA := fun e => gA' e.symm
                  have XL : (mixr B l k).length = ni := by rw [mixr_len, NI.out]
                  have SK' : Aside (SR wr b0 (.slice (some ⟨g, 0, none⟩) (mixr B l k).length c) (mixr B l k)) := by rw [XL]; exact SK
                  have x0 : wr.cell? ⟨g, k * 5, none⟩ = some (.int .u64 (l.getD k sg0).k) := by
                    have h' : wr.ownsRow b0 38 5 (.slice (some ⟨g, 0, none⟩) (mixr B l k).length c) (mixr B l k).length ((mixr B l k).flatMap sgc) := SK'.out
                    have := flat_get (mixr B l k) k (by omega) 0 (by decide)
                    rw [Nat.add_zero, mixr_at B l k (by rw [NI.out]; exact klt)] at this
                    rw [h'.cellAt _ (by omega), this]
                    rfl
                  have y0 : wr.frozen? ⟨g, k * 5, none⟩ = false := World.ownsRow.frozenAt SK'.out _
                  have gl : g < wr.heap.size := (sr_lt SK.out g rfl).2
                  have kc : (k : Int) < (ni : Int) := by omega
                  have gb : w.heap.size ≤ g := Nat.le_trans GS0.out (BJ.out g rfl).1
                  have ok := OJ.out k klt
                  have ob0 : 0 ≤ (l.getD k sg0).k + B := ok.k0
                  have ob1 : (l.getD k sg0).k + B < 18446744073709551616 := ok.k1
                  have SK9 : Aside (SR (wr.setCell ⟨g, k * 5, none⟩ (.int .u64 ((l.getD k sg0).k + B))) b0 (.slice (some ⟨g, 0, none⟩) ni c) (mixr B l (k + 1))) := by
                    have r := sr_first SK'.out (k := k) (B := B) (by omega)
                    rw [mixr_at B l k (by rw [NI.out]; exact klt), mixr_next B l k (by rw [NI.out]; exact klt), XL] at r
                    exact r
                  obtain ⟨y, hy⟩ : ∃ y, (l.getD k sg0).k = y := ⟨_, rfl⟩
                  rw [hy] at x0 ob0 ob1 SK9
                  have wy : IntKind.u64.wrap (y + B) = y + B := by rw [IntKind.wrap_u64]; omega
                  have KK9 : Aside ((∀ q, (Value.slice (some ⟨g, 0, none⟩) ni c).ownBlock ≠ some q → (wr.setCell ⟨g, k * 5, none⟩ (.int .u64 (y + B))).heap[q]? = w8.heap[q]?) ∧ (wr.setCell ⟨g, k * 5, none⟩ (.int .u64 (y + B))).heap.size = w8.heap.size) :=
                    ⟨fun q hq => (Go.Deep.blk_setCell_other _ _ _ _ (fun e => hq (by rw [e]; rfl))).trans (KK.out.1 q hq), (by simp; exact KK.out.2)⟩
                  have GK9 : Aside (Gw w (wr.setCell ⟨g, k * 5, none⟩ (.int .u64 (y + B)))) := GK.out.setCell gb _
                  obtain ⟨wa, hwa⟩ : ∃ wx, wx = wr := ⟨_, rfl⟩
                  subst hwa
                  have HW : Hid (∀ w' : World, (∃ q, w' = wa.drewN q) → Aside (∃ q, w' = wa.drewN q) ∧ w'.cell? ⟨gA, j, none⟩ = some (.slice (some ⟨g, 0, none⟩) ni c) ∧ w'.cell? ⟨g, k * 5, none⟩ = some (.int .u64 y) ∧ w'.frozen? ⟨g, k * 5, none⟩ = false ∧ gA < w'.heap.size ∧ g < w'.heap.size) := by
                    rintro w' ⟨q, rfl⟩
                    exact ⟨⟨q, rfl⟩, cA, x0, y0, lA, gl⟩
                  clear XL SK SK' KK GK nA ok ob0 ob1 hy cA x0 y0 lA gl
                  have H0 := HW.out wa ⟨0, rfl⟩
                  obtain ⟨-, cA, x0, y0, lA, gl⟩ := H0
                  go_wp2_with fail
                  go_region
                  all_goals go_wp2_with fail
                  all_goals
                    go_roundg (ni - (k + 1))
                    case measure => omega
                    case rel => exact ⟨k + 1, by go_num, by omega, Nat.le_refl _, (show Aside _ from sr_gw SK9.out (Gw.refl _).drew), (show Aside _ from KK9.out), (show Aside _ from GK9.out.drew)⟩
                · have ek : k = ni := by omega
                  subst ek
                  have O9 : Aside (OwnV wr b0 (.slice (some ⟨gA, 0, none⟩) m lc) (mix B L (j + 1)) vals) := by
                    have sz := KK.out.2
                    refine ⟨?_, fun x hx => ?_, fun x hx => ?_⟩
                    · rw [mix_len, LN.out]
                      have := OV.out.outer
                      rw [mix_len, LN.out] at this
                      exact own_kept this fun q hq => KK.out.1 q (fun e => (AJ.out q e).1 hq)
                    · rw [mix_len, LN.out] at hx
                      rw [mix_get B L _ x (by rw [LN.out]; exact hx)]
                      by_cases e : x = j
                      · subst e
                        rw [if_pos (by omega), FJ.out, LJ.out]
                        have := SK.out
                        rw [← NI.out, mixr_all] at this
                        rw [← NI.out]
                        exact this
                      · have R := OV.out.rows x (by rw [mix_len, LN.out]; exact hx)
                        rw [mix_get B L _ x (by rw [LN.out]; exact hx)] at R
                        have e2 : (if x < j + 1 then (L.getD x []).map (mv B) else L.getD x []) = if x < j then (L.getD x []).map (mv B) else L.getD x [] := by
                          by_cases q : x < j
                          · rw [if_pos (by omega), if_pos q]
                          · rw [if_neg (by omega), if_neg q]
                        rw [e2]
                        exact sr_keep R fun q hq => KK.out.1 q (fun h => e ((AJ.out q h).2 x hx hq))
                    · rw [mix_len, LN.out] at hx ⊢
                      exact AP.out x hx
                  have V9 : Aside (VSf wr b1 lo2 (L.map fun l => l.map (mv B))) := VB.out.keep (fun q h5 h6 => KK.out.1 q (fun e => by have := (BJ.out q e).2; omega)) (by rw [KK.out.2]; exact Nat.le_refl _)
                  have G9 : Aside (Gw w wr) := GK.out
                  clear SK KK GK nA
                  go_wp2_with fail
                  go_roundg (m - (j + 1))
                  case measure => omega
                  case rel => exact ⟨j + 1, by go_num, by omega, Nat.le_refl _, O9, V9, G9⟩
            · have ej : j = m := by omega
              subst ej
              have SB : Hid _ := fun _ : Unit => same8_any lo lo2 lc lc2 (L.map fun l => l.map (mv B)) (by rw [List.length_map, LN.out]; have := ST.out.1; rw [LN.out] at this; omega) (fun x hx => by
                have e : (L.map fun l => l.map (mv B)).getD x [] = (L.getD x []).map (mv B) := by
                  rw [List.getD_eq_getElem?_getD, List.getD_eq_getElem?_getD, List.getElem?_map]
                  cases L[x]? <;> rfl
                rw [e, List.length_map]
                have := ST.out.2 x (by simpa using hx)
                omega) wr (by
                  have := OV.out
                  rw [← LN.out, mix_all] at this
                  have q : OwnV wr b0 (.slice lo (L.map fun l => l.map (mv B)).length lc) (L.map fun l => l.map (mv B)) vals := by rw [List.length_map]; exact this
                  exact (q.vsf OK2.out).vs) VB.out.vs
              rw [List.length_map, LN.out] at SB
              clear OV VB
              go_wp2_with fail
              refine (SB.out ()).mono ?_
              rintro e w11 ⟨rfl, g11⟩
              have G11 : Aside (Gw w w11) := G.out.trans g11
              clear g11
              go_wp2_with fail
              go_ret
              exact ⟨rfl, G11.out⟩
    · have ev : v = 0 := by omega
      subst ev
      obtain ⟨B, hB⟩ : ∃ B, far = B := ⟨_, rfl⟩
      have B0 : 0 ≤ B := by omega
      have B1 : B < 18446744073709551616 - 0 := by omega
      rw [hB] at *
      have MB : Aside (∀ i, i < n → 0 ≤ f i + B ∧ f i + B < 18446744073709551616) := fun i hi => by have := LM.out i hi; omega
      have R3 : Aside ((w2.alloc (.cells #[] 31)).ownsRow w.heap.size 31 1 (.slice (some ⟨w2.heap.size, 0, none⟩) 0 0) 0 ((List.range 0).map fun j => Value.int .u64 (f j + B))) := World.ownsRow_made w2 #[] 0 G2.out.size (Nat.zero_le _) rfl
      have G3 : Aside (Gw w (w2.alloc (.cells #[] 31))) := G2.out.alloc _ _
      have B3 : Aside (w.heap.size ≤ w2.heap.size) := G2.out.size
      clear hB
      go_wp2_with fail
      generalize w2.alloc (.cells #[] 31) = w3 at R3 G3 ⊢
      clear ln G2
      go_loopg [9, 10] n (fun gg s9 s10 wr => ∃ i b cap : Nat, s9 = .slice (some ⟨b, 0, none⟩) i cap ∧ s10 = .int .i64 i ∧ i ≤ n ∧ n - i ≤ gg ∧ Aside (w.heap.size ≤ b) ∧ Aside (wr.ownsRow w.heap.size 31 1 (.slice (some ⟨b, 0, none⟩) i cap) i ((List.range i).map fun j => Value.int .u64 (f j + B))) ∧ Aside (Gw w wr))
      case atStart => exact ⟨0, w2.heap.size, 0, rfl, rfl, Nat.zero_le _, by omega, B3, R3, G3⟩
      case round =>
        clear R3 G3 B3
        obtain ⟨i, b, cap, rfl, rfl, h1, h2, BW, R, G⟩ := hrel
        by_cases hlt : i < n
        · obtain ⟨bk', off', e, hbk', hc⟩ := (HK.out.gw G.out).cells (by omega)
          cases e
          have q1 := hc i hlt
          have mb := MB.out i hlt
          obtain ⟨fi, hfi⟩ : ∃ y, f i = y := ⟨_, rfl⟩
          have FI : Aside (f i = fi) := hfi
          rw [hfi] at q1 mb
          clear hc hfi
          have wb : IntKind.u64.wrap (fi + B) = fi + B := by rw [IntKind.wrap_u64]; omega
          have z0 := G.out.size
          go_wp2_with (at_builtin; refine wpList_append_own _ rfl _ _ 22 rfl w.heap.size 31 ii (.int .u64 0) 1 8 Try.underlying22 hii hz hs hby rfl (by decide) _ i _ rfl (R.out.alloc _) ⟨wr.heap.size, 0, none⟩ 1 1 [.int .u64 (fi + B)] rfl rfl (new_one wr (fi + B)) (ints_oneCell .u64 [fi + B]) (by simp only [maxLen]; omega) (by omega) (by simp; omega) ?_)
          intro v' w5 r1' r2' r3'
          obtain ⟨b5, cap5, rfl, hb5, _, _⟩ := own_slice r1' (by simpa using r3')
          have R5 : Aside (w5.ownsRow w.heap.size 31 1 (.slice (some ⟨b5, 0, none⟩) (i + 1) cap5) (i + 1) ((List.range (i + 1)).map fun j => Value.int .u64 (f j + B))) := by
            have := r1'
            rw [← FI.out] at this
            rw [List.range_succ, List.map_append]
            exact this
          have G5 : Aside (Gw w w5) := (G.out.alloc _ _).grown r2' (fun k hk => by cases hk; exact BW.out)
          have B5 : Aside (w.heap.size ≤ b5) := hb5
          clear r1' r2' r3' R G BW hb5 q1 FI
          go_wp2_with fail
          go_roundg (n - (i + 1))
          case measure => omega
          case rel => exact ⟨i + 1, b5, cap5, rfl, by go_num, by omega, Nat.le_refl _, B5, R5, G5⟩
        · have ei : i = n := by omega
          subst ei
          have icp := row_cap R.out
          have K4 : Aside (KS wr (some ⟨b, 0, none⟩) i (fun j => f j + B)) := ks_own R.out (Nat.le_refl _) (fun j hj => by simp [hj]) MB.out
          have IB : 0 ≤ B ∧ B < 18446744073709551616 := by omega
          clear R B0 B1 MB
          go_wp2_with fail
          refine (EE.out _ (HK.out.gw G.out)).mono ?_
          rintro e w6 ⟨⟨lo, lc, L, err, vals, rfl, hE, hlc, hO, hk⟩, g6⟩
          have E6 : Aside (BuildE eps f i L err) := hE
          have O6 : Aside (OwnV w6 wr.heap.size (.slice lo L.length lc) L vals) := hO
          have G6 : Aside (Gw w w6) := G.out.trans g6
          have K6 : Aside (KS w6 (some ⟨b, 0, none⟩) i (fun j => f j + B)) := K4.out.gw g6
          have GS0 : Aside (w.heap.size ≤ wr.heap.size) := G.out.size
          have ST : Aside (L.length ≤ 2000000 ∧ ∀ x, x < L.length → (L.getD x []).length ≤ 2000000) := hE.brief (by omega) HK.out.bd
          clear hE hO hk g6 G K4
          go_wp2_with fail
          refine (EM.out _ _ _ icp _ K6.out).mono ?_
          rintro e w7 ⟨⟨lo2, lc2, L2, err2, vals2, rfl, hE, hlc2, hO2, hk2⟩, g7⟩
          have M7 := E6.out.moved (g := fun j => f j + B) (fun t _ => rfl)
          obtain ⟨rfl, rfl⟩ := hE.one M7
          have OK2 : Aside (Lok (L.map fun l => l.map (mv B))) := hk2
          have V7 : Aside (VSf w7 w6.heap.size lo2 (L.map fun l => l.map (mv B))) := hO2.vsf hk2
          have O7 : Aside (OwnV w7 wr.heap.size (.slice lo L.length lc) L vals) := O6.out.gw g7
          have BK : Aside ((∀ q, (Value.slice lo L.length lc).ownBlock = some q → wr.heap.size ≤ q ∧ q < w6.heap.size) ∧ ∀ j, j < L.length → ∀ q, (vals.getD j nilS).ownBlock = some q → wr.heap.size ≤ q ∧ q < w6.heap.size) := ⟨fun q hq => O6.out.outer.lt q hq, fun j hj q hq => sr_lt (O6.out.rows j hj) q hq⟩
          have G7 : Aside (Gw w w7) := G6.out.trans g7
          clear hE hO2 hk2 g7 G6 K6 M7 O6 E6
          obtain ⟨b0, hb0⟩ : ∃ b0, wr.heap.size = b0 := ⟨_, rfl⟩
          rw [hb0] at O7 BK GS0
          obtain ⟨b1, hb1⟩ : ∃ b1, w6.heap.size = b1 := ⟨_, rfl⟩
          rw [hb1] at BK V7
          have ml : (L.map fun l => l.map (mv B)).length = L.length := by simp
          rw [ml] at hlc2 ⊢
          obtain ⟨m, hm⟩ : ∃ m, L.length = m := ⟨_, rfl⟩
          have LN : Aside (L.length = m) := hm
          have m2 : m ≤ 2000000 := by rw [← hm]; exact ST.out.1
          rw [hm] at hlc hlc2 BK ⊢
          clear hm hb0 hb1 ml
          have O8 : Aside (OwnV w7 b0 (.slice lo m lc) (mix B L 0) vals) := by
            have := O7.out
            rw [LN.out] at this
            rw [mix_zero]
            exact this
          have AP : Aside (∀ j, j < m → ∀ q, (vals.getD j nilS).ownBlock = some q → (Value.slice lo m lc).ownBlock ≠ some q ∧ ∀ x, x < m → (vals.getD x nilS).ownBlock = some q → x = j) := by
            have := O7.out.apart
            rw [LN.out] at this
            exact this
          clear O7
          go_wp2_with fail
          go_loopg [15] m (fun gg s15 wq => ∃ j : Nat, s15 = .int .i64 j ∧ j ≤ m ∧ m - j ≤ gg ∧ Aside (OwnV wq b0 (.slice lo m lc) (mix B L j) vals) ∧ Aside (VSf wq b1 lo2 (L.map fun l => l.map (mv B))) ∧ Aside (Gw w wq))
          case atStart => exact ⟨0, rfl, Nat.zero_le _, by omega, O8, V7, G7⟩
          case round =>
            clear O8 V7 G7
            obtain ⟨j, rfl, h3, h4, OV, VB, G⟩ := hrel
            by_cases jlt : j < m
            · obtain ⟨w8, hw8⟩ : ∃ wx, wx = wr := ⟨_, rfl⟩
              subst hw8
              have vl := OV.out.len
              rw [mix_len, LN.out] at vl
              have hO : w8.ownsRow b0 34 1 (.slice lo m lc) m vals := by
                have := OV.out.outer
                rwa [mix_len, LN.out] at this
              obtain ⟨gA, cA, eA, hA0, _, hAl⟩ := own_slice hO (fun q => by cases q; omega)
              cases eA
              have cj := hO.cellAt j (by omega)
              have vj : vals[j]? = some (vals.getD j nilS) := by
                rw [List.getD_eq_getElem?_getD, List.getElem?_eq_getElem (by omega)]
                rfl
              rw [vj] at cj
              have RJ := OV.out.rows j (by rw [mix_len, LN.out]; exact jlt)
              rw [mix_get B L j j (by rw [LN.out]; exact jlt), if_neg (Nat.lt_irrefl j)] at RJ
              obtain ⟨bo, c, f1, f2, f3, f4⟩ := sr_form RJ
              have nl := ST.out.2 j (by rw [LN.out]; exact jlt)
              have APj := AP.out j jlt
              have BKj := BK.out.2 j jlt
              have OKj : ∀ x, x < (L.getD j []).length → (mv B ((L.getD j []).getD x sg0)).ok := fun x hx => by
                have := OK2.out j (by simp [LN.out]; exact jlt)
                have e : (L.map fun l => l.map (mv B)).getD j [] = (L.getD j []).map (mv B) := by
                  rw [List.getD_eq_getElem?_getD, List.getD_eq_getElem?_getD, List.getElem?_map, List.getElem?_eq_getElem (by rw [LN.out]; exact jlt)]
                  rfl
                rw [e] at this
                have q := this x (by simpa using hx)
                rw [List.getD_eq_getElem?_getD, List.getElem?_map, List.getElem?_eq_getElem hx] at q
                rw [List.getD_eq_getElem?_getD, List.getElem?_eq_getElem hx]
                exact q
              rw [f1] at cj RJ APj BKj
              obtain ⟨l, hlj⟩ : ∃ l, L.getD j [] = l := ⟨_, rfl⟩
              have LJ : Aside (L.getD j [] = l) := hlj
              rw [hlj] at cj RJ f1 f2 f3 nl APj BKj OKj
              obtain ⟨ni, hni⟩ : ∃ ni, l.length = ni := ⟨_, rfl⟩
              have NI : Aside (l.length = ni) := hni
              rw [hni] at cj RJ f1 f2 f3 nl APj BKj OKj
              have FJ : Aside (vals.getD j nilS = .slice bo ni c) := f1
              have AJ : Aside (∀ q, (Value.slice bo ni c).ownBlock = some q → (Value.slice (some ⟨gA, 0, none⟩) m lc).ownBlock ≠ some q ∧ ∀ x, x < m → (vals.getD x nilS).ownBlock = some q → x = j) := APj
              have BJ : Aside (∀ q, (Value.slice bo ni c).ownBlock = some q → b0 ≤ q ∧ q < b1) := BKj
              have OJ : Aside (∀ x, x < ni → (mv B (l.getD x sg0)).ok) := OKj
              have F4 : Aside ((bo = none → ni = 0 ∧ c = 0) ∧ ∀ a, bo = some a → a = ⟨a.block, 0, none⟩) := ⟨f3, fun a ea => (f4 a ea).1⟩
              have CA : Aside (w8.cell? ⟨gA, j, none⟩ = some (.slice bo ni c) ∧ gA < w8.heap.size) := ⟨cj, hAl⟩
              have S0 : Aside (SR w8 b0 (.slice bo ni c) (mixr B l 0)) := by rw [mixr_zero]; exact RJ
              clear hO vj vl APj BKj OKj f1 f3 f4 hni hlj RJ
              go_wp2_with fail
              clear cj hAl
              go_loopg [16] ni (fun gg s16 wk => ∃ k : Nat, s16 = .int .i64 k ∧ k ≤ ni ∧ ni - k ≤ gg ∧ Aside (SR wk b0 (.slice bo ni c) (mixr B l k)) ∧ Aside ((∀ q, (Value.slice bo ni c).ownBlock ≠ some q → wk.heap[q]? = w8.heap[q]?) ∧ wk.heap.size = w8.heap.size) ∧ Aside (Gw w wk))
              case atStart => exact ⟨0, rfl, Nat.zero_le _, by omega, S0, (show Aside _ from ⟨fun _ _ => rfl, rfl⟩), G⟩
              case round =>
                clear S0
                obtain ⟨k, rfl, k1, k2, SK, KK, GK⟩ := hrel
                have nA : (Value.slice bo ni c).ownBlock ≠ some gA := fun e => (AJ.out gA e).1 rfl
                have cA : wr.cell? ⟨gA, j, none⟩ = some (.slice bo ni c) := by
                  have := CA.out.1
                  unfold World.cell? at this ⊢
                  rw [KK.out.1 gA nA]
                  exact this
                have lA : gA < wr.heap.size := by rw [KK.out.2]; exact CA.out.2
                by_cases klt : k < ni
                · obtain ⟨g, rfl⟩ : ∃ g, bo = some ⟨g, 0, none⟩ := by
                    cases bo with
                    | none => have := (F4.out.1 rfl).1; omega
                    | some a => exact ⟨a.block, by rw [← F4.out.2 a rfl]⟩
                  have gA' : ¬ gA = g := fun e => nA (by rw [e]; rfl)
                  have gA'' : ¬ g = gA := fun e => gA' e.symm
                  have XL : (mixr B l k).length = ni := by rw [mixr_len, NI.out]
                  have SK' : Aside (SR wr b0 (.slice (some ⟨g, 0, none⟩) (mixr B l k).length c) (mixr B l k)) := by rw [XL]; exact SK
                  have x0 : wr.cell? ⟨g, k * 5, none⟩ = some (.int .u64 (l.getD k sg0).k) := by
                    have h' : wr.ownsRow b0 38 5 (.slice (some ⟨g, 0, none⟩) (mixr B l k).length c) (mixr B l k).length ((mixr B l k).flatMap sgc) := SK'.out
                    have := flat_get (mixr B l k) k (by omega) 0 (by decide)
                    rw [Nat.add_zero, mixr_at B l k (by rw [NI.out]; exact klt)] at this
                    rw [h'.cellAt _ (by omega), this]
                    rfl
                  have y0 : wr.frozen? ⟨g, k * 5, none⟩ = false := World.ownsRow.frozenAt SK'.out _
                  have gl : g < wr.heap.size := (sr_lt SK.out g rfl).2
                  have kc : (k : Int) < (ni : Int) := by omega
                  have gb : w.heap.size ≤ g := Nat.le_trans GS0.out (BJ.out g rfl).1
                  have ok := OJ.out k klt
                  have ob0 : 0 ≤ (l.getD k sg0).k + B := ok.k0
                  have ob1 : (l.getD k sg0).k + B < 18446744073709551616 := ok.k1
                  have SK9 : Aside (SR (wr.setCell ⟨g, k * 5, none⟩ (.int .u64 ((l.getD k sg0).k + B))) b0 (.slice (some ⟨g, 0, none⟩) ni c) (mixr B l (k + 1))) := by
                    have r := sr_first SK'.out (k := k) (B := B) (by omega)
                    rw [mixr_at B l k (by rw [NI.out]; exact klt), mixr_next B l k (by rw [NI.out]; exact klt), XL] at r
                    exact r
                  obtain ⟨y, hy⟩ : ∃ y, (l.getD k sg0).k = y := ⟨_, rfl⟩
                  rw [hy] at x0 ob0 ob1 SK9
                  have wy : IntKind.u64.wrap (y + B) = y + B := by rw [IntKind.wrap_u64]; omega
                  have KK9 : Aside ((∀ q, (Value.slice (some ⟨g, 0, none⟩) ni c).ownBlock ≠ some q → (wr.setCell ⟨g, k * 5, none⟩ (.int .u64 (y + B))).heap[q]? = w8.heap[q]?) ∧ (wr.setCell ⟨g, k * 5, none⟩ (.int .u64 (y + B))).heap.size = w8.heap.size) :=
                    ⟨fun q hq => (Go.Deep.blk_setCell_other _ _ _ _ (fun e => hq (by rw [e]; rfl))).trans (KK.out.1 q hq), (by simp; exact KK.out.2)⟩
                  have GK9 : Aside (Gw w (wr.setCell ⟨g, k * 5, none⟩ (.int .u64 (y + B)))) := GK.out.setCell gb _
                  obtain ⟨wa, hwa⟩ : ∃ wx, wx = wr := ⟨_, rfl⟩
                  subst hwa
                  have HW : Hid (∀ w' : World, (∃ q, w' = wa.drewN q) → Aside (∃ q, w' = wa.drewN q) ∧ w'.cell? ⟨gA, j, none⟩ = some (.slice (some ⟨g, 0, none⟩) ni c) ∧ w'.cell? ⟨g, k * 5, none⟩ = some (.int .u64 y) ∧ w'.frozen? ⟨g, k * 5, none⟩ = false ∧ gA < w'.heap.size ∧ g < w'.heap.size) := by
                    rintro w' ⟨q, rfl⟩
                    exact ⟨⟨q, rfl⟩, cA, x0, y0, lA, gl⟩
                  clear XL SK SK' KK GK nA ok ob0 ob1 hy cA x0 y0 lA gl
                  have H0 := HW.out wa ⟨0, rfl⟩
                  obtain ⟨-, cA, x0, y0, lA, gl⟩ := H0
                  go_wp2_with fail
                  go_region
                  all_goals go_wp2_with fail
                  all_goals
                    go_roundg (ni - (k + 1))
                    case measure => omega
                    case rel => exact ⟨k + 1, by go_num, by omega, Nat.le_refl _, (show Aside _ from sr_gw SK9.out (Gw.refl _).drew), (show Aside _ from KK9.out), (show Aside _ from GK9.out.drew)⟩
                · have ek : k = ni := by omega
                  subst ek
                  have O9 : Aside (OwnV wr b0 (.slice (some ⟨gA, 0, none⟩) m lc) (mix B L (j + 1)) vals) := by
                    have sz := KK.out.2
                    refine ⟨?_, fun x hx => ?_, fun x hx => ?_⟩
                    · rw [mix_len, LN.out]
                      have := OV.out.outer
                      rw [mix_len, LN.out] at this
                      exact own_kept this fun q hq => KK.out.1 q (fun e => (AJ.out q e).1 hq)
                    · rw [mix_len, LN.out] at hx
                      rw [mix_get B L _ x (by rw [LN.out]; exact hx)]
                      by_cases e : x = j
                      · subst e
                        rw [if_pos (by omega), FJ.out, LJ.out]
                        have := SK.out
                        rw [← NI.out, mixr_all] at this
                        rw [← NI.out]
                        exact this
                      · have R := OV.out.rows x (by rw [mix_len, LN.out]; exact hx)
                        rw [mix_get B L _ x (by rw [LN.out]; exact hx)] at R
                        have e2 : (if x < j + 1 then (L.getD x []).map (mv B) else L.getD x []) = if x < j then (L.getD x []).map (mv B) else L.getD x [] := by
                          by_cases q : x < j
                          · rw [if_pos (by omega), if_pos q]
                          · rw [if_neg (by omega), if_neg q]
                        rw [e2]
                        exact sr_keep R fun q hq => KK.out.1 q (fun h => e ((AJ.out q h).2 x hx hq))
                    · rw [mix_len, LN.out] at hx ⊢
                      exact AP.out x hx
                  have V9 : Aside (VSf wr b1 lo2 (L.map fun l => l.map (mv B))) := VB.out.keep (fun q h5 h6 => KK.out.1 q (fun e => by have := (BJ.out q e).2; omega)) (by rw [KK.out.2]; exact Nat.le_refl _)
                  have G9 : Aside (Gw w wr) := GK.out
                  clear SK KK GK nA
                  go_wp2_with fail
                  go_roundg (m - (j + 1))
                  case measure => omega
                  case rel => exact ⟨j + 1, by go_num, by omega, Nat.le_refl _, O9, V9, G9⟩
            · have ej : j = m := by omega
              subst ej
              have SB : Hid _ := fun _ : Unit => same8_any lo lo2 lc lc2 (L.map fun l => l.map (mv B)) (by rw [List.length_map, LN.out]; have := ST.out.1; rw [LN.out] at this; omega) (fun x hx => by
                have e : (L.map fun l => l.map (mv B)).getD x [] = (L.getD x []).map (mv B) := by
                  rw [List.getD_eq_getElem?_getD, List.getD_eq_getElem?_getD, List.getElem?_map]
                  cases L[x]? <;> rfl
                rw [e, List.length_map]
                have := ST.out.2 x (by simpa using hx)
                omega) wr (by
                  have := OV.out
                  rw [← LN.out, mix_all] at this
                  have q : OwnV wr b0 (.slice lo (L.map fun l => l.map (mv B)).length lc) (L.map fun l => l.map (mv B)) vals := by rw [List.length_map]; exact this
                  exact (q.vsf OK2.out).vs) VB.out.vs
              rw [List.length_map, LN.out] at SB
              clear OV VB
              go_wp2_with fail
              refine (SB.out ()).mono ?_
              rintro e w11 ⟨rfl, g11⟩
              have G11 : Aside (Gw w w11) := G.out.trans g11
              clear g11
              go_wp2_with fail
              go_ret
              exact ⟨rfl, G11.out⟩

end Go.Proofs.Ytmmkmakajolfhab
