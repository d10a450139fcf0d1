/- CutComes' walk. -/
import Derived.Test.YtlocnkoeffoflaaEWFew
import Derived.Test.YtlocnkoeffoflaaHStep
import Derived.Deep.DeepCutAuto
import Derived.Deep.RegionHeld3
namespace Go.Proofs.Ytlocnkoeffoflaa
open Go.RowKit
set_option linter.unusedVariables false

theorem ks_part {w : World} {ao : Option Addr} {n k : Nat} {f : Nat → Int} (h : KS w ao n f) (hk : k ≤ n) : KS w ao k f :=
  ⟨fun h0 => by
    obtain ⟨b, off, e, hb, hc⟩ := h.cells (by omega)
    exact ⟨b, off, e, hb, fun i hi => hc i (by omega)⟩, fun i hi => h.bd i (by omega)⟩
theorem ks_from {w : World} {b off n c : Nat} {f : Nat → Int} (h : KS w (some ⟨b, off, none⟩) n f) (hc : c ≤ n) : KS w (some ⟨b, off + c, none⟩) (n - c) (sh f c) :=
  ⟨fun h0 => by
    obtain ⟨b', off', e, hb, hcell⟩ := h.cells (by omega)
    cases e
    exact ⟨b, off + c, rfl, hb, fun i hi => by rw [Nat.add_assoc]; exact hcell (c + i) (by omega)⟩, fun i hi => h.bd (c + i) (by omega)⟩
theorem tw_take (k : Nat) : ∀ (l : List Nat) (i : Nat), (∀ j, j < i → l.getD j 0 < k) → i ≤ l.length → (i = l.length ∨ ¬ l.getD i 0 < k) → l.takeWhile (fun j => decide (j < k)) = l.take i := by
  intro l
  induction l with
  | nil => intro i _ _ _; simp
  | cons x l ih =>
    intro i h1 h2 h3
    cases i with
    | zero =>
      rcases h3 with q | q
      · simp at q
      · have q' : ¬ x < k := q
        rw [List.takeWhile_cons, if_neg (by simpa using q'), List.take_zero]
    | succ i =>
      have hx : x < k := h1 0 (by omega)
      rw [List.takeWhile_cons, if_pos (by simpa using hx), List.take_succ_cons]
      rw [ih i (fun j hj => h1 (j + 1) (by omega)) (by simpa using h2) (by
        rcases h3 with q | q
        · left; simpa using q
        · right; exact q)]
theorem take_next {l : List Nat} {i : Nat} (hi : i < l.length) : l.take i ++ [l.getD i 0] = l.take (i + 1) := by
  rw [List.take_add_one]
  simp [List.getD, hi]
theorem take_len {l : List Nat} {i : Nat} (hi : i ≤ l.length) : (l.take i).length = i := by simp; omega
theorem getD_mem {l : List Nat} {i : Nat} (h : i < l.length) : l.getD i 0 ∈ l := by
  have : l.getD i 0 = l[i] := by simp [List.getD, h]
  rw [this]
  exact List.getElem_mem h
theorem drop_get (l : List Nat) {t i : Nat} (h : t ≤ i) : (l.drop t).getD (i - t) 0 = l.getD i 0 := by
  simp only [List.getD, List.getElem?_drop]
  rw [show t + (i - t) = i by omega]
theorem map_get (g : Nat → Nat) {l : List Nat} {i : Nat} (h : i < l.length) : (l.map g).getD i 0 = g (l.getD i 0) := by
  simp [List.getD, h]
theorem rest_get {e : Int} {f : Nat → Int} {n c m t i : Nat} {l : List Nat} (hm : l.length = m) (h1 : t ≤ i) (h2 : i < m) (S : EndsAt e f n c (l.drop t)) : c < l.getD i 0 ∧ ((((l.drop t).map (· - c)).getD (i - t) 0 : Nat) : Int) = (l.getD i 0 : Int) - c := by
  have hl : i - t < (l.drop t).length := by rw [List.length_drop, hm]; omega
  have hd := drop_get l h1
  have hmem := getD_mem hl
  rw [hd] at hmem
  have hgt := (S.mem _ hmem).1
  refine ⟨hgt, ?_⟩
  rw [map_get (fun x => x - c) hl, hd]
  omega
/-- The values of a list. -/
def vals (l : List Nat) : List Value := l.map fun (j : Nat) => Value.int .i64 (j : Int)
theorem vals_snoc (l : List Nat) (x : Nat) : vals (l ++ [x]) = vals l ++ [Value.int .i64 (x : Int)] := by simp [vals]
/-- A number more. -/
theorem ir_next {w5 : World} {base i cap g : Nat} {l : List Nat} (hi : i < l.length) (x : Int) (hx : x = ((l.getD i 0 : Nat) : Int)) (r : w5.ownsRow base 3 1 (.slice (some ⟨g, 0, none⟩) (i + 1) cap) (i + 1) ((vals (l.take i)) ++ [Value.int .i64 x])) : w5.ownsRow base 3 1 (.slice (some ⟨g, 0, none⟩) (i + 1) cap) (i + 1) (vals (l.take (i + 1))) := by
  rw [← take_next hi, vals_snoc]
  subst hx
  exact r

set_option maxRecDepth 10000 in
set_option maxHeartbeats 8000000 in
theorem comes_walk (CC : CutC) (ao : Option Addr) (n cp : Nat) (f : Nat → Int) (eps at_ : Int) (p0 : -9223372036854775808 ≤ eps) (p1 : eps < 9223372036854775808) (s0 : -9223372036854775808 ≤ at_) (s1 : at_ < 9223372036854775808) (hn : n ≤ 1048576) (hcp : n ≤ cp) (w : World) (h : KS w ao n f) :
    Calls Try.prog 6 #[.slice ao n cp, .int .i64 eps, .int .i64 at_] w fun e w' => e = .returned (.bool true) ∧ Gw w w' := by
  have HK : Aside (KS w ao n f) := h
  clear h
  obtain ⟨ii, hii, hz, hs, hby⟩ := info_parts info_i
  have SH : Hid _ := fun W => eshown CC W
  have RI : Hid _ := fun W h => right_any CC eps ao n cp f p0 p1 (by omega) hcp W h
  have EE : Hid _ := fun bo k c g hk hc W h => CC.ends eps bo k c g p0 p1 hk hc W h
  clear CC
  go_enter Try.func6, Try.ntmps6
  go_wp2_with fail
  refine (SH.out _).mono ?_
  rintro e w1 ⟨rfl, g1⟩
  have G1 : Aside (Gw w w1) := g1
  clear g1
  go_wp2_with fail
  refine (RI.out _ (HK.out.gw G1.out)).mono ?_
  rintro e w2 ⟨⟨r, rfl, hr⟩, g2⟩
  have HR : Aside (r = true ↔ ((2 ≤ eps ∧ eps ≤ 64) ∧ Up f n)) := hr
  have G2 : Aside (Gw w w2) := G1.out.trans g2
  clear hr g2 G1
  cases r with
  | false =>
    clear HR
    go_wp2_with fail
    go_ret
    exact ⟨rfl, G2.out⟩
  | true =>
    have KK : Aside ((2 ≤ eps ∧ eps ≤ 64) ∧ Up f n) := HR.out.1 rfl
    clear HR
    by_cases n0 : n = 0
    · subst n0
      go_wp2_with fail
      go_ret
      exact ⟨rfl, G2.out⟩
    · have tn : ((n : Int) == 0) = false := by simp; omega
      have nz' : ¬ (n : Int) = 0 := by omega
      by_cases hk : at_ < 0
      · have tk : decide (at_ < 0) = true := by simpa using hk
        have wa : IntKind.i64.wrap (at_ + 1) = at_ + 1 := by rw [IntKind.wrap_i64]; omega
        have wb : IntKind.i64.wrap (-(at_ + 1)) = -(at_ + 1) := by rw [IntKind.wrap_i64]; omega
        obtain ⟨K0, hK⟩ : ∃ K0, -(at_ + 1) = K0 := ⟨_, rfl⟩
        have k0 : 0 ≤ K0 := by omega
        rw [hK] at wb
        obtain ⟨v, hv⟩ : ∃ v, K0 % (n : Int) = v := ⟨_, rfl⟩
        have tv : K0.tmod (n : Int) = v := by rw [Int.tmod_eq_emod_of_nonneg k0]; exact hv
        have v0 : 0 ≤ v := by rw [← hv]; exact Int.emod_nonneg _ nz'
        have v1 : v < n := by rw [← hv]; exact Int.emod_lt_of_pos _ (by omega)
        obtain ⟨kn, hkn⟩ : ∃ kn : Nat, 1 + v = kn := ⟨(1 + v).toNat, by omega⟩
        have wk : IntKind.i64.wrap (1 + v) = kn := by rw [IntKind.wrap_i64]; omega
        have kb : 0 < kn ∧ kn ≤ n := by omega
        have kc : kn ≤ cp := by omega
        clear hv v0 v1
        obtain ⟨bk, off, rfl, _, _⟩ := HK.out.cells (by omega)
        go_wp2_with fail
        refine (EE.out _ n _ f (by omega) hcp _ (HK.out.gw G2.out)).mono ?_
        rintro e w3 ⟨⟨v3, l, err, rfl, hE, hI⟩, g3⟩
        obtain ⟨hEnds, rfl⟩ := hE.right KK.out
        have ED : Aside (EndsAt (eps - 1) f n 0 l) := hEnds
        obtain ⟨bo, cap, rfl, hL⟩ := ir_ls hI
        have L3 : Aside (LS w3 bo l) := hL
        have G3 : Aside (Gw w w3) := G2.out.trans g3
        clear hE hEnds hI hL g3 G2
        have ln := ED.out.len
        have m0 : 0 < l.length := List.length_pos_iff.2 (ED.out.nonempty (by omega))
        go_wp2_with fail
        refine (EE.out _ kn _ f (by omega) kc _ (ks_part (HK.out.gw G3.out) kb.2)).mono ?_
        rintro e w4 ⟨⟨v4, la, erra, rfl, hE, hI⟩, g4⟩
        obtain ⟨ha, rfl⟩ := hE.right ⟨KK.out.1, fun j hj => KK.out.2 j (by omega)⟩
        have LA : Aside (la = l.takeWhile (fun j => decide (j < kn)) ++ [kn]) := ha.one (ED.out.part kb.2 kb.1)
        obtain ⟨bo4, cap4, rfl, hL⟩ := ir_ls hI
        have A4 : Aside (LS w4 bo4 la) := hL
        have L4 : Aside (LS w4 bo l) := L3.out.gw g4
        have G4 : Aside (Gw w w4) := G3.out.trans g4
        have lla := ha.len
        clear hE ha hI hL g4 G3 L3
        have I5 : Aside (IR (w4.alloc (.cells #[] 3)) w4.heap.size (.slice (some ⟨w4.heap.size, 0, none⟩) 0 0) []) := ir_new w4 w4.heap.size (Nat.le_refl _)
        have G5 : Aside (Gw w4 (w4.alloc (.cells #[] 3))) := (Gw.refl w4).alloc _ _
        obtain ⟨m, hm⟩ : ∃ m, l.length = m := ⟨_, rfl⟩
        have EM : Aside (l.length = m) := hm
        obtain ⟨bl, ol, rfl, hbl, hcl⟩ := L4.out.cells m0
        have CE : Aside (∀ w', Gw w4 w' → ∀ i, i < m → w'.cell? ⟨bl, ol + i, none⟩ = some (.int .i64 ((l.getD i 0 : Nat) : Int))) := fun w' g i hi => (g.cell _ _ hbl).trans (hcl i (by omega))
        have LB : Aside (∀ i, i < m → l.getD i 0 ≤ n) := fun i hi => (ED.out.step i (by omega)).2.1
        rw [hm] at m0 ln ⊢
        clear hcl hm
        go_wp2_with fail
        generalize w4.alloc (.cells #[] 3) = w5 at I5 G5 ⊢
        go_loopg [15, 16] m (fun gg s15 s16 wr => ∃ i b1 c1 : Nat, s15 = .slice (some ⟨b1, 0, none⟩) i c1 ∧ s16 = .int .i64 i ∧ i ≤ m ∧ m - i ≤ gg ∧ Aside (wr.ownsRow w4.heap.size 3 1 (.slice (some ⟨b1, 0, none⟩) i c1) i (vals (l.take i))) ∧ Aside (∀ j, j < i → l.getD j 0 < kn) ∧ Aside (w4.heap.size ≤ b1) ∧ Aside (Gw w4 wr))
        case atStart => exact ⟨0, w4.heap.size, 0, rfl, rfl, Nat.zero_le _, by omega, (show Aside _ from I5.out), (show Aside _ from fun j hj => by omega), (show Aside _ from Nat.le_refl _), G5⟩
        case round =>
          clear I5 G5
          obtain ⟨i, b1, c1, rfl, rfl, h1, h2, R, J, BW, G⟩ := hrel
          by_cases hgo : i < m ∧ l.getD i 0 < kn
          · obtain ⟨hlt, hx0⟩ := hgo
            have q1 := CE.out _ G.out i hlt
            have NJ : Aside (∀ j, j < i + 1 → l.getD j 0 < kn) := fun j hj => by
              by_cases e : j = i
              · subst e; exact hx0
              · exact J.out j (by omega)
            have NR : Aside (∀ (w5 : World) (g cap : Nat), w5.ownsRow w4.heap.size 3 1 (.slice (some ⟨g, 0, none⟩) (i + 1) cap) (i + 1) ((vals (l.take i)) ++ [Value.int .i64 ((l.getD i 0 : Nat) : Int)]) → w5.ownsRow w4.heap.size 3 1 (.slice (some ⟨g, 0, none⟩) (i + 1) cap) (i + 1) (vals (l.take (i + 1)))) := fun w5 g cap r => ir_next (by rw [EM.out]; exact hlt) _ rfl r
            obtain ⟨x, hx⟩ : ∃ x, l.getD i 0 = x := ⟨_, rfl⟩
            rw [hx] at q1 hx0 NR
            clear hx J
            have t1 : (i : Int) < (m : Int) := by omega
            have t2 : (x : Int) < (kn : Int) := by omega
            have hb5 := Nat.lt_of_lt_of_le hbl G.out.size
            have z0 := G.out.size
            go_wp2_with (at_builtin; refine wpList_append_own _ rfl _ _ 25 rfl w4.heap.size 3 ii (.int .i64 0) 1 8 Try.underlying25 hii hz hs hby rfl (by decide) _ i _ rfl (R.out.alloc _) ⟨wr.heap.size, 0, none⟩ 1 1 [.int .i64 (x : Int)] rfl rfl (new_i wr x) (ints_oneCell .i64 [(x : Int)]) (by simp only [maxLen]; omega) (by omega) (by simp; omega) ?_)
            intro v' w6 r1 r2 r3
            obtain ⟨b6, c6, rfl, hb6, _, _⟩ := own_slice r1 (by simpa using r3)
            have R6 : Aside _ := NR.out _ _ _ r1
            have G6 : Aside (Gw w4 w6) := (G.out.alloc _ _).grown r2 (fun k hk => by cases hk; exact BW.out)
            have B6 : Aside (w4.heap.size ≤ b6) := hb6
            clear r1 r2 r3 R G BW hb6 NR q1
            go_wp2_with fail
            go_roundg (m - (i + 1))
            case measure => omega
            case rel => exact ⟨i + 1, b6, c6, rfl, by go_num, by omega, Nat.le_refl _, R6, NJ, B6, G6⟩
          · have WT : Aside (l.takeWhile (fun j => decide (j < kn)) = l.take i) := tw_take kn l i J.out (by rw [EM.out]; exact h1) (by
              rw [EM.out]
              by_cases e : i = m
              · exact .inl e
              · exact .inr fun q => hgo ⟨by omega, q⟩)
            have NR : Aside (∀ (w5 : World) (g cap : Nat), w5.ownsRow w4.heap.size 3 1 (.slice (some ⟨g, 0, none⟩) (i + 1) cap) (i + 1) ((vals (l.take i)) ++ [Value.int .i64 (kn : Int)]) → (IR w5 w4.heap.size (.slice (some ⟨g, 0, none⟩) la.length cap) la ∧ la.length = i + 1)) := fun w5 g cap r => by
              have el : la = l.take i ++ [kn] := by rw [LA.out, WT.out]
              have e2 : la.length = i + 1 := by rw [el, List.length_append, take_len (by rw [EM.out]; exact h1)]; rfl
              refine ⟨?_, e2⟩
              show World.ownsRow _ _ _ _ _ _ _
              rw [e2]
              show World.ownsRow _ _ _ _ _ _ (vals la)
              rw [el, vals_snoc]
              exact r
            have WAY : Aside ((¬ i < m) ∨ (i < m ∧ ¬ l.getD i 0 < kn)) := by
              by_cases q : i < m
              · exact .inr ⟨q, fun r => hgo ⟨q, r⟩⟩
              · exact .inl q
            clear hgo J WT
            have z0 := G.out.size
            have hb5 := Nat.lt_of_lt_of_le hbl G.out.size
            have way : (∃ t1 : ¬ (i : Int) < (m : Int), True) ∨ (∃ x : Nat, (i : Int) < (m : Int) ∧ ¬ (x : Int) < (kn : Int) ∧ wr.cell? ⟨bl, ol + i, none⟩ = some (.int .i64 (x : Int))) := by
              rcases WAY.out with q | ⟨q, r⟩
              · exact .inl ⟨by omega, trivial⟩
              · exact .inr ⟨l.getD i 0, by omega, by omega, CE.out _ G.out i q⟩
            clear WAY
            have LE : Aside (la.length ≤ 4000000) := by show _ ≤ _; omega
            clear lla
            rcases way with ⟨t1, _⟩ | ⟨x, t1, t2, q1⟩
            all_goals
              go_wp2_with (at_builtin; refine wpList_append_own _ rfl _ _ 25 rfl w4.heap.size 3 ii (.int .i64 0) 1 8 Try.underlying25 hii hz hs hby rfl (by decide) _ i _ rfl (R.out.alloc _) ⟨wr.heap.size, 0, none⟩ 1 1 [.int .i64 (kn : Int)] rfl rfl (new_i wr kn) (ints_oneCell .i64 [(kn : Int)]) (by simp only [maxLen]; omega) (by omega) (by simp; omega) ?_)
              intro v' w6 r1 r2 r3
              obtain ⟨b6, c6, rfl, hb6, _, _⟩ := own_slice r1 (by simpa using r3)
              obtain ⟨nr1, nr2⟩ := NR.out _ _ _ r1
              obtain ⟨bo6, cap6, e6, hL6⟩ := ir_ls nr1
              have L6 : Aside (LS w6 (some ⟨b6, 0, none⟩) la) := by cases e6; exact hL6
              have G6 : Aside (Gw w4 w6) := (G.out.alloc _ _).grown r2 (fun k hk => by cases hk; exact BW.out)
              have A6 : Aside (LS w6 bo4 la) := A4.out.gw G6.out
              have EL : Aside (la.length = i + 1) := nr2
              clear r1 r2 r3 R G BW hb6 NR nr1 nr2 e6 hL6 A4
              go_wp2_with fail
              rw [← EL.out]
              refine (same_any bo4 (some ⟨b6, 0, none⟩) cap4 c6 la la LE.out LE.out _ A6.out L6.out).mono ?_
              rintro e w7 ⟨rfl, g7⟩
              have G7 : Aside (Gw w4 w7) := G6.out.trans g7
              have dt : decide (la = la) = true := by simp
              rw [dt]
              clear g7 G6 L6 A6 EL
              have tm : ((m : Int) == 0) = false := by simp; omega
              have tm' : ¬ (m : Int) = 0 := by omega
              obtain ⟨t_, ht_⟩ : ∃ t_ : Nat, K0 % (m : Int) = t_ := ⟨(K0 % (m : Int)).toNat, by have := Int.emod_nonneg K0 tm'; omega⟩
              have tt : K0.tmod (m : Int) = t_ := by rw [Int.tmod_eq_emod_of_nonneg k0]; exact ht_
              have tlt : t_ < m := by have := Int.emod_lt_of_pos K0 (show (0 : Int) < m by omega); omega
              clear ht_
              have q7 := CE.out _ G7.out t_ tlt
              have lb := LB.out t_ tlt
              obtain ⟨c, hc⟩ : ∃ c, l.getD t_ 0 = c := ⟨_, rfl⟩
              have ST : Aside (EndsAt (eps - 1) f n c (l.drop (t_ + 1))) := by rw [← hc]; exact (ED.out.step t_ (by rw [EM.out]; exact tlt)).2.2.2.2
              have CT : Aside (l.getD t_ 0 = c) := hc
              rw [hc] at q7 lb
              clear hc
              have tc0 : ¬ (c : Int) < 0 := by omega
              have tc1 : ¬ (n : Int) < (c : Int) := by omega
              have hb7 := Nat.lt_of_lt_of_le hbl G7.out.size
              have ccp : c ≤ cp := by omega
              have K7 : Aside (KS w7 (some ⟨bk, off + c, none⟩) (n - c) (sh f c)) := ks_from (HK.out.gw (G4.out.trans G7.out)) lb
              go_wp2_with fail
              all_goals
                refine (EE.out _ (n - c) _ (sh f c) (by omega) (by omega) _ (by first | exact K7.out | exact ⟨fun h0 => absurd h0 (by omega), fun i hi => absurd hi (by omega)⟩)).mono ?_
                rintro e w8 ⟨⟨v8, lb8, err8, rfl, hE, hI⟩, g8⟩
                obtain ⟨hb8', rfl⟩ := hE.right ⟨KK.out.1, sh_up KK.out.2 (Nat.le_refl _)⟩
                have RS := EndsAt.rest (Nat.le_refl c) ST.out
                rw [Nat.sub_self] at RS
                have L8E : Aside (lb8 = (l.drop (t_ + 1)).map (· - c)) := hb8'.one RS
                have ll8 := hb8'.len
                obtain ⟨bo8, cap8, rfl, hL⟩ := ir_ls hI
                have A8 : Aside (LS w8 bo8 lb8) := hL
                have G8 : Aside (Gw w4 w8) := G7.out.trans g8
                clear hE hb8' RS hI hL g8 G7 K7 q7
                have len8 : Aside (lb8.length = m - (t_ + 1)) := by rw [L8E.out, List.length_map, List.length_drop, EM.out]; exact rfl
                have GT : Aside (∀ i, t_ + 1 ≤ i → i < m → c < l.getD i 0 ∧ ((lb8.getD (i - (t_ + 1)) 0 : Nat) : Int) = (l.getD i 0 : Int) - c) := fun i h1 h2 => by
                  rw [L8E.out]
                  exact rest_get EM.out h1 h2 ST.out
                have I9 : Aside (IR (w8.alloc (.cells #[] 3)) w8.heap.size (.slice (some ⟨w8.heap.size, 0, none⟩) 0 0) []) := ir_new w8 w8.heap.size (Nat.le_refl _)
                have G9 : Aside (Gw w8 (w8.alloc (.cells #[] 3))) := (Gw.refl w8).alloc _ _
                have C8 : Aside (∀ w', Gw w8 w' → (w'.cell? ⟨bl, ol + t_, none⟩ = some (.int .i64 (c : Int)) ∧ ∀ i, i < m → w'.cell? ⟨bl, ol + i, none⟩ = some (.int .i64 ((l.getD i 0 : Nat) : Int)))) := fun w' g => ⟨by have := CE.out w' (G8.out.trans g) t_ tlt; rw [CT.out] at this; exact this, CE.out w' (G8.out.trans g)⟩
                have hb8 := Nat.lt_of_lt_of_le hbl G8.out.size
                have wt1 : IntKind.i64.wrap ((t_ : Int) + 1) = ((t_ + 1 : Nat) : Int) := by rw [IntKind.wrap_i64]; omega
                clear L8E ST CT
                go_wp2_with fail
                generalize w8.alloc (.cells #[] 3) = w9 at I9 G9 ⊢
                go_loopg [20, 21] m (fun gg s20 s21 wq => ∃ i j b1 c1 : Nat, s20 = .slice (some ⟨b1, 0, none⟩) j c1 ∧ s21 = .int .i64 i ∧ t_ + 1 ≤ i ∧ i ≤ m ∧ j = i - (t_ + 1) ∧ m - i ≤ gg ∧ Aside (wq.ownsRow w8.heap.size 3 1 (.slice (some ⟨b1, 0, none⟩) j c1) j (vals (lb8.take j))) ∧ Aside (w8.heap.size ≤ b1) ∧ Aside (Gw w8 wq))
                case atStart => exact ⟨t_ + 1, 0, w8.heap.size, 0, rfl, by first | rfl | go_num, Nat.le_refl _, by omega, by omega, by omega, (show Aside _ from I9.out), (show Aside _ from Nat.le_refl _), G9⟩
                case round =>
                  clear I9 G9
                  obtain ⟨i, j, b1, c1, rfl, rfl, h1, h2, hj, h3, R, BW, G⟩ := hrel
                  by_cases hlt : i < m
                  · obtain ⟨q1, q2'⟩ := C8.out _ G.out
                    have q2 := q2' i hlt
                    clear q2'
                    obtain ⟨gt1, gt2⟩ := GT.out i h1 hlt
                    rw [← hj] at gt2
                    have NR : Aside (∀ x : Int, x = ((lb8.getD j 0 : Nat) : Int) → ∀ (w5 : World) (g cap : Nat), w5.ownsRow w8.heap.size 3 1 (.slice (some ⟨g, 0, none⟩) (j + 1) cap) (j + 1) ((vals (lb8.take j)) ++ [Value.int .i64 x]) → w5.ownsRow w8.heap.size 3 1 (.slice (some ⟨g, 0, none⟩) (j + 1) cap) (j + 1) (vals (lb8.take (j + 1)))) := fun x hx w5 g cap r => ir_next (by rw [len8.out]; omega) _ hx r
                    have lbi := LB.out i hlt
                    obtain ⟨x, hx⟩ : ∃ x, l.getD i 0 = x := ⟨_, rfl⟩
                    rw [hx] at q2 gt1 gt2 lbi
                    have NR' : Aside _ := NR.out ((x : Int) - c) gt2.symm
                    clear hx gt2 NR
                    have wx : IntKind.i64.wrap ((x : Int) - c) = (x : Int) - c := by rw [IntKind.wrap_i64]; omega
                    have hbq := Nat.lt_of_lt_of_le hb8 G.out.size
                    have z0 := G.out.size
                    have HKV : Hid (∀ w', Gw w8 w' → Gw w8 w' ∧ w'.cell? ⟨bl, ol + t_, none⟩ = some (.int .i64 (c : Int)) ∧ w'.cell? ⟨bl, ol + i, none⟩ = some (.int .i64 (x : Int))) := fun w' g => ⟨g, (g.cell _ _ hb8).trans (((C8.out w8 (Gw.refl _)).1)), ((g.cell _ _ hb8).trans (G.out.cell _ _ hb8).symm).trans q2⟩
                    have GH : Gw w8 wr := G.out
                    have t21 : (i : Int) < (m : Int) := by omega
                    have jb : j ≤ 2000000 := by omega
                    have HJ : Aside (j = i - (t_ + 1)) := hj
                    clear hj
                    go_wp2_with fail
                    go_region_held3 (fun w' => Gw w8 w' ∧ w'.cell? ⟨bl, ol + t_, none⟩ = some (.int .i64 (c : Int)) ∧ w'.cell? ⟨bl, ol + i, none⟩ = some (.int .i64 (x : Int)))
                      ((refine HKV.out _ ?_; (repeat (first | exact GH | assumption | exact And.left (by assumption) | refine Gw.drew ?_ | refine Gw.alloc ?_ _ _)); done))
                      (first | (refine step_append_any _ rfl (.tmp 146) (.tmp 156) 25 rfl w8.heap.size 3 ii _ 1 8 Try.underlying25 hii hz hs hby rfl (by decide) b1 j c1 (vals (lb8.take j)) (by simp [Act.eval]) (by first | exact R.out.alloc _ | exact (R.out.drew).alloc _ | exact (R.out.alloc _).drew) (some ⟨wr.heap.size, 0, none⟩) 1 1 [.int .i64 ((x : Int) - c)] (by simp [Act.eval]) (fun q => by cases q) rfl (fun ad e' => (by cases e'; exact new_i wr ((x : Int) - c))) (ints_oneCell .i64 [(x : Int) - c]) (by simp only [maxLen]; omega) (by omega) (by simp <;> omega) ?_; intro g2 cap2 w10 r1 r2 r3 r4; have R10 : Hid _ := NR'.out _ _ _ r1; have G10 : Gw w8 w10 := (Gw.grown (by repeat (first | exact GH | refine Gw.drew ?_ | refine Gw.alloc ?_ _ _)) r2 (fun k hk => by cases hk; exact BW.out)); have B10 : Hid (w8.heap.size ≤ g2) := (r1.lt g2 rfl).1; clear r1 r2 r3))
                    all_goals go_wp2_with fail
                    all_goals go_roundg (m - (i + 1))
                    all_goals
                      first
                        | (case measure => omega)
                        | (case rel => exact ⟨i + 1, j + 1, g2, cap2, rfl, by go_num, by omega, by omega, by have := HJ.out; omega, Nat.le_refl _, (show Aside _ from R10.out), (show Aside _ from B10.out), (show Aside _ from And.left (by assumption))⟩)
                  · have ei : i = m := by omega
                    subst ei
                    have I10 : IR wr w8.heap.size (.slice (some ⟨b1, 0, none⟩) lb8.length c1) lb8 := by
                      have := R.out
                      rw [List.take_of_length_le (by rw [len8.out]; omega)] at this
                      show World.ownsRow _ _ _ _ _ _ _
                      rw [show lb8.length = j by rw [len8.out]; omega]
                      exact this
                    obtain ⟨bo10, cap10, e10, hL10⟩ := ir_ls I10
                    have L10 : Aside (LS wr (some ⟨b1, 0, none⟩) lb8) := by cases e10; exact hL10
                    have A10 : Aside (LS wr bo8 lb8) := A8.out.gw G.out
                    have EJ : Aside (lb8.length = j) := by rw [len8.out]; show _ = _; omega
                    have LE8 : Aside (lb8.length ≤ 4000000) := by show _ ≤ _; omega
                    have GF : Aside (Gw w wr) := (G4.out.trans G8.out).trans G.out
                    clear I10 e10 hL10 R BW G A8 ll8 hj
                    go_wp2_with fail
                    rw [← EJ.out]
                    refine (same_any bo8 (some ⟨b1, 0, none⟩) cap8 c1 lb8 lb8 LE8.out LE8.out _ A10.out L10.out).mono ?_
                    rintro e w12 ⟨rfl, g12⟩
                    have dt8 : decide (lb8 = lb8) = true := by simp
                    rw [dt8]
                    have GF12 : Aside (Gw w w12) := GF.out.trans g12
                    clear g12 GF
                    go_wp2_with fail
                    go_ret
                    exact ⟨rfl, GF12.out⟩
      · have tk : decide (at_ < 0) = false := by simpa using hk
        obtain ⟨K0, hK⟩ : ∃ K0, at_ = K0 := ⟨_, rfl⟩
        have k0 : 0 ≤ K0 := by omega
        rw [hK] at tk ⊢
        obtain ⟨v, hv⟩ : ∃ v, K0 % (n : Int) = v := ⟨_, rfl⟩
        have tv : K0.tmod (n : Int) = v := by rw [Int.tmod_eq_emod_of_nonneg k0]; exact hv
        have v0 : 0 ≤ v := by rw [← hv]; exact Int.emod_nonneg _ nz'
        have v1 : v < n := by rw [← hv]; exact Int.emod_lt_of_pos _ (by omega)
        obtain ⟨kn, hkn⟩ : ∃ kn : Nat, 1 + v = kn := ⟨(1 + v).toNat, by omega⟩
        have wk : IntKind.i64.wrap (1 + v) = kn := by rw [IntKind.wrap_i64]; omega
        have kb : 0 < kn ∧ kn ≤ n := by omega
        have kc : kn ≤ cp := by omega
        clear hv v0 v1
        obtain ⟨bk, off, rfl, _, _⟩ := HK.out.cells (by omega)
        go_wp2_with fail
        refine (EE.out _ n _ f (by omega) hcp _ (HK.out.gw G2.out)).mono ?_
        rintro e w3 ⟨⟨v3, l, err, rfl, hE, hI⟩, g3⟩
        obtain ⟨hEnds, rfl⟩ := hE.right KK.out
        have ED : Aside (EndsAt (eps - 1) f n 0 l) := hEnds
        obtain ⟨bo, cap, rfl, hL⟩ := ir_ls hI
        have L3 : Aside (LS w3 bo l) := hL
        have G3 : Aside (Gw w w3) := G2.out.trans g3
        clear hE hEnds hI hL g3 G2
        have ln := ED.out.len
        have m0 : 0 < l.length := List.length_pos_iff.2 (ED.out.nonempty (by omega))
        go_wp2_with fail
        refine (EE.out _ kn _ f (by omega) kc _ (ks_part (HK.out.gw G3.out) kb.2)).mono ?_
        rintro e w4 ⟨⟨v4, la, erra, rfl, hE, hI⟩, g4⟩
        obtain ⟨ha, rfl⟩ := hE.right ⟨KK.out.1, fun j hj => KK.out.2 j (by omega)⟩
        have LA : Aside (la = l.takeWhile (fun j => decide (j < kn)) ++ [kn]) := ha.one (ED.out.part kb.2 kb.1)
        obtain ⟨bo4, cap4, rfl, hL⟩ := ir_ls hI
        have A4 : Aside (LS w4 bo4 la) := hL
        have L4 : Aside (LS w4 bo l) := L3.out.gw g4
        have G4 : Aside (Gw w w4) := G3.out.trans g4
        have lla := ha.len
        clear hE ha hI hL g4 G3 L3
        have I5 : Aside (IR (w4.alloc (.cells #[] 3)) w4.heap.size (.slice (some ⟨w4.heap.size, 0, none⟩) 0 0) []) := ir_new w4 w4.heap.size (Nat.le_refl _)
        have G5 : Aside (Gw w4 (w4.alloc (.cells #[] 3))) := (Gw.refl w4).alloc _ _
        obtain ⟨m, hm⟩ : ∃ m, l.length = m := ⟨_, rfl⟩
        have EM : Aside (l.length = m) := hm
        obtain ⟨bl, ol, rfl, hbl, hcl⟩ := L4.out.cells m0
        have CE : Aside (∀ w', Gw w4 w' → ∀ i, i < m → w'.cell? ⟨bl, ol + i, none⟩ = some (.int .i64 ((l.getD i 0 : Nat) : Int))) := fun w' g i hi => (g.cell _ _ hbl).trans (hcl i (by omega))
        have LB : Aside (∀ i, i < m → l.getD i 0 ≤ n) := fun i hi => (ED.out.step i (by omega)).2.1
        rw [hm] at m0 ln ⊢
        clear hcl hm
        go_wp2_with fail
        generalize w4.alloc (.cells #[] 3) = w5 at I5 G5 ⊢
        go_loopg [15, 16] m (fun gg s15 s16 wr => ∃ i b1 c1 : Nat, s15 = .slice (some ⟨b1, 0, none⟩) i c1 ∧ s16 = .int .i64 i ∧ i ≤ m ∧ m - i ≤ gg ∧ Aside (wr.ownsRow w4.heap.size 3 1 (.slice (some ⟨b1, 0, none⟩) i c1) i (vals (l.take i))) ∧ Aside (∀ j, j < i → l.getD j 0 < kn) ∧ Aside (w4.heap.size ≤ b1) ∧ Aside (Gw w4 wr))
        case atStart => exact ⟨0, w4.heap.size, 0, rfl, rfl, Nat.zero_le _, by omega, (show Aside _ from I5.out), (show Aside _ from fun j hj => by omega), (show Aside _ from Nat.le_refl _), G5⟩
        case round =>
          clear I5 G5
          obtain ⟨i, b1, c1, rfl, rfl, h1, h2, R, J, BW, G⟩ := hrel
          by_cases hgo : i < m ∧ l.getD i 0 < kn
          · obtain ⟨hlt, hx0⟩ := hgo
            have q1 := CE.out _ G.out i hlt
            have NJ : Aside (∀ j, j < i + 1 → l.getD j 0 < kn) := fun j hj => by
              by_cases e : j = i
              · subst e; exact hx0
              · exact J.out j (by omega)
            have NR : Aside (∀ (w5 : World) (g cap : Nat), w5.ownsRow w4.heap.size 3 1 (.slice (some ⟨g, 0, none⟩) (i + 1) cap) (i + 1) ((vals (l.take i)) ++ [Value.int .i64 ((l.getD i 0 : Nat) : Int)]) → w5.ownsRow w4.heap.size 3 1 (.slice (some ⟨g, 0, none⟩) (i + 1) cap) (i + 1) (vals (l.take (i + 1)))) := fun w5 g cap r => ir_next (by rw [EM.out]; exact hlt) _ rfl r
            obtain ⟨x, hx⟩ : ∃ x, l.getD i 0 = x := ⟨_, rfl⟩
            rw [hx] at q1 hx0 NR
            clear hx J
            have t1 : (i : Int) < (m : Int) := by omega
            have t2 : (x : Int) < (kn : Int) := by omega
            have hb5 := Nat.lt_of_lt_of_le hbl G.out.size
            have z0 := G.out.size
            go_wp2_with (at_builtin; refine wpList_append_own _ rfl _ _ 25 rfl w4.heap.size 3 ii (.int .i64 0) 1 8 Try.underlying25 hii hz hs hby rfl (by decide) _ i _ rfl (R.out.alloc _) ⟨wr.heap.size, 0, none⟩ 1 1 [.int .i64 (x : Int)] rfl rfl (new_i wr x) (ints_oneCell .i64 [(x : Int)]) (by simp only [maxLen]; omega) (by omega) (by simp; omega) ?_)
            intro v' w6 r1 r2 r3
            obtain ⟨b6, c6, rfl, hb6, _, _⟩ := own_slice r1 (by simpa using r3)
            have R6 : Aside _ := NR.out _ _ _ r1
            have G6 : Aside (Gw w4 w6) := (G.out.alloc _ _).grown r2 (fun k hk => by cases hk; exact BW.out)
            have B6 : Aside (w4.heap.size ≤ b6) := hb6
            clear r1 r2 r3 R G BW hb6 NR q1
            go_wp2_with fail
            go_roundg (m - (i + 1))
            case measure => omega
            case rel => exact ⟨i + 1, b6, c6, rfl, by go_num, by omega, Nat.le_refl _, R6, NJ, B6, G6⟩
          · have WT : Aside (l.takeWhile (fun j => decide (j < kn)) = l.take i) := tw_take kn l i J.out (by rw [EM.out]; exact h1) (by
              rw [EM.out]
              by_cases e : i = m
              · exact .inl e
              · exact .inr fun q => hgo ⟨by omega, q⟩)
            have NR : Aside (∀ (w5 : World) (g cap : Nat), w5.ownsRow w4.heap.size 3 1 (.slice (some ⟨g, 0, none⟩) (i + 1) cap) (i + 1) ((vals (l.take i)) ++ [Value.int .i64 (kn : Int)]) → (IR w5 w4.heap.size (.slice (some ⟨g, 0, none⟩) la.length cap) la ∧ la.length = i + 1)) := fun w5 g cap r => by
              have el : la = l.take i ++ [kn] := by rw [LA.out, WT.out]
              have e2 : la.length = i + 1 := by rw [el, List.length_append, take_len (by rw [EM.out]; exact h1)]; rfl
              refine ⟨?_, e2⟩
              show World.ownsRow _ _ _ _ _ _ _
              rw [e2]
              show World.ownsRow _ _ _ _ _ _ (vals la)
              rw [el, vals_snoc]
              exact r
            have WAY : Aside ((¬ i < m) ∨ (i < m ∧ ¬ l.getD i 0 < kn)) := by
              by_cases q : i < m
              · exact .inr ⟨q, fun r => hgo ⟨q, r⟩⟩
              · exact .inl q
            clear hgo J WT
            have z0 := G.out.size
            have hb5 := Nat.lt_of_lt_of_le hbl G.out.size
            have way : (∃ t1 : ¬ (i : Int) < (m : Int), True) ∨ (∃ x : Nat, (i : Int) < (m : Int) ∧ ¬ (x : Int) < (kn : Int) ∧ wr.cell? ⟨bl, ol + i, none⟩ = some (.int .i64 (x : Int))) := by
              rcases WAY.out with q | ⟨q, r⟩
              · exact .inl ⟨by omega, trivial⟩
              · exact .inr ⟨l.getD i 0, by omega, by omega, CE.out _ G.out i q⟩
            clear WAY
            have LE : Aside (la.length ≤ 4000000) := by show _ ≤ _; omega
            clear lla
            rcases way with ⟨t1, _⟩ | ⟨x, t1, t2, q1⟩
            all_goals
              go_wp2_with (at_builtin; refine wpList_append_own _ rfl _ _ 25 rfl w4.heap.size 3 ii (.int .i64 0) 1 8 Try.underlying25 hii hz hs hby rfl (by decide) _ i _ rfl (R.out.alloc _) ⟨wr.heap.size, 0, none⟩ 1 1 [.int .i64 (kn : Int)] rfl rfl (new_i wr kn) (ints_oneCell .i64 [(kn : Int)]) (by simp only [maxLen]; omega) (by omega) (by simp; omega) ?_)
              intro v' w6 r1 r2 r3
              obtain ⟨b6, c6, rfl, hb6, _, _⟩ := own_slice r1 (by simpa using r3)
              obtain ⟨nr1, nr2⟩ := NR.out _ _ _ r1
              obtain ⟨bo6, cap6, e6, hL6⟩ := ir_ls nr1
              have L6 : Aside (LS w6 (some ⟨b6, 0, none⟩) la) := by cases e6; exact hL6
              have G6 : Aside (Gw w4 w6) := (G.out.alloc _ _).grown r2 (fun k hk => by cases hk; exact BW.out)
              have A6 : Aside (LS w6 bo4 la) := A4.out.gw G6.out
              have EL : Aside (la.length = i + 1) := nr2
              clear r1 r2 r3 R G BW hb6 NR nr1 nr2 e6 hL6 A4
              go_wp2_with fail
              rw [← EL.out]
              refine (same_any bo4 (some ⟨b6, 0, none⟩) cap4 c6 la la LE.out LE.out _ A6.out L6.out).mono ?_
              rintro e w7 ⟨rfl, g7⟩
              have G7 : Aside (Gw w4 w7) := G6.out.trans g7
              have dt : decide (la = la) = true := by simp
              rw [dt]
              clear g7 G6 L6 A6 EL
              have tm : ((m : Int) == 0) = false := by simp; omega
              have tm' : ¬ (m : Int) = 0 := by omega
              obtain ⟨t_, ht_⟩ : ∃ t_ : Nat, K0 % (m : Int) = t_ := ⟨(K0 % (m : Int)).toNat, by have := Int.emod_nonneg K0 tm'; omega⟩
              have tt : K0.tmod (m : Int) = t_ := by rw [Int.tmod_eq_emod_of_nonneg k0]; exact ht_
              have tlt : t_ < m := by have := Int.emod_lt_of_pos K0 (show (0 : Int) < m by omega); omega
              clear ht_
              have q7 := CE.out _ G7.out t_ tlt
              have lb := LB.out t_ tlt
              obtain ⟨c, hc⟩ : ∃ c, l.getD t_ 0 = c := ⟨_, rfl⟩
              have ST : Aside (EndsAt (eps - 1) f n c (l.drop (t_ + 1))) := by rw [← hc]; exact (ED.out.step t_ (by rw [EM.out]; exact tlt)).2.2.2.2
              have CT : Aside (l.getD t_ 0 = c) := hc
              rw [hc] at q7 lb
              clear hc
              have tc0 : ¬ (c : Int) < 0 := by omega
              have tc1 : ¬ (n : Int) < (c : Int) := by omega
              have hb7 := Nat.lt_of_lt_of_le hbl G7.out.size
              have ccp : c ≤ cp := by omega
              have K7 : Aside (KS w7 (some ⟨bk, off + c, none⟩) (n - c) (sh f c)) := ks_from (HK.out.gw (G4.out.trans G7.out)) lb
              go_wp2_with fail
              all_goals
                refine (EE.out _ (n - c) _ (sh f c) (by omega) (by omega) _ (by first | exact K7.out | exact ⟨fun h0 => absurd h0 (by omega), fun i hi => absurd hi (by omega)⟩)).mono ?_
                rintro e w8 ⟨⟨v8, lb8, err8, rfl, hE, hI⟩, g8⟩
                obtain ⟨hb8', rfl⟩ := hE.right ⟨KK.out.1, sh_up KK.out.2 (Nat.le_refl _)⟩
                have RS := EndsAt.rest (Nat.le_refl c) ST.out
                rw [Nat.sub_self] at RS
                have L8E : Aside (lb8 = (l.drop (t_ + 1)).map (· - c)) := hb8'.one RS
                have ll8 := hb8'.len
                obtain ⟨bo8, cap8, rfl, hL⟩ := ir_ls hI
                have A8 : Aside (LS w8 bo8 lb8) := hL
                have G8 : Aside (Gw w4 w8) := G7.out.trans g8
                clear hE hb8' RS hI hL g8 G7 K7 q7
                have len8 : Aside (lb8.length = m - (t_ + 1)) := by rw [L8E.out, List.length_map, List.length_drop, EM.out]; exact rfl
                have GT : Aside (∀ i, t_ + 1 ≤ i → i < m → c < l.getD i 0 ∧ ((lb8.getD (i - (t_ + 1)) 0 : Nat) : Int) = (l.getD i 0 : Int) - c) := fun i h1 h2 => by
                  rw [L8E.out]
                  exact rest_get EM.out h1 h2 ST.out
                have I9 : Aside (IR (w8.alloc (.cells #[] 3)) w8.heap.size (.slice (some ⟨w8.heap.size, 0, none⟩) 0 0) []) := ir_new w8 w8.heap.size (Nat.le_refl _)
                have G9 : Aside (Gw w8 (w8.alloc (.cells #[] 3))) := (Gw.refl w8).alloc _ _
                have C8 : Aside (∀ w', Gw w8 w' → (w'.cell? ⟨bl, ol + t_, none⟩ = some (.int .i64 (c : Int)) ∧ ∀ i, i < m → w'.cell? ⟨bl, ol + i, none⟩ = some (.int .i64 ((l.getD i 0 : Nat) : Int)))) := fun w' g => ⟨by have := CE.out w' (G8.out.trans g) t_ tlt; rw [CT.out] at this; exact this, CE.out w' (G8.out.trans g)⟩
                have hb8 := Nat.lt_of_lt_of_le hbl G8.out.size
                have wt1 : IntKind.i64.wrap ((t_ : Int) + 1) = ((t_ + 1 : Nat) : Int) := by rw [IntKind.wrap_i64]; omega
                clear L8E ST CT
                go_wp2_with fail
                generalize w8.alloc (.cells #[] 3) = w9 at I9 G9 ⊢
                go_loopg [20, 21] m (fun gg s20 s21 wq => ∃ i j b1 c1 : Nat, s20 = .slice (some ⟨b1, 0, none⟩) j c1 ∧ s21 = .int .i64 i ∧ t_ + 1 ≤ i ∧ i ≤ m ∧ j = i - (t_ + 1) ∧ m - i ≤ gg ∧ Aside (wq.ownsRow w8.heap.size 3 1 (.slice (some ⟨b1, 0, none⟩) j c1) j (vals (lb8.take j))) ∧ Aside (w8.heap.size ≤ b1) ∧ Aside (Gw w8 wq))
                case atStart => exact ⟨t_ + 1, 0, w8.heap.size, 0, rfl, by first | rfl | go_num, Nat.le_refl _, by omega, by omega, by omega, (show Aside _ from I9.out), (show Aside _ from Nat.le_refl _), G9⟩
                case round =>
                  clear I9 G9
                  obtain ⟨i, j, b1, c1, rfl, rfl, h1, h2, hj, h3, R, BW, G⟩ := hrel
                  by_cases hlt : i < m
                  · obtain ⟨q1, q2'⟩ := C8.out _ G.out
                    have q2 := q2' i hlt
                    clear q2'
                    obtain ⟨gt1, gt2⟩ := GT.out i h1 hlt
                    rw [← hj] at gt2
                    have NR : Aside (∀ x : Int, x = ((lb8.getD j 0 : Nat) : Int) → ∀ (w5 : World) (g cap : Nat), w5.ownsRow w8.heap.size 3 1 (.slice (some ⟨g, 0, none⟩) (j + 1) cap) (j + 1) ((vals (lb8.take j)) ++ [Value.int .i64 x]) → w5.ownsRow w8.heap.size 3 1 (.slice (some ⟨g, 0, none⟩) (j + 1) cap) (j + 1) (vals (lb8.take (j + 1)))) := fun x hx w5 g cap r => ir_next (by rw [len8.out]; omega) _ hx r
                    have lbi := LB.out i hlt
                    obtain ⟨x, hx⟩ : ∃ x, l.getD i 0 = x := ⟨_, rfl⟩
                    rw [hx] at q2 gt1 gt2 lbi
                    have NR' : Aside _ := NR.out ((x : Int) - c) gt2.symm
                    clear hx gt2 NR
                    have wx : IntKind.i64.wrap ((x : Int) - c) = (x : Int) - c := by rw [IntKind.wrap_i64]; omega
                    have hbq := Nat.lt_of_lt_of_le hb8 G.out.size
                    have z0 := G.out.size
                    have HKV : Hid (∀ w', Gw w8 w' → Gw w8 w' ∧ w'.cell? ⟨bl, ol + t_, none⟩ = some (.int .i64 (c : Int)) ∧ w'.cell? ⟨bl, ol + i, none⟩ = some (.int .i64 (x : Int))) := fun w' g => ⟨g, (g.cell _ _ hb8).trans (((C8.out w8 (Gw.refl _)).1)), ((g.cell _ _ hb8).trans (G.out.cell _ _ hb8).symm).trans q2⟩
                    have GH : Gw w8 wr := G.out
                    have t21 : (i : Int) < (m : Int) := by omega
                    have jb : j ≤ 2000000 := by omega
                    have HJ : Aside (j = i - (t_ + 1)) := hj
                    clear hj
                    go_wp2_with fail
                    go_region_held3 (fun w' => Gw w8 w' ∧ w'.cell? ⟨bl, ol + t_, none⟩ = some (.int .i64 (c : Int)) ∧ w'.cell? ⟨bl, ol + i, none⟩ = some (.int .i64 (x : Int)))
                      ((refine HKV.out _ ?_; (repeat (first | exact GH | assumption | exact And.left (by assumption) | refine Gw.drew ?_ | refine Gw.alloc ?_ _ _)); done))
                      (first | (refine step_append_any _ rfl (.tmp 146) (.tmp 156) 25 rfl w8.heap.size 3 ii _ 1 8 Try.underlying25 hii hz hs hby rfl (by decide) b1 j c1 (vals (lb8.take j)) (by simp [Act.eval]) (by first | exact R.out.alloc _ | exact (R.out.drew).alloc _ | exact (R.out.alloc _).drew) (some ⟨wr.heap.size, 0, none⟩) 1 1 [.int .i64 ((x : Int) - c)] (by simp [Act.eval]) (fun q => by cases q) rfl (fun ad e' => (by cases e'; exact new_i wr ((x : Int) - c))) (ints_oneCell .i64 [(x : Int) - c]) (by simp only [maxLen]; omega) (by omega) (by simp <;> omega) ?_; intro g2 cap2 w10 r1 r2 r3 r4; have R10 : Hid _ := NR'.out _ _ _ r1; have G10 : Gw w8 w10 := (Gw.grown (by repeat (first | exact GH | refine Gw.drew ?_ | refine Gw.alloc ?_ _ _)) r2 (fun k hk => by cases hk; exact BW.out)); have B10 : Hid (w8.heap.size ≤ g2) := (r1.lt g2 rfl).1; clear r1 r2 r3))
                    all_goals go_wp2_with fail
                    all_goals go_roundg (m - (i + 1))
                    all_goals
                      first
                        | (case measure => omega)
                        | (case rel => exact ⟨i + 1, j + 1, g2, cap2, rfl, by go_num, by omega, by omega, by have := HJ.out; omega, Nat.le_refl _, (show Aside _ from R10.out), (show Aside _ from B10.out), (show Aside _ from And.left (by assumption))⟩)
                  · have ei : i = m := by omega
                    subst ei
                    have I10 : IR wr w8.heap.size (.slice (some ⟨b1, 0, none⟩) lb8.length c1) lb8 := by
                      have := R.out
                      rw [List.take_of_length_le (by rw [len8.out]; omega)] at this
                      show World.ownsRow _ _ _ _ _ _ _
                      rw [show lb8.length = j by rw [len8.out]; omega]
                      exact this
                    obtain ⟨bo10, cap10, e10, hL10⟩ := ir_ls I10
                    have L10 : Aside (LS wr (some ⟨b1, 0, none⟩) lb8) := by cases e10; exact hL10
                    have A10 : Aside (LS wr bo8 lb8) := A8.out.gw G.out
                    have EJ : Aside (lb8.length = j) := by rw [len8.out]; show _ = _; omega
                    have LE8 : Aside (lb8.length ≤ 4000000) := by show _ ≤ _; omega
                    have GF : Aside (Gw w wr) := (G4.out.trans G8.out).trans G.out
                    clear I10 e10 hL10 R BW G A8 ll8 hj
                    go_wp2_with fail
                    rw [← EJ.out]
                    refine (same_any bo8 (some ⟨b1, 0, none⟩) cap8 c1 lb8 lb8 LE8.out LE8.out _ A10.out L10.out).mono ?_
                    rintro e w12 ⟨rfl, g12⟩
                    have dt8 : decide (lb8 = lb8) = true := by simp
                    rw [dt8]
                    have GF12 : Aside (Gw w w12) := GF.out.trans g12
                    clear g12 GF
                    go_wp2_with fail
                    go_ret
                    exact ⟨rfl, GF12.out⟩
end Go.Proofs.Ytlocnkoeffoflaa
