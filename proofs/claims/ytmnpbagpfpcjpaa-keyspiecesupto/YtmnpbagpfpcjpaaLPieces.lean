/- KeysPieces returns true for every two lists of entries that an append takes, and every number. -/
import Derived.Test.YtmnpbagpfpcjpaaKShown
import Derived.Test.YtmnpbagpfpcjpaaKApp
import Derived.Deep.DeepCutAuto
namespace Go.Proofs.Ytmnpbagpfpcjpaa
open Go.RowKit
set_option linter.unusedVariables false

/-- One list behind the other. -/
def cat {α : Type} (n : Nat) (f g : Nat → α) (i : Nat) : α := if i < n then f i else g (i - n)
theorem cat_lo {α : Type} {n : Nat} {f g : Nat → α} {i : Nat} (h : i < n) : cat n f g i = f i := if_pos h
theorem cat_hi {α : Type} {n : Nat} {f g : Nat → α} (i : Nat) : cat n f g (n + i) = g i := by
  unfold cat; rw [if_neg (by omega), show n + i - n = i by omega]

theorem up_cat (f g : Nat → Int) (n m : Nat) : Up (cat n f g) (n + m) ↔ Up f n ∧ Up g m ∧ (n = 0 ∨ m = 0 ∨ f (n - 1) < g 0) := by
  constructor
  · intro h
    refine ⟨fun j hj => ?_, fun j hj => ?_, ?_⟩
    · have := h j (by omega)
      rw [cat_lo (by omega), cat_lo (by omega)] at this
      exact this
    · have := h (n + j) (by omega)
      rw [cat_hi, show n + j + 1 = n + (j + 1) by omega, cat_hi] at this
      exact this
    · by_cases hn : n = 0
      · exact .inl hn
      by_cases hm : m = 0
      · exact .inr (.inl hm)
      have := h (n - 1) (by omega)
      rw [cat_lo (by omega), show n - 1 + 1 = n + 0 by omega, cat_hi] at this
      exact .inr (.inr this)
  · intro ⟨h1, h2, h3⟩ j hj
    by_cases q : j + 1 < n
    · rw [cat_lo (by omega), cat_lo (by omega)]; exact h1 j q
    · by_cases q2 : n ≤ j
      · obtain ⟨i, rfl⟩ : ∃ i, j = n + i := ⟨j - n, by omega⟩
        rw [cat_hi, show n + i + 1 = n + (i + 1) by omega, cat_hi]; exact h2 i (by omega)
      · have : j + 1 = n + 0 := by omega
        rw [this, cat_hi, cat_lo (by omega)]
        rcases h3 with h | h | h
        · omega
        · omega
        · rw [show n - 1 = j by omega] at h; exact h

theorem lv_cat (f g : Nat → Bool) (n m : Nat) : lv (cat n f g) (n + m) = lv f n + lv g m := by
  rw [lv_add, lv_congr (g' := f) (fun i hi => cat_lo hi), lv_congr (n := m) (g' := g) (fun i _ => cat_hi i)]

theorem cat_all {n m : Nat} {p q : Nat → Prop} {r : Nat → Prop} (h1 : ∀ i, i < n → (r i ↔ p i)) (h2 : ∀ i, i < m → (r (n + i) ↔ q i)) : (∀ i, i < n + m → ¬ r i) ↔ (∀ i, i < n → ¬ p i) ∧ (∀ i, i < m → ¬ q i) := by
  constructor
  · intro h
    exact ⟨fun i hi hp => h i (by omega) ((h1 i hi).2 hp), fun i hi hq => h (n + i) (by omega) ((h2 i hi).2 hq)⟩
  · intro ⟨a, b⟩ i hi hr
    by_cases q : i < n
    · exact a i q ((h1 i q).1 hr)
    · obtain ⟨j, rfl⟩ : ∃ j, i = n + j := ⟨i - n, by omega⟩
      exact b j (by omega) ((h2 j (by omega)).1 hr)

/-- Both are taken just if each is, and they meet. -/
theorem chk_cat {k v k' v' : Nat → Int} {g g' : Nat → Bool} {n m : Nat} {E F G : Int} (hE : ChkR k v g n E) (hF : ChkR k' v' g' m F) (hG : ChkR (cat n k k') (cat n v v') (cat n g g') (n + m) G) :
    G = 0 ↔ (E = 0 ∧ F = 0 ∧ (n = 0 ∨ m = 0 ∨ k (n - 1) < k' 0)) := by
  rw [hE.zero, hF.zero, hG.zero, up_cat]
  have := cat_all (n := n) (m := m) (r := fun i => cat n g g' i = true ∧ cat n v v' i ≠ 0) (p := fun i => g i = true ∧ v i ≠ 0) (q := fun i => g' i = true ∧ v' i ≠ 0)
    (fun i hi => by rw [cat_lo hi, cat_lo hi]) (fun i hi => by rw [cat_hi, cat_hi])
  rw [this]
  constructor
  · intro ⟨⟨a, b, c⟩, d, e⟩; exact ⟨⟨a, d⟩, ⟨b, e⟩, c⟩
  · intro ⟨⟨a, d⟩, ⟨b, e⟩, c⟩; exact ⟨⟨a, b, c⟩, d, e⟩

theorem cat_cell (k v k' v' : Nat → Int) (g g' : Nat → Bool) (n m : Nat) (j : Nat) (hj : j < (n + m) * 3) :
    ((List.range (n * 3)).map (ecell k v g) ++ (List.range (m * 3)).map (ecell k' v' g'))[j]? = some (ecell (cat n k k') (cat n v v') (cat n g g') j) := by
  by_cases h : j < n * 3
  · rw [List.getElem?_append_left (by simpa using h)]
    simp only [List.getElem?_map, List.getElem?_range h, Option.map_some]
    rw [ecell_congr (n := n) (fun i hi => ⟨(cat_lo (g := k') hi).symm, (cat_lo (g := v') hi).symm, (cat_lo (g := g') hi).symm⟩) j h]
  · rw [List.getElem?_append_right (by simp; omega)]
    simp only [List.length_map, List.length_range]
    rw [List.getElem?_map, List.getElem?_range (by omega), Option.map_some]
    unfold ecell
    rw [show (j - n * 3) % 3 = j % 3 by omega, show j / 3 = n + (j - n * 3) / 3 by omega, cat_hi, cat_hi, cat_hi]

/-- From place m on. -/
theorem ES.drop {w : World} {b off n : Nat} {k v : Nat → Int} {g : Nat → Bool} (h : ES w (some ⟨b, off, none⟩) n k v g) {m : Nat} (hm : m < n) : ES w (some ⟨b, off + m * 3, none⟩) (n - m) (fun i => k (m + i)) (fun i => v (m + i)) (fun i => g (m + i)) :=
  ⟨fun hn => by
    obtain ⟨b', off', e, hb, hc⟩ := h.cells (by omega)
    cases e
    refine ⟨b, off + m * 3, rfl, hb, fun i hi => ?_⟩
    have := hc (m + i) (by omega)
    rw [show off + (m + i) * 3 = off + m * 3 + i * 3 by omega] at this
    exact this, fun i hi => h.bd (m + i) (by omega)⟩
theorem ES.none (w : World) (ao : Option Addr) (k v : Nat → Int) (g : Nat → Bool) : ES w ao 0 k v g := ⟨fun hn => by omega, fun i hi => by omega⟩

theorem chk_take {k v : Nat → Int} {g : Nat → Bool} {n m : Nat} {E F : Int} (h : ChkR k v g n 0) (hm : m ≤ n) (hF : ChkR k v g m F) : F = 0 := by
  obtain ⟨u, b⟩ := h.zero.1 rfl
  exact hF.zero.2 ⟨fun j hj => u j (by omega), fun j hj => b j (by omega)⟩
theorem chk_drop {k v : Nat → Int} {g : Nat → Bool} {n m l : Nat} {F : Int} (h : ChkR k v g n 0) (hm : m + l = n) (hF : ChkR (fun i => k (m + i)) (fun i => v (m + i)) (fun i => g (m + i)) l F) : F = 0 := by
  obtain ⟨u, b⟩ := h.zero.1 rfl
  exact hF.zero.2 ⟨fun j hj => u (m + j) (by omega), fun j hj => b (m + j) (by omega)⟩

set_option maxRecDepth 100000 in
set_option maxHeartbeats 16000000 in
theorem pieces_walk (ao bo : Option Addr) (n c m d : Nat) (k v k' v' : Nat → Int) (g g' : Nat → Bool) (x : Int) (x0 : -9223372036854775808 ≤ x) (x1 : x < 9223372036854775808) (hn : (n + m) * 24 ≤ 140737488355328) (hao : ao = none → n = 0 ∧ c = 0) (hbo : bo = none → m = 0 ∧ d = 0) (hc : n ≤ c) (hd : m ≤ d) (w : World) (h : ES w ao n k v g) (h' : ES w bo m k' v' g') :
    Calls Try.prog 7 #[.slice ao n c, .slice bo m d, .int .i64 x] w fun e w' => e = .returned (.bool true) ∧ Gb w w' := by
  go_enter Try.func7, Try.ntmps7
  go_wp2_with fail
  refine (shown_any _).mono ?_
  rintro e w1 ⟨rfl, g1⟩
  obtain ⟨ii, hii, hz, hs, hby⟩ := info_parts info_e
  have hO : Hid ((w1.alloc (.cells #[] 35)).ownsRow w1.heap.size 35 3 (.slice (some ⟨w1.heap.size, 0, none⟩) 0 0) 0 []) := World.ownsRow_made (base := w1.heap.size) (e := 35) (size := 3) w1 #[] 0 (Nat.le_refl _) (by simp [maxLen]) (by simp)
  have G0 : Hid (Gb w (w1.alloc (.cells #[] 35))) := g1.alloc #[] 35
  have hK : Hid (∀ ad, ao = some ad → ∀ j u, ((List.range (n * 3)).map (ecell k v g))[j]? = some u → (w1.alloc (.cells #[] 35)).cell? (ad.add j) = some u) := es_news (h.gb G0.out)
  have A : Hid (ao = none → n = 0 ∧ c = 0) := hao
  have B : Hid (bo = none → m = 0 ∧ d = 0) := hbo
  clear hao hbo
  go_wp2_with (at_builtin; refine wpList_append_src _ rfl _ _ 22 rfl w1.heap.size 35 ii (.agg #[.int .u64 0, .int .u64 0, .bool false]) 3 24 Try.underlying22 hii hz hs hby rfl (by decide) _ 0 [] rfl hO.out ao n c ((List.range (n * 3)).map (ecell k v g)) rfl A.out (by simp) hK.out (ecells_one _ k v g) (by simp only [maxLen]; omega) (by omega) (by simp) ?_)
  intro u2 w2 q1 q2 q3
  obtain ⟨b2, cap2, rfl, hb, hcap, hb2⟩ := own_slice q1 q3
  have Q1 : Hid (w2.ownsRow w1.heap.size 35 3 (.slice (some ⟨b2, 0, none⟩) n cap2) n ((List.range (n * 3)).map (ecell k v g))) := q1
  have Q2 : Hid (Gb w w2) := G0.out.grown q2 (fun q hq => by cases hq; exact g1.size)
  have s2 : w1.heap.size ≤ w2.heap.size := Nat.le_trans (by simp) q2.size
  have hK2 : Hid (∀ ad, bo = some ad → ∀ j u, ((List.range (m * 3)).map (ecell k' v' g'))[j]? = some u → w2.cell? (ad.add j) = some u) := es_news (h'.gb Q2.out)
  clear q1 q2 q3 hO hK G0
  go_wp2_with (at_builtin; refine wpList_append_src _ rfl _ _ 22 rfl w1.heap.size 35 ii (.agg #[.int .u64 0, .int .u64 0, .bool false]) 3 24 Try.underlying22 hii hz hs hby rfl (by decide) _ n _ rfl Q1.out bo m d ((List.range (m * 3)).map (ecell k' v' g')) rfl B.out (by simp) hK2.out (ecells_one _ k' v' g') (by simp only [maxLen]; omega) (by omega) s2 ?_)
  intro u3 w3 q1 q2 q3
  obtain ⟨b3, cap3, rfl, hb3, hcap3, hb4⟩ := own_slice q1 q3
  have G3 : Hid (Gb w w3) := Q2.out.grown q2 (fun q hq => by cases hq; exact Nat.le_trans g1.size hb)
  have C3 : Hid (ES w3 (some ⟨b3, 0, none⟩) (n + m) (cat n k k') (cat n v v') (cat n g g')) := es_own q1 (fun j hj => cat_cell k v k' v' g g' n m j hj) (fun i hi => by
    by_cases q : i < n
    · rw [cat_lo q, cat_lo q]; exact h.bd i q
    · obtain ⟨j, rfl⟩ : ∃ j, i = n + j := ⟨i - n, by omega⟩
      rw [cat_hi, cat_hi]; exact h'.bd j (by omega))
  clear q1 q2 q3 Q1 Q2 g1 hK2 hii hz hs hby
  go_wp2_with fail
  refine (check_any ao n c k v g (by omega) hc _ (h.gb G3.out)).mono ?_
  rintro e w4 ⟨⟨E, rfl, hE'⟩, g4⟩
  have hE : Hid (ChkR k v g n E) := hE'
  clear hE'
  have G4 : Hid (Gb w w4) := G3.out.trans g4
  go_wp2_with fail
  refine (check_any bo m d k' v' g' (by omega) hd _ (h'.gb G4.out)).mono ?_
  rintro e w5 ⟨⟨F, rfl, hF'⟩, g5⟩
  have hF : Hid (ChkR k' v' g' m F) := hF'
  clear hF'
  have G5 : Hid (Gb w w5) := G4.out.trans g5
  go_wp2_with fail
  refine (check_any _ (n + m) cap3 _ _ _ (by omega) hcap3 _ (C3.out.gb (g4.trans g5))).mono ?_
  rintro e w6 ⟨⟨G, rfl, hG'⟩, g6⟩
  have hG : Hid (G = 0 ↔ (E = 0 ∧ F = 0 ∧ (n = 0 ∨ m = 0 ∨ k (n - 1) < k' 0))) := chk_cat hE.out hF.out hG'
  clear hG' hF
  have G6 : Hid (Gb w w6) := G5.out.trans g6
  go_wp2_with fail
  have l1 := lv_le g n
  have l2 := lv_le g' m
  have l3 : Hid (lv (cat n g g') (n + m) = lv g n + lv g' m) := lv_cat g g' n m
  have hla := live_any ao n c k v g (by omega)
  have hlb := live_any bo m d k' v' g' (by omega)
  have hlc := live_any (some ⟨b3, 0, none⟩) (n + m) cap3 (cat n k k') (cat n v v') (cat n g g') (by omega)
  rw [l3.out] at hlc
  clear l3
  generalize lv g n = la at l1 hla hlc
  generalize lv g' m = lb at l2 hlb hlc
  have La : Hid _ := hla
  have Lb : Hid _ := hlb
  have Lc : Hid _ := hlc
  clear hla hlb hlc
  refine (Lc.out _ (C3.out.gb ((g4.trans g5).trans g6))).mono ?_
  rintro e w7 ⟨rfl, g7⟩
  clear C3 Lc
  have G7 : Hid (Gb w w7) := G6.out.trans g7
  clear G3 G4 G5 G6 g4 g5 g6 g7
  go_wp2_with fail
  refine (La.out _ (h.gb G7.out)).mono ?_
  rintro e w8 ⟨rfl, g8⟩
  have G8 : Hid (Gb w w8) := G7.out.trans g8
  go_wp2_with fail
  refine (Lb.out _ (h'.gb G8.out)).mono ?_
  rintro e w9 ⟨rfl, g9⟩
  have G9 : Hid (Gb w w9) := G8.out.trans g9
  clear G7 G8 g8 g9
  have z1 : ¬ (la : Int) < 0 := by omega
  have z2 : ¬ n < la := by omega
  go_wp2_with fail
  refine (La.out _ (h.gb G9.out)).mono ?_
  rintro e w10 ⟨rfl, g10⟩
  have G10 : Hid (Gb w w10) := G9.out.trans g10
  go_wp2_with fail
  refine (La.out _ (h.gb G10.out)).mono ?_
  rintro e w11 ⟨rfl, g11⟩
  have G11 : Aside (Gb w w11) := G10.out.trans g11
  clear G9 G10 g10 g11 La Lb
  go_wp2_with fail
  go_cut [12] (fun s w' => ∃ mt : Bool, s = .bool mt ∧ Aside (mt = true ↔ (n = 0 ∨ m = 0 ∨ k (n - 1) < k' 0)) ∧ Aside (Gb w w'))
  case first =>
    by_cases hn0 : n = 0
    · have n1 : ((n : Int) == 0) = true := by simp [hn0]
      have N : Aside (n = 0) := hn0
      clear hn0
      go_quiet (fail)
      go_wp2_with fail
      go_meet
      case rel => exact ⟨true, rfl, (show Aside _ from ⟨fun _ => .inl N.out, fun _ => rfl⟩), (show Aside _ from G11.out.drewN _)⟩
    · have n1 : ((n : Int) == 0) = false := by simp; omega
      by_cases hm0 : m = 0
      · have m1 : ((m : Int) == 0) = true := by simp [hm0]
        have N : Aside (m = 0) := hm0
        clear hm0
        go_quiet (fail)
        go_wp2_with fail
        go_meet
        case rel => exact ⟨true, rfl, (show Aside _ from ⟨fun _ => .inr (.inl N.out), fun _ => rfl⟩), (show Aside _ from G11.out.drewN _)⟩
      · have m1 : ((m : Int) == 0) = false := by simp; omega
        obtain ⟨b, off, eo, hb, hc1⟩ := (h.gb G11.out).cells (by omega)
        obtain ⟨b', off', eo', hb', hc2⟩ := (h'.gb G11.out).cells (by omega)
        subst eo eo'
        obtain ⟨p, hp⟩ : ∃ p : Nat, (n : Int) - 1 = p := ⟨n - 1, by omega⟩
        have hpn : p < n := by omega
        have hm' : 0 < m := by omega
        have hw := wrap_nat p (by omega)
        have c1 := (hc1 p hpn).1
        have c2 := (hc2 0 hm').1
        simp only [Nat.zero_mul, Nat.add_zero] at c2
        have P : Aside (n - 1 = p) := by show n - 1 = p; omega
        have N : Aside (¬ n = 0 ∧ ¬ m = 0) := ⟨hn0, hm0⟩
        clear hc1 hc2 h h' hn0 hm0
        generalize hy1 : k p = y1 at c1
        generalize hy2 : k' 0 = y2 at c2
        have Y : Aside (k p = y1 ∧ k' 0 = y2) := ⟨hy1, hy2⟩
        clear hy1 hy2
        go_quiet (fail)
        go_wp2_with fail
        go_meet
        case rel =>
          refine ⟨decide (y1 < y2), rfl, (show Aside _ from ?_), (show Aside _ from G11.out.drewN _)⟩
          show decide (y1 < y2) = true ↔ (n = 0 ∨ m = 0 ∨ k (n - 1) < k' 0)
          rw [P.out, Y.out.1, Y.out.2]
          simp [N.out.1, N.out.2]
  case rest =>
    obtain ⟨mt, rfl, M, G12⟩ := hcut
    by_cases hE0 : E = 0
    · subst hE0
      by_cases hF0 : F = 0
      · subst hF0
        have e2 : (G == 0) = mt := by
          have h1 := hG.out
          have h2 := M.out
          simp only [true_and] at h1
          rw [← h2] at h1
          cases mt <;> simp_all
        clear hG M
        go_wp2_with fail
        refine (of_any ao n c k v g (by omega) _ (h.gb G12.out)).mono ?_
        rintro e w13 ⟨⟨bq, rfl, _, hq⟩, g13⟩
        have KQ : Hid (KS w13 (some ⟨bq, 0, none⟩) n k) := ks_of_row hq (Nat.le_refl _) (fun i hi => (h.bd i hi).1)
        have G13 : Hid (Gb w w13) := G12.out.trans g13
        clear hq g13 G12
        go_wp2_with fail
        refine (rising_any _ n n k (by omega) _ KQ.out).mono ?_
        rintro e w14 ⟨⟨r, rfl, hr⟩, g14⟩
        have er : r = true := hr.2 (hE.out.zero.1 rfl).1
        subst er
        have G14 : Hid (Gb w w14) := G13.out.trans g14
        clear hr g14 G13 KQ
        obtain ⟨kk, hkk, hk1, hk2⟩ : ∃ kk : Nat, kk ≤ n ∧ (x < 0 → (x + 1).tmod ((n : Int) + 1) = -(kk : Int)) ∧ (0 ≤ x → x % ((n : Int) + 1) = kk) := by
          by_cases hx : x < 0
          · have e : (x + 1).tmod ((n : Int) + 1) = -((-(x + 1)) % ((n : Int) + 1)) := by
              rw [show (x + 1) = -(-(x + 1)) by omega, Int.neg_tmod, Int.tmod_eq_emod_of_nonneg (by omega)]
              simp
            have h1 := Int.emod_nonneg (-(x + 1)) (b := (n : Int) + 1) (by omega)
            have h2 := Int.emod_lt_of_pos (-(x + 1)) (b := (n : Int) + 1) (by omega)
            refine ⟨((-(x + 1)) % ((n : Int) + 1)).toNat, by omega, fun _ => by rw [e]; omega, fun h => by omega⟩
          · have h1 := Int.emod_nonneg x (b := (n : Int) + 1) (by omega)
            have h2 := Int.emod_lt_of_pos x (b := (n : Int) + 1) (by omega)
            exact ⟨(x % ((n : Int) + 1)).toNat, by omega, fun h => by omega, fun _ => by omega⟩
        have first : Hid (∀ W, Gb w W → Calls Try.prog 10 #[.slice ao kk c] W fun e w' => e = .returned (.int .i64 0) ∧ Gb W w') := by
          intro W gW
          refine (check_any ao kk c k v g (by omega) (by omega) _ ((h.gb gW).take hkk)).mono ?_
          rintro e w' ⟨⟨r, rfl, hr⟩, g'⟩
          have : r = 0 := chk_take (E := 0) hE.out hkk hr
          subst this
          exact ⟨rfl, g'⟩
        have hkc : kk ≤ c := by omega
        by_cases hlt : kk < n
        · obtain ⟨b, off, eo, _⟩ := h.cells (by omega)
          subst eo
          have hcc : ¬ c = kk := by omega
          have second : Hid (∀ W, Gb w W → Calls Try.prog 10 #[.slice (some ⟨b, off + kk * 3, none⟩) (n - kk) (c - kk)] W fun e w' => e = .returned (.int .i64 0) ∧ Gb W w') := by
            intro W gW
            refine (check_any _ (n - kk) (c - kk) _ _ _ (by omega) (by omega) _ ((h.gb gW).drop hlt)).mono ?_
            rintro e w' ⟨⟨r, rfl, hr⟩, g'⟩
            have : r = 0 := chk_drop hE.out (by omega) hr
            subst this
            exact ⟨rfl, g'⟩
          clear h h' hE
          by_cases hx : x < 0
          · have hk := hk1 hx
            clear hk1 hk2
            go_wp2_with fail
            refine (first.out _ G14.out).mono ?_
            rintro e w15 ⟨rfl, g15⟩
            go_wp2_with fail
            refine (second.out _ (G14.out.trans g15)).mono ?_
            rintro e w16 ⟨rfl, g16⟩
            go_wp2_with fail
            go_ret
            exact ⟨by simp, (G14.out.trans g15).trans g16⟩
          · have hk := hk2 (by omega)
            clear hk1 hk2
            go_wp2_with fail
            refine (first.out _ G14.out).mono ?_
            rintro e w15 ⟨rfl, g15⟩
            go_wp2_with fail
            refine (second.out _ (G14.out.trans g15)).mono ?_
            rintro e w16 ⟨rfl, g16⟩
            go_wp2_with fail
            go_ret
            exact ⟨by simp, (G14.out.trans g15).trans g16⟩
        · have ekk : kk = n := by omega
          subst ekk
          have second : Hid (∀ W q cc, Gb w W → Calls Try.prog 10 #[.slice q 0 cc] W fun e w' => e = .returned (.int .i64 0) ∧ Gb W w') := by
            intro W q cc gW
            refine (check_any q 0 cc k v g (by omega) (by omega) _ (ES.none _ _ _ _ _)).mono ?_
            rintro e w' ⟨⟨r, rfl, hr⟩, g'⟩
            have : r = 0 := hr.zero.2 ⟨fun j hj => by omega, fun j hj => by omega⟩
            subst this
            exact ⟨rfl, g'⟩
          clear h h' hE
          by_cases hck : c = kk
          · subst hck
            by_cases hx : x < 0
            · have hk := hk1 hx
              clear hk1 hk2
              go_wp2_with fail
              refine (first.out _ G14.out).mono ?_
              rintro e w15 ⟨rfl, g15⟩
              go_wp2_with fail
              refine (second.out _ _ _ (G14.out.trans g15)).mono ?_
              rintro e w16 ⟨rfl, g16⟩
              go_wp2_with fail
              go_ret
              exact ⟨by simp, (G14.out.trans g15).trans g16⟩
            · have hk := hk2 (by omega)
              clear hk1 hk2
              go_wp2_with fail
              refine (first.out _ G14.out).mono ?_
              rintro e w15 ⟨rfl, g15⟩
              go_wp2_with fail
              refine (second.out _ _ _ (G14.out.trans g15)).mono ?_
              rintro e w16 ⟨rfl, g16⟩
              go_wp2_with fail
              go_ret
              exact ⟨by simp, (G14.out.trans g15).trans g16⟩
          · by_cases hx : x < 0
            · have hk := hk1 hx
              clear hk1 hk2
              go_wp2_with fail
              refine (first.out _ G14.out).mono ?_
              rintro e w15 ⟨rfl, g15⟩
              go_wp2_with fail
              refine (second.out _ _ _ (G14.out.trans g15)).mono ?_
              rintro e w16 ⟨rfl, g16⟩
              go_wp2_with fail
              go_ret
              exact ⟨by simp, (G14.out.trans g15).trans g16⟩
            · have hk := hk2 (by omega)
              clear hk1 hk2
              go_wp2_with fail
              refine (first.out _ G14.out).mono ?_
              rintro e w15 ⟨rfl, g15⟩
              go_wp2_with fail
              refine (second.out _ _ _ (G14.out.trans g15)).mono ?_
              rintro e w16 ⟨rfl, g16⟩
              go_wp2_with fail
              go_ret
              exact ⟨by simp, (G14.out.trans g15).trans g16⟩
      · have e1 : (F == 0) = false := by simpa using hF0
        have e2 : (G == 0) = false := by
          have := hG.out
          simp [hF0] at this
          simpa using this
        clear hG M
        go_wp2_with fail
        refine (of_any ao n c k v g (by omega) _ (h.gb G12.out)).mono ?_
        rintro e w13 ⟨⟨bq, rfl, _, hq⟩, g13⟩
        have KQ : Hid (KS w13 (some ⟨bq, 0, none⟩) n k) := ks_of_row hq (Nat.le_refl _) (fun i hi => (h.bd i hi).1)
        have G13 : Hid (Gb w w13) := G12.out.trans g13
        clear hq g13 G12
        go_wp2_with fail
        refine (rising_any _ n n k (by omega) _ KQ.out).mono ?_
        rintro e w14 ⟨⟨r, rfl, hr⟩, g14⟩
        have er : r = true := hr.2 (hE.out.zero.1 rfl).1
        subst er
        have G14 : Hid (Gb w w14) := G13.out.trans g14
        clear hr g14 G13 KQ
        obtain ⟨kk, hkk, hk1, hk2⟩ : ∃ kk : Nat, kk ≤ n ∧ (x < 0 → (x + 1).tmod ((n : Int) + 1) = -(kk : Int)) ∧ (0 ≤ x → x % ((n : Int) + 1) = kk) := by
          by_cases hx : x < 0
          · have e : (x + 1).tmod ((n : Int) + 1) = -((-(x + 1)) % ((n : Int) + 1)) := by
              rw [show (x + 1) = -(-(x + 1)) by omega, Int.neg_tmod, Int.tmod_eq_emod_of_nonneg (by omega)]
              simp
            have h1 := Int.emod_nonneg (-(x + 1)) (b := (n : Int) + 1) (by omega)
            have h2 := Int.emod_lt_of_pos (-(x + 1)) (b := (n : Int) + 1) (by omega)
            refine ⟨((-(x + 1)) % ((n : Int) + 1)).toNat, by omega, fun _ => by rw [e]; omega, fun h => by omega⟩
          · have h1 := Int.emod_nonneg x (b := (n : Int) + 1) (by omega)
            have h2 := Int.emod_lt_of_pos x (b := (n : Int) + 1) (by omega)
            exact ⟨(x % ((n : Int) + 1)).toNat, by omega, fun h => by omega, fun _ => by omega⟩
        have first : Hid (∀ W, Gb w W → Calls Try.prog 10 #[.slice ao kk c] W fun e w' => e = .returned (.int .i64 0) ∧ Gb W w') := by
          intro W gW
          refine (check_any ao kk c k v g (by omega) (by omega) _ ((h.gb gW).take hkk)).mono ?_
          rintro e w' ⟨⟨r, rfl, hr⟩, g'⟩
          have : r = 0 := chk_take (E := 0) hE.out hkk hr
          subst this
          exact ⟨rfl, g'⟩
        have hkc : kk ≤ c := by omega
        by_cases hlt : kk < n
        · obtain ⟨b, off, eo, _⟩ := h.cells (by omega)
          subst eo
          have hcc : ¬ c = kk := by omega
          have second : Hid (∀ W, Gb w W → Calls Try.prog 10 #[.slice (some ⟨b, off + kk * 3, none⟩) (n - kk) (c - kk)] W fun e w' => e = .returned (.int .i64 0) ∧ Gb W w') := by
            intro W gW
            refine (check_any _ (n - kk) (c - kk) _ _ _ (by omega) (by omega) _ ((h.gb gW).drop hlt)).mono ?_
            rintro e w' ⟨⟨r, rfl, hr⟩, g'⟩
            have : r = 0 := chk_drop hE.out (by omega) hr
            subst this
            exact ⟨rfl, g'⟩
          clear h h' hE
          by_cases hx : x < 0
          · have hk := hk1 hx
            clear hk1 hk2
            go_wp2_with fail
            refine (first.out _ G14.out).mono ?_
            rintro e w15 ⟨rfl, g15⟩
            go_wp2_with fail
            refine (second.out _ (G14.out.trans g15)).mono ?_
            rintro e w16 ⟨rfl, g16⟩
            go_wp2_with fail
            go_ret
            exact ⟨by simp, (G14.out.trans g15).trans g16⟩
          · have hk := hk2 (by omega)
            clear hk1 hk2
            go_wp2_with fail
            refine (first.out _ G14.out).mono ?_
            rintro e w15 ⟨rfl, g15⟩
            go_wp2_with fail
            refine (second.out _ (G14.out.trans g15)).mono ?_
            rintro e w16 ⟨rfl, g16⟩
            go_wp2_with fail
            go_ret
            exact ⟨by simp, (G14.out.trans g15).trans g16⟩
        · have ekk : kk = n := by omega
          subst ekk
          have second : Hid (∀ W q cc, Gb w W → Calls Try.prog 10 #[.slice q 0 cc] W fun e w' => e = .returned (.int .i64 0) ∧ Gb W w') := by
            intro W q cc gW
            refine (check_any q 0 cc k v g (by omega) (by omega) _ (ES.none _ _ _ _ _)).mono ?_
            rintro e w' ⟨⟨r, rfl, hr⟩, g'⟩
            have : r = 0 := hr.zero.2 ⟨fun j hj => by omega, fun j hj => by omega⟩
            subst this
            exact ⟨rfl, g'⟩
          clear h h' hE
          by_cases hck : c = kk
          · subst hck
            by_cases hx : x < 0
            · have hk := hk1 hx
              clear hk1 hk2
              go_wp2_with fail
              refine (first.out _ G14.out).mono ?_
              rintro e w15 ⟨rfl, g15⟩
              go_wp2_with fail
              refine (second.out _ _ _ (G14.out.trans g15)).mono ?_
              rintro e w16 ⟨rfl, g16⟩
              go_wp2_with fail
              go_ret
              exact ⟨by simp, (G14.out.trans g15).trans g16⟩
            · have hk := hk2 (by omega)
              clear hk1 hk2
              go_wp2_with fail
              refine (first.out _ G14.out).mono ?_
              rintro e w15 ⟨rfl, g15⟩
              go_wp2_with fail
              refine (second.out _ _ _ (G14.out.trans g15)).mono ?_
              rintro e w16 ⟨rfl, g16⟩
              go_wp2_with fail
              go_ret
              exact ⟨by simp, (G14.out.trans g15).trans g16⟩
          · by_cases hx : x < 0
            · have hk := hk1 hx
              clear hk1 hk2
              go_wp2_with fail
              refine (first.out _ G14.out).mono ?_
              rintro e w15 ⟨rfl, g15⟩
              go_wp2_with fail
              refine (second.out _ _ _ (G14.out.trans g15)).mono ?_
              rintro e w16 ⟨rfl, g16⟩
              go_wp2_with fail
              go_ret
              exact ⟨by simp, (G14.out.trans g15).trans g16⟩
            · have hk := hk2 (by omega)
              clear hk1 hk2
              go_wp2_with fail
              refine (first.out _ G14.out).mono ?_
              rintro e w15 ⟨rfl, g15⟩
              go_wp2_with fail
              refine (second.out _ _ _ (G14.out.trans g15)).mono ?_
              rintro e w16 ⟨rfl, g16⟩
              go_wp2_with fail
              go_ret
              exact ⟨by simp, (G14.out.trans g15).trans g16⟩
    · have e1 : (E == 0) = false := by simpa using hE0
      have e2 : (G == 0) = false := by
        have := hG.out
        simp [hE0] at this
        simpa using this
      clear hG h h' hE M A B
      go_wp2_with fail
      all_goals (go_ret; exact ⟨by simp, G12.out⟩)

end Go.Proofs.Ytmnpbagpfpcjpaa
