/- TopFew's walk. -/
import Derived.Test.YtmmkmakajolfhabVC
import Derived.Test.YtmmkmakajolfhabVTop
import Derived.Test.YtmmkmakajolfhabPBs
namespace Go.Proofs.Ytmmkmakajolfhab
open Go.RowKit
set_option linter.unusedVariables false
attribute [local go_sem] run_store_float

set_option maxHeartbeats 2000000 in
theorem tfirsts_any (ao : Option Addr) (c : Nat) (l : List Sg) (hl : l.length ≤ 4000000) (w : World) (h : GS w ao l) :
    Calls Try.prog 17 #[.slice ao l.length c] w fun e w' => (∃ b cap, e = .returned (.slice (some ⟨b, 0, none⟩) l.length cap) ∧ w.heap.size ≤ b ∧ l.length ≤ cap ∧ KS w' (some ⟨b, 0, none⟩) l.length (fst8 l)) ∧ Gw w w' := by
  have HG : Aside (GS w ao l) := h
  clear h
  obtain ⟨n, hn⟩ : ∃ n, l.length = n := ⟨_, rfl⟩
  have LN : Aside (l.length = n) := hn
  rw [hn] at hl
  rw [hn]
  clear hn
  obtain ⟨ii, hii, hz, hs, hby⟩ := info_parts info_k
  have R3 : Aside ((w.alloc (.cells #[] 31)).ownsRow w.heap.size 31 1 (.slice (some ⟨w.heap.size, 0, none⟩) 0 0) 0 ((List.range 0).map fun j => Value.int .u64 (fst8 l j))) := World.ownsRow_made w #[] 0 (Nat.le_refl _) (Nat.zero_le _) rfl
  have G3 : Aside (Gw w (w.alloc (.cells #[] 31))) := (Gw.refl w).alloc _ _
  have B3 : Aside (w.heap.size ≤ w.heap.size) := Nat.le_refl _
  go_enter Try.func17, Try.ntmps17
  go_wp2_with fail
  generalize w.alloc (.cells #[] 31) = w3 at R3 G3 ⊢
  go_loopg [3, 4] n (fun gg s3 s4 wr => ∃ i b cap : Nat, s3 = .slice (some ⟨b, 0, none⟩) i cap ∧ s4 = .int .i64 i ∧ i ≤ n ∧ n - i ≤ gg ∧ Aside (w.heap.size ≤ b) ∧ Aside (wr.ownsRow w.heap.size 31 1 (.slice (some ⟨b, 0, none⟩) i cap) i ((List.range i).map fun j => Value.int .u64 (fst8 l j))) ∧ Aside (Gw w wr))
  case atStart => exact ⟨0, w.heap.size, 0, rfl, rfl, Nat.zero_le _, by omega, B3, R3, G3⟩
  case round =>
    clear R3 G3 B3
    obtain ⟨i, b, cap, rfl, rfl, h1, h2, BW, R, G⟩ := hrel
    by_cases hlt : i < n
    · obtain ⟨bk, off, rfl, hbk, hc⟩ := (HG.out.gw G.out).cells (by rw [LN.out]; omega)
      have q1 := (hc i (by rw [LN.out]; exact hlt)).c0
      obtain ⟨fi, hfi⟩ : ∃ y, fst8 l i = y := ⟨_, rfl⟩
      have FI : Aside (fst8 l i = fi) := hfi
      have q2 : wr.cell? ⟨bk, off + i * 5, none⟩ = some (.int .u64 fi) := by rw [← hfi]; exact q1
      clear hc hfi q1
      have z0 := G.out.size
      go_wp2_with (at_builtin; refine wpList_append_own _ rfl _ _ 22 rfl w.heap.size 31 ii (.int .u64 0) 1 8 Try.underlying22 hii hz hs hby rfl (by decide) _ i _ rfl (R.out.alloc _) ⟨wr.heap.size, 0, none⟩ 1 1 [.int .u64 fi] rfl rfl (new_one wr fi) (ints_oneCell .u64 [fi]) (by simp only [maxLen]; omega) (by omega) (by simp; omega) ?_)
      intro v' w5 r1' r2' r3'
      obtain ⟨b5, cap5, rfl, hb5, _, _⟩ := own_slice r1' (by simpa using r3')
      have R5 : Aside (w5.ownsRow w.heap.size 31 1 (.slice (some ⟨b5, 0, none⟩) (i + 1) cap5) (i + 1) ((List.range (i + 1)).map fun j => Value.int .u64 (fst8 l j))) := by
        have := r1'
        rw [← FI.out] at this
        rw [List.range_succ, List.map_append]
        exact this
      have G5 : Aside (Gw w w5) := (G.out.alloc _ _).grown r2' (fun k hk => by cases hk; exact BW.out)
      have B5 : Aside (w.heap.size ≤ b5) := hb5
      clear r1' r2' r3' R G BW hb5 q2 FI
      go_wp2_with fail
      go_roundg (n - (i + 1))
      case measure => omega
      case rel => exact ⟨i + 1, b5, cap5, rfl, by go_num, by omega, Nat.le_refl _, B5, R5, G5⟩
    · have ei : i = n := by omega
      subst ei
      have K4 : Aside (KS wr (some ⟨b, 0, none⟩) i (fst8 l)) := ks_own R.out (Nat.le_refl _) (fun j hj => by simp [hj]) (fun j hj => fst8_ok HG.out j (by rw [LN.out]; exact hj))
      obtain ⟨_, _, ev, _, ic, _⟩ := own_slice R.out (by simp)
      cases ev
      clear R
      go_wp2_with fail
      go_ret
      exact ⟨⟨b, cap, rfl, BW.out, ic, K4.out⟩, G.out⟩

theorem teps_any (x : Int) (w : World) : Calls Try.prog 16 #[.int .i64 x] w fun e w' => e = .returned (.bool (decide (2 ≤ x ∧ x ≤ 64))) ∧ w' = w := by
  by_cases h1 : 2 ≤ x
  · have t1 : decide (2 ≤ x) = true := by simpa using h1
    by_cases h2 : x ≤ 64
    · have t2 : decide (x ≤ 64) = true := by simpa using h2
      rw [decide_eq_true (p := 2 ≤ x ∧ x ≤ 64) ⟨h1, h2⟩]
      clear h1 h2
      go_enter Try.func16, Try.ntmps16
      go_wp2_with fail
      go_ret
      exact ⟨rfl, rfl⟩
    · have t2 : decide (x ≤ 64) = false := by simpa using h2
      rw [decide_eq_false (p := 2 ≤ x ∧ x ≤ 64) (fun q => h2 q.2)]
      clear h1 h2
      go_enter Try.func16, Try.ntmps16
      go_wp2_with fail
      go_ret
      exact ⟨rfl, rfl⟩
  · have t1 : decide (2 ≤ x) = false := by simpa using h1
    rw [decide_eq_false (p := 2 ≤ x ∧ x ≤ 64) (fun q => h1 q.1)]
    clear h1
    go_enter Try.func16, Try.ntmps16
    go_wp2_with fail
    go_ret
    exact ⟨rfl, rfl⟩

/-- Built levels of the cubes. -/
theorem cub_built {L : List (List Sg)} {err : Int} (h : BuildE 2 cub 60 L err) : err = 0 ∧ 1 < L.length ∧ 1 < (L.getD 0 []).length ∧ (L.getD (L.length - 1) []).length = 1 ∧ L.length ≤ 60 ∧ ∀ i, i < L.length → (L.getD i []).length ≤ 60 := by
  rcases h with ⟨a, _⟩ | ⟨_, a, _⟩ | ⟨_, _, b, e⟩
  · exact absurd ⟨by decide, by decide⟩ a
  · exact absurd cub_up a
  · obtain ⟨c, d⟩ := cub_many b
    have lw := b.low (by decide) (by decide) cub_bd cub_up
    have hl := hgt_le (e := (2 : Int).toNat) (by decide) 60
    exact ⟨e, c, d, b.top (fun q => by rw [q] at c; simp at c), by omega, fun i hi => b.short (by decide) cub_bd cub_up i hi⟩

set_option maxRecDepth 10000 in
set_option maxHeartbeats 4000000 in
theorem built_any (LL : LevelsC) (w : World) : Calls Try.prog 15 #[] w fun e w' => e = .returned (.bool true) ∧ Gw w w' := by
  obtain ⟨ii, hii, hz, hs, hby⟩ := info_parts info_k
  have BU : Hid _ := fun bo c hc W h => LL.build 2 bo 60 c cub (by decide) (by decide) (by decide) hc W h
  have R3 : Aside ((w.alloc (.cells #[] 31)).ownsRow w.heap.size 31 1 (.slice (some ⟨w.heap.size, 0, none⟩) 0 0) 0 ((List.range 0).map fun j => Value.int .u64 (cub j))) := World.ownsRow_made w #[] 0 (Nat.le_refl _) (Nat.zero_le _) rfl
  have G3 : Aside (Gw w (w.alloc (.cells #[] 31))) := (Gw.refl w).alloc _ _
  have B3 : Aside (w.heap.size ≤ w.heap.size) := Nat.le_refl _
  clear LL
  go_enter Try.func15, Try.ntmps15
  go_wp2_with fail
  generalize w.alloc (.cells #[] 31) = w3 at R3 G3 ⊢
  go_loopg [1, 2] 60 (fun gg s1 s2 wr => ∃ i b cap : Nat, s1 = .slice (some ⟨b, 0, none⟩) i cap ∧ s2 = .int .u64 i ∧ i ≤ 60 ∧ 60 - i ≤ gg ∧ Aside (w.heap.size ≤ b) ∧ Aside (wr.ownsRow w.heap.size 31 1 (.slice (some ⟨b, 0, none⟩) i cap) i ((List.range i).map fun j => Value.int .u64 (cub j))) ∧ Aside (Gw w wr))
  case atStart => exact ⟨0, w.heap.size, 0, rfl, rfl, Nat.zero_le _, by omega, B3, R3, G3⟩
  case round =>
    clear R3 G3 B3
    obtain ⟨i, b, cap, rfl, rfl, h1, h2, BW, R, G⟩ := hrel
    by_cases hlt : i < 60
    · obtain ⟨ci, hci⟩ : ∃ c, cub i = c := ⟨_, rfl⟩
      have CB := cub_bd i hlt
      have q2 : (i : Int) * i ≤ 3600 := by
        have : (i : Int) * i ≤ 60 * 60 := Int.mul_le_mul (by omega) (by omega) (by omega) (by omega)
        omega
      have q0 : 0 ≤ (i : Int) * i := Int.mul_nonneg (by omega) (by omega)
      have wa : IntKind.u64.wrap ((i : Int) * i) = (i : Int) * i := by rw [IntKind.wrap_u64]; omega
      have wb : IntKind.u64.wrap ((i : Int) * i * i) = ci := by
        have e : (i : Int) * i * i = ci := hci
        rw [IntKind.wrap_u64, e]; rw [hci] at CB; omega
      have FI : Aside (cub i = ci) := hci
      clear hci CB q2 q0
      have z0 := G.out.size
      go_wp2_with (at_builtin; refine wpList_append_own _ rfl _ _ 22 rfl w.heap.size 31 ii (.int .u64 0) 1 8 Try.underlying22 hii hz hs hby rfl (by decide) _ i _ rfl (R.out.alloc _) ⟨wr.heap.size, 0, none⟩ 1 1 [.int .u64 ci] rfl rfl (new_one wr ci) (ints_oneCell .u64 [ci]) (by simp only [maxLen]; omega) (by omega) (by simp; omega) ?_)
      intro v' w5 r1' r2' r3'
      obtain ⟨b5, cap5, rfl, hb5, _, _⟩ := own_slice r1' (by simpa using r3')
      have R5 : Aside (w5.ownsRow w.heap.size 31 1 (.slice (some ⟨b5, 0, none⟩) (i + 1) cap5) (i + 1) ((List.range (i + 1)).map fun j => Value.int .u64 (cub j))) := by
        have := r1'
        rw [← FI.out] at this
        rw [List.range_succ, List.map_append]
        exact this
      have G5 : Aside (Gw w w5) := (G.out.alloc _ _).grown r2' (fun k hk => by cases hk; exact BW.out)
      have B5 : Aside (w.heap.size ≤ b5) := hb5
      have wi : IntKind.u64.wrap ((i : Int) + 1) = ((i + 1 : Nat) : Int) := by rw [IntKind.wrap_u64]; omega
      clear r1' r2' r3' R G BW hb5 FI
      go_wp2_with fail
      go_roundg (60 - (i + 1))
      case measure => omega
      case rel => exact ⟨i + 1, b5, cap5, rfl, (by first | rfl | go_num), by omega, Nat.le_refl _, B5, R5, G5⟩
    · have ei : i = 60 := by omega
      subst ei
      obtain ⟨_, _, ev, _, icp, _⟩ := own_slice R.out (by simp)
      cases ev
      have K4 : Aside (KS wr (some ⟨b, 0, none⟩) 60 cub) := ks_own R.out (Nat.le_refl _) (fun j hj => by simp [hj]) cub_bd
      clear R
      go_wp2_with fail
      refine (BU.out _ _ icp _ K4.out).mono ?_
      rintro e w6 ⟨⟨lo, lc, L, err, rfl, hB, hV, hl⟩, g6⟩
      obtain ⟨rfl, l1, l2, l3, l4, l5⟩ := cub_built hB
      have G6 : Aside (Gw w w6) := G.out.trans g6
      obtain ⟨ab, af, rfl, hab, hac⟩ := hV.cells (by omega)
      obtain ⟨so, sc, p1, _⟩ := hac (L.length - 1) (by omega)
      obtain ⟨to_, tc, q1, _⟩ := hac 0 (by omega)
      rw [l3] at p1
      rw [Nat.add_zero] at q1
      have l50 := l5 0 (by omega)
      generalize (L.getD 0 []).length = a0 at q1 l2 l50
      generalize L.length = m at *
      have wm : IntKind.i64.wrap ((m : Int) - 1) = ((m - 1 : Nat) : Int) := by rw [IntKind.wrap_i64]; omega
      obtain ⟨m1, hm1⟩ : ∃ m1, m - 1 = m1 := ⟨_, rfl⟩
      rw [hm1] at p1 wm
      have m1l : (m1 : Int) < (m : Int) := by omega
      have m1l' : m1 < m := by omega
      have t1 : decide ((1 : Int) < (m : Int)) = true := by simp; omega
      have t2 : decide ((1 : Int) < (a0 : Int)) = true := by simp; omega
      have m0 : 0 < m := by omega
      clear hB hV hac g6 G l3 l5 hm1
      go_wp2_with fail
      go_ret
      exact ⟨rfl, G6.out⟩

set_option maxRecDepth 10000 in
set_option maxHeartbeats 8000000 in
theorem topfew_walk (LL : LevelsC) (ao : Option Addr) (n cp : Nat) (f : Nat → Int) (eps : Int) (e0 : -9223372036854775808 ≤ eps) (e1 : eps < 9223372036854775808) (hn : n ≤ 2000000) (hcp : n ≤ cp) (w : World) (h : KS w ao n f) :
    Calls Try.prog 6 #[.slice ao n cp, .int .i64 eps] w fun e w' => e = .returned (.bool true) ∧ Gw w w' := by
  have HK : Aside (KS w ao n f) := h
  clear h
  have SH : Hid (∀ W, Calls Try.prog 15 #[] W fun e w' => e = .returned (.bool true) ∧ Gw W w') := fun W => built_any LL W
  have BU : Hid (∀ W, KS W ao n f → _) := fun W h => LL.build eps ao n cp f e0 e1 hn hcp W h
  have RI : Hid (∀ W, KS W ao n f → _) := fun W h => rrising_any ao n cp f (by omega) W h
  have TE : Hid (∀ W, _) := fun W => teps_any eps W
  have MH : Hid (∀ W, _) := fun W => LL.height (n : Int) eps (by omega) (by omega) e0 e1 W
  clear LL
  go_enter Try.func6, Try.ntmps6
  go_wp2_with fail
  refine (SH.out _).mono ?_
  rintro e w1 ⟨rfl, g1⟩
  have G1 : Aside (Gw w w1) := g1
  clear g1
  go_wp2_with fail
  refine (BU.out _ (HK.out.gw G1.out)).mono ?_
  rintro e w2 ⟨⟨lo, lc, L, err, rfl, hB, hV, hl⟩, g2⟩
  have G2 : Aside (Gw w w2) := G1.out.trans g2
  have V2 : Aside (VS w2 lo L) := hV
  have BE : Aside (BuildE eps f n L err) := hB
  clear g2 G1 hV hB
  go_wp2_with fail
  refine (RI.out _ (HK.out.gw G2.out)).mono ?_
  rintro e w3 ⟨⟨r, rfl, hr⟩, g3⟩
  have G3 : Aside (Gw w w3) := G2.out.trans g3
  have V3 : Aside (VS w3 lo L) := V2.out.gw g3
  have HR : Aside (r = true ↔ Up f n) := hr
  clear g3 hr V2 G2
  go_wp2_with fail
  refine (TE.out _).mono ?_
  rintro e w3' ⟨rfl, hw⟩
  rw [hw]
  clear hw w3'
  rcases BE.out with ⟨k0, hL, hE⟩ | ⟨k0, k1, hL, hE⟩ | ⟨k0, k1, hR, hE⟩
  · subst hL hE
    rw [decide_eq_false k0]
    clear k0 V3 HR BE MH RI BU SH TE
    cases r
    all_goals go_wp2_with fail
    all_goals go_ret
    all_goals exact ⟨rfl, G3.out⟩
  · subst hL hE
    rw [decide_eq_true k0]
    obtain rfl : r = false := by
      cases r with
      | false => rfl
      | true => exact absurd (HR.out.1 rfl) k1
    clear k0 k1 V3 HR BE MH RI BU SH TE
    go_wp2_with fail
    go_ret
    exact ⟨rfl, G3.out⟩
  · subst hE
    rw [decide_eq_true k0]
    obtain rfl : r = true := HR.out.2 k1
    have UP : Aside (Up f n) := k1
    have LW := hR.low k0.1 hn HK.out.bd k1
    have NN := hR.none
    have HRB : Aside (BuildR eps f n L) := hR
    have ST : Aside (Short L) := ⟨by have b := hgt_le (e := eps.toNat) (by omega) n; omega, fun i hi => by have := hR.short hn HK.out.bd k1 i hi; omega⟩
    obtain ⟨e, he⟩ : ∃ e : Nat, eps = e := ⟨eps.toNat, by omega⟩
    subst he
    rw [Int.toNat_natCast] at LW
    have ee : 2 ≤ e := by omega
    have e64 : e ≤ 64 := by omega
    have HM : mxh (n : Int) (e : Int) = (hgt e n : Nat) := by
      by_cases z : n = 0
      · subst z; exact if_neg (fun q => by have := q.2.2; omega)
      · unfold mxh
        rw [if_pos ⟨k0.1, k0.2, by omega⟩, Int.toNat_natCast, Int.toNat_natCast]
    rw [HM] at MH
    obtain ⟨ln, hln⟩ : ∃ ln, L.length = ln := ⟨_, rfl⟩
    have LN : Aside (L.length = ln) := hln
    have lnb : ln ≤ 2000000 := by rw [← hln]; exact ST.out.1
    have ZZ : Aside ((ln = 0 ∧ n = 0) ∨ (0 < ln ∧ 0 < n)) := by
      rw [← List.length_eq_zero_iff, hln] at NN
      show _ ∨ _
      omega
    rw [hln] at LW hl ⊢
    generalize hgt e n = H at MH LW
    have tH : decide ((ln : Int) ≤ (H : Int)) = true := by simp; omega
    have tH' : ln ≤ H := by omega
    clear k0 k1 hR NN HM hln BE HR
    have BD : Aside (∀ t, t < n → 0 ≤ f t ∧ f t < 18446744073709551616) := HK.out.bd
    have K0 : Aside (KS w3 ao n f) := HK.out.gw G3.out
    clear BU RI SH TE
    go_wp2_with fail
    go_loopg [10, 11] ln (fun gg s10 s11 wr => ∃ (i m c : Nat) (bo : Option Addr) (g : Nat → Int), s10 = .slice bo m c ∧ s11 = .int .i64 i ∧ i ≤ ln ∧ ln - i ≤ gg ∧ m ≤ 2000000 ∧ Aside (KS wr bo m g) ∧ Aside (Up g m ∧ ∀ t, t < m → 0 ≤ g t ∧ g t < 18446744073709551616) ∧ Aside (i < ln → BuildR e g m (L.drop i)) ∧ Aside (i = ln → 0 < ln → m = 1) ∧ Aside (Gw w3 wr))
    case atStart => exact ⟨0, n, cp, ao, f, rfl, rfl, Nat.zero_le _, by omega, hn, K0, (show Aside _ from ⟨UP.out, BD.out⟩), (show Aside _ from fun _ => HRB.out), (show Aside _ from fun q q' => by omega), (show Aside _ from Gw.refl w3)⟩
    case round =>
      clear K0
      obtain ⟨i, m, c, bo, g, rfl, rfl, h1, h2, h3, KG, UB, EC, EL, G⟩ := hrel
      by_cases hlt : i < ln
      · obtain ⟨lb, lf, rfl, hlb, hc⟩ := (V3.out.gw G.out).cells (by rw [LN.out]; omega)
        obtain ⟨so, sc, p1, p2, p3, p4⟩ := hc i (by rw [LN.out]; exact hlt)
        have EB := EC.out hlt
        rw [dropL_at (show i < L.length by rw [LN.out]; exact hlt)] at EB
        have RN : L.drop (i + 1) = [] ↔ i + 1 = ln := by
          have ll : (L.drop (i + 1)).length = ln - (i + 1) := by rw [List.length_drop, LN.out]
          rw [← List.length_eq_zero_iff, ll]
          omega
        clear hc EC
        generalize L.getD i [] = l at p1 p2 p3 p4 EB
        obtain ⟨m0, LV, RB⟩ := EB
        have TI : Aside (tileB m 0 l = true) := LV.tiles h3 UB.out.2
        have FW := LV.few (by omega) m0 h3 UB.out.2 UB.out.1
        have LE := LV.len h3 UB.out.2
        have WD : Aside (∀ t, t + 1 < l.length → 2 * (e : Int) - 1 ≤ (l.getD t sg0).te - (l.getD t sg0).fr) := fun t ht => LV.wide (by omega) h3 UB.out.2 UB.out.1 t ht
        have FK : Aside (∀ t, t < l.length → (l.getD t sg0).k = g (l.getD t sg0).fr.toNat) := fun t ht => LV.keys h3 UB.out.2 _ (by rw [List.getD_eq_getElem?_getD, List.getElem?_eq_getElem ht]; exact List.getElem_mem ht)
        have l0 : 0 < l.length := List.length_pos_iff.2 (LV.some m0)
        obtain ⟨u1, _, u3⟩ := fst8_up UB.out.1 TI.out (LV.keys h3 UB.out.2)
        have UB' : Aside (Up (fst8 l) l.length ∧ ∀ t, t < l.length → 0 ≤ fst8 l t ∧ fst8 l t < 18446744073709551616) := ⟨u1, fst8_bd UB.out.2 u3⟩
        have RB' : Aside ((i + 1 < ln → BuildR e (fst8 l) l.length (L.drop (i + 1))) ∧ (i + 1 = ln → l.length = 1)) := by
          by_cases q : l.length = 1
          · rw [if_pos q] at RB
            exact ⟨fun h => absurd (RN.1 RB) (by omega), fun _ => q⟩
          · rw [if_neg q] at RB
            refine ⟨fun _ => RB, fun h => ?_⟩
            rw [RN.2 h] at RB
            have : l.length = 0 := RB
            omega
        have GL : Aside (GS wr so l) := p4
        rw [Int.toNat_natCast] at FW
        have f1 := FW.1
        clear u1 u3 LV RB RN FW p2 p3 p4
        have FI : Hid (∀ W, GS W so l → _) := fun W h => tfirsts_any so sc l (by omega) W h
        obtain ⟨sn, hsn⟩ : ∃ sn, l.length = sn := ⟨_, rfl⟩
        have SN : Aside (l.length = sn) := hsn
        rw [hsn] at p1 l0 f1 LE UB' RB' FI
        obtain ⟨d, hd⟩ : ∃ d, m / e = d := ⟨_, rfl⟩
        have td : Int.tdiv (m : Int) (e : Int) = (d : Int) := by rw [← hd]; rfl
        rw [hd] at f1
        have dm : d ≤ m := by rw [← hd]; exact Nat.div_le_self m e
        have ez : ((e : Int) == 0) = false := by simp; omega
        have s2 : ¬ d + 1 < sn := by omega
        have s2' : decide ((d : Int) + 1 < (sn : Int)) = false := by simp; omega
        have L8 : Aside (wr.cell? ⟨lb, lf + i, none⟩ = some (.slice so sn sc) ∧ lb < wr.heap.size) := ⟨p1, hlb⟩
        obtain ⟨w8, hw8⟩ : ∃ wx, wx = wr := ⟨_, rfl⟩
        subst hw8
        have K8 : Aside (KS w8 bo m g) := KG.out
        clear hsn hd KG
        go_wp2_with fail
        clear p1 hlb
        go_loopg [12, 13] sn (fun gg s12 s13 wr => ∃ k a : Nat, s12 = .int .i64 a ∧ s13 = .int .i64 k ∧ k ≤ sn ∧ sn - k ≤ gg ∧ a ≤ m ∧ Aside (k < sn → (l.getD k sg0).fr = a) ∧ Aside (k = sn → a = m) ∧ Aside (Gw w8 wr))
        case atStart => exact ⟨0, 0, rfl, rfl, Nat.zero_le _, by omega, Nat.zero_le _, (show Aside _ from fun h => (tile_at TI.out 0 (by rw [SN.out]; exact h)).2.2.2.1 rfl), (show Aside _ from fun h => by omega), (show Aside _ from Gw.refl w8)⟩
        case round =>
          obtain ⟨k, a, rfl, rfl, j1, j2, j3, AF, AL, GW⟩ := hrel
          have p1 : wr.cell? ⟨lb, lf + i, none⟩ = some (.slice so sn sc) := (GW.out.cell _ _ L8.out.2).trans L8.out.1
          have hlb : lb < wr.heap.size := Nat.lt_of_lt_of_le L8.out.2 GW.out.size
          by_cases klt : k < sn
          · obtain ⟨sb, sf, rfl, hsb, hsc⟩ := (GL.out.gw GW.out).cells (by rw [SN.out]; omega)
            have C := hsc k (by rw [SN.out]; exact klt)
            have TA := tile_at TI.out k (by rw [SN.out]; exact klt)
            have WK := WD.out k
            have FA := AF.out klt
            have KF := FK.out k (by rw [SN.out]; exact klt)
            have NF : k + 1 < sn → (l.getD (k + 1) sg0).fr = (l.getD k sg0).te := fun h => TA.2.2.2.2.1 (by rw [SN.out]; exact h)
            have NL : k + 1 = sn → (l.getD k sg0).te = m := fun h => TA.2.2.2.2.2 (by rw [SN.out]; exact h)
            rw [SN.out] at WK
            clear hsc AF AL
            generalize l.getD k sg0 = s at C TA WK FA NF NL KF
            obtain ⟨sk, ssl, sic, sfr, ste⟩ := s
            have ta1 : sfr < ste := TA.2.1
            have ta2 : ste ≤ (m : Int) := TA.2.2.1
            obtain rfl : sfr = (a : Int) := FA
            have kf : sk = g a := KF
            obtain ⟨tb, htb⟩ : ∃ tb : Nat, ste = tb := ⟨ste.toNat, by omega⟩
            subst htb
            have am : a < m := by omega
            obtain ⟨gb, gf, rfl, hgb, hgc⟩ := (K8.out.gw GW.out).cells (by omega)
            have ga := hgc a am
            rw [← kf] at ga
            clear hgc kf KF
            have c0 : wr.cell? ⟨sb, sf + k * 5, none⟩ = some (.int .u64 sk) := C.c0
            have c1 : wr.cell? ⟨sb, sf + k * 5 + 1, none⟩ = some (.float .f64 ssl) := C.c1
            have c2 : wr.cell? ⟨sb, sf + k * 5 + 2, none⟩ = some (.float .f64 sic) := C.c2
            have c3 : wr.cell? ⟨sb, sf + k * 5 + 3, none⟩ = some (.int .i64 (a : Int)) := C.c3
            have c4 : wr.cell? ⟨sb, sf + k * 5 + 4, none⟩ = some (.int .i64 (tb : Int)) := C.c4
            have d1 : ((a : Int) != (a : Int)) = false := by simp
            have d2 : ¬ tb ≤ a := by omega
            have d2' : decide ((tb : Int) ≤ (a : Int)) = false := by simp; omega
            have d3 : ¬ m < tb := by omega
            have d3' : decide ((m : Int) < (tb : Int)) = false := by simp; omega
            have wk1 : IntKind.i64.wrap ((k : Int) + 1) = (k : Int) + 1 := by rw [IntKind.wrap_i64]; omega
            have ww : IntKind.i64.wrap ((tb : Int) - (a : Int)) = (tb : Int) - (a : Int) := by rw [IntKind.wrap_i64]; omega
            have we : IntKind.i64.wrap (2 * (e : Int)) = 2 * (e : Int) := by rw [IntKind.wrap_i64]; omega
            have we' : IntKind.i64.wrap (2 * (e : Int) - 1) = 2 * (e : Int) - 1 := by rw [IntKind.wrap_i64]; omega
            have GW' : Aside (Gw w8 (wr.alloc (.cells #[.int .u64 sk, .float .f64 ssl, .float .f64 sic, .int .i64 (a : Int), .int .i64 (tb : Int)] 38))) := GW.out.alloc _ _
            have AF' : Aside (k + 1 < sn → (l.getD (k + 1) sg0).fr = tb) := NF
            have AL' : Aside (k + 1 = sn → tb = m) := fun h => by have : (tb : Int) = m := NL h; omega
            have tm : tb ≤ m := by omega
            have a0 : (a : Int) < (m : Int) := by omega
            by_cases last : k + 1 < sn
            · have t9 : decide ((k : Int) + 1 < (sn : Int)) = true := by simp; omega
              have wk := WK last
              have wk' : 2 * (e : Int) - 1 ≤ (tb : Int) - (a : Int) := wk
              have t10 : decide ((tb : Int) - (a : Int) < 2 * (e : Int) - 1) = false := by simp; omega
              have t11 : decide ((tb : Int) - (a : Int) ≤ (e : Int)) = false := by simp; omega
              clear C TA WK NF NL wk wk' ta1 ta2
              go_wp2_with fail
              first
                | (go_quiet (fail)
                   go_wp2_with fail)
                | skip
              go_roundg (sn - (k + 1))
              case measure => omega
              case rel => exact ⟨k + 1, tb, rfl, by go_num, by omega, Nat.le_refl _, tm, AF', AL', (by first | exact GW' | exact (show Aside _ from GW'.out.drewN _))⟩
            · have t9 : decide ((k : Int) + 1 < (sn : Int)) = false := by simp; omega
              clear C TA WK NF NL ta1 ta2
              go_wp2_with fail
              first
                | (go_quiet (fail)
                   go_wp2_with fail)
                | skip
              go_roundg (sn - (k + 1))
              case measure => omega
              case rel => exact ⟨k + 1, tb, rfl, by go_num, by omega, Nat.le_refl _, tm, AF', AL', (by first | exact GW' | exact (show Aside _ from GW'.out.drewN _))⟩
          · have ek : k = sn := by omega
            subst ek
            have am : a = m := AL.out rfl
            subst am
            have GX : Aside (Gw w3 wr) := G.out.trans GW.out
            have GLx : Aside (GS wr so l) := GL.out.gw GW.out
            go_wp2_with fail
            go_quiet (fail)
            go_wp2_with fail
            refine (FI.out _ (GLx.out.gw ((Gw.refl wr).drewN nq))).mono ?_
            rintro e' w9 ⟨⟨fb, fc, rfl, _, hfc, hk⟩, g9⟩
            have K9 : Aside (KS w9 (some ⟨fb, 0, none⟩) k (fst8 l)) := hk
            have G9 : Aside (Gw w3 w9) := (GX.out.drewN nq).trans g9
            clear hk g9 GLx GX
            go_wp2_with fail
            go_roundg (ln - (i + 1))
            case measure => omega
            case rel => exact ⟨i + 1, k, fc, some ⟨fb, 0, none⟩, fst8 l, rfl, by go_num, by omega, Nat.le_refl _, by omega, K9, UB', (show Aside _ from RB'.out.1), (show Aside _ from fun q _ => RB'.out.2 q), G9⟩
      · have ei : i = ln := by omega
        subst ei
        have GF : Aside (Gw w wr) := G3.out.trans G.out
        rcases ZZ.out with ⟨z1, z2⟩ | ⟨z1, z2⟩
        · have b1 : ((i : Int) == 0) = true := by simp; omega
          have b2 : ((n : Int) == 0) = true := by simp; omega
          clear z1 z2
          go_wp2_with fail
          refine (MH.out _).mono ?_
          rintro e' w9 ⟨rfl, g9⟩
          have G9 : Aside (Gw w w9) := GF.out.trans g9
          clear g9
          go_wp2_with fail
          go_ret
          exact ⟨rfl, G9.out⟩
        · have b1 : ((i : Int) == 0) = false := by simp; omega
          have b2 : ((n : Int) == 0) = false := by simp; omega
          have m1 : m = 1 := EL.out rfl z1
          subst m1
          go_wp2_with fail
          refine (MH.out _).mono ?_
          rintro e' w9 ⟨rfl, g9⟩
          have G9 : Aside (Gw w w9) := GF.out.trans g9
          clear g9
          go_wp2_with fail
          go_ret
          exact ⟨rfl, G9.out⟩

end Go.Proofs.Ytmmkmakajolfhab
