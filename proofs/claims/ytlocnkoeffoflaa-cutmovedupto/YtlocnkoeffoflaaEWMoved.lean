/- CutMoved's walk. -/
import Derived.Test.YtlocnkoeffoflaaEWFew
namespace Go.Proofs.Ytlocnkoeffoflaa
open Go.RowKit
set_option linter.unusedVariables false

set_option maxRecDepth 10000 in
set_option maxHeartbeats 4000000 in
theorem moved_walk (CC : CutC) (ao : Option Addr) (n cp : Nat) (f : Nat → Int) (eps far : Int) (p0 : -9223372036854775808 ≤ eps) (p1 : eps < 9223372036854775808) (s0 : 0 ≤ far) (s1 : far < 18446744073709551616) (hn : n ≤ 1048576) (hcp : n ≤ cp) (w : World) (h : KS w ao n f) :
    Calls Try.prog 7 #[.slice ao n cp, .int .i64 eps, .int .u64 far] w fun e w' => e = .returned (.bool true) ∧ Gw w w' := by
  have HK : Aside (KS w ao n f) := h
  clear h
  obtain ⟨ii, hii, hz, hs, hby⟩ := info_parts info_k
  have SH : Hid _ := fun W => eshown CC W
  have RI : Hid _ := fun W h => right_any CC eps ao n cp f p0 p1 (by omega) hcp W h
  have EE : Hid _ := fun W h => CC.ends eps ao n cp f p0 p1 (by omega) hcp W h
  have EM : Hid _ := fun bo c g hc W h => CC.ends eps bo n c g p0 p1 (by omega) hc W h
  clear CC
  go_enter Try.func7, Try.ntmps7
  go_wp2_with fail
  refine (SH.out _).mono ?_
  rintro e w1 ⟨rfl, g1⟩
  have G1 : Aside (Gw w w1) := g1
  clear g1
  go_wp2_with fail
  refine (RI.out _ (HK.out.gw G1.out)).mono ?_
  rintro e w2 ⟨⟨r, rfl, hr⟩, g2⟩
  have HR : Aside (r = true ↔ ((2 ≤ eps ∧ eps ≤ 64) ∧ Up f n)) := hr
  have G2 : Aside (Gw w w2) := G1.out.trans g2
  clear hr g2 G1
  cases r with
  | false =>
    clear HR
    go_wp2_with fail
    go_ret
    exact ⟨rfl, G2.out⟩
  | true =>
    have KK : Aside ((2 ≤ eps ∧ eps ≤ 64) ∧ Up f n) := HR.out.1 rfl
    clear HR
    by_cases n0 : n = 0
    · subst n0
      go_wp2_with fail
      go_ret
      exact ⟨rfl, G2.out⟩
    · have tn : ((n : Int) == 0) = false := by simp; omega
      obtain ⟨bk, off, rfl, hbk, hc⟩ := (HK.out.gw G2.out).cells (by omega)
      have ln := hc (n - 1) (by omega)
      obtain ⟨l0, l1⟩ := HK.out.bd (n - 1) (by omega)
      have LM : Aside (∀ i, i < n → 0 ≤ f i ∧ f i ≤ f (n - 1)) := fun i hi => ⟨(HK.out.bd i hi).1, KK.out.2.le (by omega) (by omega)⟩
      obtain ⟨v, hv⟩ : ∃ v, f (n - 1) = v := ⟨_, rfl⟩
      rw [hv] at ln l0 l1 LM
      clear hv hc
      have wn : IntKind.i64.wrap ((n : Int) - 1) = ((n - 1 : Nat) : Int) := by rw [IntKind.wrap_i64]; omega
      have wv : IntKind.u64.wrap (18446744073709551615 - v) = 18446744073709551615 - v := by rw [IntKind.wrap_u64]; omega
      have lt1 : n - 1 < n := by omega
      obtain ⟨n1, hn1⟩ : ∃ n1, n - 1 = n1 := ⟨_, rfl⟩
      rw [hn1] at ln wn lt1
      by_cases hzv : 0 < v
      · have tz : decide (18446744073709551615 - v < 18446744073709551615) = true := by simp; omega
        have wr1 : IntKind.u64.wrap (18446744073709551615 - v + 1) = 18446744073709551616 - v := by rw [IntKind.wrap_u64]; omega
        have r0 : (18446744073709551616 - v == 0) = false := by simp; omega
        have r1 : ¬ 18446744073709551616 - v = 0 := by omega
        obtain ⟨B, hB⟩ : ∃ B, far % (18446744073709551616 - v) = B := ⟨_, rfl⟩
        have tB : far.tmod (18446744073709551616 - v) = B := by rw [Int.tmod_eq_emod_of_nonneg s0]; exact hB
        have B0 : 0 ≤ B := by rw [← hB]; exact Int.emod_nonneg _ r1
        have B1 : B < 18446744073709551616 - v := by rw [← hB]; exact Int.emod_lt_of_pos _ (by omega)
        have MB : Aside (∀ i, i < n → 0 ≤ f i + B ∧ f i + B < 18446744073709551616) := fun i hi => by have := LM.out i hi; omega
        have R3 : Aside ((w2.alloc (.cells #[] 24)).ownsRow w.heap.size 24 1 (.slice (some ⟨w2.heap.size, 0, none⟩) 0 0) 0 ((List.range 0).map fun j => Value.int .u64 (f j + B))) := World.ownsRow_made w2 #[] 0 G2.out.size (Nat.zero_le _) rfl
        have G3 : Aside (Gw w (w2.alloc (.cells #[] 24))) := G2.out.alloc _ _
        have B3 : Aside (w.heap.size ≤ w2.heap.size) := G2.out.size
        clear hB
        go_wp2_with fail
        generalize w2.alloc (.cells #[] 24) = w3 at R3 G3 ⊢
        clear ln G2
        go_loopg [11, 12] n (fun gg s11 s12 wr => ∃ i b cap : Nat, s11 = .slice (some ⟨b, 0, none⟩) i cap ∧ s12 = .int .i64 i ∧ i ≤ n ∧ n - i ≤ gg ∧ Aside (w.heap.size ≤ b) ∧ Aside (wr.ownsRow w.heap.size 24 1 (.slice (some ⟨b, 0, none⟩) i cap) i ((List.range i).map fun j => Value.int .u64 (f j + B))) ∧ Aside (Gw w wr))
        case atStart => exact ⟨0, w2.heap.size, 0, rfl, rfl, Nat.zero_le _, by omega, B3, R3, G3⟩
        case round =>
          clear R3 G3 B3
          obtain ⟨i, b, cap, rfl, rfl, h1, h2, BW, R, G⟩ := hrel
          by_cases hlt : i < n
          · obtain ⟨bk', off', e, hbk', hc⟩ := (HK.out.gw G.out).cells (by omega)
            cases e
            have q1 := hc i hlt
            have mb := MB.out i hlt
            obtain ⟨fi, hfi⟩ : ∃ y, f i = y := ⟨_, rfl⟩
            have FI : Aside (f i = fi) := hfi
            rw [hfi] at q1 mb
            clear hc hfi
            have wb : IntKind.u64.wrap (fi + B) = fi + B := by rw [IntKind.wrap_u64]; omega
            have z0 := G.out.size
            go_wp2_with (at_builtin; refine wpList_append_own _ rfl _ _ 22 rfl w.heap.size 24 ii (.int .u64 0) 1 8 Try.underlying22 hii hz hs hby rfl (by decide) _ i _ rfl (R.out.alloc _) ⟨wr.heap.size, 0, none⟩ 1 1 [.int .u64 (fi + B)] rfl rfl (new_one wr (fi + B)) (ints_oneCell .u64 [fi + B]) (by simp only [maxLen]; omega) (by omega) (by simp; omega) ?_)
            intro v' w5 r1' r2' r3'
            obtain ⟨b5, cap5, rfl, hb5, _, _⟩ := own_slice r1' (by simpa using r3')
            have R5 : Aside (w5.ownsRow w.heap.size 24 1 (.slice (some ⟨b5, 0, none⟩) (i + 1) cap5) (i + 1) ((List.range (i + 1)).map fun j => Value.int .u64 (f j + B))) := by
              have := r1'
              rw [← FI.out] at this
              rw [List.range_succ, List.map_append]
              exact this
            have G5 : Aside (Gw w w5) := (G.out.alloc _ _).grown r2' (fun k hk => by cases hk; exact BW.out)
            have B5 : Aside (w.heap.size ≤ b5) := hb5
            clear r1' r2' r3' R G BW hb5 q1 FI
            go_wp2_with fail
            go_roundg (n - (i + 1))
            case measure => omega
            case rel => exact ⟨i + 1, b5, cap5, rfl, by go_num, by omega, Nat.le_refl _, B5, R5, G5⟩
          · have ei : i = n := by omega
            subst ei
            have icp := row_le R.out
            have K4 : Aside (KS wr (some ⟨b, 0, none⟩) i (fun j => f j + B)) := ks_own R.out (Nat.le_refl _) (fun j hj => by simp [hj]) MB.out
            clear R
            go_wp2_with fail
            refine (EE.out _ (HK.out.gw G.out)).mono ?_
            rintro e w6 ⟨⟨v6, l6, err6, rfl, hE, hI⟩, g6⟩
            have E6 : Aside (EndsR eps f i l6 err6) := hE
            obtain ⟨bo6, cap6, rfl, hL⟩ := ir_ls hI
            have L6 : Aside (LS w6 bo6 l6) := hL
            have G6 : Aside (Gw w w6) := G.out.trans g6
            have K6 : Aside (KS w6 (some ⟨b, 0, none⟩) i (fun j => f j + B)) := K4.out.gw g6
            clear hE hI hL g6 G K4
            go_wp2_with fail
            refine (EM.out _ _ _ icp _ K6.out).mono ?_
            rintro e w7 ⟨⟨v7, l7, err7, rfl, hE, hI⟩, g7⟩
            have M7 := EndsR.moved (g := fun j => f j + B) (fun x y _ _ => by show f y - f x = f y + B - (f x + B); omega) E6.out
            obtain ⟨rfl, rfl⟩ := hE.one M7
            obtain ⟨ha, rfl⟩ := E6.out.right KK.out
            have l100 := ha.len
            obtain ⟨bo7, cap7, rfl, hL⟩ := ir_ls hI
            have L7 : Aside (LS w7 bo7 l7) := hL
            have N7 : Aside (LS w7 bo6 l7) := L6.out.gw g7
            have G7 : Aside (Gw w w7) := G6.out.trans g7
            clear hE hI hL g7 G6 K6 L6 M7 ha E6
            have l101 : l7.length ≤ 4000000 := by omega
            clear l100
            go_wp2_with fail
            refine (same_any bo6 bo7 cap6 cap7 l7 l7 l101 l101 _ N7.out L7.out).mono ?_
            rintro e w8 ⟨rfl, g8⟩
            have G8 : Aside (Gw w w8) := G7.out.trans g8
            have dt : decide (l7 = l7) = true := by simp
            rw [dt]
            clear g8
            go_wp2_with fail
            go_ret
            exact ⟨rfl, G8.out⟩
      · have ev : v = 0 := by omega
        subst ev
        obtain ⟨B, hB⟩ : ∃ B, far = B := ⟨_, rfl⟩
        have B0 : 0 ≤ B := by omega
        have B1 : B < 18446744073709551616 - 0 := by omega
        rw [hB] at *
        have MB : Aside (∀ i, i < n → 0 ≤ f i + B ∧ f i + B < 18446744073709551616) := fun i hi => by have := LM.out i hi; omega
        have R3 : Aside ((w2.alloc (.cells #[] 24)).ownsRow w.heap.size 24 1 (.slice (some ⟨w2.heap.size, 0, none⟩) 0 0) 0 ((List.range 0).map fun j => Value.int .u64 (f j + B))) := World.ownsRow_made w2 #[] 0 G2.out.size (Nat.zero_le _) rfl
        have G3 : Aside (Gw w (w2.alloc (.cells #[] 24))) := G2.out.alloc _ _
        have B3 : Aside (w.heap.size ≤ w2.heap.size) := G2.out.size
        clear hB
        go_wp2_with fail
        generalize w2.alloc (.cells #[] 24) = w3 at R3 G3 ⊢
        clear ln G2
        go_loopg [11, 12] n (fun gg s11 s12 wr => ∃ i b cap : Nat, s11 = .slice (some ⟨b, 0, none⟩) i cap ∧ s12 = .int .i64 i ∧ i ≤ n ∧ n - i ≤ gg ∧ Aside (w.heap.size ≤ b) ∧ Aside (wr.ownsRow w.heap.size 24 1 (.slice (some ⟨b, 0, none⟩) i cap) i ((List.range i).map fun j => Value.int .u64 (f j + B))) ∧ Aside (Gw w wr))
        case atStart => exact ⟨0, w2.heap.size, 0, rfl, rfl, Nat.zero_le _, by omega, B3, R3, G3⟩
        case round =>
          clear R3 G3 B3
          obtain ⟨i, b, cap, rfl, rfl, h1, h2, BW, R, G⟩ := hrel
          by_cases hlt : i < n
          · obtain ⟨bk', off', e, hbk', hc⟩ := (HK.out.gw G.out).cells (by omega)
            cases e
            have q1 := hc i hlt
            have mb := MB.out i hlt
            obtain ⟨fi, hfi⟩ : ∃ y, f i = y := ⟨_, rfl⟩
            have FI : Aside (f i = fi) := hfi
            rw [hfi] at q1 mb
            clear hc hfi
            have wb : IntKind.u64.wrap (fi + B) = fi + B := by rw [IntKind.wrap_u64]; omega
            have z0 := G.out.size
            go_wp2_with (at_builtin; refine wpList_append_own _ rfl _ _ 22 rfl w.heap.size 24 ii (.int .u64 0) 1 8 Try.underlying22 hii hz hs hby rfl (by decide) _ i _ rfl (R.out.alloc _) ⟨wr.heap.size, 0, none⟩ 1 1 [.int .u64 (fi + B)] rfl rfl (new_one wr (fi + B)) (ints_oneCell .u64 [fi + B]) (by simp only [maxLen]; omega) (by omega) (by simp; omega) ?_)
            intro v' w5 r1' r2' r3'
            obtain ⟨b5, cap5, rfl, hb5, _, _⟩ := own_slice r1' (by simpa using r3')
            have R5 : Aside (w5.ownsRow w.heap.size 24 1 (.slice (some ⟨b5, 0, none⟩) (i + 1) cap5) (i + 1) ((List.range (i + 1)).map fun j => Value.int .u64 (f j + B))) := by
              have := r1'
              rw [← FI.out] at this
              rw [List.range_succ, List.map_append]
              exact this
            have G5 : Aside (Gw w w5) := (G.out.alloc _ _).grown r2' (fun k hk => by cases hk; exact BW.out)
            have B5 : Aside (w.heap.size ≤ b5) := hb5
            clear r1' r2' r3' R G BW hb5 q1 FI
            go_wp2_with fail
            go_roundg (n - (i + 1))
            case measure => omega
            case rel => exact ⟨i + 1, b5, cap5, rfl, by go_num, by omega, Nat.le_refl _, B5, R5, G5⟩
          · have ei : i = n := by omega
            subst ei
            have icp := row_le R.out
            have K4 : Aside (KS wr (some ⟨b, 0, none⟩) i (fun j => f j + B)) := ks_own R.out (Nat.le_refl _) (fun j hj => by simp [hj]) MB.out
            clear R
            go_wp2_with fail
            refine (EE.out _ (HK.out.gw G.out)).mono ?_
            rintro e w6 ⟨⟨v6, l6, err6, rfl, hE, hI⟩, g6⟩
            have E6 : Aside (EndsR eps f i l6 err6) := hE
            obtain ⟨bo6, cap6, rfl, hL⟩ := ir_ls hI
            have L6 : Aside (LS w6 bo6 l6) := hL
            have G6 : Aside (Gw w w6) := G.out.trans g6
            have K6 : Aside (KS w6 (some ⟨b, 0, none⟩) i (fun j => f j + B)) := K4.out.gw g6
            clear hE hI hL g6 G K4
            go_wp2_with fail
            refine (EM.out _ _ _ icp _ K6.out).mono ?_
            rintro e w7 ⟨⟨v7, l7, err7, rfl, hE, hI⟩, g7⟩
            have M7 := EndsR.moved (g := fun j => f j + B) (fun x y _ _ => by show f y - f x = f y + B - (f x + B); omega) E6.out
            obtain ⟨rfl, rfl⟩ := hE.one M7
            obtain ⟨ha, rfl⟩ := E6.out.right KK.out
            have l100 := ha.len
            obtain ⟨bo7, cap7, rfl, hL⟩ := ir_ls hI
            have L7 : Aside (LS w7 bo7 l7) := hL
            have N7 : Aside (LS w7 bo6 l7) := L6.out.gw g7
            have G7 : Aside (Gw w w7) := G6.out.trans g7
            clear hE hI hL g7 G6 K6 L6 M7 ha E6
            have l101 : l7.length ≤ 4000000 := by omega
            clear l100
            go_wp2_with fail
            refine (same_any bo6 bo7 cap6 cap7 l7 l7 l101 l101 _ N7.out L7.out).mono ?_
            rintro e w8 ⟨rfl, g8⟩
            have G8 : Aside (Gw w w8) := G7.out.trans g8
            have dt : decide (l7 = l7) = true := by simp
            rw [dt]
            clear g8
            go_wp2_with fail
            go_ret
            exact ⟨rfl, G8.out⟩
end Go.Proofs.Ytlocnkoeffoflaa
