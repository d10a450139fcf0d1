/- Package script: an answer told. -/
import Derived.Test.YtocnmdabilaccaaDoorS2Txt
import Derived.Test.YtocnmdabilaccaaDoorS2Bld
import Derived.Test.YtocnmdabilaccaaDoorS1Ref6
namespace Go.Proofs.YtocnmdabilaccaaDoor
open Go.RowKit
set_option linter.unusedVariables false

set_option maxRecDepth 100000 in
set_option maxHeartbeats 8000000 in
theorem pairs_any (ao : Option Addr) (cp : Nat) (l : List (Int × Int)) (hl : l.length ≤ 2000000) (w : World) (T : Tab w) (h : PS2 w ao l) :
    Calls Tryd.prog 38 #[.slice ao l.length cp] w fun e w' => e = .returned (.string (Bs (pairsOf l))) ∧ Gw w w' := by
  have PH : Hid (PS2 w ao l) := h
  have TW : Hid (Tab w) := T
  obtain ⟨n, hn⟩ : ∃ n, l.length = n := ⟨_, rfl⟩
  have LN : Aside (l.length = n) := hn
  rw [hn] at hl ⊢
  clear h hn T
  have D0 : Hid (∀ W, Gw w W → Calls Tryd.prog 34 #[.int .i64 (n : Int)] W fun e w' => e = .returned (.string (Bs (digits n))) ∧ Gw W w') := fun W g => by
    have := itoa_any (n : Int) (by omega) (by omega) W (TW.out.gw g)
    have e : signed (n : Int) = digits n := by unfold signed; rw [if_neg (by omega), Int.toNat_natCast]
    rw [e] at this
    exact this
  have L0 : Hid ((digits n).length ≤ 20) := digits_len20 (by omega)
  obtain ⟨B, hB⟩ : ∃ B, w.heap.size = B := ⟨_, rfl⟩
  obtain ⟨w1, E1⟩ : ∃ W, w.alloc (.cells #[.pointer none, .slice none 0 0] 63) = W := ⟨_, rfl⟩
  have B1 : Hid (BB w1 B B []) := by rw [← E1, ← hB]; exact BB.new w
  have G1 : Hid (Gw w w1) := by rw [← E1]; exact (Gw.refl w).alloc _ _
  have E1H : Hid (w.alloc (.cells #[.pointer none, .slice none 0 0] 63) = w1) := E1
  have BH : Hid (w.heap.size = B) := hB
  clear E1
  go_enter Tryd.func38, Tryd.ntmps38
  go_wp2_with fail
  rw [E1H.out]
  refine (D0.out _ G1.out).mono ?_
  rintro e w2 ⟨rfl, g2⟩
  obtain ⟨S0, hS0⟩ : ∃ S0, digits n = S0 := ⟨_, rfl⟩
  rw [hS0]
  have S0H : Aside (digits n = S0) := hS0
  have l0 : S0.length ≤ 20 := by rw [← hS0]; exact L0.out
  have B2 : Hid (BB w2 B B []) := B1.out.gw g2
  have G2 : Hid (Gw w w2) := G1.out.trans g2
  have z2 : B ≤ w2.heap.size := by have := G2.out.size; omega
  clear hS0 D0 L0 g2 B1 G1 E1H
  go_wp2_with fail
  refine (write_any B B [] S0 w2 B2.out (by simp; omega) z2).mono ?_
  rintro e w3 ⟨rfl, b3, g3⟩
  have B3 : Hid (BB w3 B B S0) := b3
  have G3 : Hid (Gw w w3) := G2.out.low g3 (by rw [BH.out]; exact Nat.le_refl _)
  clear b3 g3 B2 G2 z2
  go_wp2_with fail
  go_loopg [12] n (fun gg s12 wr => ∃ (i : Nat) (S : List UInt8), s12 = .int .i64 (i : Int) ∧ i ≤ n ∧ n - i ≤ gg ∧ S.length ≤ 20 + 42 * i ∧ Aside (S = pairsTo l i) ∧ Hid (BB wr B B S) ∧ Hid (Gw w wr))
  case atStart => exact ⟨0, S0, rfl, Nat.zero_le _, by omega, by omega, (by show _ = _; simp [pairsTo, LN.out, S0H.out]), B3, G3⟩
  case round =>
    obtain ⟨i, S, rfl, hi, hg, sl, SE, BR, G⟩ := hrel
    clear B3 G3
    have zr : B ≤ wr.heap.size := by have := G.out.size; rw [BH.out] at this; exact this
    by_cases ilt : i < n
    · have ilt' : (i : Int) < (n : Int) := by omega
      have il : i < l.length := by rw [LN.out]; exact ilt
      obtain ⟨⟨pk, pv⟩, hp⟩ : ∃ p, l[i]? = some p := ⟨l[i], List.getElem?_eq_getElem il⟩
      have bd := PH.out.bd _ (List.mem_of_getElem? hp)
      dsimp only at bd
      obtain ⟨b, off, rfl, hbl, hc⟩ := (PH.out.gw G.out).cells (by omega)
      obtain ⟨c0, c1⟩ := hc i _ hp
      dsimp only at c0 c1
      have ST : Aside (pairsTo l (i + 1) = S ++ (32 :: (digits pk.toNat ++ 32 :: digits pv.toNat))) := by show _ = _; rw [pairsTo_step hp, ← SE.out]; simp
      have lk : (digits pk.toNat).length ≤ 20 := digits_len20 (by omega)
      have lv : (digits pv.toNat).length ≤ 20 := digits_len20 (by omega)
      have PA : Hid (∀ W, Gw w W → Calls Tryd.prog 37 #[.int .u64 pk, .int .u64 pv] W fun e w' => e = .returned (.string (Bs (digits pk.toNat ++ 32 :: digits pv.toNat))) ∧ Gw W w') := fun W g => pair_any pk pv bd.1.1 bd.1.2 bd.2.1 bd.2.2 W (TW.out.gw g)
      obtain ⟨Q, hQ⟩ : ∃ Q, digits pk.toNat ++ 32 :: digits pv.toNat = Q := ⟨_, rfl⟩
      have lq : Q.length ≤ 41 := by rw [← hQ]; simp; omega
      rw [hQ] at PA ST
      obtain ⟨w4, E4⟩ : ∃ W, wr.alloc (.cells #[.int .u64 pk, .int .u64 pv] 48) = W := ⟨_, rfl⟩
      have E4H : Hid (wr.alloc (.cells #[.int .u64 pk, .int .u64 pv] 48) = w4) := E4
      have G4 : Hid (Gw w w4) := by show Gw _ _; rw [← E4]; exact G.out.alloc _ _
      have B4 : Hid (BB w4 B B S) := by show BB _ _ _ _; rw [← E4]; exact BR.out.gw ((Gw.refl wr).alloc _ _)
      clear hQ hp bd lk lv hc E4
      go_wp2_with (go_at_call 37; fail)
      rw [E4H.out]
      refine (PA.out _ G4.out).mono ?_
      rintro e w5 ⟨rfl, g5⟩
      have G5 : Hid (Gw w w5) := G4.out.trans g5
      have B5 : Hid (BB w5 B B S) := B4.out.gw g5
      have z5 : B ≤ w5.heap.size := by have := G5.out.size; rw [BH.out] at this; exact this
      clear g5 B4 G4 E4H BR G zr c0 c1 hbl
      go_wp2_with (go_at_call 27; fail)
      refine (write_any B B S (32 :: Q) w5 B5.out (by simp; omega) z5).mono ?_
      rintro e w6 ⟨rfl, b6, g6⟩
      have G6 : Hid (Gw w w6) := G5.out.low g6 (by rw [BH.out]; exact Nat.le_refl _)
      have B6 : Hid (BB w6 B B (S ++ 32 :: Q)) := b6
      clear g6 b6 B5 G5 z5
      go_wp2_with fail
      go_roundg (n - (i + 1))
      case measure => omega
      case rel => exact ⟨i + 1, S ++ 32 :: Q, by go_num, by omega, Nat.le_refl _, by simp; omega, (by show _ = _; rw [ST.out]), B6, G6⟩
    · have SF : Aside (S = pairsOf l) := by
        show _ = _
        rw [SE.out, ← pairsTo_all, LN.out, show i = n by omega]
      go_wp2_with (go_at_call 30; fail)
      refine (string_any B B S wr BR.out zr).mono ?_
      rintro e w7 ⟨rfl, g7⟩
      have G7 : Hid (Gw w w7) := G.out.low g7 (by rw [BH.out]; exact Nat.le_refl _)
      clear g7
      go_wp2_with fail
      go_ret
      exact ⟨by rw [SF.out]; rfl, G7.out⟩
set_option maxRecDepth 100000 in
set_option maxHeartbeats 8000000 in
theorem tell_any (kind okey oval code : Int) (is : Bool) (key value num : Int) (ao : Option Addr) (cp : Nat) (l : List (Int × Int)) (w : World) (hl : l.length ≤ 2000000) (h : PS2 w ao l)
    (c0 : -9223372036854775808 ≤ code) (c1 : code < 9223372036854775808) (k0 : 0 ≤ key) (k1 : key < 18446744073709551616) (v0 : 0 ≤ value) (v1 : value < 18446744073709551616) (n0 : -9223372036854775808 ≤ num) (n1 : num < 9223372036854775808) (T : Tab w) :
    Calls Tryd.prog 18 #[opw kind okey oval, anw code is key value num ao l.length cp] w fun e w' => e = .returned (.string (Bs (tellOf kind code is key value num l))) ∧ Gw w w' := by
  have PR : Hid (∀ W, Gw w W → Calls Tryd.prog 38 #[.slice ao l.length cp] W fun e w' => e = .returned (.string (Bs (pairsOf l))) ∧ Gw W w') := fun W g => pairs_any ao cp l hl W (T.gw g) (h.gw g)
  have SC : Hid (∀ W, Gw w W → Calls Tryd.prog 34 #[.int .i64 code] W fun e w' => e = .returned (.string (Bs (signed code))) ∧ Gw W w') := fun W g => itoa_any code c0 c1 W (T.gw g)
  have SN : Hid (∀ W, Gw w W → Calls Tryd.prog 34 #[.int .i64 num] W fun e w' => e = .returned (.string (Bs (signed num))) ∧ Gw W w') := fun W g => itoa_any num n0 n1 W (T.gw g)
  have DP : Hid (∀ W, Gw w W → Calls Tryd.prog 37 #[.int .u64 key, .int .u64 value] W fun e w' => e = .returned (.string (Bs (digits key.toNat ++ 32 :: digits value.toNat))) ∧ Gw W w') := fun W g => pair_any key value k0 k1 v0 v1 W (T.gw g)
  have DV : Hid (∀ W, Gw w W → Calls Tryd.prog 36 #[.int .u64 value] W fun e w' => e = .returned (.string (Bs (digits value.toNat))) ∧ Gw W w') := fun W g => digits_any value v0 v1 W (T.gw g)
  have EI : Hid (∀ b x y W, Calls Tryd.prog 35 #[.bool b, .string (Bs x), .string (Bs y)] W fun e w' => e = .returned (.string (Bs (if b = true then x else y))) ∧ Gw W w') := fun b x y W => (either_any b x y W).mono fun e w' ⟨he, hw⟩ => ⟨he, hw ▸ Gw.refl _⟩
  have lS : (signed code).length ≤ 21 := by
    unfold signed
    split
    · have := digits_len20 (n := (-code).toNat) (by omega); simp; omega
    · have := digits_len20 (n := code.toNat) (by omega); omega
  obtain ⟨n, hn⟩ : ∃ n, l.length = n := ⟨_, rfl⟩
  rw [hn] at PR ⊢
  clear h hl hn T
  unfold anw opw
  obtain ⟨N, hN⟩ : ∃ N, w.heap.size = N := ⟨_, rfl⟩
  obtain ⟨w0, E0⟩ : ∃ w0, (w.alloc (.cells #[.int .i64 kind, .int .u64 okey, .int .u64 oval] 38)).alloc (.cells #[.int .i64 code, .bool is, .int .u64 key, .int .u64 value, .int .i64 num, .slice ao n cp] 44) = w0 := ⟨_, rfl⟩
  have E0H : Hid ((w.alloc (.cells #[.int .i64 kind, .int .u64 okey, .int .u64 oval] 38)).alloc (.cells #[.int .i64 code, .bool is, .int .u64 key, .int .u64 value, .int .i64 num, .slice ao n cp] 44) = w0) := E0
  have G0 : Hid (Gw w w0) := by show Gw _ _; rw [← E0]; exact ((Gw.refl w).alloc _ _).alloc _ _
  have BA : Hid (w0.heap[N + 1]? = some (.cells #[.int .i64 code, .bool is, .int .u64 key, .int .u64 value, .int .i64 num, .slice ao n cp] 44 (0, 0))) := by
    show _ = _
    rw [← E0, ← hN]
    have := heap_alloc_new (w.alloc (.cells #[.int .i64 kind, .int .u64 okey, .int .u64 oval] 38)) (.cells #[.int .i64 code, .bool is, .int .u64 key, .int .u64 value, .int .i64 num, .slice ao n cp] 44)
    simpa using this
  have BO : Hid (w0.heap[N]? = some (.cells #[.int .i64 kind, .int .u64 okey, .int .u64 oval] 38 (0, 0))) := by
    show _ = _
    rw [← E0, ← hN]
    exact (Below.heap_alloc _ _ _ (by simp)).trans (heap_alloc_new w _)
  clear E0
  have o0 : w0.cell? ⟨N, 0, none⟩ = some (.int .i64 kind) := blkc BO.out rfl
  have a0 : w0.cell? ⟨N + 1, 0, none⟩ = some (.int .i64 code) := blkc BA.out rfl
  have a1 : w0.cell? ⟨N + 1, 1, none⟩ = some (.bool is) := blkc BA.out rfl
  have a2 : w0.cell? ⟨N + 1, 2, none⟩ = some (.int .u64 key) := blkc BA.out rfl
  have a3 : w0.cell? ⟨N + 1, 3, none⟩ = some (.int .u64 value) := blkc BA.out rfl
  have a4 : w0.cell? ⟨N + 1, 4, none⟩ = some (.int .i64 num) := blkc BA.out rfl
  have a5 : w0.cell? ⟨N + 1, 5, none⟩ = some (.slice ao n cp) := blkc BA.out rfl
  have gx1 : ∀ g : GX w0, g.1.cell? ⟨N + 1, 1, none⟩ = some (.bool is) := GX.cell (blkc BA.out rfl) (blkl BA.out)
  have gx2 : ∀ g : GX w0, g.1.cell? ⟨N + 1, 2, none⟩ = some (.int .u64 key) := GX.cell (blkc BA.out rfl) (blkl BA.out)
  have gx3 : ∀ g : GX w0, g.1.cell? ⟨N + 1, 3, none⟩ = some (.int .u64 value) := GX.cell (blkc BA.out rfl) (blkl BA.out)
  by_cases q0 : code = 0
  · subst q0
    by_cases k1' : kind = 1
    · subst k1'
      have TE : Aside (tellOf 1 0 is key value num l = tOk) := rfl
      go_enter Tryd.func18, Tryd.ntmps18
      go_wp2_with fail
      refine bodyPost_ret (v := .string (Bs [111, 107])) (by simp [results, Tryd.results18, go_sem]) rfl ⟨by rw [TE.out]; rfl, by rw [E0H.out]; exact G0.out⟩
    have d1 : (kind == 1) = false := by simpa using k1'
    by_cases k2' : kind = 2
    · subst k2'
      have TE : Aside (tellOf 2 0 is key value num l = if is = true then tYes else tNo) := by cases is <;> rfl
      go_enter Tryd.func18, Tryd.ntmps18
      go_wp2_with (go_at_call 35; fail)
      rw [E0H.out]
      refine (EI.out _ [121, 101, 115] [110, 111] _).mono ?_
      rintro e w1 ⟨rfl, g1⟩
      obtain ⟨S, hS⟩ : ∃ S, (if is = true then ([121, 101, 115] : List UInt8) else [110, 111]) = S := ⟨_, rfl⟩
      rw [hS]
      have TS : Aside (tellOf 2 0 is key value num l = S) := by show _ = _; rw [TE.out, ← hS]; rfl
      clear hS
      go_wp2_with fail
      refine bodyPost_ret (v := .string (Bs S)) (by simp [results, Tryd.results18, go_sem]) rfl ⟨by rw [TS.out], G0.out.trans g1⟩
    have d2 : (kind == 2) = false := by simpa using k2'
    by_cases k6' : kind = 6
    · subst k6'
      have TE : Aside (tellOf 6 0 is key value num l = signed num) := rfl
      obtain ⟨S, hS⟩ : ∃ S, signed num = S := ⟨_, rfl⟩
      rw [hS] at TE SN
      clear hS
      go_enter Tryd.func18, Tryd.ntmps18
      go_wp2_with fail
      rw [E0H.out]
      refine (SN.out _ G0.out).mono ?_
      rintro e w1 ⟨rfl, g1⟩
      go_wp2_with fail
      refine bodyPost_ret (v := .string (Bs S)) (by simp [results, Tryd.results18, go_sem]) rfl ⟨by rw [TE.out], G0.out.trans g1⟩
    have d6 : (kind == 6) = false := by simpa using k6'
    by_cases k7' : kind = 7
    · subst k7'
      have TE : Aside (tellOf 7 0 is key value num l = pairsOf l) := rfl
      obtain ⟨S, hS⟩ : ∃ S, pairsOf l = S := ⟨_, rfl⟩
      rw [hS] at TE PR
      clear hS
      go_enter Tryd.func18, Tryd.ntmps18
      go_wp2_with fail
      rw [E0H.out]
      refine (PR.out _ G0.out).mono ?_
      rintro e w1 ⟨rfl, g1⟩
      go_wp2_with fail
      refine bodyPost_ret (v := .string (Bs S)) (by simp [results, Tryd.results18, go_sem]) rfl ⟨by rw [TE.out], G0.out.trans g1⟩
    have d7 : (kind == 7) = false := by simpa using k7'
    by_cases k3' : kind = 3
    · subst k3'
      have TE : Aside (tellOf 3 0 is key value num l = if is = true then digits value.toNat else tNone) := by cases is <;> rfl
      obtain ⟨S, hS⟩ : ∃ S, digits value.toNat = S := ⟨_, rfl⟩
      rw [hS] at TE DV
      clear hS
      cases is
      all_goals
        have ne := GX.some w0
        go_enter Tryd.func18, Tryd.ntmps18
        go_wp2_with fail
        rw [E0H.out]
        refine wp_region_growx (by kernel_rfl) (by kernel_rfl) ?_
        repeat (go_big_quiet_step (fail))
        go_big_quiet_want
        go_big_quiet_op
        go_big_quiet_call (exact growx_of (DV.out _ (G0.out.trans (GX.gw _))))
        repeat (go_big_quiet_step (fail))
        go_big_quiet_want
        go_big_quiet_op
        go_big_quiet_call (exact growx_of (EI.out _ S [110, 111, 110, 101] _))
        repeat (go_big_quiet_step (fail))
        refine wpQuiet_nil ?_
        rintro _ ⟨gw, rfl⟩
        go_wp2_with fail
        first | exact bodyPost_ret (v := .string (Bs S)) (by simp [results, Tryd.results18, go_sem]) rfl ⟨by rw [TE.out]; rfl, G0.out.trans gw.gw⟩ | exact bodyPost_ret (v := .string (Bs [110, 111, 110, 101])) (by simp [results, Tryd.results18, go_sem]) rfl ⟨by rw [TE.out]; rfl, G0.out.trans gw.gw⟩
    have d3 : (kind == 3) = false := by simpa using k3'
    by_cases k4' : kind = 4 ∨ kind = 5
    · have TE : Aside (tellOf kind 0 is key value num l = if is = true then digits key.toNat ++ 32 :: digits value.toNat else tNone) := by show _ = _; rcases k4' with rfl | rfl <;> cases is <;> rfl
      rcases k4' with rfl | rfl
      · skip
        obtain ⟨S, hS⟩ : ∃ S, digits key.toNat ++ 32 :: digits value.toNat = S := ⟨_, rfl⟩
        rw [hS] at TE DP
        clear hS
        cases is
        all_goals
          have ne := GX.some w0
          go_enter Tryd.func18, Tryd.ntmps18
          go_wp2_with fail
          rw [E0H.out]
          refine wp_region_growx (by kernel_rfl) (by kernel_rfl) ?_
          repeat (go_big_quiet_step (fail))
          go_big_quiet_want
          go_big_quiet_op
          go_big_quiet_call (exact growx_of (DP.out _ (G0.out.trans (GX.gw _))))
          repeat (go_big_quiet_step (fail))
          go_big_quiet_want
          go_big_quiet_op
          go_big_quiet_call (exact growx_of (EI.out _ S [110, 111, 110, 101] _))
          repeat (go_big_quiet_step (fail))
          refine wpQuiet_nil ?_
          rintro _ ⟨gw, rfl⟩
          go_wp2_with fail
          first | exact bodyPost_ret (v := .string (Bs S)) (by simp [results, Tryd.results18, go_sem]) rfl ⟨by rw [TE.out]; rfl, G0.out.trans gw.gw⟩ | exact bodyPost_ret (v := .string (Bs [110, 111, 110, 101])) (by simp [results, Tryd.results18, go_sem]) rfl ⟨by rw [TE.out]; rfl, G0.out.trans gw.gw⟩
      · skip
        obtain ⟨S, hS⟩ : ∃ S, digits key.toNat ++ 32 :: digits value.toNat = S := ⟨_, rfl⟩
        rw [hS] at TE DP
        clear hS
        cases is
        all_goals
          have ne := GX.some w0
          go_enter Tryd.func18, Tryd.ntmps18
          go_wp2_with fail
          rw [E0H.out]
          refine wp_region_growx (by kernel_rfl) (by kernel_rfl) ?_
          repeat (go_big_quiet_step (fail))
          go_big_quiet_want
          go_big_quiet_op
          go_big_quiet_call (exact growx_of (DP.out _ (G0.out.trans (GX.gw _))))
          repeat (go_big_quiet_step (fail))
          go_big_quiet_want
          go_big_quiet_op
          go_big_quiet_call (exact growx_of (EI.out _ S [110, 111, 110, 101] _))
          repeat (go_big_quiet_step (fail))
          refine wpQuiet_nil ?_
          rintro _ ⟨gw, rfl⟩
          go_wp2_with fail
          first | exact bodyPost_ret (v := .string (Bs S)) (by simp [results, Tryd.results18, go_sem]) rfl ⟨by rw [TE.out]; rfl, G0.out.trans gw.gw⟩ | exact bodyPost_ret (v := .string (Bs [110, 111, 110, 101])) (by simp [results, Tryd.results18, go_sem]) rfl ⟨by rw [TE.out]; rfl, G0.out.trans gw.gw⟩
    have d4 : (kind == 4) = false := by simp; omega
    have d5 : (kind == 5) = false := by simp; omega
    have TE : Aside (tellOf kind 0 is key value num l = []) := by
      show _ = _
      unfold tellOf
      rw [if_neg (by simp), if_neg k1', if_neg k2', if_neg k6', if_neg k7', if_neg (by omega)]
    go_enter Tryd.func18, Tryd.ntmps18
    go_wp2_with fail
    refine bodyPost_ret (v := .string (Bs [])) (by simp [results, Tryd.results18, go_sem]) rfl ⟨by rw [TE.out], by rw [E0H.out]; exact G0.out⟩
  · have e0 : (code == 0) = false := by simpa using q0
    have TE : Aside (tellOf kind code is key value num l = tError ++ signed code) := by show _ = _; unfold tellOf; rw [if_pos q0]
    obtain ⟨S, hS⟩ : ∃ S, signed code = S := ⟨_, rfl⟩
    rw [hS] at SC TE lS
    go_enter Tryd.func18, Tryd.ntmps18
    go_wp2_with fail
    rw [E0H.out]
    refine (SC.out _ G0.out).mono ?_
    rintro e w1 ⟨rfl, g1⟩
    go_wp2_with fail
    refine bodyPost_ret (v := .string (Bs (101 :: 114 :: 114 :: 111 :: 114 :: 32 :: S))) (by simp [results, Tryd.results18, go_sem]) rfl ⟨by rw [TE.out]; rfl, G0.out.trans g1⟩
end Go.Proofs.YtocnmdabilaccaaDoor
