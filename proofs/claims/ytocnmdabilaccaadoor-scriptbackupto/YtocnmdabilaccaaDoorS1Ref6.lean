/- The document's layer 21: operations, answers told. -/
import Derived.Test.YtocnmdabilaccaaDoorS1Ref5
import Derived.Test.YtocnmdabilaccaaDoorS1Byte
import Derived.Test.YtocnmdabilaccaaDoorHGrow
namespace Go.Proofs.YtocnmdabilaccaaDoor
open Go.RowKit
set_option linter.unusedVariables false

/-- A list of pairs to be read. -/
structure PS2 (w : World) (ao : Option Addr) (l : List (Int × Int)) : Prop where
  cells : 0 < l.length → ∃ b off, ao = some ⟨b, off, none⟩ ∧ b < w.heap.size ∧ ∀ (i : Nat) (p : Int × Int), l[i]? = some p → w.cell? ⟨b, off + i * 2, none⟩ = some (.int .u64 p.1) ∧ w.cell? ⟨b, off + i * 2 + 1, none⟩ = some (.int .u64 p.2)
  bd : ∀ p ∈ l, (0 ≤ p.1 ∧ p.1 < 18446744073709551616) ∧ (0 ≤ p.2 ∧ p.2 < 18446744073709551616)
theorem PS2.gw {w w' : World} {ao : Option Addr} {l : List (Int × Int)} (h : PS2 w ao l) (g : Gw w w') : PS2 w' ao l :=
  ⟨fun h0 => by
    obtain ⟨b, off, e, hb, hc⟩ := h.cells h0
    exact ⟨b, off, e, Nat.lt_of_lt_of_le hb g.size, fun i p hi => ⟨(g.cell _ _ hb).trans (hc i p hi).1, (g.cell _ _ hb).trans (hc i p hi).2⟩⟩, h.bd⟩
/-- The pairs up to i. -/
def pairsTo (l : List (Int × Int)) (i : Nat) : List UInt8 := digits l.length ++ (l.take i).flatMap (fun p => 32 :: digits p.1.toNat ++ 32 :: digits p.2.toNat)
theorem pairsTo_step {l : List (Int × Int)} {i : Nat} {p : Int × Int} (h : l[i]? = some p) : pairsTo l (i + 1) = pairsTo l i ++ [32] ++ digits p.1.toNat ++ [32] ++ digits p.2.toNat := by
  unfold pairsTo
  rw [List.take_add_one, h]
  simp
theorem pairsTo_all (l : List (Int × Int)) : pairsTo l l.length = pairsOf l := by
  unfold pairsTo pairsOf
  rw [List.take_length]
theorem blank_row (w : World) : ∀ j u, (bcs [32])[j]? = some u → (w.alloc (.cells #[.int .u8 32] 5)).cell? ((⟨w.heap.size, 0, none⟩ : Addr).add j) = some u := by
  intro j u hu
  cases j with
  | zero =>
    simp [bcs] at hu
    subst hu
    simp [Addr.add, go_sem]
  | succ j => simp [bcs] at hu
set_option maxRecDepth 100000 in
set_option maxHeartbeats 8000000 in
theorem pairs21 (ao : Option Addr) (cp : Nat) (l : List (Int × Int)) (hl : l.length ≤ 2000000) (w : World) (h : PS2 w ao l) :
    Calls Tryd.prog 40 #[.slice ao l.length cp] w fun e w' => e = .returned (.string (Bs (pairsOf l))) ∧ Gw w w' := by
  have PH : Hid (PS2 w ao l) := h
  obtain ⟨n, hn⟩ : ∃ n, l.length = n := ⟨_, rfl⟩
  have LN : Aside (l.length = n) := hn
  rw [hn] at hl ⊢
  clear h hn
  have nw : IntKind.u64.wrap (n : Int) = n := by rw [IntKind.wrap_u64]; omega
  have D0 : Hid (∀ W, Calls Tryd.prog 32 #[.int .u64 (n : Int)] W fun e w' => e = .returned (.string (Bs (digits n))) ∧ Gw W w') := fun W => by have := digits21 (n : Int) (by omega) (by omega) W; rw [Int.toNat_natCast] at this; exact this
  have L0 : Hid ((digits n).length ≤ 20) := digits_len20 (by omega)
  go_enter Tryd.func40, Tryd.ntmps40
  go_wp2_with fail
  refine (D0.out _).mono ?_
  rintro e w1 ⟨rfl, g1⟩
  obtain ⟨S0, hS0⟩ : ∃ S0, digits n = S0 := ⟨_, rfl⟩
  rw [hS0]
  have S0H : Aside (digits n = S0) := hS0
  have l0 : S0.length ≤ 20 := by rw [← hS0]; exact L0.out
  obtain ⟨v2, w2, r2, b2, g2⟩ := conv_str w1 S0 (by omega)
  obtain ⟨gb2, gm2, gc2, rfl⟩ := b2.shape
  have B2 : Hid (BR w2 w1.heap.size (.slice (some ⟨gb2, 0, none⟩) gm2 gc2) S0) := b2
  have G2 : Hid (Gw w1 w2) := g2
  have G1 : Hid (Gw w w1) := g1
  clear hS0 D0 L0 b2 g2 g1
  go_wp2
  go_loopg [3, 4] n (fun gg s3 s4 wr => ∃ (i gb gm gc : Nat) (S : List UInt8), s3 = .slice (some ⟨gb, 0, none⟩) gm gc ∧ s4 = .int .i64 (i : Int) ∧ i ≤ n ∧ n - i ≤ gg ∧ S.length ≤ 20 + 42 * i ∧ Aside (S = pairsTo l i) ∧ Hid (BR wr w1.heap.size (.slice (some ⟨gb, 0, none⟩) gm gc) S) ∧ Hid (Gw w1 wr))
  case atStart => exact ⟨0, gb2, gm2, gc2, S0, rfl, rfl, by omega, by omega, by omega, (by show _ = _; simp [pairsTo, LN.out, S0H.out]), B2, G2⟩
  case round =>
    obtain ⟨i, gb, gm, gc, S, rfl, rfl, hi, hg, sl, SE, B, G⟩ := hrel
    have gz := G.out.size
    by_cases ilt : i < n
    · have ilt' : (i : Int) < (n : Int) := by omega
      have il : i < l.length := by rw [LN.out]; exact ilt
      obtain ⟨⟨pk, pv⟩, hp⟩ : ∃ p, l[i]? = some p := ⟨l[i], List.getElem?_eq_getElem il⟩
      have CE : Hid (∀ W, Gw w1 W → ∃ b off, ao = some ⟨b, off, none⟩ ∧ W.cell? ⟨b, off + i * 2, none⟩ = some (.int .u64 pk) ∧ W.cell? ⟨b, off + i * 2 + 1, none⟩ = some (.int .u64 pv)) := fun W g => by
        obtain ⟨b, off, e, hb, hc⟩ := (PH.out.gw (G1.out.trans g)).cells (by omega)
        exact ⟨b, off, e, hc i _ hp⟩
      have bd := PH.out.bd _ (List.mem_of_getElem? hp)
      dsimp only at bd
      have ST : Aside (pairsTo l (i + 1) = S ++ [32] ++ digits pk.toNat ++ [32] ++ digits pv.toNat) := by show _ = _; rw [pairsTo_step hp, ← SE.out]
      have DK : Hid (∀ W, Calls Tryd.prog 32 #[.int .u64 pk] W fun e w' => e = .returned (.string (Bs (digits pk.toNat))) ∧ Gw W w') := fun W => digits21 pk bd.1.1 bd.1.2 W
      have DV : Hid (∀ W, Calls Tryd.prog 32 #[.int .u64 pv] W fun e w' => e = .returned (.string (Bs (digits pv.toNat))) ∧ Gw W w') := fun W => digits21 pv bd.2.1 bd.2.2 W
      have LK : Hid ((digits pk.toNat).length ≤ 20) := digits_len20 (by omega)
      have LV : Hid ((digits pv.toNat).length ≤ 20) := digits_len20 (by omega)
      clear hp
      go_wp2_with (at_builtin; refine wpList_append_br _ rfl _ _ 61 rfl w1.heap.size (.slice (some ⟨gb, 0, none⟩) gm gc) S [32] rfl (B.out.gw ((Gw.refl wr).alloc _ _)) _ rfl (by simp; omega) (by simp; omega) (.inr ⟨_, _, rfl, rfl, blank_row wr⟩) ?_)
      intro v3 w3 b3 r3
      obtain ⟨gb3, gm3, gc3, rfl⟩ := b3.shape
      have B3 : Hid (BR w3 w1.heap.size (.slice (some ⟨gb3, 0, none⟩) gm3 gc3) (S ++ [32])) := b3
      have G3 : Hid (Gw w1 w3) := (G.out.alloc _ _).grown r3 (fun q hq => (B.out.lt q hq).1)
      obtain ⟨b, off, rfl, c0, _⟩ := CE.out w3 G3.out
      clear b3 r3 B G gz
      have gz := G3.out.size
      go_wp2_with fail
      refine (DK.out _).mono ?_
      rintro e w4 ⟨rfl, g4⟩
      obtain ⟨K4, hK4⟩ : ∃ K4, digits pk.toNat = K4 := ⟨_, rfl⟩
      rw [hK4]
      have K4H : Aside (digits pk.toNat = K4) := hK4
      have k4 : K4.length ≤ 20 := by rw [← hK4]; exact LK.out
      have B4 : Hid (BR w4 w1.heap.size (.slice (some ⟨gb3, 0, none⟩) gm3 gc3) (S ++ [32])) := B3.out.gw g4
      have G4 : Hid (Gw w1 w4) := G3.out.trans g4
      have gz4 := G4.out.size
      clear hK4 g4 c0 B3 G3
      go_wp2_with (at_builtin; refine wpList_append_br _ rfl _ _ 9 rfl w1.heap.size (.slice (some ⟨gb3, 0, none⟩) gm3 gc3) (S ++ [32]) K4 rfl B4.out _ rfl (by omega) (by simp; omega) (.inl ⟨rfl, rfl⟩) ?_)
      intro v5 w5 b5 r5
      obtain ⟨gb5, gm5, gc5, rfl⟩ := b5.shape
      have B5 : Hid (BR w5 w1.heap.size (.slice (some ⟨gb5, 0, none⟩) gm5 gc5) (S ++ [32] ++ K4)) := by show BR _ _ _ _; simpa using b5
      have G5 : Hid (Gw w1 w5) := G4.out.grown r5 (fun q hq => (B4.out.lt q hq).1)
      have gz5 := G5.out.size
      clear b5 r5 B4 G4
      go_wp2_with (at_builtin; refine wpList_append_br _ rfl _ _ 61 rfl w1.heap.size (.slice (some ⟨gb5, 0, none⟩) gm5 gc5) (S ++ [32] ++ K4) [32] rfl (B5.out.gw ((Gw.refl w5).alloc _ _)) _ rfl (by simp; omega) (by simp; omega) (.inr ⟨_, _, rfl, rfl, blank_row w5⟩) ?_)
      intro v6 w6 b6 r6
      obtain ⟨gb6, gm6, gc6, rfl⟩ := b6.shape
      have B6 : Hid (BR w6 w1.heap.size (.slice (some ⟨gb6, 0, none⟩) gm6 gc6) (S ++ [32] ++ K4 ++ [32])) := by show BR _ _ _ _; simpa using b6
      have G6 : Hid (Gw w1 w6) := (G5.out.alloc _ _).grown r6 (fun q hq => (B5.out.lt q hq).1)
      obtain ⟨b', off', e', _, c1⟩ := CE.out w6 G6.out
      cases e'
      clear b6 r6 B5 G5 gz5 gz4 gz
      have gz := G6.out.size
      go_wp2_with fail
      refine (DV.out _).mono ?_
      rintro e w7 ⟨rfl, g7⟩
      obtain ⟨V7, hV7⟩ : ∃ V7, digits pv.toNat = V7 := ⟨_, rfl⟩
      rw [hV7]
      have V7H : Aside (digits pv.toNat = V7) := hV7
      have v7 : V7.length ≤ 20 := by rw [← hV7]; exact LV.out
      have B7 : Hid (BR w7 w1.heap.size (.slice (some ⟨gb6, 0, none⟩) gm6 gc6) (S ++ [32] ++ K4 ++ [32])) := B6.out.gw g7
      have G7 : Hid (Gw w1 w7) := G6.out.trans g7
      have gz7 := G7.out.size
      clear hV7 g7 c1 B6 G6
      go_wp2_with (at_builtin; refine wpList_append_br _ rfl _ _ 9 rfl w1.heap.size (.slice (some ⟨gb6, 0, none⟩) gm6 gc6) (S ++ [32] ++ K4 ++ [32]) V7 rfl B7.out _ rfl (by omega) (by simp; omega) (.inl ⟨rfl, rfl⟩) ?_)
      intro v8 w8 b8 r8
      obtain ⟨gb8, gm8, gc8, rfl⟩ := b8.shape
      have B8 : Hid (BR w8 w1.heap.size (.slice (some ⟨gb8, 0, none⟩) gm8 gc8) (S ++ [32] ++ K4 ++ [32] ++ V7)) := by show BR _ _ _ _; simpa using b8
      have G8 : Hid (Gw w1 w8) := G7.out.grown r8 (fun q hq => (B7.out.lt q hq).1)
      clear b8 r8 B7 G7
      go_wp2
      go_roundg (n - (i + 1))
      case measure => omega
      case rel => exact ⟨i + 1, gb8, gm8, gc8, S ++ [32] ++ K4 ++ [32] ++ V7, rfl, by go_num, by omega, Nat.le_refl _, by simp; omega, (by show _ = _; rw [ST.out, K4H.out, V7H.out]), B8, G8⟩
    · have cv := conv_br wr w1.heap.size (.slice (some ⟨gb, 0, none⟩) gm gc) S B.out
      have SF : Aside (S = pairsOf l) := by
        show _ = _
        rw [SE.out, ← pairsTo_all, LN.out, show i = n by omega]
      go_wp2
      refine bodyPost_ret (v := .string (Bs S)) (by simp [results, Tryd.results40, go_sem]) rfl ⟨by rw [SF.out], G1.out.trans G.out⟩
/-- An answer as it lies. -/
def anw (code : Int) (is : Bool) (key value num : Int) (ao : Option Addr) (n cp : Nat) : Value := .agg #[.int .i64 code, .bool is, .int .u64 key, .int .u64 value, .int .i64 num, .slice ao n cp]
def opw (kind key value : Int) : Value := .agg #[.int .i64 kind, .int .u64 key, .int .u64 value]
set_option maxRecDepth 100000 in
set_option maxHeartbeats 8000000 in
theorem tell21 (kind okey oval code : Int) (is : Bool) (key value num : Int) (ao : Option Addr) (cp : Nat) (l : List (Int × Int)) (hl : l.length ≤ 2000000) (w : World) (h : PS2 w ao l)
    (c0 : -9223372036854775808 ≤ code) (c1 : code < 9223372036854775808) (k0 : 0 ≤ key) (k1 : key < 18446744073709551616) (v0 : 0 ≤ value) (v1 : value < 18446744073709551616) (n0 : -9223372036854775808 ≤ num) (n1 : num < 9223372036854775808) :
    Calls Tryd.prog 19 #[opw kind okey oval, anw code is key value num ao l.length cp] w fun e w' => e = .returned (.string (Bs (tellOf kind code is key value num l))) ∧ Gw w w' := by
  have PR : Hid (∀ W, Gw w W → Calls Tryd.prog 40 #[.slice ao l.length cp] W fun e w' => e = .returned (.string (Bs (pairsOf l))) ∧ Gw W w') := fun W g => pairs21 ao cp l hl W (h.gw g)
  have SC : Hid (∀ W, Calls Tryd.prog 39 #[.int .i64 code] W fun e w' => e = .returned (.string (Bs (signed code))) ∧ Gw W w') := fun W => signed21 code c0 c1 W
  have SN : Hid (∀ W, Calls Tryd.prog 39 #[.int .i64 num] W fun e w' => e = .returned (.string (Bs (signed num))) ∧ Gw W w') := fun W => signed21 num n0 n1 W
  have DK : Hid (∀ W, Calls Tryd.prog 32 #[.int .u64 key] W fun e w' => e = .returned (.string (Bs (digits key.toNat))) ∧ Gw W w') := fun W => digits21 key k0 k1 W
  have DV : Hid (∀ W, Calls Tryd.prog 32 #[.int .u64 value] W fun e w' => e = .returned (.string (Bs (digits value.toNat))) ∧ Gw W w') := fun W => digits21 value v0 v1 W
  have lS : (signed code).length ≤ 21 := by
    unfold signed
    split
    · have := digits_len20 (n := (-code).toNat) (by omega); simp; omega
    · have := digits_len20 (n := code.toNat) (by omega); omega
  have lK := digits_len20 (n := key.toNat) (by omega)
  have lV := digits_len20 (n := value.toNat) (by omega)
  obtain ⟨n, hn⟩ : ∃ n, l.length = n := ⟨_, rfl⟩
  rw [hn] at PR ⊢
  clear h hl hn
  unfold anw opw
  go_enter Tryd.func19, Tryd.ntmps19
  by_cases q0 : code = 0
  · subst q0
    obtain ⟨w0, E0⟩ : ∃ w0, (w.alloc (.cells #[.int .i64 kind, .int .u64 okey, .int .u64 oval] 38)).alloc (.cells #[.int .i64 0, .bool is, .int .u64 key, .int .u64 value, .int .i64 num, .slice ao n cp] 44) = w0 := ⟨_, rfl⟩
    have E0H : Hid ((w.alloc (.cells #[.int .i64 kind, .int .u64 okey, .int .u64 oval] 38)).alloc (.cells #[.int .i64 0, .bool is, .int .u64 key, .int .u64 value, .int .i64 num, .slice ao n cp] 44) = w0) := E0
    have G0 : Hid (Gw w w0) := by show Gw _ _; rw [← E0]; exact ((Gw.refl w).alloc _ _).alloc _ _
    have BA : Hid (w0.heap[w.heap.size + 1]? = some (.cells #[.int .i64 0, .bool is, .int .u64 key, .int .u64 value, .int .i64 num, .slice ao n cp] 44 (0, 0))) := by
      show _ = _
      rw [← E0]
      have := heap_alloc_new (w.alloc (.cells #[.int .i64 kind, .int .u64 okey, .int .u64 oval] 38)) (.cells #[.int .i64 0, .bool is, .int .u64 key, .int .u64 value, .int .i64 num, .slice ao n cp] 44)
      simpa using this
    clear E0
    by_cases k1' : kind = 1
    · subst k1'
      have TE : Aside (tellOf 1 0 is key value num l = tOk) := rfl
      go_wp2
      refine bodyPost_ret (v := .string (Bs [111, 107])) (by simp [results, Tryd.results19, go_sem]) rfl ⟨by rw [TE.out]; rfl, by rw [E0H.out]; exact G0.out⟩
    have d1 : (kind == 1) = false := by simpa using k1'
    by_cases k2' : kind = 2
    · subst k2'
      cases is with
      | true =>
        have TE : Aside (tellOf 2 0 true key value num l = tYes) := rfl
        go_wp2
        refine bodyPost_ret (v := .string (Bs [121, 101, 115])) (by simp [results, Tryd.results19, go_sem]) rfl ⟨by rw [TE.out]; rfl, by rw [E0H.out]; exact G0.out⟩
      | false =>
        have TE : Aside (tellOf 2 0 false key value num l = tNo) := rfl
        go_wp2
        refine bodyPost_ret (v := .string (Bs [110, 111])) (by simp [results, Tryd.results19, go_sem]) rfl ⟨by rw [TE.out]; rfl, by rw [E0H.out]; exact G0.out⟩
    have d2 : (kind == 2) = false := by simpa using k2'
    by_cases k6' : kind = 6
    · subst k6'
      have TE : Aside (tellOf 6 0 is key value num l = signed num) := rfl
      go_wp2_with fail
      rw [E0H.out]
      refine (SN.out _).mono ?_
      rintro e w1 ⟨rfl, g1⟩
      obtain ⟨S, hS⟩ : ∃ S, signed num = S := ⟨_, rfl⟩
      rw [hS] at TE ⊢
      go_wp2
      refine bodyPost_ret (v := .string (Bs S)) (by simp [results, Tryd.results19, go_sem]) rfl ⟨by rw [TE.out], G0.out.trans g1⟩
    have d6 : (kind == 6) = false := by simpa using k6'
    by_cases k7' : kind = 7
    · subst k7'
      have TE : Aside (tellOf 7 0 is key value num l = pairsOf l) := rfl
      go_wp2_with fail
      rw [E0H.out]
      refine (PR.out _ G0.out).mono ?_
      rintro e w1 ⟨rfl, g1⟩
      obtain ⟨S, hS⟩ : ∃ S, pairsOf l = S := ⟨_, rfl⟩
      rw [hS] at TE ⊢
      go_wp2
      refine bodyPost_ret (v := .string (Bs S)) (by simp [results, Tryd.results19, go_sem]) rfl ⟨by rw [TE.out], G0.out.trans g1⟩
    have d7 : (kind == 7) = false := by simpa using k7'
    by_cases k3' : kind = 3
    · subst k3'
      cases is with
      | false =>
        have TE : Aside (tellOf 3 0 false key value num l = tNone) := rfl
        go_wp2
        refine bodyPost_ret (v := .string (Bs [110, 111, 110, 101])) (by simp [results, Tryd.results19, go_sem]) rfl ⟨by rw [TE.out]; rfl, by rw [E0H.out]; exact G0.out⟩
      | true =>
        have TE : Aside (tellOf 3 0 true key value num l = digits value.toNat) := rfl
        go_wp2_with fail
        rw [E0H.out]
        refine (DV.out _).mono ?_
        rintro e w1 ⟨rfl, g1⟩
        obtain ⟨S, hS⟩ : ∃ S, digits value.toNat = S := ⟨_, rfl⟩
        rw [hS] at TE ⊢
        go_wp2
        refine bodyPost_ret (v := .string (Bs S)) (by simp [results, Tryd.results19, go_sem]) rfl ⟨by rw [TE.out], G0.out.trans g1⟩
    have d3 : (kind == 3) = false := by simpa using k3'
    by_cases k4' : kind = 4 ∨ kind = 5
    · have KV : Aside (tellOf kind 0 is key value num l = if is = false then tNone else digits key.toNat ++ 32 :: digits value.toNat) := by
        show _ = _
        rcases k4' with rfl | rfl <;> rfl
      cases is with
      | false =>
        have TE : Aside (tellOf kind 0 false key value num l = tNone) := KV.out
        rcases k4' with rfl | rfl
        · go_wp2
          refine bodyPost_ret (v := .string (Bs [110, 111, 110, 101])) (by simp [results, Tryd.results19, go_sem]) rfl ⟨by rw [TE.out]; rfl, by rw [E0H.out]; exact G0.out⟩
        · go_wp2
          refine bodyPost_ret (v := .string (Bs [110, 111, 110, 101])) (by simp [results, Tryd.results19, go_sem]) rfl ⟨by rw [TE.out]; rfl, by rw [E0H.out]; exact G0.out⟩
      | true =>
        have TE : Aside (tellOf kind 0 true key value num l = digits key.toNat ++ 32 :: digits value.toNat) := KV.out
        obtain ⟨SK, hSK⟩ : ∃ S, digits key.toNat = S := ⟨_, rfl⟩
        obtain ⟨SV, hSV⟩ : ∃ S, digits value.toNat = S := ⟨_, rfl⟩
        rw [hSK] at DK TE lK
        rw [hSV] at DV TE lV
        have c2 : ∀ g : GX w0, g.1.cell? ⟨w.heap.size + 1, 2, none⟩ = some (.int .u64 key) := GX.cell (blkc BA.out rfl) (blkl BA.out)
        have c3 : ∀ g : GX w0, g.1.cell? ⟨w.heap.size + 1, 3, none⟩ = some (.int .u64 value) := GX.cell (blkc BA.out rfl) (blkl BA.out)
        clear hSK hSV KV
        rcases k4' with rfl | rfl
        all_goals
          go_wp2_with fail
          rw [E0H.out]
          have ne := GX.some w0
          refine wp_region_growx (by kernel_rfl) (by kernel_rfl) ?_
          repeat (go_big_quiet_step (fail))
          go_big_quiet_want
          go_big_quiet_op
          go_big_quiet_call (exact growx_of (DK.out _))
          repeat (go_big_quiet_step (fail))
          go_big_quiet_want
          go_big_quiet_op
          go_big_quiet_call (exact growx_of (DV.out _))
          repeat (go_big_quiet_step (fail))
          refine wpQuiet_nil ?_
          rintro _ ⟨gw, rfl⟩
          go_wp2
          refine bodyPost_ret (v := .string (Bs (SK ++ 32 :: SV))) (by simp [results, Tryd.results19, go_sem]) rfl ⟨by rw [TE.out], G0.out.trans gw.gw⟩
    have d4 : (kind == 4) = false := by simp; omega
    have d5 : (kind == 5) = false := by simp; omega
    have TE : Aside (tellOf kind 0 is key value num l = []) := by
      show _ = _
      unfold tellOf
      rw [if_neg (by simp), if_neg k1', if_neg k2', if_neg k6', if_neg k7', if_neg (by omega)]
    go_wp2
    refine bodyPost_ret (v := .string (Bs [])) (by simp [results, Tryd.results19, go_sem]) rfl ⟨by rw [TE.out], by rw [E0H.out]; exact G0.out⟩
  · have e0 : (code == 0) = false := by simpa using q0
    have TE : Aside (tellOf kind code is key value num l = tError ++ signed code) := by show _ = _; unfold tellOf; rw [if_pos q0]
    obtain ⟨S, hS⟩ : ∃ S, signed code = S := ⟨_, rfl⟩
    rw [hS] at SC TE lS
    go_wp2_with fail
    refine (SC.out _).mono ?_
    rintro e w1 ⟨rfl, g1⟩
    have G1 : Hid (Gw w w1) := (((Gw.refl w).alloc _ _).alloc _ _).trans g1
    go_wp2
    refine bodyPost_ret (v := .string (Bs (101 :: 114 :: 114 :: 111 :: 114 :: 32 :: S))) (by simp [results, Tryd.results19, go_sem]) rfl ⟨by rw [TE.out]; rfl, G1.out⟩
end Go.Proofs.YtocnmdabilaccaaDoor
