/- The document's layer 21: words, numbers. -/
import Derived.Test.YtocnmdabilaccaaDoorS1Mem
namespace Go.Proofs.YtocnmdabilaccaaDoor
open Go.RowKit
set_option linter.unusedVariables false
set_option maxRecDepth 100000 in
set_option maxHeartbeats 4000000 in
theorem takes21 (l : List UInt8) (w : World) : Calls Tryd.prog 31 #[.string (Bs l)] w fun e w' => e = .returned (.int .i64 (takes l)) ∧ w' = w := by
  by_cases q : l ∈ [wStats, wSave, wLoad, wDel, wGet, wFloor, wCeil, wRank, wPut, wRange, wPath, wMap]
  · simp only [List.mem_cons, List.not_mem_nil, or_false] at q
    rcases q with rfl | rfl | rfl | rfl | rfl | rfl | rfl | rfl | rfl | rfl | rfl | rfl <;>
      (go_enter Tryd.func31, Tryd.ntmps31; simp only [wStats, wSave, wLoad, wDel, wGet, wFloor, wCeil, wRank, wPut, wRange, wPath, wMap]; go_wp2; go_ret; exact ⟨by kernel_rfl, rfl⟩)
  · simp only [List.mem_cons, List.not_mem_nil, or_false, not_or] at q
    obtain ⟨q1, q2, q3, q4, q5, q6, q7, q8, q9, qa, qb, qc⟩ := q
    have e : takes l = -1 := by unfold takes; rw [if_neg (by simp [*]), if_neg (by simp [*]), if_neg (by simp [*]), if_neg (by simp [*])]
    have b1 : (l == [115, 116, 97, 116, 115]) = false := by simpa [wStats] using q1
    have b2 : (l == [115, 97, 118, 101]) = false := by simpa [wSave] using q2
    have b3 : (l == [108, 111, 97, 100]) = false := by simpa [wLoad] using q3
    have b4 : (l == [100, 101, 108]) = false := by simpa [wDel] using q4
    have b5 : (l == [103, 101, 116]) = false := by simpa [wGet] using q5
    have b6 : (l == [102, 108, 111, 111, 114]) = false := by simpa [wFloor] using q6
    have b7 : (l == [99, 101, 105, 108]) = false := by simpa [wCeil] using q7
    have b8 : (l == [114, 97, 110, 107]) = false := by simpa [wRank] using q8
    have b9 : (l == [112, 117, 116]) = false := by simpa [wPut] using q9
    have ba : (l == [114, 97, 110, 103, 101]) = false := by simpa [wRange] using qa
    have bb : (l == [112, 97, 116, 104]) = false := by simpa [wPath] using qb
    have bc : (l == [109, 97, 112]) = false := by simpa [wMap] using qc
    have E : Aside (takes l = -1) := e
    clear q1 q2 q3 q4 q5 q6 q7 q8 q9 qa qb qc e
    go_enter Tryd.func31, Tryd.ntmps31
    go_wp2
    go_ret
    exact ⟨by rw [E.out]; rfl, rfl⟩
theorem under_bytes : Tryd.prog.underlying 61 = some (.slice 5) := by kernel_rfl
theorem under_byte : Tryd.prog.underlying 5 = some (.int .u8) := by kernel_rfl
theorem under_text : Tryd.prog.underlying 9 = some .string := by kernel_rfl
theorem wrap_dig (d : Nat) (h : d < 10) : IntKind.u8.wrap (48 + (d : Int)) = ((dig d).toNat : Int) := by
  rw [dig_nat d h]
  simp only [IntKind.wrap_u8]
  omega
/-- 'string([]byte{b})'. -/
theorem conv_one (b : UInt8) (w : World) : (convert 61 9 (.slice (some ⟨w.heap.size, 0, none⟩) 1 1)).run Tryd.prog (w.alloc (.cells #[.int .u8 (b.toNat : Int)] 5)) = .ok (.string (Bs [b])) (w.alloc (.cells #[.int .u8 (b.toNat : Int)] 5)) := by
  have := run_convert_bytes_back (P := Tryd.prog) (w.alloc (.cells #[.int .u8 (b.toNat : Int)] 5)) 61 9 5 ⟨w.heap.size, 0, none⟩ 1 [b] under_bytes under_byte under_text (fun j hj => by
    have : j = 0 := by simpa using hj
    subst this
    simp [Addr.add, go_sem])
  exact this
set_option maxRecDepth 100000 in
set_option maxHeartbeats 4000000 in
theorem digits21 (x : Int) (h0 : 0 ≤ x) (hx : x < 18446744073709551616) (w : World) : Calls Tryd.prog 32 #[.int .u64 x] w fun e w' => e = .returned (.string (Bs (digits x.toNat))) ∧ Gw w w' := by
  have LX : Aside ((digits x.toNat).length ≤ 20) := digits_len20 (by omega)
  have BX : Aside (0 ≤ x ∧ x < 18446744073709551616) := ⟨h0, hx⟩
  go_enter Tryd.func32, Tryd.ntmps32
  go_wp2
  go_loopg [0, 3] x.toNat (fun gg s0 s3 wr => ∃ (m : Int) (r : List UInt8), s0 = .int .u64 m ∧ s3 = .string (Bs r) ∧ 0 ≤ m ∧ m < 18446744073709551616 ∧ m.toNat ≤ gg ∧ r.length ≤ 20 ∧ Aside (digits x.toNat = digits m.toNat ++ r) ∧ Hid (Gw w wr))
  case atStart => exact ⟨x, [], rfl, rfl, h0, hx, by omega, by simp, (by show _ = _; simp), Gw.refl w⟩
  case round =>
    obtain ⟨m, r, rfl, rfl, m0, m1, mg, rl, EQ, G⟩ := hrel
    by_cases ht : 9 < m
    · obtain ⟨d, hd⟩ : ∃ d : Nat, m.tmod 10 = (d : Int) := ⟨(m.tmod 10).toNat, by have := Int.tmod_nonneg 10 m0; omega⟩
      obtain ⟨q, hq⟩ : ∃ q : Int, m.tdiv 10 = q := ⟨_, rfl⟩
      have d9 : d < 10 := by have := Int.tmod_lt_of_pos m (show (0 : Int) < 10 by decide); omega
      have q0 : 0 ≤ q ∧ q < m := by
        have h1 := Int.mul_tdiv_add_tmod m 10
        have h2 : 0 ≤ m.tdiv 10 := Int.tdiv_nonneg m0 (by decide)
        omega
      have dw := wrap_dig d d9
      have dv : IntKind.u64.wrap (48 + (d : Int)) = 48 + (d : Int) := by rw [IntKind.wrap_u64]; omega
      have qv : IntKind.u64.wrap q = q := by rw [IntKind.wrap_u64]; omega
      have co := conv_one (dig d)
      have EM : Aside (digits m.toNat = digits q.toNat ++ [dig d]) := by
        show _ = _
        have h1 := Int.mul_tdiv_add_tmod m 10
        rw [digits_ge (by omega), show m.toNat / 10 = q.toNat by omega, show m.toNat % 10 = d by omega]
      go_wp2
      go_roundg q.toNat
      case measure => omega
      case rel =>
        refine ⟨q, dig d :: r, rfl, rfl, q0.1, by omega, Nat.le_refl _, ?_, ?_, G.out.alloc _ _⟩
        · have := EQ.out
          rw [EM.out, List.append_assoc] at this
          have h3 := congrArg List.length this
          have h4 := List.length_pos_iff.2 (digits_ne q.toNat)
          have h5 := LX.out
          simp at h3 ⊢
          omega
        · show _ = _
          rw [EQ.out, EM.out, List.append_assoc]
          rfl
    · obtain ⟨d, hd⟩ : ∃ d : Nat, m = (d : Int) := ⟨m.toNat, by omega⟩
      have d9 : d < 10 := by omega
      have dw := wrap_dig d d9
      have dv : IntKind.u64.wrap (48 + (d : Int)) = 48 + (d : Int) := by rw [IntKind.wrap_u64]; omega
      have co := conv_one (dig d)
      have EM : Aside (digits x.toNat = dig d :: r) := by
        show _ = _
        rw [EQ.out, hd, Int.toNat_natCast, digits_lt d9]
        rfl
      subst hd
      go_wp2
      go_ret
      exact ⟨by rw [EM.out]; rfl, G.out.alloc _ _⟩
theorem index_bs (l : List UInt8) (i : Nat) (b : UInt8) (h : l[i]? = some b) (w : World) : (Instr.index 9 (.string (Bs l)) (.int .i64 (i : Int))).run Tryd.prog w = .ok (.int .u8 (b.toNat : Int)) w := by
  obtain ⟨hi, e⟩ := List.getElem?_eq_some_iff.1 h
  rw [run_index_string w 9 (Bs l) .i64 (i : Int) under_text, dif_pos ⟨by omega, by rw [Bs_size]; omega⟩]
  have e2 : (Bs l)[((i : Int)).toNat]'(by rw [Bs_size]; omega) = b := by
    rw [← e, Bs_get l _ _ (by omega)]
    simp
  rw [e2]
set_option maxRecDepth 100000 in
set_option maxHeartbeats 4000000 in
theorem signed21 (x : Int) (h0 : -9223372036854775808 ≤ x) (hx : x < 9223372036854775808) (w : World) : Calls Tryd.prog 39 #[.int .i64 x] w fun e w' => e = .returned (.string (Bs (signed x))) ∧ Gw w w' := by
  go_enter Tryd.func39, Tryd.ntmps39
  by_cases q : x < 0
  · have e1 : IntKind.u64.wrap x = x + 18446744073709551616 := by rw [IntKind.wrap_u64]; omega
    have e2 : IntKind.u64.wrap (-(x + 18446744073709551616)) = -x := by rw [IntKind.wrap_u64]; omega
    have D : Hid (∀ W, Calls Tryd.prog 32 #[.int .u64 (-x)] W fun e w' => e = .returned (.string (Bs (digits (-x).toNat))) ∧ Gw W w') := fun W => digits21 (-x) (by omega) (by omega) W
    have LX : Hid ((digits (-x).toNat).length ≤ 20) := digits_len20 (by omega)
    have SX : Aside (signed x = 45 :: digits (-x).toNat) := by show _ = _; unfold signed; rw [if_pos q]
    go_wp2_with fail
    refine (D.out _).mono ?_
    rintro e w1 ⟨rfl, g1⟩
    obtain ⟨L, hL⟩ : ∃ L, digits (-x).toNat = L := ⟨_, rfl⟩
    rw [hL]
    have ll : L.length ≤ 20 := by rw [← hL]; exact LX.out
    have HL : Aside (digits (-x).toNat = L) := hL
    clear hL
    go_wp2
    refine bodyPost_ret (v := .string (Bs (45 :: L))) (by simp [results, Tryd.results39, go_sem]) rfl ⟨by rw [SX.out, HL.out], g1⟩
  · have e1 : IntKind.u64.wrap x = x := by rw [IntKind.wrap_u64]; omega
    have D : Hid (∀ W, Calls Tryd.prog 32 #[.int .u64 x] W fun e w' => e = .returned (.string (Bs (digits x.toNat))) ∧ Gw W w') := fun W => digits21 x (by omega) (by omega) W
    have SX : Aside (signed x = digits x.toNat) := by show _ = _; unfold signed; rw [if_neg q]
    go_wp2_with fail
    refine (D.out _).mono ?_
    rintro e w1 ⟨rfl, g1⟩
    go_wp2
    refine bodyPost_ret (v := .string (Bs (digits x.toNat))) (by simp [results, Tryd.results39, go_sem]) rfl ⟨by rw [SX.out], g1⟩
/-- What 'number' tells of a word. -/
def NumT (l : List UInt8) (v : Int) (b : Bool) : Prop := (0 ≤ v ∧ v < 18446744073709551616) ∧ numOf l = if b = true then some v else none
def NumO (l : List UInt8) (e : Ending) : Prop := ∃ v b, e = .returned (.tuple #[.int .u64 v, .bool b]) ∧ NumT l v b
set_option maxRecDepth 100000 in
set_option maxHeartbeats 4000000 in
theorem number21 (l : List UInt8) (hl : l.length ≤ 2000000) (w : World) : Calls Tryd.prog 47 #[.string (Bs l)] w fun e w' => NumO l e ∧ Gw w w' := by
  obtain ⟨n, hn⟩ : ∃ n, l.length = n := ⟨_, rfl⟩
  have LN : Aside (l.length = n) := hn
  rw [hn] at hl
  go_enter Tryd.func47, Tryd.ntmps47
  go_wp2
  go_loopg [4, 5] n (fun gg s4 s5 wr => ∃ (m : Int) (i : Nat), s4 = .int .u64 m ∧ s5 = .int .i64 (i : Int) ∧ 0 ≤ m ∧ m < 18446744073709551616 ∧ i ≤ n ∧ i ≤ 20 ∧ n - i ≤ gg ∧ Aside (m = (val (l.take i) : Int)) ∧ Hid (Gw w wr))
  case atStart => exact ⟨0, 0, rfl, rfl, by omega, by omega, by omega, by omega, by omega, (by show _ = _; simp [val]), Gw.refl w⟩
  case round =>
    obtain ⟨m, i, rfl, rfl, m0, m1, hin, hi2, hgg, MV, G⟩ := hrel
    by_cases ilt : i < n
    · have ilt' : (i : Int) < (n : Int) := by omega
      have il : i < l.length := by rw [LN.out]; exact ilt
      obtain ⟨b, hb⟩ : ∃ b, l[i]? = some b := ⟨l[i], List.getElem?_eq_getElem il⟩
      have ix := index_bs l i b hb
      obtain ⟨c, hc⟩ : ∃ c : Nat, b.toNat = c := ⟨_, rfl⟩
      rw [hc] at ix
      have c255 : c ≤ 255 := by rw [← hc]; have := b.toNat_lt; omega
      have BM : Aside (b ∈ l ∧ b.toNat = c ∧ l[i]? = some b) := ⟨List.mem_of_getElem? hb, hc, hb⟩
      clear hb hc
      by_cases hd : 48 ≤ c ∧ c ≤ 57 ∧ i ≤ 19
      · obtain ⟨hd1, hd2, hi19⟩ := hd
        have f1 : ¬ (c : Int) < 48 := by omega
        have f2 : ¬ (57 : Int) < c := by omega
        have f3 : ¬ (19 : Int) < i := by omega
        have VS : Aside (val (l.take (i + 1)) = 10 * val (l.take i) + (c - 48)) := by
          show _ = _
          rw [List.take_add_one, BM.out.2.2]
          show val (l.take i ++ [b]) = _
          rw [val_snoc, BM.out.2.1]
        by_cases hq : m ≤ (18446744073709551615 - ((c : Int) - 48)) / 10
        · go_wp2
          go_roundg (n - (i + 1))
          case measure => omega
          case rel =>
            refine ⟨10 * m + ((c : Int) - 48), i + 1, rfl, by go_num, by omega, by omega, by omega, by omega, Nat.le_refl _, ?_, G⟩
            show _ = _
            rw [VS.out, MV.out]
            omega
        · go_wp2
          refine bodyPost_ret (v := .tuple #[.int .u64 0, .bool false]) (by simp [results, Tryd.results47, go_sem]) rfl ⟨⟨0, false, rfl, ⟨by omega, by omega⟩, ?_⟩, G.out⟩
          exact numOf_great (i := i + 1) (by rw [VS.out]; have := MV.out; omega)
      · have none : Aside (numOf l = none) := by
          show _ = _
          by_cases z : 48 ≤ c ∧ c ≤ 57
          · exact numOf_long (by omega)
          · exact numOf_bad BM.out.1 (by unfold isD; rw [BM.out.2.1]; exact z)
        have t1 : (c : Int) < 48 ∨ (57 : Int) < c ∨ (19 : Int) < i := by omega
        by_cases f1 : (c : Int) < 48
        · go_wp2
          refine bodyPost_ret (v := .tuple #[.int .u64 0, .bool false]) (by simp [results, Tryd.results47, go_sem]) rfl ⟨⟨0, false, rfl, ⟨by omega, by omega⟩, none.out⟩, G.out⟩
        · by_cases f2 : (57 : Int) < c
          · go_wp2
            refine bodyPost_ret (v := .tuple #[.int .u64 0, .bool false]) (by simp [results, Tryd.results47, go_sem]) rfl ⟨⟨0, false, rfl, ⟨by omega, by omega⟩, none.out⟩, G.out⟩
          · have f3 : (19 : Int) < i := by omega
            go_wp2
            refine bodyPost_ret (v := .tuple #[.int .u64 0, .bool false]) (by simp [results, Tryd.results47, go_sem]) rfl ⟨⟨0, false, rfl, ⟨by omega, by omega⟩, none.out⟩, G.out⟩
    · have D : Hid (∀ W, Calls Tryd.prog 32 #[.int .u64 m] W fun e w' => e = .returned (.string (Bs (digits m.toNat))) ∧ Gw W w') := fun W => digits21 m m0 m1 W
      have VE : Aside (m = (val l : Int)) := by
        show _ = _
        rw [MV.out, List.take_of_length_le (by rw [LN.out]; omega)]
      go_wp2_with fail
      refine (D.out _).mono ?_
      rintro e w1 ⟨rfl, g1⟩
      go_wp2
      refine bodyPost_ret (v := .tuple #[.int .u64 m, .bool (digits m.toNat == l)]) (by simp [results, Tryd.results47, go_sem]) rfl ⟨⟨m, _, rfl, ⟨m0, m1⟩, ?_⟩, G.out.trans g1⟩
      have := VE.out
      rw [numOf_told (by omega), this, Int.toNat_natCast]
      simp
end Go.Proofs.YtocnmdabilaccaaDoor
