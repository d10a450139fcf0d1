/- Package script: what a word asks for; a number read. -/
import Derived.Test.YtocnmdabilaccaaDoorS1Ref1

import Derived.Laws.RangeAny
import Derived.Lib.OthersKept
namespace Go.Proofs.YtocnmdabilaccaaDoor
open Go.RowKit
set_option linter.unusedVariables false

theorem takes_cases (l : List UInt8) : l = wStats ∨ l = wSave ∨ l = wLoad ∨ l = wDel ∨ l = wGet ∨ l = wFloor ∨ l = wCeil ∨ l = wRank ∨ l = wPut ∨ l = wRange ∨ l = wPath ∨ l = wMap ∨ takes l = -1 := by
  by_cases q : l ∈ [wStats, wSave, wLoad, wDel, wGet, wFloor, wCeil, wRank, wPut, wRange, wPath, wMap]
  · simp only [List.mem_cons, List.not_mem_nil, or_false] at q
    rcases q with q | q | q | q | q | q | q | q | q | q | q | q <;> simp [q]
  · simp only [List.mem_cons, List.not_mem_nil, or_false, not_or] at q
    obtain ⟨q1, q2, q3, q4, q5, q6, q7, q8, q9, qa, qb, qc⟩ := q
    have e : takes l = -1 := by unfold takes; rw [if_neg (by simp [*]), if_neg (by simp [*]), if_neg (by simp [*]), if_neg (by simp [*])]
    simp [e]
set_option maxRecDepth 100000 in
set_option maxHeartbeats 4000000 in
theorem numbers_any (l : List UInt8) (w : World) : Calls Tryd.prog 48 #[.string (Bs l)] w fun e w' => (∃ n b, e = .returned (.tuple #[.int .i64 n, .bool b]) ∧ ((b = true ∧ takes l = n ∧ 0 ≤ n) ∨ (b = false ∧ takes l = -1))) ∧ w' = w := by
  by_cases q : l ∈ [wStats, wSave, wLoad, wDel, wGet, wFloor, wCeil, wRank, wPut, wRange, wPath, wMap]
  · simp only [List.mem_cons, List.not_mem_nil, or_false] at q
    rcases q with rfl | rfl | rfl | rfl | rfl | rfl | rfl | rfl | rfl | rfl | rfl | rfl
    · go_enter Tryd.func48, Tryd.ntmps48
      simp only [wStats]
      go_wp2
      exact bodyPost_ret (v := .tuple #[.int .i64 0, .bool true]) (by simp [results, Tryd.results48, go_sem]) rfl ⟨⟨0, true, rfl, .inl ⟨rfl, by kernel_rfl, by decide⟩⟩, rfl⟩
    · go_enter Tryd.func48, Tryd.ntmps48
      simp only [wSave]
      go_wp2
      exact bodyPost_ret (v := .tuple #[.int .i64 0, .bool true]) (by simp [results, Tryd.results48, go_sem]) rfl ⟨⟨0, true, rfl, .inl ⟨rfl, by kernel_rfl, by decide⟩⟩, rfl⟩
    · go_enter Tryd.func48, Tryd.ntmps48
      simp only [wLoad]
      go_wp2
      exact bodyPost_ret (v := .tuple #[.int .i64 0, .bool true]) (by simp [results, Tryd.results48, go_sem]) rfl ⟨⟨0, true, rfl, .inl ⟨rfl, by kernel_rfl, by decide⟩⟩, rfl⟩
    · go_enter Tryd.func48, Tryd.ntmps48
      simp only [wDel]
      go_wp2
      exact bodyPost_ret (v := .tuple #[.int .i64 1, .bool true]) (by simp [results, Tryd.results48, go_sem]) rfl ⟨⟨1, true, rfl, .inl ⟨rfl, by kernel_rfl, by decide⟩⟩, rfl⟩
    · go_enter Tryd.func48, Tryd.ntmps48
      simp only [wGet]
      go_wp2
      exact bodyPost_ret (v := .tuple #[.int .i64 1, .bool true]) (by simp [results, Tryd.results48, go_sem]) rfl ⟨⟨1, true, rfl, .inl ⟨rfl, by kernel_rfl, by decide⟩⟩, rfl⟩
    · go_enter Tryd.func48, Tryd.ntmps48
      simp only [wFloor]
      go_wp2
      exact bodyPost_ret (v := .tuple #[.int .i64 1, .bool true]) (by simp [results, Tryd.results48, go_sem]) rfl ⟨⟨1, true, rfl, .inl ⟨rfl, by kernel_rfl, by decide⟩⟩, rfl⟩
    · go_enter Tryd.func48, Tryd.ntmps48
      simp only [wCeil]
      go_wp2
      exact bodyPost_ret (v := .tuple #[.int .i64 1, .bool true]) (by simp [results, Tryd.results48, go_sem]) rfl ⟨⟨1, true, rfl, .inl ⟨rfl, by kernel_rfl, by decide⟩⟩, rfl⟩
    · go_enter Tryd.func48, Tryd.ntmps48
      simp only [wRank]
      go_wp2
      exact bodyPost_ret (v := .tuple #[.int .i64 1, .bool true]) (by simp [results, Tryd.results48, go_sem]) rfl ⟨⟨1, true, rfl, .inl ⟨rfl, by kernel_rfl, by decide⟩⟩, rfl⟩
    · go_enter Tryd.func48, Tryd.ntmps48
      simp only [wPut]
      go_wp2
      exact bodyPost_ret (v := .tuple #[.int .i64 2, .bool true]) (by simp [results, Tryd.results48, go_sem]) rfl ⟨⟨2, true, rfl, .inl ⟨rfl, by kernel_rfl, by decide⟩⟩, rfl⟩
    · go_enter Tryd.func48, Tryd.ntmps48
      simp only [wRange]
      go_wp2
      exact bodyPost_ret (v := .tuple #[.int .i64 2, .bool true]) (by simp [results, Tryd.results48, go_sem]) rfl ⟨⟨2, true, rfl, .inl ⟨rfl, by kernel_rfl, by decide⟩⟩, rfl⟩
    · go_enter Tryd.func48, Tryd.ntmps48
      simp only [wPath]
      go_wp2
      exact bodyPost_ret (v := .tuple #[.int .i64 2, .bool true]) (by simp [results, Tryd.results48, go_sem]) rfl ⟨⟨2, true, rfl, .inl ⟨rfl, by kernel_rfl, by decide⟩⟩, rfl⟩
    · go_enter Tryd.func48, Tryd.ntmps48
      simp only [wMap]
      go_wp2
      exact bodyPost_ret (v := .tuple #[.int .i64 3, .bool true]) (by simp [results, Tryd.results48, go_sem]) rfl ⟨⟨3, true, rfl, .inl ⟨rfl, by kernel_rfl, by decide⟩⟩, rfl⟩
  · simp only [List.mem_cons, List.not_mem_nil, or_false, not_or] at q
    obtain ⟨q1, q2, q3, q4, q5, q6, q7, q8, q9, qa, qb, qc⟩ := q
    have e : takes l = -1 := by unfold takes; rw [if_neg (by simp [*]), if_neg (by simp [*]), if_neg (by simp [*]), if_neg (by simp [*])]
    have b1 : (l == [115, 116, 97, 116, 115]) = false := by simpa [wStats] using q1
    have b2 : (l == [115, 97, 118, 101]) = false := by simpa [wSave] using q2
    have b3 : (l == [108, 111, 97, 100]) = false := by simpa [wLoad] using q3
    have b4 : (l == [100, 101, 108]) = false := by simpa [wDel] using q4
    have b5 : (l == [103, 101, 116]) = false := by simpa [wGet] using q5
    have b6 : (l == [102, 108, 111, 111, 114]) = false := by simpa [wFloor] using q6
    have b7 : (l == [99, 101, 105, 108]) = false := by simpa [wCeil] using q7
    have b8 : (l == [114, 97, 110, 107]) = false := by simpa [wRank] using q8
    have b9 : (l == [112, 117, 116]) = false := by simpa [wPut] using q9
    have ba : (l == [114, 97, 110, 103, 101]) = false := by simpa [wRange] using qa
    have bb : (l == [112, 97, 116, 104]) = false := by simpa [wPath] using qb
    have bc : (l == [109, 97, 112]) = false := by simpa [wMap] using qc
    have E : Aside (takes l = -1) := e
    clear q1 q2 q3 q4 q5 q6 q7 q8 q9 qa qb qc e
    go_enter Tryd.func48, Tryd.ntmps48
    go_wp2
    exact bodyPost_ret (v := .tuple #[.int .i64 0, .bool false]) (by simp [results, Tryd.results48, go_sem]) rfl ⟨⟨0, false, rfl, .inr ⟨rfl, E.out⟩⟩, rfl⟩
/-- What is wrong with a word that so many stand behind. -/
def chkW (l : List UInt8) (n : Nat) : Int := if takes l < 0 then 211 else if takes l ≠ (n : Int) then 213 else 0
set_option maxRecDepth 100000 in
set_option maxHeartbeats 4000000 in
theorem check_any (l : List UInt8) (n : Nat) (hn : n ≤ 4000000) (w : World) : Calls Tryd.prog 26 #[.string (Bs l), .int .i64 (n : Int)] w fun e w' => e = .returned (.int .i64 (chkW l n)) ∧ w' = w := by
  have NA : Hid (∀ W, _) := numbers_any l
  go_enter Tryd.func26, Tryd.ntmps26
  go_wp2_with fail
  refine (NA.out _).mono ?_
  rintro e w1 ⟨⟨k, b, rfl, h⟩, rfl⟩
  rcases h with ⟨rfl, h1, h2⟩ | ⟨rfl, h1⟩
  · have C : Aside (chkW l n = if k ≠ (n : Int) then 213 else 0) := by show _ = _; unfold chkW; rw [h1, if_neg (by omega)]
    clear h1
    by_cases c : (n : Int) = k
    · have c' : ((n : Int) == k) = true := by simp [c]
      subst c
      go_wp2
      go_ret
      exact ⟨by rw [C.out]; simp, rfl⟩
    · have c' : ((n : Int) == k) = false := by simp [c]
      have C2 : Aside (chkW l n = 213) := by show _ = _; rw [C.out, if_pos (fun e => c e.symm)]
      clear c
      go_wp2
      go_ret
      exact ⟨by rw [C2.out]; rfl, rfl⟩
  · have C : Aside (chkW l n = 211) := by show _ = _; unfold chkW; rw [h1]; rfl
    clear h1
    go_wp2
    go_ret
    exact ⟨by rw [C.out]; rfl, rfl⟩
set_option maxRecDepth 100000 in
set_option maxHeartbeats 4000000 in
theorem kind_any (l : List UInt8) (w : World) : Calls Tryd.prog 33 #[.string (Bs l)] w fun e w' => e = .returned (.tuple #[.int .i64 (kindOf l), .bool (decide (kindOf l ≠ 0))]) ∧ w' = w := by
  by_cases q : l ∈ [wDel, wGet, wFloor, wCeil, wRank, wPut, wRange]
  · simp only [List.mem_cons, List.not_mem_nil, or_false] at q
    rcases q with rfl | rfl | rfl | rfl | rfl | rfl | rfl
    · go_enter Tryd.func33, Tryd.ntmps33
      simp only [wDel]
      go_wp2
      exact bodyPost_ret (v := .tuple #[.int .i64 2, .bool true]) (by simp [results, Tryd.results33, go_sem]) rfl ⟨by kernel_rfl, rfl⟩
    · go_enter Tryd.func33, Tryd.ntmps33
      simp only [wGet]
      go_wp2
      exact bodyPost_ret (v := .tuple #[.int .i64 3, .bool true]) (by simp [results, Tryd.results33, go_sem]) rfl ⟨by kernel_rfl, rfl⟩
    · go_enter Tryd.func33, Tryd.ntmps33
      simp only [wFloor]
      go_wp2
      exact bodyPost_ret (v := .tuple #[.int .i64 4, .bool true]) (by simp [results, Tryd.results33, go_sem]) rfl ⟨by kernel_rfl, rfl⟩
    · go_enter Tryd.func33, Tryd.ntmps33
      simp only [wCeil]
      go_wp2
      exact bodyPost_ret (v := .tuple #[.int .i64 5, .bool true]) (by simp [results, Tryd.results33, go_sem]) rfl ⟨by kernel_rfl, rfl⟩
    · go_enter Tryd.func33, Tryd.ntmps33
      simp only [wRank]
      go_wp2
      exact bodyPost_ret (v := .tuple #[.int .i64 6, .bool true]) (by simp [results, Tryd.results33, go_sem]) rfl ⟨by kernel_rfl, rfl⟩
    · go_enter Tryd.func33, Tryd.ntmps33
      simp only [wPut]
      go_wp2
      exact bodyPost_ret (v := .tuple #[.int .i64 1, .bool true]) (by simp [results, Tryd.results33, go_sem]) rfl ⟨by kernel_rfl, rfl⟩
    · go_enter Tryd.func33, Tryd.ntmps33
      simp only [wRange]
      go_wp2
      exact bodyPost_ret (v := .tuple #[.int .i64 7, .bool true]) (by simp [results, Tryd.results33, go_sem]) rfl ⟨by kernel_rfl, rfl⟩
  · simp only [List.mem_cons, List.not_mem_nil, or_false, not_or] at q
    obtain ⟨q4, q5, q6, q7, q8, q9, qa⟩ := q
    have e : kindOf l = 0 := by unfold kindOf; rw [if_neg q9, if_neg q4, if_neg q5, if_neg q6, if_neg q7, if_neg q8, if_neg qa]
    have b4 : (l == [100, 101, 108]) = false := by simpa [wDel] using q4
    have b5 : (l == [103, 101, 116]) = false := by simpa [wGet] using q5
    have b6 : (l == [102, 108, 111, 111, 114]) = false := by simpa [wFloor] using q6
    have b7 : (l == [99, 101, 105, 108]) = false := by simpa [wCeil] using q7
    have b8 : (l == [114, 97, 110, 107]) = false := by simpa [wRank] using q8
    have b9 : (l == [112, 117, 116]) = false := by simpa [wPut] using q9
    have ba : (l == [114, 97, 110, 103, 101]) = false := by simpa [wRange] using qa
    have E : Aside (kindOf l = 0) := e
    clear q4 q5 q6 q7 q8 q9 qa e
    go_enter Tryd.func33, Tryd.ntmps33
    go_wp2
    exact bodyPost_ret (v := .tuple #[.int .i64 0, .bool false]) (by simp [results, Tryd.results33, go_sem]) rfl ⟨by rw [E.out]; rfl, rfl⟩
theorem bs_at {l : List UInt8} {i : Nat} {b : UInt8} (h : l[i]? = some b) (hi : i < (Bs l).size) : (Bs l)[i]'hi = b := by
  obtain ⟨h1, e⟩ := List.getElem?_eq_some_iff.1 h
  rw [Bs_get l i hi h1, e]
theorem numOf_nil : numOf [] = none := by
  unfold numOf
  rw [if_neg]
  rintro ⟨q, _⟩
  exact digits_ne _ q
/-- A 0 ahead of more. -/
theorem numOf_zero {l : List UInt8} {i : Nat} (h0 : 0 < i) (hi : i < l.length) (hz : val (l.take i) = 0) (hd : digits (val (l.take i)) = l.take i) : numOf l = none := by
  unfold numOf
  rw [if_neg]
  rintro ⟨q, _⟩
  rw [hz] at hd
  have e0 : digits 0 = [dig 0] := digits_lt (by decide)
  rw [e0] at hd
  have l1 : i = 1 := by have := congrArg List.length hd; simp at this; omega
  subst l1
  have f : l.head? = some (dig 0) := by
    cases l with
    | nil => simp at hi
    | cons x r => simp at hd; simp [hd]
  have hl : ∀ n, (digits n).head? = some (dig 0) → n = 0 := by
    intro n
    induction n using digits_ind with
    | h1 n h =>
      rw [digits_lt h]
      intro e
      simp only [List.head?_cons, Option.some.injEq] at e
      have := congrArg UInt8.toNat e
      rw [dig_nat n h, dig_nat 0 (by decide)] at this
      omega
    | h2 n h ih =>
      rw [digits_ge h]
      intro e
      have h3 : (digits (n / 10) ++ [dig (n % 10)]).head? = (digits (n / 10)).head? := by
        cases hh : digits (n / 10) with
        | nil => exact absurd hh (digits_ne _)
        | cons a r => rfl
      rw [h3] at e
      have := ih e
      omega
  have vz := hl (val l) (by rw [q]; exact f)
  rw [vz, e0] at q
  have := congrArg List.length q
  simp at this
  omega
theorem digits_step {l : List UInt8} {i : Nat} {b : UInt8} {d : Nat} (hb : l[i]? = some b) (hd : b.toNat = 48 + d) (d9 : d < 10) (hv : i = 0 ∨ (0 < val (l.take i) ∧ digits (val (l.take i)) = l.take i)) :
    val (l.take (i + 1)) = 10 * val (l.take i) + d ∧ digits (val (l.take (i + 1))) = l.take (i + 1) := by
  have tk : l.take (i + 1) = l.take i ++ [b] := by rw [List.take_add_one, hb]; rfl
  have e1 : val (l.take (i + 1)) = 10 * val (l.take i) + d := by rw [tk, val_snoc, hd]; omega
  refine ⟨e1, ?_⟩
  have bd : b = dig d := by
    have : b.toNat = (dig d).toNat := by rw [hd, dig_nat d d9]
    exact UInt8.toNat_inj.1 this
  rw [e1, tk]
  rcases hv with rfl | ⟨h1, h2⟩
  · have : val (l.take 0) = 0 := by simp [val]
    rw [this, Nat.mul_zero, Nat.zero_add, digits_lt d9, bd]
    rfl
  · rw [digits_ge (by omega), show (10 * val (l.take i) + d) / 10 = val (l.take i) by omega, show (10 * val (l.take i) + d) % 10 = d by omega, h2, bd]
set_option maxRecDepth 100000 in
set_option maxHeartbeats 8000000 in
theorem number_any (l : List UInt8) (hl : l.length ≤ 2000000) (w : World) : Calls Tryd.prog 46 #[.string (Bs l)] w fun e w' => NumO l e ∧ Gw w w' := by
  obtain ⟨n, hn⟩ : ∃ n, l.length = n := ⟨_, rfl⟩
  have LN : Aside (l.length = n) := hn
  rw [hn] at hl
  clear hn
  have IT : Hid (∀ i, Gw w (w.iter (Bs l) i)) := fun i => ⟨(Below.refl _ _).alloc (Nat.le_refl _) _⟩
  go_enter Tryd.func46, Tryd.ntmps46
  go_wp2
  go_loopg [4] n (fun gg s4 wr => ∃ (m : Int) (i : Nat), s4 = .int .u64 m ∧ 0 ≤ m ∧ m < 18446744073709551616 ∧ i ≤ n ∧ n - i ≤ gg ∧ wr = w.iter (Bs l) i ∧ Aside (m = (val (l.take i) : Int)) ∧ Hid (i = 0 ∨ digits (val (l.take i)) = l.take i))
  case atStart => exact ⟨0, 0, rfl, by omega, by omega, by omega, by omega, rfl, (by show _ = _; simp [val]), .inl rfl⟩
  case round =>
    obtain ⟨m, i, rfl, m0, m1, hin, hgg, rfl, MV, DV⟩ := hrel
    by_cases ilt : i < n
    · have il : i < l.length := by rw [LN.out]; exact ilt
      have iz : i < (Bs l).size := by rw [Bs_size]; exact il
      obtain ⟨b, hb⟩ : ∃ b, l[i]? = some b := ⟨l[i], List.getElem?_eq_getElem il⟩
      have gb := bs_at hb iz
      have BM : Aside (b ∈ l ∧ l[i]? = some b) := ⟨List.mem_of_getElem? hb, hb⟩
      have nx : ∀ ty, (Instr.next (.pointer (some ⟨w.heap.size, 0, none⟩)) true ty).run Tryd.prog (w.iter (Bs l) i) = _ := fun ty => run_next_any w (Bs l) i ty iz
      by_cases asc : b.toNat < 128
      · rw [decode_ascii (Bs l) i iz (by rw [gb]; exact asc), gb] at nx
        dsimp only at nx
        obtain ⟨c, hc⟩ : ∃ c : Nat, b.toNat = c := ⟨_, rfl⟩
        rw [hc] at nx asc
        have BC : Aside (b.toNat = c) := hc
        clear hc gb hb
        by_cases hd : 48 ≤ c ∧ c ≤ 57
        · obtain ⟨hd1, hd2⟩ := hd
          have f1 : ¬ (c : Int) < 48 := by omega
          have f2 : ¬ (57 : Int) < c := by omega
          have w1 : IntKind.i32.wrap ((c : Int) - 48) = (c : Int) - 48 := by rw [IntKind.wrap_i32]; omega
          have w2 : IntKind.u64.wrap ((c : Int) - 48) = (c : Int) - 48 := by rw [IntKind.wrap_u64]; omega
          by_cases z : 0 < i ∧ m = 0
          · obtain ⟨z1, z2⟩ := z
            have z3 : (0 : Int) < (i : Int) := by omega
            have NO : Aside (numOf l = none) := by
              show _ = _
              exact numOf_zero z1 il (by have := MV.out; omega) (DV.out.resolve_left (by omega))
            subst z2
            go_wp2
            refine bodyPost_ret (v := .tuple #[.int .u64 0, .bool false]) (by simp [results, Tryd.results46, go_sem]) rfl ⟨⟨0, false, rfl, ⟨by omega, by omega⟩, NO.out⟩, IT.out _⟩
          · have ST : Hid (val (l.take (i + 1)) = 10 * val (l.take i) + (c - 48) ∧ digits (val (l.take (i + 1))) = l.take (i + 1)) := by
              refine digits_step (d := c - 48) BM.out.2 (by rw [BC.out]; omega) (by omega) ?_
              rcases DV.out with e | e
              · exact .inl e
              · by_cases zz : i = 0
                · exact .inl zz
                · exact .inr ⟨by have := MV.out; omega, e⟩
            have z4 : ¬ (0 : Int) < (i : Int) ∨ ¬ m = 0 := by omega
            by_cases hq : m ≤ (18446744073709551615 - ((c : Int) - 48)) / 10
            · by_cases zi : (0 : Int) < (i : Int)
              · have mz : (m == 0) = false := by simp; omega
                go_wp2
                go_roundg (n - (i + 1))
                case measure => omega
                case rel => exact ⟨10 * m + ((c : Int) - 48), i + 1, rfl, by omega, by omega, by omega, Nat.le_refl _, rfl, (by show _ = _; rw [ST.out.1, MV.out]; omega), .inr ST.out.2⟩
              · go_wp2
                go_roundg (n - (i + 1))
                case measure => omega
                case rel => exact ⟨10 * m + ((c : Int) - 48), i + 1, rfl, by omega, by omega, by omega, Nat.le_refl _, rfl, (by show _ = _; rw [ST.out.1, MV.out]; omega), .inr ST.out.2⟩
            · have NO : Aside (numOf l = none) := by
                show _ = _
                exact numOf_great (i := i + 1) (by rw [ST.out.1]; have := MV.out; omega)
              by_cases zi : (0 : Int) < (i : Int)
              · have mz : (m == 0) = false := by simp; omega
                go_wp2
                refine bodyPost_ret (v := .tuple #[.int .u64 0, .bool false]) (by simp [results, Tryd.results46, go_sem]) rfl ⟨⟨0, false, rfl, ⟨by omega, by omega⟩, NO.out⟩, IT.out _⟩
              · go_wp2
                refine bodyPost_ret (v := .tuple #[.int .u64 0, .bool false]) (by simp [results, Tryd.results46, go_sem]) rfl ⟨⟨0, false, rfl, ⟨by omega, by omega⟩, NO.out⟩, IT.out _⟩
        · have NO : Aside (numOf l = none) := by
            show _ = _
            exact numOf_bad BM.out.1 (by unfold isD; rw [BC.out]; exact hd)
          by_cases f1 : (c : Int) < 48
          · go_wp2
            refine bodyPost_ret (v := .tuple #[.int .u64 0, .bool false]) (by simp [results, Tryd.results46, go_sem]) rfl ⟨⟨0, false, rfl, ⟨by omega, by omega⟩, NO.out⟩, IT.out _⟩
          · have f2 : (57 : Int) < c := by omega
            go_wp2
            refine bodyPost_ret (v := .tuple #[.int .u64 0, .bool false]) (by simp [results, Tryd.results46, go_sem]) rfl ⟨⟨0, false, rfl, ⟨by omega, by omega⟩, NO.out⟩, IT.out _⟩
      · have hi := (decode_high (Bs l) i iz (by rw [gb]; omega)).1
        obtain ⟨R, hR⟩ : ∃ R, (Utf8.decode (Bs l) i).1 = R := ⟨_, rfl⟩
        obtain ⟨K, hK⟩ : ∃ K, (Utf8.decode (Bs l) i).2 = K := ⟨_, rfl⟩
        rw [hR] at hi nx
        rw [hK] at nx
        have NO : Aside (numOf l = none) := by
          show _ = _
          exact numOf_bad BM.out.1 (by unfold isD; omega)
        have f1 : ¬ (R : Int) < 48 := by omega
        have f2 : (57 : Int) < R := by omega
        clear gb hb hR hK
        go_wp2
        refine bodyPost_ret (v := .tuple #[.int .u64 0, .bool false]) (by simp [results, Tryd.results46, go_sem]) rfl ⟨⟨0, false, rfl, ⟨by omega, by omega⟩, NO.out⟩, IT.out _⟩
    · have ie : i = n := by omega
      subst ie
      have nx : ∀ ty, (Instr.next (.pointer (some ⟨w.heap.size, 0, none⟩)) true ty).run Tryd.prog (w.iter (Bs l) i) = _ := fun ty => run_next_end w (Bs l) i ty (by rw [Bs_size, LN.out]; omega)
      have TL : Aside (l.take i = l) := List.take_of_length_le (by rw [LN.out]; exact Nat.le_refl _)
      have VL : Aside (m = (val l : Int)) := by show _ = _; have := MV.out; rw [TL.out] at this; exact this
      by_cases q : l = []
      · have NO : Aside (numOf l = none) := by show _ = _; rw [q]; exact numOf_nil
        have q' : (l == []) = true := by simp [q]
        clear q
        go_wp2
        refine bodyPost_ret (v := .tuple #[.int .u64 m, .bool false]) (by simp [results, Tryd.results46, go_sem]) rfl ⟨⟨m, false, rfl, ⟨m0, m1⟩, NO.out⟩, IT.out _⟩
      · have YES : Aside (numOf l = some m) := by
          show _ = _
          rw [numOf_told (by have := VL.out; omega), if_pos, VL.out]
          have h := DV.out
          rw [TL.out] at h
          rcases h with e | e
          · exact absurd (List.eq_nil_of_length_eq_zero (by rw [LN.out]; exact e)) q
          · exact e
        have q' : (l == []) = false := by simp [q]
        clear q
        go_wp2
        refine bodyPost_ret (v := .tuple #[.int .u64 m, .bool true]) (by simp [results, Tryd.results46, go_sem]) rfl ⟨⟨m, true, rfl, ⟨m0, m1⟩, YES.out⟩, IT.out _⟩
end Go.Proofs.YtocnmdabilaccaaDoor
