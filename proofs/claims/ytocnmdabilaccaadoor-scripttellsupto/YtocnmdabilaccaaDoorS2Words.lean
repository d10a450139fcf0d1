/- Package script: the words of a line. -/
import Derived.Test.YtocnmdabilaccaaDoorShelf
import Derived.Test.YtocnmdabilaccaaDoorS1Ref3
import Derived.Laws.RangeAny
import Derived.Lib.OthersKept
namespace Go.Proofs.YtocnmdabilaccaaDoor
open Go.RowKit
set_option linter.unusedVariables false

theorem dec_tail (n b0 b1 b2 b3 : Nat) : (Lib.decodeN n b0 b1 b2 b3).2 ≤ 4 ∧ (1 < (Lib.decodeN n b0 b1 b2 b3).2 → 128 ≤ b1) ∧ (2 < (Lib.decodeN n b0 b1 b2 b3).2 → 128 ≤ b2) ∧ (3 < (Lib.decodeN n b0 b1 b2 b3).2 → 128 ≤ b3) := by
  unfold Lib.decodeN
  repeat' split
  all_goals (simp only; omega)
theorem get_bs (l : List UInt8) (i : Nat) (h : i < l.length) : (Bs l).get! i = l[i] := by
  simp [ByteArray.get!, Bs, h]
/-- A rune that is the blank is that byte; another one has no such byte. -/
theorem dec_blank (l : List UInt8) (pos : Nat) (h : pos < l.length) : 1 ≤ (Utf8.decode (Bs l) pos).2 ∧ pos + (Utf8.decode (Bs l) pos).2 ≤ l.length ∧
    (((Utf8.decode (Bs l) pos).1 = 32 ∧ (Utf8.decode (Bs l) pos).2 = 1 ∧ l[pos] = 32) ∨ ((Utf8.decode (Bs l) pos).1 ≠ 32 ∧ ∀ b ∈ (l.drop pos).take (Utf8.decode (Bs l) pos).2, b ≠ 32)) := by
  have hz : pos < (Bs l).size := by rw [Bs_size]; exact h
  have gb : (Bs l)[pos]'hz = l[pos] := Bs_get l pos hz h
  have k1 := Lib.width_pos (Bs l) pos
  have kn : pos + (Utf8.decode (Bs l) pos).2 ≤ l.length := by
    have := Lib.decodeN_le_n' ((Bs l).size - pos) ((Bs l).get! pos).toNat ((Bs l).get! (pos + 1)).toNat ((Bs l).get! (pos + 2)).toNat ((Bs l).get! (pos + 3)).toNat (by omega)
    rw [← Lib.decode_at, Bs_size] at this
    omega
  refine ⟨k1, kn, ?_⟩
  by_cases asc : l[pos].toNat < 128
  · have d := decode_ascii (Bs l) pos hz (by rw [gb]; exact asc)
    rw [gb] at d
    rw [d]
    by_cases e : l[pos] = 32
    · left
      refine ⟨by rw [e]; rfl, rfl, e⟩
    · right
      refine ⟨fun q => e (UInt8.toNat_inj.1 q), fun b hb => ?_⟩
      rw [List.drop_eq_getElem_cons h, List.take_succ_cons, List.take_zero, List.mem_singleton] at hb
      rw [hb]
      exact e
  · right
    have hi := (decode_high (Bs l) pos hz (by rw [gb]; omega)).1
    refine ⟨by omega, fun b hb => ?_⟩
    have dt := dec_tail ((Bs l).size - pos) ((Bs l).get! pos).toNat ((Bs l).get! (pos + 1)).toNat ((Bs l).get! (pos + 2)).toNat ((Bs l).get! (pos + 3)).toNat
    rw [← Lib.decode_at] at dt
    obtain ⟨d0, d1, d2, d3⟩ := dt
    obtain ⟨j, hj, ej⟩ := List.mem_iff_getElem.1 hb
    simp only [List.length_take, List.length_drop] at hj
    have e1 : l[pos + j]'(by omega) = b := by simpa using ej
    have big : 128 ≤ b.toNat := by
      match j, hj, e1 with
      | 0, _, e1 => rw [← e1]; simp only [Nat.add_zero]; omega
      | 1, hj, e1 => rw [← e1, ← get_bs l (pos + 1) (by omega)]; exact d1 (by omega)
      | 2, hj, e1 => rw [← e1, ← get_bs l (pos + 2) (by omega)]; exact d2 (by omega)
      | 3, hj, e1 => rw [← e1, ← get_bs l (pos + 3) (by omega)]; exact d3 (by omega)
      | j + 4, hj, _ => omega
    intro e
    rw [e] at big
    exact absurd big (by decide)
/-- Whether a rune is the blank. -/
def isB (x : Nat) : Bool := (x : Int) == 32
/-- The word that has begun. -/
def curW (l : List UInt8) (st : Option Nat) (pos : Nat) : List UInt8 := match st with
  | none => []
  | some a => (l.drop a).take (pos - a)
theorem cur_more {l : List UInt8} {a pos K : Nat} (h : a ≤ pos) : (l.drop a).take (pos - a) ++ (l.drop pos).take K = (l.drop a).take (pos + K - a) := by
  have e : l.drop pos = (l.drop a).drop (pos - a) := by rw [List.drop_drop]; congr 1; omega
  rw [e, show pos + K - a = (pos - a) + K by omega, List.take_add]
theorem fields_from (l : List UInt8) : ∀ (f pos : Nat) (st : Option Nat) (acc : List (Nat × Nat)), l.length ≤ pos + f → pos ≤ l.length → (∀ a, st = some a → a < pos) →
    (Lib.closeSpans (Bs l) (Lib.spansFromP isB (Bs l) f pos st acc)).map (fun x => (Bs l).extract x.1 x.2) =
      acc.map (fun x => (Bs l).extract x.1 x.2) ++ ((spl 32 (curW l st pos) (l.drop pos)).filter (fun p => decide (p ≠ []))).map Bs := by
  intro f
  induction f with
  | zero =>
    intro pos st acc h1 h2 h3
    have e : pos = l.length := by omega
    subst e
    rw [Lib.spansFromP_end _ _ _ _ _ _ (by rw [Bs_size]; omega), List.drop_length]
    cases st with
    | none => simp [Lib.closeSpans, curW, spl]
    | some a =>
      have ha := h3 a rfl
      have ne : (l.drop a).take (l.length - a) ≠ [] := by
        intro q
        have := congrArg List.length q
        simp at this
        omega
      simp only [Lib.closeSpans, curW, spl, List.map_append, List.map_cons, List.map_nil, Bs_cut, Bs_size]
      rw [List.filter_cons_of_pos (by simpa using ne)]
      rfl
  | succ f ih =>
    intro pos st acc h1 h2 h3
    by_cases hp : pos < l.length
    · obtain ⟨k1, kn, hc⟩ := dec_blank l pos hp
      obtain ⟨R, hR⟩ : ∃ R, (Utf8.decode (Bs l) pos).1 = R := ⟨_, rfl⟩
      obtain ⟨K, hK⟩ : ∃ K, (Utf8.decode (Bs l) pos).2 = K := ⟨_, rfl⟩
      have hz : pos < (Bs l).size := by rw [Bs_size]; exact hp
      simp only [Lib.spansFromP, hz, if_true, hR, hK]
      rw [hR, hK] at hc
      rw [hK] at k1 kn
      rcases hc with ⟨rfl, rfl, e⟩ | ⟨ne, nb⟩
      · have b : isB 32 = true := rfl
        simp only [b, if_true]
        have dl : l.drop pos = 32 :: l.drop (pos + 1) := by rw [List.drop_eq_getElem_cons hp, e]
        cases st with
        | none =>
          rw [ih (pos + 1) none acc (by omega) (by omega) (fun a q => by cases q), dl]
          simp [curW, spl]
        | some a =>
          have ha := h3 a rfl
          have ne : (l.drop a).take (pos - a) ≠ [] := by
            intro q
            have := congrArg List.length q
            simp at this
            omega
          dsimp only
          rw [ih (pos + 1) none (acc ++ [(a, pos)]) (by omega) (by omega) (fun a q => by cases q), dl]
          simp only [curW, List.map_append, List.map_cons, List.map_nil, Bs_cut]
          rw [spl_at, List.filter_cons_of_pos (by simpa using ne)]
          simp
      · have b : isB R = false := by
          unfold isB
          simp only [beq_eq_false_iff_ne, ne_eq]
          omega
        simp only [b]
        have dl : l.drop pos = (l.drop pos).take K ++ l.drop (pos + K) := by
          rw [← List.drop_drop, List.take_append_drop]
        have sp : spl 32 (curW l st pos) (l.drop pos) = spl 32 (curW l st pos ++ (l.drop pos).take K) (l.drop (pos + K)) := by
          conv => lhs; rw [dl]
          exact spl_plain 32 _ _ _ nb
        cases st with
        | none =>
          have := ih (pos + K) (some pos) acc (by omega) kn (fun a q => by cases q; omega)
          simp only [Bool.false_eq_true, if_false]
          rw [this, sp]
          simp only [curW, List.nil_append]
          rw [show pos + K - pos = K by omega]
        | some a =>
          have ha := h3 a rfl
          have := ih (pos + K) (some a) acc (by omega) kn (fun b q => by cases q; omega)
          simp only [Bool.false_eq_true, if_false]
          rw [this, sp]
          simp only [curW]
          rw [cur_more (by omega)]
    · have e : pos = l.length := by omega
      have := ih pos st acc (by omega) h2 h3
      rw [Lib.spansFromP_end _ _ _ _ _ _ (by rw [Bs_size]; omega)] at this ⊢
      exact this
theorem fields_words (l : List UInt8) : Lib.goFieldsP isB (Bs l) = (wordsOf l).map Bs := by
  have := fields_from l (Bs l).size 0 none [] (by rw [Bs_size]; omega) (Nat.zero_le _) (fun a q => by cases q)
  simpa [Lib.goFieldsP, Lib.spansOfP, wordsOf, curW] using this
set_option maxRecDepth 100000 in
set_option maxHeartbeats 4000000 in
theorem words_any (l : List UInt8) (hl : l.length ≤ 2000000) (w : World) : Calls Tryd.prog 21 #[.string (Bs l)] w fun e w' => TXv w w' e (wordsOf l) ∧ Gw w w' := by
  have PB : Hid (∀ (W : World) (x : Nat), Calls Tryd.prog 43 #[.int .i32 (x : Int)] W fun e w' => e = .returned (.bool (isB x)) ∧ w' = W) := fun W x => by
    go_enter Tryd.func43, Tryd.ntmps43
    go_wp2_with fail
    go_ret
    exact ⟨rfl, rfl⟩
  have FF : Hid (Calls Tryd.prog 42 #[.string (Bs l), .func (.func 43) #[] #[]] w fun e w' => TXv w w' e (wordsOf l) ∧ Gw w w') := by
    have := Tryd.strings_FieldsFunc 43 #[] (enters_of Tryd.func43 (by kernel_rfl) rfl) isB (Bs l) w (by rw [Bs_size]; omega) (fun W x _ => (PB.out W x).mono fun e w' ⟨he, hw⟩ => ⟨he, 0, hw⟩)
    rw [fields_words, List.length_map, List.map_map] at this
    refine this.mono ?_
    rintro e w' ⟨A, rfl, hA, own, hb⟩
    exact ⟨⟨A, _, rfl, own⟩, ⟨hb⟩⟩
  go_enter Tryd.func21, Tryd.ntmps21
  go_wp2_with fail
  refine FF.out.mono ?_
  rintro e w1 ⟨⟨b, cap, rfl, h1⟩, g1⟩
  go_wp2_with fail
  go_ret
  exact ⟨⟨b, cap, rfl, h1⟩, g1⟩
theorem clone_any (l : List UInt8) (hl : l.length ≤ 2000000) (w : World) : Calls Tryd.prog 45 #[.string (Bs l)] w fun e w' => e = .returned (.string (Bs l)) ∧ Gw w w' := by
  have C : Hid (Calls Tryd.prog 56 #[.string (Bs l)] w fun e w' => e = .returned (.string (Bs l)) ∧ Gw w w') := (Tryd.stringslite_Clone (Bs l) w (by rw [Bs_size]; omega)).mono fun e w' ⟨he, hb⟩ => ⟨he, ⟨hb⟩⟩
  go_enter Tryd.func45, Tryd.ntmps45
  go_wp2_with fail
  refine C.out.mono ?_
  rintro e w1 ⟨rfl, g1⟩
  go_wp2_with fail
  go_ret
  exact ⟨rfl, g1⟩
end Go.Proofs.YtocnmdabilaccaaDoor
