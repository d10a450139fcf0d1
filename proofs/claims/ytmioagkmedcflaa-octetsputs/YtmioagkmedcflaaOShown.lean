/- The statements' shown and kind of layer 10. -/
import Derived.Test.YtmioagkmedcflaaXOct3
import Derived.RegionDies
namespace Go.Proofs.Ytmioagkmedcflaa
open Go.RowKit
set_option linter.unusedVariables false

theorem shown_word : wordA (cat (fun i => 97 + (i : Int)) 2 (fun i => byt 258 (7 - i))) 10 ⟨#[97, 98]⟩ = (0, 2) := by
  have h : ∀ i, i < (⟨#[97, 98]⟩ : ByteArray).size → cat (fun i => 97 + (i : Int)) 2 (fun i => byt 258 (7 - i)) i = strB ⟨#[97, 98]⟩ i := fun i hi => by
    have : i = 0 ∨ i = 1 := by
      have : i < 2 := hi
      omega
    rcases this with rfl | rfl <;> rfl
  unfold wordA
  rw [if_neg (by decide), if_pos h]
  rfl
theorem shown_num : numA (fun i => cat (fun i => 97 + (i : Int)) 2 (fun i => byt 258 (7 - i)) (2 + i)) 8 = (258, 0, 8) := by
  unfold numA
  rw [if_neg (by decide), numR_congr (g := fun i => byt 258 (7 - i)) (o' := 0) (fun i hi => by
    show cat _ 2 _ (2 + (0 + i)) = byt 258 (7 - (0 + i))
    unfold cat
    rw [if_neg (by omega), show 2 + (0 + i) - 2 = 0 + i by omega]), numR_eight (by decide) (by decide)]
theorem two_b (w : World) : BS (w.alloc (.cells #[.int .u8 97, .int .u8 98] 5)) (some ⟨w.heap.size, 0, none⟩) 2 (fun i => 97 + (i : Int)) :=
  bs_of_row (m := 2) (World.rowIs_alloc w #[.int .u8 97, .int .u8 98] 5 (fun i => .int .u8 (97 + (i : Int))) (fun i hi => by
    have : i = 0 ∨ i = 1 := by simp at hi; omega
    rcases this with rfl | rfl <;> rfl)) (Nat.le_refl _) (fun i hi => by omega)
set_option maxRecDepth 10000 in
set_option maxHeartbeats 2000000 in
theorem shown10 (w : World) :
    Calls Try.prog 7 #[] w fun e w' => e = .returned (.bool true) ∧ Gw w w' := by
  go_enter Try.func7, Try.ntmps7
  go_wp2_with fail
  have B0 := two_b w
  refine Calls.mono (xput_any _ 2 2 _ 258 (by decide) (by decide) (by decide) _ B0) ?_
  rintro e w2 ⟨⟨b, rfl, hb, R⟩, g⟩
  have G2 : Aside (Gw w w2) := ((Gw.refl w).alloc _ _).trans g
  have RR : Aside (w2.rowIs b 5 10 (fun i => .int .u8 (cat (fun i => 97 + (i : Int)) 2 (fun i => byt 258 (7 - i)) i))) := R
  clear g R hb B0
  go_wp2_with fail
  have B2 : BS w2 (some ⟨b, 0, none⟩) 10 (cat (fun i => 97 + (i : Int)) 2 (fun i => byt 258 (7 - i))) := bs_of_row RR.out (Nat.le_refl _) (cat_bd (n := 2) (m := 8) (fun i hi => by omega) (fun i _ => byt_bd _ _))
  refine Calls.mono (xnew_any _ 10 10 _ (by decide) _ B2) ?_
  rintro e w3 ⟨⟨p, S, rfl, RD, hS⟩, g⟩
  have G3 : Aside (Gw w w3) := G2.out.trans g
  have R3 : Aside (w3.rowIs b 5 10 (fun i => .int .u8 (cat (fun i => 97 + (i : Int)) 2 (fun i => byt 258 (7 - i)) i))) := rowIs_gb RR.out g
  have P3 : Aside (w.heap.size ≤ p) := Nat.le_trans G2.out.size (hS p RD.own)
  have D3 : Aside (RRd 61 w3 p S (cat (fun i => 97 + (i : Int)) 2 (fun i => byt 258 (7 - i))) 10) := RD
  have c0 : w3.cell? ⟨b, 0, none⟩ = some (.int .u8 97) := by rw [R3.out.cell (by decide)]; rfl
  have c8 : w3.cell? ⟨b, 8, none⟩ = some (.int .u8 1) := by rw [R3.out.cell (by decide)]; rfl
  have c9 : w3.cell? ⟨b, 9, none⟩ = some (.int .u8 2) := by rw [R3.out.cell (by decide)]; rfl
  clear g RD hS B2 RR G2 R3
  go_wp2_with fail
  have wa := shown_word
  have WD := xword_any ⟨#[97, 98]⟩ (by decide) D3.out
  rw [wa] at WD
  refine Calls.mono WD ?_
  rintro e w4 ⟨rfl, U, S4, RD, hS⟩
  have G4 : Aside (Gw w w4) := U.gw w P3.out G3.out
  have D4 : Aside (RRd 61 w4 p S4 (fun i => cat (fun i => 97 + (i : Int)) 2 (fun i => byt 258 (7 - i)) (2 + i)) 8) := RD
  clear U RD hS wa WD D3 G3 c0 c8 c9
  go_wp2_with fail
  have na := shown_num
  have WD := xnumber_any (by decide) D4.out
  rw [na] at WD
  refine Calls.mono WD ?_
  rintro e w5 ⟨rfl, U, S5, RD, hS⟩
  have G5 : Aside (Gw w w5) := U.gw w P3.out G4.out
  have LF : Hid (Calls Try.prog 30 #[.pointer (some ⟨p, 0, none⟩)] w5 fun e w' => e = .returned (.int .i64 0) ∧ w' = w5) := xleft_any RD
  clear U RD hS na WD D4 G4
  go_wp2_with fail
  refine Calls.mono LF.out ?_
  rintro e w6 ⟨rfl, rfl⟩
  clear LF
  go_wp2_with fail
  go_ret
  exact ⟨rfl, G5.out⟩
theorem kind10 (n : Int) (n0 : -9223372036854775808 ≤ n) (n1 : n < 9223372036854775808) (w : World) :
    Calls Try.prog 18 #[.int .i64 n] w fun e w' => (∃ k : Nat, k < 6 ∧ e = .returned (.int .i64 (k : Int))) ∧ w' = w := by
  by_cases h : n < 0
  · have h0 : decide (n < 0) = true := by simpa using h
    obtain ⟨m, hm⟩ : ∃ m : Nat, -(n + 1) = (m : Int) := ⟨(-(n + 1)).toNat, by omega⟩
    have e1 : IntKind.i64.wrap (n + 1) = n + 1 := by rw [IntKind.wrap_i64]; omega
    have e2 : IntKind.i64.wrap (-(n + 1)) = (m : Int) := by rw [IntKind.wrap_i64]; omega
    have e3 : (m : Int).tmod 6 = ((m % 6 : Nat) : Int) := rfl
    go_enter Try.func18, Try.ntmps18
    go_wp2_with fail
    go_ret
    exact ⟨⟨m % 6, by omega, rfl⟩, rfl⟩
  · have h0 : decide (n < 0) = false := by simpa using h
    obtain ⟨m, rfl⟩ : ∃ m : Nat, n = (m : Int) := ⟨n.toNat, by omega⟩
    go_enter Try.func18, Try.ntmps18
    go_wp2_with fail
    go_ret
    exact ⟨⟨m % 6, by omega, rfl⟩, rfl⟩

end Go.Proofs.Ytmioagkmedcflaa
