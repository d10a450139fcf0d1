/- Package octets: Put, New, ahead, pass. -/
import Derived.Test.YtmioagkmedcflaaOMem
import Derived.Laws.BytesArg
namespace Go.Proofs.Ytmioagkmedcflaa
open Go.RowKit
set_option linter.unusedVariables false
attribute [local go_sem] f64from f64bits

theorem xleft_any {w : World} {p : Nat} {S : Nat → Prop} {f : Nat → Int} {m : Nat} (h : RRd 61 w p S f m) :
    Calls Try.prog 30 #[.pointer (some ⟨p, 0, none⟩)] w fun e w' => e = .returned (.int .i64 (m : Int)) ∧ w' = w := by
  obtain ⟨bo, c, h1, _⟩ := h.blk
  have c0 := (rd_cell h1).1
  clear h h1
  go_enter Try.func30, Try.ntmps30
  go_wp2_with fail
  go_ret
  exact ⟨rfl, rfl⟩
set_option maxRecDepth 10000 in
set_option maxHeartbeats 2000000 in
theorem xpass_any {w : World} {p : Nat} {S : Nat → Prop} {f : Nat → Int} {m : Nat} (k : Nat) (hm : m ≤ 140737488355000) (km : k ≤ m) (h : RRd 61 w p S f m) :
    Calls Try.prog 33 #[.pointer (some ⟨p, 0, none⟩), .int .i64 (k : Int)] w fun e w' => e = .returned (.tuple #[]) ∧ Rds 61 p S f m k w w' := by
  obtain ⟨bo, c, h1, hb, hc, hp, hS⟩ := h.blk
  obtain ⟨c0, f0⟩ := rd_cell h1
  have pl : p < w.heap.size := (Array.getElem?_eq_some_iff.1 h1).1
  have FIN : Aside (∀ (bo' : Option Addr) (c' : Nat), m - k ≤ c' → (0 < m - k → ∃ b off, bo = some ⟨b, off, none⟩ ∧ bo' = some ⟨b, off + k, none⟩) → (∀ a, bo' = some a → ∃ a', bo = some a' ∧ a.block = a'.block) → Rds 61 p S f m k w (w.setCell ⟨p, 0, none⟩ (.slice bo' (m - k) c'))) := fun bo' c' x1 x2 x3 => ⟨.set _ _ _, RRd.cut (k := k) h1 hb hp hS km x1 x2 x3⟩
  have kc : k ≤ c := by omega
  have ki : (k : Int) ≤ (m : Int) := by omega
  by_cases cj : c = k
  · have mj : m = k := by omega
    subst mj
    subst cj
    have L9 := FIN.out bo 0 (by omega) (fun h => by omega) (fun a e => ⟨a, e, rfl⟩)
    rw [Nat.sub_self] at L9
    have L10 : Aside (Rds 61 p S f c c w (w.setCell ⟨p, 0, none⟩ (.slice bo 0 0))) := L9
    clear h h1 hb hp hS FIN L9
    go_enter Try.func33, Try.ntmps33
    go_wp2_with fail
    go_end0
    exact ⟨rfl, L10.out⟩
  · have cj' : ¬ k = c := fun e => cj e.symm
    have L10 : Aside (Rds 61 p S f m k w (w.setCell ⟨p, 0, none⟩ (.slice (Option.map (fun x => x.add k) bo) (m - k) (c - k)))) := FIN.out _ _ (by omega) (fun h => by
        obtain ⟨b, off, e, _⟩ := hb.cells (by omega)
        exact ⟨b, off, e, by rw [e]; simp [Addr.add_lit]⟩) (fun a e => by
        cases hbo : bo with
        | none => rw [hbo] at e; cases e
        | some a' =>
          rw [hbo] at e
          have e' : a'.add k = a := by simpa using e
          exact ⟨a', rfl, by rw [← e']; unfold Addr.add; split <;> rfl⟩)
    clear h h1 hb hp hS FIN
    go_enter Try.func33, Try.ntmps33
    go_wp2_with fail
    all_goals go_end0
    all_goals exact ⟨rfl, L10.out⟩
set_option maxRecDepth 10000 in
set_option maxHeartbeats 2000000 in
theorem xnew_any (ao : Option Addr) (n cp : Nat) (f : Nat → Int) (hn : n ≤ 140737488355000) (w : World) (h : BS w ao n f) :
    Calls Try.prog 16 #[.slice ao n cp] w fun e w' => (∃ p S, e = .returned (.pointer (some ⟨p, 0, none⟩)) ∧ RRd 61 w' p S f n ∧ ∀ q, S q → w.heap.size ≤ q) ∧ Gw w w' := by
  have hmk := made_b n (n : Int) rfl (by omega)
  have hR := World.rowIs_made w (.int .u8 0) n 5
  have hG := (Gw.refl w).alloc (madeCells #[.int .u8 0] n) 5
  have hh := h.gw hG
  have BD : Aside (∀ i, i < n → 0 ≤ f i ∧ f i < 256) := h.bd
  go_enter Try.func16, Try.ntmps16
  obtain ⟨b, hb⟩ : ∃ b, b = w.heap.size := ⟨_, rfl⟩
  rw [← hb] at hR
  obtain ⟨w2, hcp, hR2, hG2⟩ := copy_brun 3 ao n cp n n f _ hh (Nat.le_refl _) (Nat.le_refl _) b _ hR
  replace hG2 := hG2 w hG (by omega)
  rw [hb] at hcp
  have RES : Aside (∃ S, RRd 61 (w2.alloc (.cells #[.slice (some ⟨b, 0, none⟩) n n] 61)) w2.heap.size S f n ∧ ∀ q, S q → w.heap.size ≤ q) := by
    have R3 : w2.rowIs b 5 n (fun i => .int .u8 (f i)) := hR2.congr fun j hj => by simp [hj]
    have B5 := bs_of_row R3 (Nat.le_refl _) BD.out
    have bl := R3.lt
    refine ⟨fun q => q = w2.heap.size ∨ ∃ a, some (⟨b, 0, none⟩ : Addr) = some a ∧ q = a.block ∧ 0 < n, ⟨_, n, heap_alloc_new w2 _, B5.gw ((Gw.refl w2).alloc _ _), Nat.le_refl _, fun a e => .inl (by cases e; show b ≠ _; omega), fun q => Iff.rfl⟩, ?_⟩
    rintro q (e | ⟨a, e1, e2, _⟩)
    · rw [e]; exact hG2.size
    · cases e1; rw [e2, ← hb]; exact Nat.le_refl _
  have GG : Aside (Gw w w2) := hG2
  have BB : Aside (b = w.heap.size) := hb
  clear hR hR2 hG hG2 hh h hb
  go_wp2_with fail
  go_ret
  obtain ⟨S, r1, r2⟩ := RES.out
  rw [BB.out] at r1
  exact ⟨⟨_, S, rfl, r1, r2⟩, GG.out.alloc _ _⟩
set_option maxRecDepth 10000 in
set_option maxHeartbeats 2000000 in
theorem xput_any (ao : Option Addr) (n cp : Nat) (f : Nat → Int) (x : Int) (x0 : 0 ≤ x) (x1 : x < 18446744073709551616) (hn : n ≤ 140737488355000) (w : World) (h : BS w ao n f) :
    Calls Try.prog 10 #[.slice ao n cp, .int .u64 x] w fun e w' => (∃ b, e = .returned (.slice (some ⟨b, 0, none⟩) (n + 8) (n + 8)) ∧ w.heap.size ≤ b ∧ w'.rowIs b 5 (n + 8) (fun i => .int .u8 (cat f n (fun i => byt x (7 - i)) i))) ∧ Gw w w' := by
  have hmk := made_b (n + 8) ((n : Int) + 8) (by omega) (by omega)
  have hR := World.rowIs_made w (.int .u8 0) (n + 8) 5
  have hG := (Gw.refl w).alloc (madeCells #[.int .u8 0] (n + 8)) 5
  have hh := h.gw hG
  go_enter Try.func10, Try.ntmps10
  obtain ⟨b, hb⟩ : ∃ b, b = w.heap.size := ⟨_, rfl⟩
  rw [← hb] at hR
  obtain ⟨w2, hcp, hR2, hG2⟩ := copy_brun 3 ao n cp (n + 8) (n + 8) f _ hh (by omega) (Nat.le_refl _) b _ hR
  replace hG2 := hG2 w hG (by omega)
  rw [hb] at hcp
  have RR : Aside (w2.rowIs b 5 (n + 8) (fun j => if j < n then .int .u8 (f j) else .int .u8 0)) := hR2
  have GG : Aside (Gw w w2) := hG2
  have BB : Aside (b = w.heap.size) := hb
  clear hR hR2 hG hG2 hh h hb
  go_wp2_with fail
  rw [← BB.out]
  go_loopg [1, 6] 8 (fun gg s1 s6 wr => ∃ (j : Nat), s1 = .int .u64 (x / 256 ^ j) ∧ s6 = .int .i64 ((n : Int) + 7 - (j : Int)) ∧ j ≤ 8 ∧ 8 - j ≤ gg ∧ Aside (wr.rowIs b 5 (n + 8) (fun q => .int .u8 (if q < n then f q else if n + 8 - j ≤ q then byt x (7 - (q - n)) else 0))) ∧ Aside (Gw w wr))
  case atStart => exact ⟨0, by rw [Int.pow_zero, Int.ediv_one], by go_num, Nat.zero_le _, by omega, (show Aside _ from RR.out.congr fun q hq => by
      by_cases c : q < n
      · rw [if_pos c, if_pos c]
      · rw [if_neg c, if_neg c, if_neg (by omega)]), GG⟩
  case round =>
    clear RR GG hmk hcp
    obtain ⟨j, rfl, rfl, a1, a2, RJ, GJ⟩ := hrel
    obtain ⟨wS, hwS⟩ : ∃ wx, wx = wr := ⟨_, rfl⟩
    subst hwS
    by_cases hlt : j < 8
    · obtain ⟨k, hk⟩ : ∃ k : Nat, k = n + 7 - j := ⟨_, rfl⟩
      have ek : (n : Int) + 7 - (j : Int) = (k : Int) := by omega
      have ek2 : (n : Int) + 7 - ((j + 1 : Nat) : Int) = (k : Int) - 1 := by omega
      have k8 : k < n + 8 := by omega
      have kn : n ≤ k := by omega
      have kn' : (n : Int) ≤ (k : Int) := by omega
      obtain ⟨y, hy⟩ : ∃ y, x / 256 ^ j = y := ⟨_, rfl⟩
      have p0 : (0 : Int) < 256 ^ j := Int.pow_pos (by decide)
      have y0 : 0 ≤ y := by rw [← hy]; exact Int.ediv_nonneg x0 (Int.le_of_lt p0)
      have y1 : y < 18446744073709551616 := by
        have : x / 256 ^ j ≤ x := Int.ediv_le_self _ x0
        omega
      have YV : Aside (x / 256 ^ (j + 1) = y / 256) := by
        show x / 256 ^ (j + 1) = y / 256
        rw [Int.pow_succ, ← Int.ediv_ediv_of_nonneg (Int.le_of_lt p0), hy]
      have BV : Aside (byt x (7 - (k - n)) = y % 256) := by
        show byt x (7 - (k - n)) = y % 256
        unfold byt
        rw [show 7 - (k - n) = j by omega, hy]
      have r0 := RJ.out.cell (i := k) k8
      have f0 := RJ.out.frozen k
      have hw : w.heap.size ≤ b := Nat.le_of_eq BB.out.symm
      have KJ : Aside (k = n + 7 - j) := hk
      have EK : Aside ((n : Int) + 7 - ((j + 1 : Nat) : Int) = (k : Int) - 1) := ek2
      rw [ek, hy]
      clear hk hy p0 ek2 ek
      go_wp2_with fail
      go_roundg (8 - (j + 1))
      case measure => omega
      case rel => exact ⟨j + 1, by rw [YV.out], by rw [EK.out], by omega, Nat.le_refl _, (show Aside _ from (RJ.out.set k (.int .u8 (y % 256))).congr fun q hq => by
          have kj := KJ.out
          by_cases e : q = k
          · rw [if_pos e, e, if_neg (by omega), if_pos (by omega), BV.out]
          · rw [if_neg e]
            by_cases c : q < n
            · rw [if_pos c, if_pos c]
            · rw [if_neg c, if_neg c]
              by_cases c2 : n + 8 - j ≤ q
              · rw [if_pos c2, if_pos (by omega)]
              · rw [if_neg c2, if_neg (by omega)]), (show Aside _ from GJ.out.setCell (by simpa using hw) _)⟩
    · have ej : j = 8 := by omega
      subst ej
      go_wp2_with fail
      go_ret
      refine ⟨⟨b, rfl, Nat.le_of_eq BB.out.symm, RJ.out.congr fun q hq => ?_⟩, GJ.out⟩
      unfold cat
      by_cases c : q < n
      · rw [if_pos c, if_pos c]
      · rw [if_neg c, if_neg c, if_pos (by omega)]

end Go.Proofs.Ytmioagkmedcflaa
