/- KeysTells returns true for every list of entries. -/
import Derived.Test.YtmnpbagpfpcjpaaLChecks
import Derived.Test.YtmnpbagpfpcjpaaKRef
import Derived.Test.YtmnpbagpfpcjpaaKApp
namespace Go.Proofs.Ytmnpbagpfpcjpaa
open Go.RowKit
set_option linter.unusedVariables false

/-- All but one block are as they were. -/
structure Oth (B : Nat) (w w' : World) : Prop where
  size : w'.heap.size = w.heap.size
  block : ∀ q, q ≠ B → w'.heap[q]? = w.heap[q]?

theorem Oth.refl (B : Nat) (w : World) : Oth B w w := ⟨rfl, fun _ _ => rfl⟩
theorem Oth.set {B : Nat} {w w' : World} (h : Oth B w w') (o : Nat) (v : Value) : Oth B w (w'.setCell ⟨B, o, none⟩ v) :=
  ⟨(by simpa [World.setCell] using h.size), fun q hq => (Go.Deep.blk_setCell_other _ _ _ _ hq).trans (h.block q hq)⟩
theorem Oth.cell {B : Nat} {w w' : World} (h : Oth B w w') {b o : Nat} (hb : b ≠ B) : w'.cell? ⟨b, o, none⟩ = w.cell? ⟨b, o, none⟩ := World.cell?_of_block (w := w) (a := ⟨b, o, none⟩) (h.block b hb)
theorem Oth.ks {B : Nat} {w w' : World} (h : Oth B w w') {b n : Nat} {f : Nat → Int} (hb : b ≠ B) (k : KS w (some ⟨b, 0, none⟩) n f) : KS w' (some ⟨b, 0, none⟩) n f :=
  ⟨fun hn => by
    obtain ⟨b', off, e, hlt, hc⟩ := k.cells hn
    cases e
    exact ⟨b, 0, rfl, by rw [h.size]; exact hlt, fun i hi => (h.cell hb).trans (hc i hi)⟩, k.bd⟩

theorem own_of_row {w : World} {base b e n : Nat} {f : Nat → Value} (h : w.rowIs b e n f) (hb : base ≤ b) (hm : n ≤ maxLen) : w.ownsRow base e 1 (.slice (some ⟨b, 0, none⟩) n n) n ((List.range n).map f) := by
  obtain ⟨cur, hh, hs, hc⟩ := h
  refine ⟨by simp, .inr ⟨b, n, cur, rfl, hb, hh, Nat.le_refl _, hm, by omega, ?_⟩⟩
  apply List.ext_getElem?
  intro j
  by_cases hj : j < n
  · have := hc j hj
    simp only [Nat.mul_one, List.getElem?_take, hj, if_true, List.getElem?_map, List.getElem?_range hj, Option.map_some]
    simpa using this
  · rw [List.getElem?_eq_none (by simp; omega), List.getElem?_eq_none (by simp; omega)]

theorem new_two (w : World) (x y : Int) : ∀ j u, [Value.int .u64 x, Value.int .u64 y][j]? = some u → (w.alloc (.cells #[.int .u64 x, .int .u64 y] 33)).cell? ((⟨w.heap.size, 0, none⟩ : Addr).add j) = some u := by
  intro j u hu
  have hj : j = 0 ∨ j = 1 := by
    have := (List.getElem?_eq_some_iff.1 hu).1
    simp at this
    omega
  rcases hj with rfl | rfl
  · simp only [List.getElem?_cons_zero, Option.some.injEq] at hu
    subst hu
    simp [Addr.add, go_sem]
  · simp only [List.getElem?_cons_succ, List.getElem?_cons_zero, Option.some.injEq] at hu
    subst hu
    simp [Addr.add, go_sem]

set_option maxHeartbeats 4000000 in
theorem tells_walk (ao : Option Addr) (n c : Nat) (k v : Nat → Int) (g : Nat → Bool) (hn : n * 24 ≤ 140737488351232) (w : World) (h : ES w ao n k v g) :
    Calls Try.prog 4 #[.slice ao n c] w fun e w' => e = .returned (.bool true) ∧ Gb w w' := by
  obtain ⟨ii, hii, hz, hs, hby⟩ := info_parts info_k
  have kb : ∀ i, i < n → 0 ≤ k i ∧ k i < 18446744073709551616 := fun i hi => (h.bd i hi).1
  go_enter Try.func4, Try.ntmps4
  go_wp2_with fail
  refine (shown_any _).mono ?_
  rintro e w1 ⟨rfl, g1⟩
  go_wp2_with fail
  refine (lent_any ao n c k v g hn _ (h.gb g1)).mono ?_
  rintro e w2 ⟨⟨B, rfl, hB, hR⟩, g2⟩
  have R : Hid (w2.rowIs B 35 ((n + 1) * 3) (ecell (mk n k) (mk n v) (mg n g))) := hR
  have hB2 : B < w2.heap.size := hR.lt
  clear hR
  go_wp2_with fail
  refine (rof_any ao n c k v g (by omega) _ (h.gb (g1.trans g2))).mono ?_
  rintro e w3 ⟨⟨W, wc, rfl, hW, hO⟩, g3⟩
  have KW : Hid (KS w3 (some ⟨W, 0, none⟩) n k) := ks_of_own hO kb
  have hW3 : W < w3.heap.size := (hO.lt W rfl).2
  clear hO
  have R3 : Hid (w3.rowIs B 35 ((n + 1) * 3) (ecell (mk n k) (mk n v) (mg n g))) := rowIs_gb R.out g3
  have G3 : Hid (Gb w w3) := (g1.trans g2).trans g3
  have hB3 : B < w3.heap.size := Nat.lt_of_lt_of_le hB2 g3.size
  have hBw : w.heap.size ≤ B := Nat.le_trans g1.size hB
  have hWB : W ≠ B := by omega
  have H3 : Hid (ES w3 ao n k v g) := h.gb G3.out
  clear R g1 g2 g3 h
  go_wp2_with fail
  refine (of_any _ n (n + 1) k v g (by omega) _ (es_lent R3.out H3.out.bd)).mono ?_
  rintro e w4 ⟨⟨A, rfl, hA, hRA⟩, g4⟩
  have RA : Aside (w4.rowIs A 33 n (fun i => .int .u64 (k i))) := hRA
  have G4 : Aside (Gb w3 w4) := g4
  have GH : Hid (Gb w3 w4) := g4
  clear hRA g4
  go_wp2_with fail
  refine (same_any _ _ n n wc k k (by omega) _ (ks_of_row RA.out (Nat.le_refl _) kb) (KW.out.gb G4.out) (fun _ _ => rfl)).mono ?_
  rintro e w5 ⟨rfl, g5⟩
  have RA5 : Aside (w5.rowIs A 33 n (fun i => .int .u64 (k i))) := rowIs_gb RA.out g5
  have G5 : Aside (Gb w3 w5) := G4.out.trans g5
  clear RA G4 GH g5
  go_wp2_with fail
  go_loopg [7] n (fun gg s7 wr => ∃ i : Nat, s7 = .int .i64 i ∧ i ≤ n ∧ n - i ≤ gg ∧ Aside (wr.rowIs A 33 n (fun j => .int .u64 (if j < i then 99 else k j))) ∧ Aside (Gb w3 wr))
  case atStart => exact ⟨0, rfl, Nat.zero_le _, by omega, (show Aside _ from RA5.out.congr fun j hj => by simp), G5⟩
  case round =>
    obtain ⟨i, rfl, h1, h2, RR, G⟩ := hrel
    by_cases hlt : i < n
    · have r1 := RR.out.cell hlt
      have r2 := RR.out.frozen i
      go_wp2_with fail
      go_roundg (n - (i + 1))
      case measure => omega
      case rel =>
        refine ⟨i + 1, by go_num, by omega, Nat.le_refl _, (show Aside _ from ((RR.out.set i (.int .u64 99)).congr fun j hj => ?_)), (show Aside _ from G.out.setCell hA _)⟩
        by_cases e : j = i
        · subst e; rw [if_pos rfl, if_pos (by omega)]
        · rw [if_neg e]
          by_cases q : j < i
          · rw [if_pos q, if_pos (by omega)]
          · rw [if_neg q, if_neg (by omega)]
    · obtain rfl : i = n := by omega
      have RO : Hid (wr.ownsRow w3.heap.size 33 1 (.slice (some ⟨A, 0, none⟩) i i) i ((List.range i).map fun j => Value.int .u64 (if j < i then 99 else k j))) := own_of_row RR.out hA (by simp only [maxLen]; omega)
      have G' : Hid (Gb w3 wr) := G.out
      have hz3 := G.out.size
      clear RR G RA5 G5
      go_wp2_with (at_builtin; refine wpList_append_own _ rfl _ _ 30 rfl w3.heap.size 33 ii (.int .u64 0) 1 8 Try.underlying30 hii hz hs hby rfl (by decide) _ i _ rfl (RO.out.alloc _) ⟨wr.heap.size, 0, none⟩ 2 2 [.int .u64 98, .int .u64 98] rfl rfl (new_two wr 98 98) (ints_oneCell .u64 [98, 98]) (by simp only [maxLen]; omega) (by omega) (by simp; omega) ?_)
      intro v' w6 q1 q2 q3
      obtain ⟨M, cap, rfl, hM, hcap, hM6⟩ := own_slice q1 q3
      have G6 : Hid (Gb w3 w6) := (G'.out.alloc _ _).grown q2 (fun q hq => by cases hq; exact hA)
      have m6 : w6.cell? ⟨M, i, none⟩ = some (.int .u64 98) := by
        rw [q1.cellAt i (by omega), List.getElem?_append_right (by simp)]
        simp
      have M6 : Hid (w6.cell? ⟨M, i, none⟩ = some (.int .u64 98)) := m6
      clear q1 q2 q3 m6 RO G'
      go_wp2_with fail
      refine (of_any _ i (i + 1) k v g (by omega) _ ((es_lent R3.out H3.out.bd).gb G6.out)).mono ?_
      rintro e w7 ⟨⟨A2, rfl, hA2, hRA⟩, g7⟩
      have RA : Hid (w7.rowIs A2 33 i (fun j => .int .u64 (k j))) := hRA
      have G7 : Hid (Gb w3 w7) := G6.out.trans g7
      have M7 : Hid (w7.cell? ⟨M, i, none⟩ = some (.int .u64 98)) := (g7.cell M i hM6).trans M6.out
      have hM7 : M < w7.heap.size := Nat.lt_of_lt_of_le hM6 g7.size
      have h36 := G6.out.size
      clear hRA M6 g7
      go_wp2_with fail
      refine (still_any ao B i c k v g hn _ (H3.out.gb G7.out) (rowIs_gb R3.out G7.out)).mono ?_
      rintro e w8 ⟨rfl, g8⟩
      have RA8 : Hid (w8.rowIs A2 33 i (fun j => .int .u64 (k j))) := rowIs_gb RA.out g8
      have G8 : Hid (Gb w3 w8) := G7.out.trans g8
      have M8 : Hid (w8.cell? ⟨M, i, none⟩ = some (.int .u64 98)) := (g8.cell M i hM7).trans M7.out
      have hM8 : M < w8.heap.size := Nat.lt_of_lt_of_le hM7 g8.size
      clear RA M7 g8 G7
      go_wp2_with fail
      refine (same_any _ _ i i wc k k (by omega) _ (ks_of_row RA8.out (Nat.le_refl _) kb) (KW.out.gb G8.out) (fun _ _ => rfl)).mono ?_
      rintro e w9 ⟨rfl, g9⟩
      have KB : Aside (KS w9 (some ⟨A2, 0, none⟩) i k) := ks_of_row (rowIs_gb RA8.out g9) (Nat.le_refl _) kb
      have KW9 : Aside (KS w9 (some ⟨W, 0, none⟩) i k) := (KW.out.gb G8.out).gb g9
      have RB : Aside (w9.rowIs B 35 ((i + 1) * 3) (ecell (mk i k) (mk i v) (mg i g))) := rowIs_gb R3.out (G8.out.trans g9)
      have G9 : Aside (Gb w w9) := G3.out.trans (G8.out.trans g9)
      have hM9 : M < w9.heap.size := Nat.lt_of_lt_of_le hM8 g9.size
      have M9 : Aside (w9.cell? ⟨M, i, none⟩ = some (.int .u64 98)) := (g9.cell M i hM8).trans M8.out
      clear RA8 M8 g9 G8 KW R3 H3
      go_wp2_with fail
      have hMB : M ≠ B := by omega
      have hAB : A2 ≠ B := by omega
      clear hii hz hs hby
      go_loopg [11] i (fun gg s11 wq => ∃ j : Nat, s11 = .int .i64 j ∧ j ≤ i ∧ i - j ≤ gg ∧ Aside (∃ f, wq.rowIs B 35 ((i + 1) * 3) f) ∧ Aside (Oth B w9 wq) ∧ Aside (Gb w wq))
      case atStart => exact ⟨0, rfl, Nat.zero_le _, by omega, (show Aside _ from ⟨_, RB.out⟩), (show Aside _ from Oth.refl B w9), G9⟩
      case round =>
        obtain ⟨j, rfl, h1, h2, RR, OO, G⟩ := hrel
        by_cases hlt : j < i
        · obtain ⟨f, hf⟩ := RR.out
          have r1 := hf.cell (i := j * 3) (by omega)
          have r2 := hf.cell (i := j * 3 + 1) (by omega)
          have r3 := hf.cell (i := j * 3 + 2) (by omega)
          have r4 := hf.frozen (j * 3)
          have r5 := hf.frozen (j * 3 + 1)
          have r6 := hf.frozen (j * 3 + 2)
          have F : Aside (wr.rowIs B 35 ((i + 1) * 3) f) := hf
          clear hf RR
          go_wp2_with fail
          go_roundg (i - (j + 1))
          case measure => omega
          case rel =>
            exact ⟨j + 1, by go_num, by omega, Nat.le_refl _, (show Aside _ from ⟨_, ((F.out.set _ _).set _ _).set _ _⟩), (show Aside _ from ((OO.out.set _ _).set _ _).set _ _), (show Aside _ from ((G.out.setCell hBw _).setCell hBw _).setCell hBw _)⟩
        · have m9 := (OO.out.cell hMB).trans M9.out
          have hMr : M < wr.heap.size := by rw [OO.out.size]; exact hM9
          have KB' : Hid (KS wr (some ⟨A2, 0, none⟩) i k) := OO.out.ks hAB KB.out
          have KW' : Hid (KS wr (some ⟨W, 0, none⟩) i k) := OO.out.ks hWB KW9.out
          have G' : Hid (Gb w wr) := G.out
          clear RR OO G KB KW9 M9 G9
          go_wp2_with fail
          refine (same_any _ _ i i wc k k (by omega) _ KB'.out KW'.out (fun _ _ => rfl)).mono ?_
          rintro e w10 ⟨rfl, g10⟩
          have m10 := (g10.cell M i hMr).trans m9
          clear m9
          go_wp2_with fail
          go_ret
          exact ⟨by simp, G'.out.trans g10⟩

end Go.Proofs.Ytmnpbagpfpcjpaa
