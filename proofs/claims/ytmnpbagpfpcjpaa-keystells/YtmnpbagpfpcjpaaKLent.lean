/- The statements' own copy of a list of entries, with a mark behind it, and that it is as it was. -/
import Derived.Test.YtmnpbagpfpcjpaaKMake
namespace Go.Proofs.Ytmnpbagpfpcjpaa
open Go.RowKit
set_option linter.unusedVariables false

/-- With the mark at place n. -/
def mk (n : Nat) (k : Nat → Int) (i : Nat) : Int := if i < n then k i else 77
def mg (n : Nat) (g : Nat → Bool) (i : Nat) : Bool := if i < n then g i else true

theorem made_e (n : Nat) (hn : n * 24 ≤ 140737488351232) (w : World) :
    (Instr.makeSlice 22 (.int .i64 ((n : Int) + 1)) (.int .i64 ((n : Int) + 1))).run Try.prog w = .ok (.slice (some ⟨w.heap.size, 0, none⟩) (n + 1) (n + 1)) (w.alloc (.cells (madeCells #[.int .u64 0, .int .u64 0, .bool false] ((n + 1) * 3)) 35)) := by
  obtain ⟨i, hi, hz, hs, hb⟩ := info_parts info_e
  have hr := run_make (P := Try.prog) w 22 35 i _ Try.underlying22 hi hz .i64 .i64 ((n : Int) + 1) ((n : Int) + 1) (by omega) (Int.le_refl _) (by rw [hb]; omega) (by omega)
  rw [hr, hs]
  have e1 : ((n : Int) + 1).toNat = n + 1 := by omega
  rw [e1]
  rfl

theorem made_row (w : World) (m : Nat) : ∃ f, (w.alloc (.cells (madeCells #[.int .u64 0, .int .u64 0, .bool false] (m * 3)) 35)).rowIs w.heap.size 35 (m * 3) f := by
  refine ⟨fun i => (madeCells #[.int .u64 0, .int .u64 0, .bool false] (m * 3))[i]!, ?_⟩
  have := World.rowIs_alloc w (madeCells #[.int .u64 0, .int .u64 0, .bool false] (m * 3)) 35 (fun i => (madeCells #[.int .u64 0, .int .u64 0, .bool false] (m * 3))[i]!) (fun i hi => by simp [hi])
  rw [size_madeCells] at this
  exact this

set_option maxHeartbeats 1000000 in
theorem lent_any (ao : Option Addr) (n c : Nat) (k v : Nat → Int) (g : Nat → Bool) (hn : n * 24 ≤ 140737488351232) (w : World) (h : ES w ao n k v g) :
    Calls Try.prog 9 #[.slice ao n c] w fun e w' => (∃ b, e = .returned (.slice (some ⟨b, 0, none⟩) n (n + 1)) ∧ w.heap.size ≤ b ∧ w'.rowIs b 35 ((n + 1) * 3) (ecell (mk n k) (mk n v) (mg n g))) ∧ Gb w w' := by
  have hmk := made_e n hn
  obtain ⟨f, hR⟩ := made_row w (n + 1)
  have hG := (Gb.refl w).alloc (madeCells #[.int .u64 0, .int .u64 0, .bool false] ((n + 1) * 3)) 35
  have hh := h.gb hG
  go_enter Try.func9, Try.ntmps9
  obtain ⟨b, hb⟩ : ∃ b, b = w.heap.size := ⟨_, rfl⟩
  rw [← hb] at hR
  obtain ⟨w2, hcp, hR2, hG2⟩ := copy_run 3 ao n c (n + 1) k v g _ hh (by omega) b f hR
  replace hG2 := hG2 w hG (by omega)
  rw [hb] at hcp
  have r0 := hR2.cell (i := n * 3) (by omega)
  have r1 := hR2.cell (i := n * 3 + 1) (by omega)
  have r2 := hR2.cell (i := n * 3 + 2) (by omega)
  have f0 := hR2.frozen (n * 3)
  have f1 := hR2.frozen (n * 3 + 1)
  have f2 := hR2.frozen (n * 3 + 2)
  have RR : Aside (w2.rowIs b 35 ((n + 1) * 3) (fun j => if j < n * 3 then ecell k v g j else f j)) := hR2
  have GG : Aside (Gb w w2) := hG2
  have BB : Aside (b = w.heap.size) := hb
  rw [hb] at r0 r1 r2 f0 f1 f2
  clear hR hR2 hG hG2 hh h hb
  go_wp2_with fail
  go_ret
  have hb := BB.out
  refine ⟨⟨b, by rw [hb]; rfl, by omega, ?_⟩, ((GG.out.setCell (by simp) _).setCell (by simp) _).setCell (by simp) _⟩
  have hrow := ((RR.out.set (n * 3) (.int .u64 77)).set (n * 3 + 1) (.int .u64 77)).set (n * 3 + 2) (.bool true)
  rw [hb] at hrow ⊢
  refine hrow.congr fun j hj => ?_
  by_cases q : j < n * 3
  · rw [if_neg (by omega), if_neg (by omega), if_neg (by omega), if_pos q]
    exact ecell_congr (n := n) (fun i hi => by simp [mk, mg, hi]) j q
  · have e : j = n * 3 ∨ j = n * 3 + 1 ∨ j = n * 3 + 2 := by omega
    rcases e with rfl | rfl | rfl
    · rw [if_neg (by omega), if_neg (by omega), if_pos rfl, ecell_0]; simp [mk]
    · rw [if_neg (by omega), if_pos rfl, ecell_1]; simp [mk]
    · rw [if_pos rfl, ecell_2]; simp [mg]

set_option maxHeartbeats 1000000 in
theorem still_any (ao : Option Addr) (b n c : Nat) (k v : Nat → Int) (g : Nat → Bool) (hn : n * 24 ≤ 140737488351232) (w : World) (h : ES w ao n k v g) (hR : w.rowIs b 35 ((n + 1) * 3) (ecell (mk n k) (mk n v) (mg n g))) :
    Calls Try.prog 12 #[.slice (some ⟨b, 0, none⟩) n (n + 1), .slice ao n c] w fun e w' => e = .returned (.bool true) ∧ Gb w w' := by
  have r0 : w.cell? ⟨b, n * 3, none⟩ = some (.int .u64 77) := by rw [hR.cell (by omega), ecell_0]; simp [mk]
  have r1 : w.cell? ⟨b, n * 3 + 1, none⟩ = some (.int .u64 77) := by rw [hR.cell (by omega), ecell_1]; simp [mk]
  have r2 : w.cell? ⟨b, n * 3 + 2, none⟩ = some (.bool true) := by rw [hR.cell (by omega), ecell_2]; simp [mg]
  have RR : Aside (w.rowIs b 35 ((n + 1) * 3) (ecell (mk n k) (mk n v) (mg n g))) := hR
  clear hR
  go_enter Try.func12, Try.ntmps12
  go_wp2_with fail
  clear r0 r1 r2
  go_loopg [5] n (fun gg s5 wr => ∃ i : Nat, s5 = .int .i64 i ∧ i ≤ n ∧ n - i ≤ gg ∧ Aside (Gb w wr))
  case atStart => exact ⟨0, rfl, Nat.zero_le _, by omega, by first | exact Gb.refl w | exact (Gb.refl w).drew | exact (Gb.refl w).drewN _⟩
  case round =>
    obtain ⟨i, rfl, h1, h2, G⟩ := hrel
    by_cases hlt : i < n
    · obtain ⟨b', off, rfl, hb', hc⟩ := (h.gb G.out).cells (by omega)
      obtain ⟨c1, c2, c3⟩ := hc i hlt
      have R := rowIs_gb RR.out G.out
      have d1 : wr.cell? ⟨b, i * 3, none⟩ = some (.int .u64 (k i)) := by rw [R.cell (by omega), ecell_0]; simp [mk, hlt]
      have d2 : wr.cell? ⟨b, i * 3 + 1, none⟩ = some (.int .u64 (v i)) := by rw [R.cell (by omega), ecell_1]; simp [mk, hlt]
      have d3 : wr.cell? ⟨b, i * 3 + 2, none⟩ = some (.bool (g i)) := by rw [R.cell (by omega), ecell_2]; simp [mg, hlt]
      clear hc h R RR
      generalize k i = k1 at c1 d1
      generalize v i = v1 at c2 d2
      generalize g i = g1 at c3 d3
      go_wp2_with fail
      go_quiet (fail)
      go_wp2_with fail
      go_roundg (n - (i + 1))
      case measure => omega
      case rel => exact ⟨i + 1, by go_num, by omega, Nat.le_refl _, (show Aside _ from G.out.drewN _)⟩
    · go_wp2_with fail
      go_ret
      exact ⟨rfl, G.out⟩

end Go.Proofs.Ytmnpbagpfpcjpaa
