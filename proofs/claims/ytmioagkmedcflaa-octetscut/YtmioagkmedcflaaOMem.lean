/- Bytes made and copied; the statements' lent and kept of layer 10. -/
import Derived.Test.YtmioagkmedcflaaOAns
import Derived.Laws.IdiomCopy
namespace Go.Proofs.Ytmioagkmedcflaa
open Go.RowKit
set_option linter.unusedVariables false

theorem made_b (m : Nat) (z : Int) (hz : z = (m : Int)) (hm : m ≤ 281474976710656) (w : World) :
    (Instr.makeSlice 22 (.int .i64 z) (.int .i64 z)).run Try.prog w = .ok (.slice (some ⟨w.heap.size, 0, none⟩) m m) (w.alloc (.cells (madeCells #[.int .u8 0] m) 5)) := by
  obtain ⟨i, hi, hz', hs, hb⟩ := info_parts info_b
  subst hz
  exact run_make_row (P := Try.prog) 22 5 i (.int .u8 0) Try.underlying22 hi hz' hs rfl .i64 .i64 m (by rw [hb]; omega) (by omega) w

/-- 'copy' of n bytes into the head of a row of the call's own. -/
theorem copy_brun (ty : TypeId) (ao : Option Addr) (n c m cm : Nat) (k : Nat → Int) (w : World) (h : BS w ao n k) (hm : n ≤ m) (hcm : m ≤ cm) (b : Nat) (f : Nat → Value) (hr : w.rowIs b 5 cm f) :
    ∃ w', (Builtin.copy_ #[22, 22] ty #[.slice (some ⟨b, 0, none⟩) m cm, .slice ao n c]).run Try.prog w = .ok (.int .i64 (n : Int)) w' ∧
      w'.rowIs b 5 cm (fun j => if j < n then .int .u8 (k j) else f j) ∧ ∀ W, Gw W w → W.heap.size ≤ b → Gw W w' := by
  obtain ⟨i, hi, _, hs, _⟩ := info_parts info_b
  by_cases h0 : n = 0
  · subst h0
    refine ⟨w, ?_, hr.congr fun j hj => by simp, fun W hg _ => hg⟩
    have hl : ∀ (x : Addr), (loadCells x 0).run Try.prog w = .ok #[] w := fun x => by simpa using run_loadCells_list (P := Try.prog) w x [] (by simp)
    cases ao <;> simp [Builtin.copy_, run_underlying Try.underlying22, Builtin.lenOf, Builtin.firstCells, sizeOf, typeInfo, hi, storeCells, hl, goInt]
  · obtain ⟨b', off, rfl, hb', hc⟩ := h.cells (by omega)
    obtain ⟨cur, hcur, hsz, hcc⟩ := hr
    have hlen : ((List.range n).map (fun j => Value.int .u8 (k j))).length = n := by simp
    have hl := run_loadCells_list (P := Try.prog) w ⟨b', off, none⟩ ((List.range n).map (fun j => Value.int .u8 (k j))) (fun j u hu => by
      have hj : j < n := by
        have := (List.getElem?_eq_some_iff.1 hu).1
        simpa using this
      rw [Addr.add_lit, hc j hj]
      simpa [hj] using hu)
    rw [hlen] at hl
    have hst := run_storeCells_at Try.prog b 0 5 ((List.range n).map (fun j => Value.int .u8 (k j))) 0 cur w hcur (by simp; omega) (fun u hu => by
      obtain ⟨j, _, rfl⟩ := List.mem_map.1 hu
      rfl)
    simp only [Nat.add_zero, List.take_zero, List.nil_append, hlen, Nat.zero_add] at hst
    generalize hX : ((List.range n).map (fun j => Value.int .u8 (k j)) ++ cur.toList.drop n).toArray = X at hst
    have hX' : X.size = cm := by rw [← hX]; simp; omega
    have hXc : ∀ j, j < cm → X[j]? = some (if j < n then .int .u8 (k j) else f j) := by
      intro j hj
      rw [← hX, List.getElem?_toArray]
      by_cases hj' : j < n
      · rw [if_pos hj', List.getElem?_append_left (by rw [hlen]; exact hj')]
        simp [hj']
      · rw [if_neg hj', List.getElem?_append_right (by rw [hlen]; omega), hlen, List.getElem?_drop, show n + (j - n) = j by omega]
        simpa using hcc j hj
    clear hX
    refine ⟨_, ?_, ⟨X, setRow_heap w b cur X 5 (0, 0) hcur, hX', hXc⟩, fun W hg hW => ⟨hg.below.trans ⟨rfl, rfl, rfl, by simp [World.setRow], fun q hq => setRow_other w b q X (by omega)⟩⟩⟩
    have hmin : Nat.min n m = n := Nat.min_eq_left hm
    simp [Builtin.copy_, Builtin.lenOf, Builtin.firstCells, sizeOf, typeInfo, run_underlying Try.underlying22, hi, hs, hmin, hl, goInt, hst]
theorem bs_of_row {w : World} {b m n : Nat} {f : Nat → Int} (h : w.rowIs b 5 m (fun i => .int .u8 (f i))) (hn : n ≤ m) (bd : ∀ i, i < n → 0 ≤ f i ∧ f i < 256) :
    BS w (some ⟨b, 0, none⟩) n f :=
  ⟨fun h0 => ⟨b, 0, rfl, h.lt, fun i hi => by rw [Nat.zero_add, h.cell (by omega)]⟩, bd⟩
theorem BS.congr {w : World} {ao : Option Addr} {n : Nat} {f g : Nat → Int} (h : BS w ao n f) (e : ∀ i, i < n → f i = g i) : BS w ao n g :=
  ⟨fun hn => by
    obtain ⟨b, off, x, hb, hc⟩ := h.cells hn
    exact ⟨b, off, x, hb, fun i hi => by rw [hc i hi, e i hi]⟩, fun i hi => e i hi ▸ h.bd i hi⟩

/-- With marks from place n on. -/
def mk10 (n : Nat) (f : Nat → Int) (i : Nat) : Int := if i < n then f i else 77

set_option maxRecDepth 10000 in
set_option maxHeartbeats 2000000 in
theorem lent10_any (ao : Option Addr) (n c : Nat) (k : Nat → Int) (hn : n ≤ 140737488351232) (w : World) (h : BS w ao n k) :
    Calls Try.prog 9 #[.slice ao n c] w fun e w' => (∃ b, e = .returned (.slice (some ⟨b, 0, none⟩) n (n + 9)) ∧ w.heap.size ≤ b ∧ w'.rowIs b 5 (n + 9) (fun i => .int .u8 (mk10 n k i))) ∧ Gw w w' := by
  have hmk := made_b (n + 9) ((n : Int) + 9) (by omega) (by omega)
  have hR := World.rowIs_made w (.int .u8 0) (n + 9) 5
  have hG := (Gw.refl w).alloc (madeCells #[.int .u8 0] (n + 9)) 5
  have hh := h.gw hG
  go_enter Try.func9, Try.ntmps9
  obtain ⟨b, hb⟩ : ∃ b, b = w.heap.size := ⟨_, rfl⟩
  rw [← hb] at hR
  obtain ⟨w2, hcp, hR2, hG2⟩ := copy_brun 3 ao n c (n + 9) (n + 9) k _ hh (by omega) (Nat.le_refl _) b _ hR
  replace hG2 := hG2 w hG (by omega)
  rw [hb] at hcp
  have RR : Aside (w2.rowIs b 5 (n + 9) (fun j => if j < n then .int .u8 (k j) else .int .u8 0)) := hR2
  have GG : Aside (Gw w w2) := hG2
  have BB : Aside (b = w.heap.size) := hb
  clear hR hR2 hG hG2 hh h hb
  go_wp2_with fail
  rw [← BB.out]
  go_loopg [4] 9 (fun gg s4 wr => ∃ i : Nat, s4 = .int .i64 i ∧ n ≤ i ∧ i ≤ n + 9 ∧ n + 9 - i ≤ gg ∧ Aside (wr.rowIs b 5 (n + 9) (fun j => if j < n then .int .u8 (k j) else if j < i then .int .u8 77 else .int .u8 0)) ∧ Aside (Gw w wr))
  case atStart => exact ⟨n, rfl, Nat.le_refl _, by omega, by omega, (show Aside _ from RR.out.congr fun j hj => by by_cases q : j < n <;> simp [q]), GG⟩
  case round =>
    obtain ⟨i, rfl, h0, h1, h2, R, G⟩ := hrel
    by_cases hlt : i < n + 9
    · have r0 := R.out.cell (i := i) (by omega)
      have f0 := R.out.frozen i
      have hw : w.heap.size ≤ b := Nat.le_of_eq BB.out.symm
      have h9 : ¬ i < n := by omega
      go_wp2_with fail
      go_roundg (n + 9 - (i + 1))
      case measure => omega
      case rel => exact ⟨i + 1, by go_num, by omega, by omega, Nat.le_refl _, (show Aside _ from (R.out.set i (.int .u8 77)).congr fun j hj => by
        by_cases e : j = i
        · subst e; rw [if_pos rfl, if_neg h9, if_pos (by omega)]
        · rw [if_neg e]
          by_cases q : j < n
          · rw [if_pos q, if_pos q]
          · rw [if_neg q, if_neg q]
            by_cases q2 : j < i
            · rw [if_pos q2, if_pos (by omega)]
            · rw [if_neg q2, if_neg (by omega)]), (show Aside _ from G.out.setCell (by simpa using hw) _)⟩
    · have e : i = n + 9 := by omega
      subst e
      go_wp2_with fail
      go_ret
      refine ⟨⟨b, rfl, Nat.le_of_eq BB.out.symm, ?_⟩, G.out⟩
      refine R.out.congr fun j hj => ?_
      by_cases q : j < n
      · simp [q, mk10]
      · rw [if_neg q, if_pos hj]; simp [mk10, q]

set_option maxRecDepth 10000 in
set_option maxHeartbeats 4000000 in
theorem kept10_any (ao : Option Addr) (b n c : Nat) (k : Nat → Int) (hn : n ≤ 140737488351232) (w : World) (h : BS w ao n k) (hR : w.rowIs b 5 (n + 9) (fun i => .int .u8 (mk10 n k i))) :
    Calls Try.prog 12 #[.slice (some ⟨b, 0, none⟩) n (n + 9), .slice ao n c] w fun e w' => e = .returned (.bool true) ∧ Gw w w' := by
  have RR : Aside (w.rowIs b 5 (n + 9) (fun i => .int .u8 (mk10 n k i))) := hR
  have HK : Aside (BS w ao n k) := h
  clear hR h
  go_enter Try.func12, Try.ntmps12
  go_wp2_with fail
  go_loopg [5] (n + 9) (fun gg s5 wr => ∃ i : Nat, s5 = .int .i64 i ∧ i ≤ n + 9 ∧ n + 9 - i ≤ gg ∧ Aside (Gw w wr))
  case atStart => exact ⟨0, rfl, Nat.zero_le _, by omega, by first | exact Gw.refl w | exact (Gw.refl w).drew | exact (Gw.refl w).drewN _⟩
  case round =>
    obtain ⟨i, rfl, h1, h2, G⟩ := hrel
    by_cases hlt : i < n + 9
    · have R := rowIs_gb RR.out G.out
      by_cases hin : i < n
      · obtain ⟨b', off, rfl, hb', hc⟩ := (HK.out.gw G.out).cells (by omega)
        have c1 := hc i hin
        have d1 : wr.cell? ⟨b, i, none⟩ = some (.int .u8 (k i)) := by rw [R.cell (by omega)]; simp [mk10, hin]
        have t1 : ¬ n ≤ i := by omega
        have t2 : decide (n ≤ i) = false := by simpa using t1
        clear hc R
        generalize k i = k1 at c1 d1
        go_wp2_with fail
        go_quiet (fail)
        go_wp2_with fail
        go_roundg (n + 9 - (i + 1))
        case measure => omega
        case rel => exact ⟨i + 1, by go_num, by omega, Nat.le_refl _, (show Aside _ from G.out.drewN _)⟩
      · have d1 : wr.cell? ⟨b, i, none⟩ = some (.int .u8 77) := by rw [R.cell (by omega)]; simp [mk10, hin]
        have t1 : n ≤ i := by omega
        have t2 : decide (n ≤ i) = true := by simpa using t1
        have t3 : decide (i < n) = false := by simpa using hin
        clear R
        go_wp2_with fail
        go_quiet (fail)
        go_wp2_with fail
        go_roundg (n + 9 - (i + 1))
        case measure => omega
        case rel => exact ⟨i + 1, by go_num, by omega, Nat.le_refl _, (show Aside _ from G.out.drewN _)⟩
    · have e : i = n + 9 := by omega
      subst e
      go_wp2_with fail
      go_ret
      exact ⟨rfl, G.out⟩

end Go.Proofs.Ytmioagkmedcflaa
