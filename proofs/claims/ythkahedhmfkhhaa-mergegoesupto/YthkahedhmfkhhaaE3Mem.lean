/- Lists of entries and of keys in memory of the call's own: laid, copied, written. -/
import Derived.Test.YthkahedhmfkhhaaE3Base
import Derived.Deep.OwnRows
import Derived.Laws.CopyRow
import Derived.Laws.IdiomCopy
import Derived.OwnWalk
namespace Go.Proofs.Ythkahedhmfkhhaa
open Go.RowKit
set_option linter.unusedVariables false

/-- Cell j of a row of entries. -/
def ecell (k v : Nat → Int) (g : Nat → Bool) (j : Nat) : Value :=
  if j % 3 = 0 then .int .u64 (k (j / 3)) else if j % 3 = 1 then .int .u64 (v (j / 3)) else .bool (g (j / 3))

theorem ecell_0 (k v : Nat → Int) (g : Nat → Bool) (i : Nat) : ecell k v g (i * 3) = .int .u64 (k i) := by
  unfold ecell; rw [if_pos (by omega), show i * 3 / 3 = i by omega]
theorem ecell_1 (k v : Nat → Int) (g : Nat → Bool) (i : Nat) : ecell k v g (i * 3 + 1) = .int .u64 (v i) := by
  unfold ecell; rw [if_neg (by omega), if_pos (by omega), show (i * 3 + 1) / 3 = i by omega]
theorem ecell_2 (k v : Nat → Int) (g : Nat → Bool) (i : Nat) : ecell k v g (i * 3 + 2) = .bool (g i) := by
  unfold ecell; rw [if_neg (by omega), if_neg (by omega), show (i * 3 + 2) / 3 = i by omega]
theorem ecell_one (k v : Nat → Int) (g : Nat → Bool) (j : Nat) : (ecell k v g j).oneCell' = true := by
  unfold ecell; split
  · rfl
  · split <;> rfl
theorem ecell_congr {k v k' v' : Nat → Int} {g g' : Nat → Bool} {n : Nat} (q : ∀ i, i < n → k i = k' i ∧ v i = v' i ∧ g i = g' i) (j : Nat) (hj : j < n * 3) : ecell k v g j = ecell k' v' g' j := by
  obtain ⟨a, b, c⟩ := q (j / 3) (by omega)
  unfold ecell; rw [a, b, c]

theorem es_of_row {w : World} {b m n : Nat} {k v : Nat → Int} {g : Nat → Bool} (h : w.rowIs b 32 (m * 3) (ecell k v g)) (hn : n ≤ m) (bd : ∀ i, i < n → (0 ≤ k i ∧ k i < 18446744073709551616) ∧ (0 ≤ v i ∧ v i < 18446744073709551616)) :
    ES w (some ⟨b, 0, none⟩) n k v g :=
  ⟨fun h0 => ⟨b, 0, rfl, h.lt, fun i hi => by
    refine ⟨?_, ?_, ?_⟩
    · rw [show 0 + i * 3 = i * 3 by omega, h.cell (by omega), ecell_0]
    · rw [show 0 + i * 3 + 1 = i * 3 + 1 by omega, h.cell (by omega), ecell_1]
    · rw [show 0 + i * 3 + 2 = i * 3 + 2 by omega, h.cell (by omega), ecell_2]⟩, bd⟩

/-- The cells of a list of entries, one behind the other. -/
theorem ES.flat {w : World} {ao : Option Addr} {n : Nat} {k v : Nat → Int} {g : Nat → Bool} (h : ES w ao n k v g) (hn : 0 < n) : ∃ b off, ao = some ⟨b, off, none⟩ ∧ b < w.heap.size ∧ ∀ j, j < n * 3 → w.cell? ⟨b, off + j, none⟩ = some (ecell k v g j) := by
  obtain ⟨b, off, e, hb, hc⟩ := h.cells hn
  refine ⟨b, off, e, hb, fun j hj => ?_⟩
  obtain ⟨c0, c1, c2⟩ := hc (j / 3) (by omega)
  unfold ecell
  by_cases h0 : j % 3 = 0
  · rw [if_pos h0, ← c0]; congr 2; omega
  · rw [if_neg h0]
    by_cases h1 : j % 3 = 1
    · rw [if_pos h1, ← c1]; congr 2; omega
    · rw [if_neg h1, ← c2]; congr 2; omega

theorem info_e : (Try.prog.info? 32).map (fun i => (i.zero, i.size, i.bytes)) = some (some (.agg #[.int .u64 0, .int .u64 0, .bool false]), 3, 24) := by kernel_rfl
/-- 'copy' of n entries into the head of a row of the call's own. -/
theorem copy_run (ty : TypeId) (ao : Option Addr) (n c m : Nat) (k v : Nat → Int) (g : Nat → Bool) (w : World) (h : ES w ao n k v g) (hm : n ≤ m) (b : Nat) (f : Nat → Value) (hr : w.rowIs b 32 (m * 3) f) :
    ∃ w', (Builtin.copy_ #[24, 24] ty #[.slice (some ⟨b, 0, none⟩) m m, .slice ao n c]).run Try.prog w = .ok (.int .i64 (n : Int)) w' ∧
      w'.rowIs b 32 (m * 3) (fun j => if j < n * 3 then ecell k v g j else f j) ∧ ∀ W, Gw W w → W.heap.size ≤ b → Gw W w' := by
  obtain ⟨i, hi, _, hs, _⟩ := info_parts info_e
  by_cases h0 : n = 0
  · subst h0
    refine ⟨w, ?_, hr.congr fun j hj => by simp, fun W hg _ => hg⟩
    have hl : ∀ (x : Addr), (loadCells x 0).run Try.prog w = .ok #[] w := fun x => by simpa using run_loadCells_list (P := Try.prog) w x [] (by simp)
    cases ao <;> simp [Builtin.copy_, run_underlying Try.underlying24, Builtin.lenOf, Builtin.firstCells, sizeOf, typeInfo, hi, storeCells, hl, goInt]
  · obtain ⟨b', off, rfl, hb', hc⟩ := h.flat (by omega)
    obtain ⟨cur, hcur, hsz, hcc⟩ := hr
    have hlen : ((List.range (n * 3)).map (ecell k v g)).length = n * 3 := by simp
    have hl := run_loadCells_list (P := Try.prog) w ⟨b', off, none⟩ ((List.range (n * 3)).map (ecell k v g)) (fun j u hu => by
      have hj : j < n * 3 := by
        have := (List.getElem?_eq_some_iff.1 hu).1
        simpa using this
      rw [Addr.add_lit, hc j hj]
      simpa [hj] using hu)
    rw [hlen] at hl
    have hst := run_storeCells_at Try.prog b 0 32 ((List.range (n * 3)).map (ecell k v g)) 0 cur w hcur (by simp; omega) (fun u hu => by
      obtain ⟨j, _, rfl⟩ := List.mem_map.1 hu
      exact ecell_one k v g j)
    simp only [Nat.add_zero, List.take_zero, List.nil_append, hlen, Nat.zero_add] at hst
    generalize hX : ((List.range (n * 3)).map (ecell k v g) ++ cur.toList.drop (n * 3)).toArray = X at hst
    have hX' : X.size = m * 3 := by rw [← hX]; simp; omega
    have hXc : ∀ j, j < m * 3 → X[j]? = some (if j < n * 3 then ecell k v g j else f j) := by
      intro j hj
      rw [← hX, List.getElem?_toArray]
      by_cases hj' : j < n * 3
      · rw [if_pos hj', List.getElem?_append_left (by rw [hlen]; exact hj')]
        simp [hj']
      · rw [if_neg hj', List.getElem?_append_right (by rw [hlen]; omega), hlen, List.getElem?_drop, show n * 3 + (j - n * 3) = j by omega]
        simpa using hcc j hj
    clear hX
    refine ⟨_, ?_, ⟨X, setRow_heap w b cur X 32 (0, 0) hcur, hX', hXc⟩, fun W hg hW => ⟨hg.below.trans ⟨rfl, rfl, rfl, by simp [World.setRow], fun q hq => setRow_other w b q X (by omega)⟩⟩⟩
    have hmin : Nat.min n m = n := Nat.min_eq_left hm
    simp [Builtin.copy_, Builtin.lenOf, Builtin.firstCells, sizeOf, typeInfo, run_underlying Try.underlying24, hi, hs, hmin, hl, goInt, hst]

end Go.Proofs.Ythkahedhmfkhhaa
