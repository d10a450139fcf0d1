/- The document's layer 13: Entries. -/
import Derived.Test.YtnkcnfpbbdlifabGRef
import Derived.Test.YtnkcnfpbbdlifabGEnt
import Derived.Deep.RegionHeld3
import Derived.Test.YtnkcnfpbbdlifabHStep
namespace Go.Proofs.Ytnkcnfpbbdlifab
open Go.RowKit
set_option linter.unusedVariables false

theorem KS.keep {w w' : World} {rb n : Nat} {f : Nat → Int} (h : KS w (some ⟨rb, 0, none⟩) n f) (hb : rb < w'.heap.size) (k : w'.heap[rb]? = w.heap[rb]?) : KS w' (some ⟨rb, 0, none⟩) n f :=
  ⟨fun h0 => by
    obtain ⟨b, off, e, _, hc⟩ := h.cells h0
    cases e
    refine ⟨rb, 0, rfl, hb, fun i hi => ?_⟩
    have := hc i hi
    simp only [World.cell?] at this ⊢
    rw [k]
    exact this, h.bd⟩
/-- Rows of keys of a call's own, beside the row that lists them. -/
structure KI (w : World) (ob : Nat) (vals : List Value) (K : List (List Int)) : Prop where
  len : vals.length = K.length
  row : ∀ i, i < K.length → ∃ rb rc, vals[i]? = some (.slice (some ⟨rb, 0, none⟩) (K.getD i []).length rc) ∧ rb ≠ ob ∧ rb < w.heap.size ∧ KS w (some ⟨rb, 0, none⟩) (K.getD i []).length (fun j => (K.getD i []).getD j 0)
theorem KI.gw {w w' : World} {ob : Nat} {vals : List Value} {K : List (List Int)} (h : KI w ob vals K) (g : Gw w w') : KI w' ob vals K :=
  ⟨h.len, fun i hi => by
    obtain ⟨rb, rc, h1, h2, h3, h4⟩ := h.row i hi
    exact ⟨rb, rc, h1, h2, Nat.lt_of_lt_of_le h3 g.size, h4.gw g⟩⟩
theorem KI.more {w w8 : World} {o : Obj} {ob ob' : Nat} {vals : List Value} {K : List (List Int)} {row : List Int} {rb rc : Nat} (h : KI w ob vals K) (r2 : (w.alloc o).grownBy w8 (some ob)) (o8 : ob' = ob ∨ w.heap.size ≤ ob') (rn : rb ≠ ob) (rl : rb < w.heap.size) (ks : KS w (some ⟨rb, 0, none⟩) row.length (fun j => row.getD j 0)) : KI w8 ob' (vals ++ [.slice (some ⟨rb, 0, none⟩) row.length rc]) (K ++ [row]) := by
  have kp : ∀ q, q < w.heap.size → q ≠ ob → w8.heap[q]? = w.heap[q]? := fun q hq hn => (r2.block q (by simp; omega) (fun e => hn (by cases e; rfl))).trans (heap_alloc_old w _ hq)
  have lt8 : ∀ q, q < w.heap.size → q ≠ ob → q < w8.heap.size := fun q hq hn => by
    have e := kp q hq hn
    rw [Array.getElem?_eq_getElem hq] at e
    exact (Array.getElem?_eq_some_iff.1 e).1
  refine ⟨by rw [List.length_append, List.length_append, h.len]; rfl, fun i hi => ?_⟩
  by_cases e : i < K.length
  · obtain ⟨b, c, h1, h2, h3, h4⟩ := h.row i e
    have eg : (K ++ [row]).getD i [] = K.getD i [] := by
      rw [List.getD_eq_getElem?_getD, List.getElem?_append_left e, ← List.getD_eq_getElem?_getD]
    rw [eg]
    refine ⟨b, c, by rw [List.getElem?_append_left (by rw [h.len]; exact e)]; exact h1, ?_, lt8 b h3 h2, h4.keep (lt8 b h3 h2) (kp b h3 h2)⟩
    rcases o8 with q | q
    · rw [q]; exact h2
    · omega
  · have ei : i = K.length := by
      rw [List.length_append] at hi
      simp at hi
      omega
    subst ei
    have eg : (K ++ [row]).getD K.length [] = row := by simp [List.getD]
    rw [eg]
    refine ⟨rb, rc, by rw [← h.len]; simp, ?_, lt8 rb rl rn, ks.keep (lt8 rb rl rn) (kp rb rl rn)⟩
    rcases o8 with q | q
    · rw [q]; exact rn
    · omega
theorem KI.kv {w : World} {base ob n oc : Nat} {vals : List Value} {K : List (List Int)} (h : KI w ob vals K) (o : w.ownsRow base 29 1 (.slice (some ⟨ob, 0, none⟩) n oc) n vals) (hn : K.length = n) : KV w (some ⟨ob, 0, none⟩) K :=
  ⟨fun h0 => ⟨ob, 0, rfl, (o.lt ob rfl).2, fun i hi => by
    obtain ⟨rb, rc, h1, _, _, h4⟩ := h.row i hi
    refine ⟨some ⟨rb, 0, none⟩, rc, ?_, h4⟩
    rw [Nat.zero_add, World.ownsRow.cellAt o i (by omega)]
    exact h1⟩⟩
theorem sizes_map {α β : Type} (f : α → β) (L : List (List α)) : sizes (L.map (List.map f)) = sizes L := by
  unfold sizes
  rw [List.map_map]
  congr 1
  exact List.map_congr_left fun l _ => by simp
theorem sizes_froms {α : Type} (L : List (List α)) (d : α) : sizes (froms L.length (fun i => (L.getD i []).length) (fun _ => 0)) = sizes L := by
  have := congrArg sizes (froms_map L d)
  rwa [sizes_map] at this
theorem info_ks13 : (Try.prog.info? 29).map (fun i => (i.zero, i.size, i.bytes)) = some (some (.slice none 0 0), 1, 24) := by kernel_rfl
theorem orow13 {w w' : World} {base e size n : Nat} {v : Value} {xs : List Value} (h : w.ownsRow base e size v n xs) (g : Gw w w') : w'.ownsRow base e size v n xs := by
  refine ⟨h.1, ?_⟩
  rcases h.2 with q | ⟨b, cap, cur, rfl, hb, hh, r⟩
  · exact .inl q
  · exact .inr ⟨b, cap, cur, rfl, hb, (g.below.block b (Array.getElem?_eq_some_iff.1 hh).1).trans hh, r⟩
theorem new_v13 (w : World) (x : Value) (t : TypeId) : ∀ j u, [x][j]? = some u → (w.alloc (.cells #[x] t)).cell? ((⟨w.heap.size, 0, none⟩ : Addr).add j) = some u := by
  intro j u hu
  cases j with
  | zero =>
    simp only [List.getElem?_cons_zero, Option.some.injEq] at hu
    subst hu
    simp [Addr.add, go_sem]
  | succ j => simp at hu
/-- The keys of lists of entries. -/
def keysL (L : List (List Ent)) : List (List Int) := L.map (List.map Ent.k)
theorem keysL_len (L : List (List Ent)) : (keysL L).length = L.length := by simp [keysL]
theorem keysL_at (L : List (List Ent)) {i : Nat} (hi : i < L.length) : (keysL L).getD i [] = (L.getD i []).map Ent.k := by simp [keysL, List.getD, hi]
theorem keysL_lenK (L : List (List Ent)) : ∀ i, i < L.length → lenK (keysL L) i = (L.getD i []).length := fun i hi => by unfold lenK; rw [keysL_at L hi]; simp
/-- What is told of the places is told of the things. -/
theorem told_of {L : List (List Ent)} {P : List (Nat × Nat)} (h : Mg (keyP (keysL L)) (froms (keysL L).length (lenK (keysL L)) fun _ => 0) P) : Mg Ent.k L (P.map fun p => (L.getD p.1 []).getD p.2 ent0) := by
  have e1 : froms (keysL L).length (lenK (keysL L)) (fun _ => 0) = froms L.length (fun i => (L.getD i []).length) (fun _ => 0) := by
    unfold froms
    rw [keysL_len]
    refine List.map_congr_left fun i hi => ?_
    unfold frow
    rw [keysL_lenK L i (List.mem_range.1 hi)]
  rw [e1] at h
  have hk : ∀ p : Nat × Nat, p.1 < L.length ∧ p.2 < (L.getD p.1 []).length → ((L.getD p.1 []).getD p.2 ent0).k = keyP (keysL L) p := fun p hp => by
    unfold keyP
    rw [keysL_at L hp.1]
    have h2 := hp.2
    generalize L.getD p.1 [] = l at h2 ⊢
    simp [List.getD, h2]
  have := h.map' (fun p => (L.getD p.1 []).getD p.2 ent0) Ent.k (S := fun p => p.1 < L.length ∧ p.2 < (L.getD p.1 []).length) hk (fun l hl p hp => by
    obtain ⟨i, hi, rfl⟩ := List.mem_map.1 hl
    have hi' := List.mem_range.1 hi
    obtain ⟨j, hj, rfl⟩ := List.mem_map.1 hp
    rw [List.mem_range'_1] at hj
    have h9 : j < 0 + ((L.getD i []).length - 0) := hj.2
    exact ⟨hi', by show j < (L.getD i []).length; omega⟩)
  rwa [froms_map] at this
end Go.Proofs.Ytnkcnfpbbdlifab
