/- MergeWords: texts by how many bytes they have; what the document's Merge tells of them. -/
import Derived.Test.YthkahedhmfkhhaaGRef2
import Derived.Test.YthkahedhmfkhhaaPEl
namespace Go.Proofs.Ythkahedhmfkhhaa
open Go.RowKit
set_option linter.unusedVariables false

/-- How many bytes a text has, as a key. -/
def lenS (x : ByteArray) : Int := IntKind.u64.wrap (x.size : Int)
def no0 : ByteArray := ByteArray.mk #[]
def keysS (L : List (List ByteArray)) : List (List Int) := L.map (List.map lenS)
theorem keysS_len (L : List (List ByteArray)) : (keysS L).length = L.length := by simp [keysS]
theorem keysS_at (L : List (List ByteArray)) {i : Nat} (hi : i < L.length) : (keysS L).getD i [] = (L.getD i []).map lenS := by simp [keysS, List.getD, hi]
theorem keysS_lenK (L : List (List ByteArray)) : ∀ i, i < L.length → lenK (keysS L) i = (L.getD i []).length := fun i hi => by unfold lenK; rw [keysS_at L hi]; simp
theorem told_w {L : List (List ByteArray)} {P : List (Nat × Nat)} (h : Mg (keyP (keysS L)) (froms (keysS L).length (lenK (keysS L)) fun _ => 0) P) : Mg lenS L (P.map fun p => (L.getD p.1 []).getD p.2 no0) := by
  have e1 : froms (keysS L).length (lenK (keysS L)) (fun _ => 0) = froms L.length (fun i => (L.getD i []).length) (fun _ => 0) := by
    unfold froms
    rw [keysS_len]
    refine List.map_congr_left fun i hi => ?_
    unfold frow
    rw [keysS_lenK L i (List.mem_range.1 hi)]
  rw [e1] at h
  have hk : ∀ p : Nat × Nat, p.1 < L.length ∧ p.2 < (L.getD p.1 []).length → lenS ((L.getD p.1 []).getD p.2 no0) = keyP (keysS L) p := fun p hp => by
    unfold keyP
    rw [keysS_at L hp.1]
    have h2 := hp.2
    generalize L.getD p.1 [] = l at h2 ⊢
    simp [List.getD, h2]
  have := h.map' (fun p => (L.getD p.1 []).getD p.2 no0) lenS (S := fun p => p.1 < L.length ∧ p.2 < (L.getD p.1 []).length) hk (fun l hl p hp => by
    obtain ⟨i, hi, rfl⟩ := List.mem_map.1 hl
    have hi' := List.mem_range.1 hi
    obtain ⟨j, hj, rfl⟩ := List.mem_map.1 hp
    rw [List.mem_range'_1] at hj
    have h9 : j < 0 + ((L.getD i []).length - 0) := hj.2
    exact ⟨hi', by show j < (L.getD i []).length; omega⟩)
  rw [froms_map L no0] at this
  exact this
/-- The document's Merge over the keys of texts. -/
theorem rmergeW (ko : Option Addr) (kc : Nat) (L : List (List ByteArray)) (hl : L.length ≤ 2000000) (hs : ∀ i, i < L.length → (L.getD i []).length ≤ 2000000) (hN : sizes L ≤ 2000000) (W : World) (hk : KV W ko (keysS L)) :
    Calls Try.prog 14 #[.slice ko L.length kc] W fun e w' => (∃ ob oc P, e = .returned (.slice (some ⟨ob, 0, none⟩) P.length oc) ∧ PL w' (W.heap.size + 1) (.slice (some ⟨ob, 0, none⟩) P.length oc) P ∧ Mg lenS L (P.map fun p => (L.getD p.1 []).getD p.2 no0) ∧ (∀ p ∈ P, p.1 < L.length ∧ p.2 < (L.getD p.1 []).length) ∧ P.length ≤ 2000000) ∧ Gw W w' := by
  have e := keysS_len L
  have e1 : sizes (froms (keysS L).length (lenK (keysS L)) fun _ => 0) ≤ 2000000 := by
    have := sizes_froms (keysS L) 0
    have q : sizes (keysS L) = sizes L := sizes_map lenS L
    have : sizes (froms (keysS L).length (lenK (keysS L)) fun _ => 0) = sizes (keysS L) := this
    omega
  have := rmerge13 ko kc (keysS L) (by omega) (fun i hi => by rw [keysS_lenK L i (by omega)]; exact hs i (by omega)) e1 W hk
  rw [e] at this
  refine this.mono fun e' w' ⟨⟨ob, oc, P, a1, a2, a3, a4⟩, g⟩ => ⟨⟨ob, oc, P, a1, a2, ?_, fun p hp => ?_, ?_⟩, g⟩
  · rw [← e] at a3
    exact told_w a3
  · obtain ⟨x, y⟩ := a4 p hp
    exact ⟨x, by rw [keysS_lenK L _ x] at y; exact y⟩
  · have := a3.few
    rw [e] at e1
    omega
theorem key_w : FnK encS lenS okS 12 := by
  refine ⟨fun args W => rfl, fun W x hx => ?_⟩
  simp only [encS]
  go_enter Try.func12, Try.ntmps12
  go_wp2_with fail
  go_ret
  exact ⟨rfl, Gw.refl W⟩
theorem key_e13 : FnK encE Ent.k Ent.ok 10 := by
  refine ⟨fun args W => rfl, fun W x hx => ?_⟩
  obtain ⟨xk, xv, xg⟩ := x
  simp only [encE]
  go_enter Try.func10, Try.ntmps10
  go_wp2_with fail
  go_ret
  exact ⟨rfl, ((Gw.refl W).alloc _ _)⟩
end Go.Proofs.Ythkahedhmfkhhaa
