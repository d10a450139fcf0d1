/- Package merge: Merge; the statements' listed. -/
import Derived.Test.YthkahedhmfkhhaaPMre
import Derived.Test.YthkahedhmfkhhaaPLie
namespace Go.Proofs.Ythkahedhmfkhhaa
open Go.RowKit Go.Shelf
set_option linter.unusedVariables false

theorem info_fe : (Try.prog.info? 28).map (fun i => (i.zero, i.size, i.bytes)) = some (some .nilFunc, 1, 8) := by kernel_rfl
set_option maxRecDepth 10000 in
set_option maxHeartbeats 2000000 in
theorem clone_fe {w : World} {ao : Option Addr} {n cp : Nat} {fv : Nat → Nat × Array Value} (h : FRow fv w ao n (fun _ => False)) (hn : n ≤ 2000000) :
    Calls Try.prog 24 #[.slice ao n cp] w fun e w' => (∃ bo c, e = .returned (.slice bo n c) ∧ FRow fv w' bo n (fun _ => False) ∧ ∀ a, bo = some a → w.heap.size ≤ a.block) ∧ Gw w w' := by
  cases ao with
  | none =>
    have n0 : n = 0 := by
      rcases Nat.eq_zero_or_pos n with e | e
      · exact e
      · obtain ⟨b, off, e', _⟩ := h.cells e; cases e'
    subst n0
    clear h
    have hq : ∀ W : World, (binOp .eql 26 (.slice none 0 cp) (.slice none 0 0)).run Try.prog W = .ok (.bool true) W := fun _ => by kernel_rfl
    go_enter Try.func24, Try.ntmps24
    go_wp2_with fail
    go_ret
    exact ⟨⟨none, 0, rfl, ⟨fun h0 => by omega⟩, fun a e => by cases e⟩, Gw.refl w⟩
  | some ad =>
    have OW : Hid (∀ x, (some ad : Option Addr) = some x → ∀ j u, ((List.range n).map fun j => Value.func (.func (fv j).1) #[] (fv j).2)[j]? = some u → (w.alloc (.cells #[] 28)).cell? (x.add j) = some u) := by
      intro x e j u hu
      cases e
      have hj : j < n := by
        have := (List.getElem?_eq_some_iff.1 hu).1
        simpa using this
      obtain ⟨b, off, e', hb, _, hc⟩ := h.cells (by omega)
      cases e'
      rw [Addr.add_lit]
      refine (((Gw.refl w).alloc _ _).cell _ _ hb).trans ((hc j hj).trans ?_)
      simpa [hj] using hu
    have O0 : Hid ((w.alloc (.cells #[] 28)).ownsRow w.heap.size 28 1 (.slice (some ⟨w.heap.size, 0, none⟩) 0 0) 0 []) := World.ownsRow_made w #[] 0 (Nat.le_refl _) (Nat.zero_le _) rfl
    obtain ⟨ii, hii, hz, hs, hby⟩ := info_parts info_fe
    have NL : Aside (((List.range n).map fun j => Value.func (.func (fv j).1) #[] (fv j).2).length = n * 1) := by show _ = _; simp
    have N1 : Aside (∀ u ∈ ((List.range n).map fun j => Value.func (.func (fv j).1) #[] (fv j).2), u.oneCell' = true) := by
      intro u hu
      obtain ⟨j, _, rfl⟩ := List.mem_map.1 hu
      rfl
    clear h
    have hq : ∀ W : World, (binOp .eql 26 (.slice (some ad) n cp) (.slice none 0 0)).run Try.prog W = .ok (.bool false) W := fun _ => by kernel_rfl
    go_enter Try.func24, Try.ntmps24
    go_wp2_with (at_builtin; refine wpList_append_src _ rfl _ _ 26 rfl w.heap.size 28 ii .nilFunc 1 8 Try.underlying26 hii hz hs hby rfl (by decide) _ 0 [] rfl O0.out (some ad) n cp ((List.range n).map fun j => Value.func (.func (fv j).1) #[] (fv j).2) rfl (fun q => by cases q) NL.out OW.out N1.out (by simp only [maxLen]; omega) (by omega) (by simp) ?_)
    intro v' w7 q1 q2 q3
    have G7 : Aside (Gw w w7) := ((Gw.refl w).alloc _ _).grown q2 (fun k hk => by cases hk; exact Nat.le_refl _)
    have FM : ∃ bo c, v' = .slice bo n c ∧ FRow fv w7 bo n (fun _ => False) ∧ ∀ a, bo = some a → w.heap.size ≤ a.block := by
      have q1' : w7.ownsRow w.heap.size 28 1 v' n ((List.range n).map fun j => Value.func (.func (fv j).1) #[] (fv j).2) := by simpa using q1
      rcases q1'.2 with ⟨e, z⟩ | ⟨g, cap, cur, e, hb, hh, hc, _⟩
      · subst z
        exact ⟨none, 0, e, ⟨fun h0 => by omega⟩, fun a q => by cases q⟩
      · subst e
        refine ⟨some ⟨g, 0, none⟩, cap, rfl, ⟨fun h0 => ⟨g, 0, rfl, blkl hh, fun e => e, fun i hi => ?_⟩⟩, fun a q => by cases q; exact hb⟩
        have := World.ownsRow.cellAt q1' i (by omega)
        rw [Nat.zero_add, this]
        simp [hi]
    obtain ⟨bo, c, rfl, r1, r3⟩ := FM
    have RES : Aside (FRow fv w7 bo n (fun _ => False) ∧ ∀ a, bo = some a → w.heap.size ≤ a.block) := ⟨r1, r3⟩
    clear q1 q2 q3 hii hz hs hby r1 r3
    go_wp2_with fail
    go_ret
    exact ⟨⟨bo, c, rfl, RES.out⟩, G7.out⟩
set_option maxRecDepth 10000 in
set_option maxHeartbeats 2000000 in
theorem merge_e {w : World} {ao : Option Addr} {n cp K : Nat} {fv : Nat → Nat × Array Value} (h : FRow fv w ao n (fun _ => False)) (hn : n ≤ 2000000) :
    Calls Try.prog 9 #[.func (.func K) #[] #[], .slice ao n cp] w fun e w' => (∃ bk bl bo c, e = .returned (.func (.func 25) #[] #[.pointer (some ⟨bk, 0, none⟩), .pointer (some ⟨bl, 0, none⟩)]) ∧ (∀ Wr : Nat → Prop, (∀ q, Wr q → q < w.heap.size) → MrAe K bk bl bo n c fv Wr w') ∧ w.heap.size ≤ bk ∧ w.heap.size ≤ bl ∧ ∀ a, bo = some a → w.heap.size ≤ a.block) ∧ Gw w w' := by
  obtain ⟨W1, E1⟩ : ∃ W1, w.alloc (.cells #[.func (.func K) #[] #[]] 34) = W1 := ⟨_, rfl⟩
  have G1 : Aside (Gw w W1) := by rw [← E1]; exact (Gw.refl w).alloc _ _
  have B1 : Aside (W1.heap[w.heap.size]? = some (.cells #[.func (.func K) #[] #[]] 34 (0, 0))) := by rw [← E1]; exact heap_alloc_new w _
  have CL : Hid _ := clone_fe (w := W1) (cp := cp) (⟨fun h0 => by
    obtain ⟨b, off, e, h1, h2, h3⟩ := h.cells h0
    exact ⟨b, off, e, Nat.lt_of_lt_of_le h1 G1.out.size, h2, fun i hi => (G1.out.cell _ _ h1).trans (h3 i hi)⟩⟩ : FRow fv W1 ao n (fun _ => False)) hn
  clear h
  go_enter Try.func9, Try.ntmps9
  go_wp2_with fail
  refine Calls.mono CL.out ?_
  rintro e w2 ⟨⟨bo, c, rfl, fr, ob⟩, g2⟩
  obtain ⟨W3, E3⟩ : ∃ W3, w2.alloc (.cells #[.slice bo n c] 26) = W3 := ⟨_, rfl⟩
  have g3 : Gw w2 W3 := by rw [← E3]; exact (Gw.refl w2).alloc _ _
  have FIN : Aside ((∀ Wr : Nat → Prop, (∀ q, Wr q → q < w.heap.size) → MrAe K w.heap.size w2.heap.size bo n c fv Wr W3) ∧ w.heap.size ≤ w2.heap.size ∧ (∀ a, bo = some a → w.heap.size ≤ a.block) ∧ Gw w W3) := by
    refine ⟨fun Wr hW => ⟨((g2.trans g3).below.block _ (blkl B1.out)).trans B1.out, by rw [← E3]; exact heap_alloc_new w2 _, ⟨fun h0 => ?_⟩⟩, Nat.le_trans G1.out.size g2.size, fun a ha => Nat.le_trans G1.out.size (ob a ha), (G1.out.trans g2).trans g3⟩
    obtain ⟨b, off, e, h1, _, h3⟩ := fr.cells h0
    have := ob _ e
    exact ⟨b, off, e, Nat.lt_of_lt_of_le h1 g3.size, fun x => by have := hW b x; have := G1.out.size; dsimp only at *; omega, fun i hi => (g3.cell _ _ h1).trans (h3 i hi)⟩
  clear fr ob g2 g3 CL
  go_wp2_with fail
  go_ret
  exact ⟨⟨w.heap.size, w2.heap.size, bo, c, rfl, FIN.out.1, Nat.le_refl _, FIN.out.2.1, FIN.out.2.2.1⟩, FIN.out.2.2.2⟩
theorem mlisted_e (ao : Option Addr) (n c : Nat) (w : World) : Calls Try.prog 8 #[.slice ao n c] w fun e w' => e = .returned (.func (.func 23) #[] #[.pointer (some ⟨w.heap.size, 0, none⟩)]) ∧ w' = w.alloc (.cells #[.slice ao n c] 24) := by
  go_enter Try.func8, Try.ntmps8
  go_wp2_with fail
  go_ret
  exact ⟨rfl, rfl⟩
end Go.Proofs.Ythkahedhmfkhhaa
