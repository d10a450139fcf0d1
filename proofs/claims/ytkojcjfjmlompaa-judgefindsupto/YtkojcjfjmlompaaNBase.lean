/- What every walk here keeps: old memory as it was. -/
import Derived.Test.YtkojcjfjmlompaaRows
import Derived.WalkKit
import Derived.WalkSpells
import Derived.WalkLawsBesides
import Derived.StillTactics
import Derived.Laws.Pointers
import Derived.Deep.RegionHeld3
import Derived.RowKit3
namespace Go.Proofs.Ytkojcjfjmlompaa
open Go.RowKit

/-- Old memory is as it was, and nothing is frozen or let go. -/
structure Gb (w w' : World) : Prop where
  below : Below w.heap.size w w'
  frozen : ∀ a, w'.frozen? a = w.frozen? a

theorem Gb.refl (w : World) : Gb w w := ⟨Below.refl _ _, fun _ => rfl⟩
theorem Gb.trans {a b c : World} (h : Gb a b) (k : Gb b c) : Gb a c :=
  ⟨h.below.trans (k.below.mono h.below.size), fun x => (k.frozen x).trans (h.frozen x)⟩
theorem Gb.alloc {a w : World} (h : Gb a w) (c : Array Value) (t : TypeId) : Gb a (w.alloc (.cells c t)) :=
  ⟨h.below.alloc h.below.size _, fun x => (frozen?_alloc_cells _ _ _ x).trans (h.frozen x)⟩
theorem Gb.setCell {a w : World} (h : Gb a w) {p : Addr} (hp : a.heap.size ≤ p.block) (v : Value) : Gb a (w.setCell p v) :=
  ⟨h.below.setCell hp v, fun x => (World.frozen?_setCell _ _ _ _).trans (h.frozen x)⟩
theorem Gb.drew {a w : World} (h : Gb a w) : Gb a w.drew := ⟨h.below.drew, h.frozen⟩
theorem Gb.cell {w w' : World} (h : Gb w w') (b o : Nat) (hb : b < w.heap.size) : w'.cell? ⟨b, o, none⟩ = w.cell? ⟨b, o, none⟩ := h.below.cell (p := ⟨b, o, none⟩) hb
theorem Gb.size {w w' : World} (h : Gb w w') : w.heap.size ≤ w'.heap.size := h.below.size

theorem Gb.facts {W w' : World} (h : Gb W w') : (∀ b o, b < W.heap.size → w'.cell? ⟨b, o, none⟩ = W.cell? ⟨b, o, none⟩) ∧ (∀ a, w'.frozen? a = W.frozen? a) :=
  ⟨fun b o hb => h.cell b o hb, h.frozen⟩

theorem frozen?_new (w : World) (b o : Nat) (h : w.heap.size ≤ b) : w.frozen? ⟨b, o, none⟩ = false := by
  have e : w.heap[b]? = none := by simp; omega
  simp [World.frozen?, e]

/-- .. and there are k blocks more. -/
structure Gk (k : Nat) (w w' : World) : Prop where
  gb : Gb w w'
  grew : w'.heap.size = w.heap.size + k

theorem Gk.facts {k : Nat} {W w' : World} (h : Gk k W w') : (∀ b o, b < W.heap.size → w'.cell? ⟨b, o, none⟩ = W.cell? ⟨b, o, none⟩) ∧ (∀ a, w'.frozen? a = W.frozen? a) ∧ w'.heap.size = W.heap.size + k :=
  ⟨fun b o hb => h.gb.cell b o hb, h.gb.frozen, h.grew⟩

/-- A variable of two cells. -/
structure H2 (w : World) (b : Nat) (u v : Value) : Prop where
  lt : b < w.heap.size
  c0 : w.cell? ⟨b, 0, none⟩ = some u
  c1 : w.cell? ⟨b, 1, none⟩ = some v

theorem H2.gb {w w' : World} {b : Nat} {u v : Value} (h : H2 w b u v) (g : Gb w w') : H2 w' b u v :=
  ⟨Nat.lt_of_lt_of_le h.lt g.size, (g.cell b 0 h.lt).trans h.c0, (g.cell b 1 h.lt).trans h.c1⟩
theorem H2.new (w : World) (u v : Value) (t : TypeId) : H2 (w.alloc (.cells #[u, v] t)) w.heap.size u v :=
  ⟨by simp, by simp [go_sem], by simp [go_sem]⟩
theorem H2.at {w : World} {b : Nat} {u v : Value} (h : H2 w b u v) (b' : Nat) (e : b = b') : H2 w b' u v := e ▸ h
theorem H2.alloc {w : World} {b : Nat} {u v : Value} (h : H2 w b u v) (o : Obj) : H2 (w.alloc o) b u v :=
  ⟨Nat.lt_of_lt_of_le h.lt (by simp), (World.cell?_alloc_past _ _ _ h.lt).trans h.c0, (World.cell?_alloc_past _ _ _ h.lt).trans h.c1⟩

theorem u64w_bd (n : Int) : 0 ≤ IntKind.u64.wrap n ∧ IntKind.u64.wrap n < 18446744073709551616 := by rw [IntKind.wrap_u64]; omega

theorem Gb.drewN {a w : World} (h : Gb a w) (n : Nat) : Gb a (w.drewN n) := ⟨⟨h.below.os, h.below.tape, h.below.output, h.below.size, h.below.block⟩, h.frozen⟩

end Go.Proofs.Ytkojcjfjmlompaa
