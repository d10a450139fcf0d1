/- What every walk here keeps: old memory as it was; how a list of keys and a list of entries lie in memory. -/
import Derived.Test.YtmnpbagpfpcjpaaRows
import Derived.WalkKit
import Derived.WalkSpells
import Derived.WalkLawsBesides
import Derived.StillTactics
import Derived.Laws.Pointers
import Derived.Deep.RegionHeld3
import Derived.RowKit3
namespace Go.Proofs.Ytmnpbagpfpcjpaa
open Go.RowKit

/-- Old memory is as it was. -/
structure Gb (w w' : World) : Prop where
  below : Below w.heap.size w w'

theorem Gb.refl (w : World) : Gb w w := ⟨Below.refl _ _⟩
theorem Gb.trans {a b c : World} (h : Gb a b) (k : Gb b c) : Gb a c :=
  ⟨h.below.trans (k.below.mono h.below.size)⟩
theorem Gb.alloc {a w : World} (h : Gb a w) (c : Array Value) (t : TypeId) : Gb a (w.alloc (.cells c t)) :=
  ⟨h.below.alloc h.below.size _⟩
theorem Gb.setCell {a w : World} (h : Gb a w) {p : Addr} (hp : a.heap.size ≤ p.block) (v : Value) : Gb a (w.setCell p v) :=
  ⟨h.below.setCell hp v⟩
theorem Gb.drew {a w : World} (h : Gb a w) : Gb a w.drew := ⟨h.below.drew⟩
theorem Gb.drewN {a w : World} (h : Gb a w) (n : Nat) : Gb a (w.drewN n) := by
  obtain ⟨q1⟩ := h
  exact ⟨q1.trans ⟨rfl, rfl, rfl, Nat.le_refl _, fun _ _ => rfl⟩⟩
theorem Gb.grown {a w w' : World} {row : Option Nat} (h : Gb a w) (g : w.grownBy w' row) (hr : ∀ k, row = some k → a.heap.size ≤ k) : Gb a w' :=
  ⟨h.below.grown g h.below.size hr⟩
theorem Gb.cell {w w' : World} (h : Gb w w') (b o : Nat) (hb : b < w.heap.size) : w'.cell? ⟨b, o, none⟩ = w.cell? ⟨b, o, none⟩ := h.below.cell (p := ⟨b, o, none⟩) hb
theorem Gb.size {w w' : World} (h : Gb w w') : w.heap.size ≤ w'.heap.size := h.below.size

theorem u64w_bd (n : Int) : 0 ≤ IntKind.u64.wrap n ∧ IntKind.u64.wrap n < 18446744073709551616 := by rw [IntKind.wrap_u64]; omega

/-- A list of n keys: in memory from some place on, one cell a key; where there is none, nothing is said of the address. -/
structure KS (w : World) (ao : Option Addr) (n : Nat) (f : Nat → Int) : Prop where
  cells : 0 < n → ∃ b off, ao = some ⟨b, off, none⟩ ∧ b < w.heap.size ∧ ∀ i, i < n → w.cell? ⟨b, off + i, none⟩ = some (.int .u64 (f i))
  bd : ∀ i, i < n → 0 ≤ f i ∧ f i < 18446744073709551616

theorem KS.gb {w w' : World} {ao : Option Addr} {n : Nat} {f : Nat → Int} (h : KS w ao n f) (g : Gb w w') : KS w' ao n f :=
  ⟨fun hn => by
    obtain ⟨b, off, e, hb, hc⟩ := h.cells hn
    exact ⟨b, off, e, Nat.lt_of_lt_of_le hb g.size, fun i hi => (g.cell b (off + i) hb).trans (hc i hi)⟩, h.bd⟩

/-- A list of n entries: three cells an entry. -/
structure ES (w : World) (ao : Option Addr) (n : Nat) (k v : Nat → Int) (g : Nat → Bool) : Prop where
  cells : 0 < n → ∃ b off, ao = some ⟨b, off, none⟩ ∧ b < w.heap.size ∧ ∀ i, i < n → w.cell? ⟨b, off + i * 3, none⟩ = some (.int .u64 (k i)) ∧ w.cell? ⟨b, off + i * 3 + 1, none⟩ = some (.int .u64 (v i)) ∧ w.cell? ⟨b, off + i * 3 + 2, none⟩ = some (.bool (g i))
  bd : ∀ i, i < n → (0 ≤ k i ∧ k i < 18446744073709551616) ∧ (0 ≤ v i ∧ v i < 18446744073709551616)

theorem ES.gb {w w' : World} {ao : Option Addr} {n : Nat} {k v : Nat → Int} {g : Nat → Bool} (h : ES w ao n k v g) (gg : Gb w w') : ES w' ao n k v g :=
  ⟨fun hn => by
    obtain ⟨b, off, e, hb, hc⟩ := h.cells hn
    exact ⟨b, off, e, Nat.lt_of_lt_of_le hb gg.size, fun i hi => ⟨(gg.cell _ _ hb).trans (hc i hi).1, (gg.cell _ _ hb).trans (hc i hi).2.1, (gg.cell _ _ hb).trans (hc i hi).2.2⟩⟩, h.bd⟩

theorem wrap_nat (m : Nat) (h : m < 4611686018427387904) : IntKind.i64.wrap (m : Int) = m := by rw [IntKind.wrap_i64]; omega

end Go.Proofs.Ytmnpbagpfpcjpaa
