/- What the statements of layer 9 ask of package probe, as one structure. -/
import Derived.Test.YtapjipinceoaoaaZSlot
import Derived.Test.YtapjipinceoaoaaVC
namespace Go.Proofs.Ytapjipinceoaoaa
open Go.RowKit
set_option linter.unusedVariables false

/-- What Of answers. -/
def PileOut (HP : World → Nat → (Nat → Prop) → Int → (Nat → Int) → Nat → List (List Sg) → Prop) (w w' : World) (ex : Ending) (eps : Int) (f : Nat → Int) (n : Nat) (L : List (List Sg)) : Prop :=
  ∃ E, CheckR eps f n L E ∧ ((E ≠ 0 ∧ ex = .returned (.tuple #[.pointer none, .int .i64 E])) ∨ (E = 0 ∧ ∃ p S, ex = .returned (.tuple #[.pointer (some ⟨p, 0, none⟩), .int .i64 0]) ∧ (∀ q, S q → w.heap.size ≤ q) ∧ HP w' p S eps f n L))
/-- What is found. -/
def foundV (f : Nat → Int) (n : Nat) (q : Int) : Value := .tuple #[.int .i64 (cntb f q n : Nat), .bool (decide (cntb f q n < n ∧ f (cntb f q n) = q))]
/-- Keys, an eps and levels that may be descended. -/
structure Ready (eps : Int) (f : Nat → Int) (n : Nat) (L : List (List Sg)) : Prop where
  e0 : 2 ≤ eps
  e1 : eps ≤ 64
  lv : Lvs eps f n L
  z : L.length = 0 ↔ n = 0
  n1 : n ≤ 2000000
  sh : Short L
theorem Ready.of {eps : Int} {f : Nat → Int} {n : Nat} {L : List (List Sg)} (h : CheckR eps f n L 0) (n1 : n ≤ 2000000) (sh : Short L) (bd : ∀ t, t < n → 0 ≤ f t ∧ f t < 18446744073709551616) : Ready eps f n L := by
  rcases h with ⟨_, q⟩ | ⟨_, _, q⟩ | ⟨_, _, _, q⟩ | ⟨a, b, c, q⟩
  · cases q
  · cases q
  · cases q
  · have := chk_levels b bd q.symm
    exact ⟨a.1, a.2, ⟨this.1, this.2⟩, c.2, n1, sh⟩
/-- The key of a slot, the size of a level, the segment of a slot, whatever the numbers. -/
def sizeV (n : Nat) (L : List (List Sg)) (lv : Int) : Nat := if 0 ≤ lv ∧ lv ≤ L.length then rowN n L lv.toNat else 0
def keyV (f : Nat → Int) (n : Nat) (L : List (List Sg)) (lv sl : Int) : Int := if (0 ≤ lv ∧ lv ≤ L.length) ∧ 0 ≤ sl ∧ sl < rowN n L lv.toNat then rowF f L lv.toNat sl.toNat else 0
def segW (L : List (List Sg)) (lv sl : Int) : Sg := if (1 ≤ lv ∧ lv ≤ L.length) ∧ 0 ≤ sl ∧ sl < (L.getD (lv.toNat - 1) []).length then (L.getD (lv.toNat - 1) []).getD sl.toNat sg0 else sg0

/-- Package probe: 'HP w p S eps f n L': at block p lies a pile of these, made of the blocks S. -/
structure ProbeC (HP : World → Nat → (Nat → Prop) → Int → (Nat → Int) → Nat → List (List Sg) → Prop) : Prop where
  keep : ∀ {w w' : World} {p : Nat} {S : Nat → Prop} {eps : Int} {f : Nat → Int} {n : Nat} {L : List (List Sg)}, HP w p S eps f n L → (∀ q, S q → w'.heap[q]? = w.heap[q]?) → HP w' p S eps f n L
  lt : ∀ {w : World} {p : Nat} {S : Nat → Prop} {eps : Int} {f : Nat → Int} {n : Nat} {L : List (List Sg)}, HP w p S eps f n L → ∀ q, S q → q < w.heap.size
  of : ∀ (eps : Int) (ao : Option Addr) (n cp : Nat) (f : Nat → Int) (lo : Option Addr) (lc : Nat) (L : List (List Sg)), -9223372036854775808 ≤ eps → eps < 9223372036854775808 → n ≤ 2000000 → n ≤ cp → Short L → L.length ≤ lc → ∀ w : World, KS w ao n f → VS w lo L → Calls Try.prog 7 #[.slice ao n cp, .int .i64 eps, .slice lo L.length lc] w fun ex w' => PileOut HP w w' ex eps f n L ∧ Gw w w'
  pfind : ∀ {w : World} {p : Nat} {S : Nat → Prop} {eps : Int} {f : Nat → Int} {n : Nat} {L : List (List Sg)}, HP w p S eps f n L → Ready eps f n L → ∀ q : Int, 0 ≤ q → q < 18446744073709551616 → Calls Try.prog 8 #[.pointer (some ⟨p, 0, none⟩), .int .u64 q] w fun ex w' => ex = .returned (foundV f n q) ∧ Gw w w'
  ppath : ∀ {w : World} {p : Nat} {S : Nat → Prop} {eps : Int} {f : Nat → Int} {n : Nat} {L : List (List Sg)}, HP w p S eps f n L → Ready eps f n L → ∀ q : Int, 0 ≤ q → q < 18446744073709551616 → Calls Try.prog 9 #[.pointer (some ⟨p, 0, none⟩), .int .u64 q] w fun ex w' => (∃ bo c, ex = .returned (.slice bo L.length c) ∧ PV w' bo (pathL eps q f n L) ∧ ∀ a, bo = some a → w.heap.size ≤ a.block) ∧ Gw w w'
  peps : ∀ {w : World} {p : Nat} {S : Nat → Prop} {eps : Int} {f : Nat → Int} {n : Nat} {L : List (List Sg)}, HP w p S eps f n L → Calls Try.prog 12 #[.pointer (some ⟨p, 0, none⟩)] w fun ex w' => ex = .returned (.int .i64 eps) ∧ Gw w w'
  pheight : ∀ {w : World} {p : Nat} {S : Nat → Prop} {eps : Int} {f : Nat → Int} {n : Nat} {L : List (List Sg)}, HP w p S eps f n L → Calls Try.prog 13 #[.pointer (some ⟨p, 0, none⟩)] w fun ex w' => ex = .returned (.int .i64 (L.length : Nat)) ∧ Gw w w'
  psize : ∀ {w : World} {p : Nat} {S : Nat → Prop} {eps : Int} {f : Nat → Int} {n : Nat} {L : List (List Sg)}, HP w p S eps f n L → ∀ lv : Int, -9223372036854775808 ≤ lv → lv < 9223372036854775808 → Calls Try.prog 14 #[.pointer (some ⟨p, 0, none⟩), .int .i64 lv] w fun ex w' => ex = .returned (.int .i64 (sizeV n L lv : Nat)) ∧ Gw w w'
  pkey : ∀ {w : World} {p : Nat} {S : Nat → Prop} {eps : Int} {f : Nat → Int} {n : Nat} {L : List (List Sg)}, HP w p S eps f n L → ∀ lv sl : Int, -9223372036854775808 ≤ lv → lv < 9223372036854775808 → -9223372036854775808 ≤ sl → sl < 9223372036854775808 → Calls Try.prog 16 #[.pointer (some ⟨p, 0, none⟩), .int .i64 lv, .int .i64 sl] w fun ex w' => ex = .returned (.int .u64 (keyV f n L lv sl)) ∧ Gw w w'
  pseg : ∀ {w : World} {p : Nat} {S : Nat → Prop} {eps : Int} {f : Nat → Int} {n : Nat} {L : List (List Sg)}, HP w p S eps f n L → ∀ lv sl : Int, -9223372036854775808 ≤ lv → lv < 9223372036854775808 → -9223372036854775808 ≤ sl → sl < 9223372036854775808 → Calls Try.prog 18 #[.pointer (some ⟨p, 0, none⟩), .int .i64 lv, .int .i64 sl] w fun ex w' => ex = .returned (segV (segW L lv sl).k (segW L lv sl).sl (segW L lv sl).ic (segW L lv sl).fr (segW L lv sl).te) ∧ Gw w w'
theorem ProbeC.gw {HP : World → Nat → (Nat → Prop) → Int → (Nat → Int) → Nat → List (List Sg) → Prop} (H : ProbeC HP) {w w' : World} {p : Nat} {S : Nat → Prop} {eps : Int} {f : Nat → Int} {n : Nat} {L : List (List Sg)} (h : HP w p S eps f n L) (g : Gw w w') : HP w' p S eps f n L := H.keep h fun q hq => g.below.block q (H.lt h q hq)

end Go.Proofs.Ytapjipinceoaoaa
