/- The document's Check of layer 8. -/
import Derived.Test.YtmmkmakajolfhaaGreatPVr
import Derived.Deep.RegionHeld3
import Derived.Deep.DeepCutAuto
namespace Go.Proofs.YtmmkmakajolfhaaGreat
open Go.RowKit
set_option linter.unusedVariables false
attribute [local go_sem] run_store_float

/-- What Check answers. -/
def CheckR (eps : Int) (f : Nat → Int) (n : Nat) (L : List (List Sg)) (E : Int) : Prop :=
  (¬ (2 ≤ eps ∧ eps ≤ 64) ∧ E = 1) ∨ ((2 ≤ eps ∧ eps ≤ 64) ∧ ¬ Up f n ∧ E = 80) ∨ ((2 ≤ eps ∧ eps ≤ 64) ∧ Up f n ∧ ¬ ((L.length : Int) ≤ mxh 4294967296 eps ∧ (L.length = 0 ↔ n = 0)) ∧ E = 81) ∨ ((2 ≤ eps ∧ eps ≤ 64) ∧ Up f n ∧ ((L.length : Int) ≤ mxh 4294967296 eps ∧ (L.length = 0 ↔ n = 0)) ∧ E = chkE eps f n L)
theorem CheckR.one {eps : Int} {f : Nat → Int} {n : Nat} {L : List (List Sg)} {E E' : Int} (h : CheckR eps f n L E) (h' : CheckR eps f n L E') : E = E' := by
  rcases h with ⟨a, rfl⟩ | ⟨a, b, rfl⟩ | ⟨a, b, c, rfl⟩ | ⟨a, b, c, rfl⟩ <;> rcases h' with ⟨a', rfl⟩ | ⟨a', b', rfl⟩ | ⟨a', b', c', rfl⟩ | ⟨a', b', c', rfl⟩ <;> first
    | rfl
    | exact absurd a a'
    | exact absurd a' a
    | exact absurd b b'
    | exact absurd b' b
    | exact absurd c c'
    | exact absurd c' c

theorem dropL_at {L : List (List Sg)} {i : Nat} (h : i < L.length) : L.drop i = L.getD i [] :: L.drop (i + 1) := by
  rw [List.drop_eq_getElem_cons h, List.getD_eq_getElem?_getD, List.getElem?_eq_getElem h]; rfl
theorem ks_cut {w : World} {bk off n a b : Nat} {f : Nat → Int} (h : KS w (some ⟨bk, off, none⟩) n f) (hb : b ≤ n) : KS w (some ⟨bk, off + a, none⟩) (b - a) (sh f a) :=
  ⟨fun h0 => by
    obtain ⟨b', o', e, hl, hc⟩ := h.cells (by omega)
    cases e
    exact ⟨bk, off + a, rfl, hl, fun i hi => by rw [Nat.add_assoc]; exact hc (a + i) (by omega)⟩, fun i hi => h.bd (a + i) (by omega)⟩
/-- What is left behind a level. -/
def restE (eps : Int) (l : List Sg) (r : List (List Sg)) : Int := if r = [] then (if l.length = 1 then 0 else 84) else chkE eps (fst8 l) l.length r
theorem chkE_cons {eps : Int} {f : Nat → Int} {n : Nat} {l : List Sg} {r : List (List Sg)} : chkE eps f n (l :: r) = if (tileB n 0 l && !l.isEmpty) = false then 82 else if lvlE eps f l ≠ 0 then lvlE eps f l else restE eps l r := rfl
theorem lvlE_cons {eps : Int} {f : Nat → Int} {s : Sg} {l : List Sg} : lvlE eps f (s :: l) = if segE eps f s ≠ 0 then segE eps f s else lvlE eps f l := rfl


end Go.Proofs.YtmmkmakajolfhaaGreat
