/- LevelsNear's and LevelsRight's walks. -/
import Derived.Test.YtmmkmakajolfhabVNear
namespace Go.Proofs.Ytmmkmakajolfhab
open Go.RowKit
set_option linter.unusedVariables false

theorem CheckR.zero {eps : Int} {f : Nat → Int} {n : Nat} {L : List (List Sg)} (h : CheckR eps f n L 0) : (2 ≤ eps ∧ eps ≤ 64) ∧ Up f n ∧ chkE eps f n L = 0 ∧ (L.length = 0 ↔ n = 0) := by
  rcases h with ⟨_, q⟩ | ⟨_, _, q⟩ | ⟨_, _, _, q⟩ | ⟨a, b, c, q⟩
  · cases q
  · cases q
  · cases q
  · exact ⟨a, b, q.symm, c.2⟩
/-- P8.4, as Check's answer. -/
theorem BuildR.taken {eps : Int} {f : Nat → Int} {n : Nat} {L : List (List Sg)} (e1 : 2 ≤ eps) (e2 : eps ≤ 64) (n1 : n ≤ 2000000) (bd : ∀ t, t < n → 0 ≤ f t ∧ f t < 18446744073709551616) (u : Up f n) (h : BuildR eps f n L) : CheckR eps f n L 0 := by
  refine .inr (.inr (.inr ⟨⟨e1, e2⟩, u, ⟨?_, ?_⟩, (h.chk n1 bd u).symm⟩))
  · have a := h.low e1 n1 bd u
    have b := hgt_mono (e := eps.toNat) (by omega) 4294967296 n (by omega)
    unfold mxh
    rw [if_pos ⟨e1, e2, by decide⟩]
    show (L.length : Int) ≤ ((hgt eps.toNat 4294967296 : Nat) : Int)
    omega
  · rw [List.length_eq_zero_iff]; exact h.none
theorem BuildR.isShort {eps : Int} {f : Nat → Int} {n : Nat} {L : List (List Sg)} (e1 : 2 ≤ eps) (n1 : n ≤ 2000000) (bd : ∀ t, t < n → 0 ≤ f t ∧ f t < 18446744073709551616) (u : Up f n) (h : BuildR eps f n L) : Short L := by
  have a := h.low e1 n1 bd u
  have b := hgt_le (e := eps.toNat) (by omega) n
  exact ⟨by omega, fun i hi => by have := h.short n1 bd u i hi; omega⟩



end Go.Proofs.Ytmmkmakajolfhab
