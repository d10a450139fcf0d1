/- What the statements of layer 8 ask of package levels, as one structure. -/
import Derived.Test.YtdikiaeagcokdaaGreatVCheck
namespace Go.Proofs.YtdikiaeagcokdaaGreat
open Go.RowKit
set_option linter.unusedVariables false

/-- What Build tells. -/
def BuildE (eps : Int) (f : Nat → Int) (n : Nat) (L : List (List Sg)) (err : Int) : Prop :=
  (¬ (2 ≤ eps ∧ eps ≤ 64) ∧ L = [] ∧ err = 1) ∨ ((2 ≤ eps ∧ eps ≤ 64) ∧ ¬ Up f n ∧ L = [] ∧ err = 80) ∨ ((2 ≤ eps ∧ eps ≤ 64) ∧ Up f n ∧ BuildR eps f n L ∧ err = 0)
theorem BuildE.one {eps : Int} {f : Nat → Int} {n : Nat} {L L' : List (List Sg)} {err err' : Int} (h : BuildE eps f n L err) (k : BuildE eps f n L' err') : L = L' ∧ err = err' := by
  rcases h with ⟨h1, rfl, rfl⟩ | ⟨h1, h2, rfl, rfl⟩ | ⟨h1, h2, h3, rfl⟩
  · rcases k with ⟨_, rfl, rfl⟩ | ⟨k1, _⟩ | ⟨k1, _⟩
    · exact ⟨rfl, rfl⟩
    all_goals exact absurd k1 h1
  · rcases k with ⟨k1, _⟩ | ⟨_, _, rfl, rfl⟩ | ⟨_, k2, _⟩
    · exact absurd h1 k1
    · exact ⟨rfl, rfl⟩
    · exact absurd k2 h2
  · rcases k with ⟨k1, _⟩ | ⟨_, k2, _⟩ | ⟨_, _, k3, rfl⟩
    · exact absurd h1 k1
    · exact absurd h2 k2
    · exact ⟨h3.one k3, rfl⟩
/-- What Build answers: levels that were not there before. -/
def BuildOut (w' : World) (ex : Ending) (eps : Int) (f : Nat → Int) (n : Nat) : Prop := ∃ lo lc L err, ex = .returned (.tuple #[.slice lo (L : List (List Sg)).length lc, .int .i64 err]) ∧ BuildE eps f n L err ∧ VS w' lo L ∧ L.length ≤ lc
/-- What Check answers. -/
def CheckOut (ex : Ending) (eps : Int) (f : Nat → Int) (n : Nat) (L : List (List Sg)) : Prop := ∃ E, ex = .returned (.int .i64 E) ∧ CheckR eps f n L E
def Short (L : List (List Sg)) : Prop := L.length ≤ 2000000 ∧ ∀ i, i < L.length → (L.getD i []).length ≤ 2000000

/-- Package levels. -/
structure LevelsC : Prop where
  height : ∀ (n eps : Int), -9223372036854775808 ≤ n → n < 9223372036854775808 → -9223372036854775808 ≤ eps → eps < 9223372036854775808 → ∀ w : World, Calls Tryz.prog 86 #[.int .i64 n, .int .i64 eps] w fun ex w' => ex = .returned (.int .i64 (mxh n eps)) ∧ Gw w w'
  check : ∀ (eps : Int) (ao : Option Addr) (n cp : Nat) (f : Nat → Int) (lo : Option Addr) (lc : Nat) (L : List (List Sg)), -9223372036854775808 ≤ eps → eps < 9223372036854775808 → n ≤ 2000000 → n ≤ cp → Short L → L.length ≤ lc → ∀ w : World, KS w ao n f → VS w lo L → Calls Tryz.prog 61 #[.slice ao n cp, .int .i64 eps, .slice lo L.length lc] w fun ex w' => CheckOut ex eps f n L ∧ Gw w w'
  build : ∀ (eps : Int) (ao : Option Addr) (n cp : Nat) (f : Nat → Int), -9223372036854775808 ≤ eps → eps < 9223372036854775808 → n ≤ 2000000 → n ≤ cp → ∀ w : World, KS w ao n f → Calls Tryz.prog 33 #[.slice ao n cp, .int .i64 eps] w fun ex w' => BuildOut w' ex eps f n ∧ Gw w w'

/-- Built levels are short. -/
theorem BuildR.short {eps : Int} : ∀ {L : List (List Sg)} {f : Nat → Int} {n : Nat}, n ≤ 2000000 → (∀ t, t < n → 0 ≤ f t ∧ f t < 18446744073709551616) → Up f n → BuildR eps f n L → ∀ i, i < L.length → (L.getD i []).length ≤ n := by
  intro L
  induction L with
  | nil => intro f n _ _ _ _ i hi; simp at hi
  | cons l r ih =>
    intro f n n1 bd u h i hi
    obtain ⟨a, b, c⟩ := h
    have ln := b.len n1 bd
    cases i with
    | zero => show l.length ≤ n; omega
    | succ i =>
      by_cases q : l.length = 1
      · rw [if_pos q] at c; subst c; simp at hi
      · rw [if_neg q] at c
        obtain ⟨u1, _, u3⟩ := fst8_up u (b.tiles n1 bd) (b.keys n1 bd)
        have := ih (by omega) (fst8_bd bd u3) u1 c i (by simpa using hi)
        show (r.getD i []).length ≤ n
        omega

end Go.Proofs.YtdikiaeagcokdaaGreat
