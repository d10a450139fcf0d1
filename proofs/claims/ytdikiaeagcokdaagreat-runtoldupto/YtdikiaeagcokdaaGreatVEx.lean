/- The examples of layer 8's statements, in plain words and in memory. -/
import Derived.Test.YtdikiaeagcokdaaGreatVC
namespace Go.Proofs.YtdikiaeagcokdaaGreat
open Go.RowKit
set_option linter.unusedVariables false

def lst8 (l : List Int) (j : Nat) : Int := l.getD j 0
theorem ks_lst8 (w : World) (l : List Int) (bd : ∀ x ∈ l, 0 ≤ x ∧ x < 18446744073709551616) (b : Nat) (hb : w.heap[b]? = some (.cells (l.map (Value.int .u64)).toArray 24 (0, 0))) : KS w (some ⟨b, 0, none⟩) l.length (lst8 l) := by
  refine ⟨fun _ => ⟨b, 0, rfl, (Array.getElem?_eq_some_iff.1 hb).1, fun i hi => ?_⟩, fun i hi => ?_⟩
  · simp only [World.cell?, hb]
    simp [lst8, List.getD, hi]
  · have := bd l[i] (List.getElem_mem hi)
    simpa [lst8, List.getD, hi] using this
theorem fits_dec8 {e : Int} {f : Nat → Int} {n : Nat} (h : ∀ j, j < n → ∀ i, i < j → ∀ j', j' < n → ∀ i', i' < j' → ((j : Int) - i - 2 * e) * (f j' - f i') ≤ ((j' : Int) - i' + 2 * e) * (f j - f i)) : FitsOn e f (Prs n) :=
  fun i j i' j' s s' => h j s.2 i s.1 j' s'.2 i' s'.1
theorem ex8_up : Up (lst8 [0, 1, 2, 3, 100, 101, 102]) 7 := by
  intro j hj
  have : ∀ j, j < 6 → lst8 [0, 1, 2, 3, 100, 101, 102] j < lst8 [0, 1, 2, 3, 100, 101, 102] (j + 1) := by decide +kernel
  exact this j (by omega)
theorem ex8_bd : ∀ t, t < 7 → 0 ≤ lst8 [0, 1, 2, 3, 100, 101, 102] t ∧ lst8 [0, 1, 2, 3, 100, 101, 102] t < 18446744073709551616 := by decide +kernel
theorem ex8_ends : EndsAt (2 - 1) (lst8 [0, 1, 2, 3, 100, 101, 102]) 7 0 [4, 7] := by
  refine ⟨by decide, by decide, fits_dec8 (by decide +kernel), fun _ q => ?_, ⟨by decide, by decide, fits_dec8 (by decide +kernel), fun q => absurd q (by decide), rfl⟩⟩
  have := q 0 3 3 4 ⟨by decide, by decide⟩ ⟨by decide, by decide⟩
  exact absurd this (by decide +kernel)
theorem ex8_build {L : List (List Sg)} (h : BuildR 2 (lst8 [0, 1, 2, 3, 100, 101, 102]) 7 L) : ∃ s0 s1 t0 : Sg, L = [[s0, s1], [t0]] ∧ s0.te = 4 ∧ s1.fr = 4 ∧ s1.k = 100 ∧ s1.te = 7 ∧ t0.te = 2 := by
  cases L with
  | nil => have h' : 7 = 0 := h; omega
  | cons l r =>
    obtain ⟨_, b, c⟩ := h
    have n1 : 7 ≤ 2000000 := by decide
    have e := (b.ends n1 ex8_bd).one ex8_ends
    have tl := b.tiles n1 ex8_bd
    have ks := b.keys n1 ex8_bd
    have ln : l.length = 2 := by have := congrArg List.length e; simpa using this
    rw [if_neg (by omega)] at c
    match l, ln with
    | [s0, s1], _ =>
      have T0 := tile_at tl 0 (by simp)
      have T1 := tile_at tl 1 (by simp)
      simp only [List.map_cons, List.map_nil, List.cons.injEq] at e
      have x0 : s0.te.toNat = 4 := e.1
      have T0a : s0.fr < s0.te := T0.2.1
      have T0b : s0.fr = 0 := T0.2.2.2.1 rfl
      have T1a : s1.fr = s0.te := T0.2.2.2.2.1 (by simp)
      have T1b : s1.te = 7 := T1.2.2.2.2.2 rfl
      have e4 : s0.te = 4 := by omega
      have k1 : s1.k = lst8 [0, 1, 2, 3, 100, 101, 102] s1.fr.toNat := ks s1 (by simp)
      rw [T1a, e4] at k1
      have k2 : s1.k = 100 := k1
      obtain ⟨u1, _, u3⟩ := fst8_up ex8_up tl ks
      cases r with
      | nil => have h' : ([s0, s1] : List Sg).length = 0 := c; simp at h'
      | cons l2 r2 =>
        obtain ⟨_, b2, c2⟩ := c
        have bd2 := fst8_bd ex8_bd u3
        have m1 : ([s0, s1] : List Sg).length ≤ 2000000 := by simp
        have f2 := b2.few (by decide) (by simp) m1 bd2 u1
        have l1 : l2.length = 1 := Classical.byContradiction fun q => f2.2 q (by simp)
        rw [if_pos l1] at c2
        subst c2
        match l2, l1 with
        | [t0], _ =>
          have T := tile_at (b2.tiles m1 bd2) 0 (by simp)
          have T2 : t0.te = 2 := T.2.2.2.2.2 rfl
          exact ⟨s0, s1, t0, rfl, e4, by omega, k2, T1b, T2⟩
theorem hgt_two : 2 ≤ hgt 2 4294967296 := by
  have h := hgt_pos (e := 2) (by decide) (show 0 < 4294967296 / 2 + 1 by decide)
  rw [hgt_more (by decide) (by decide)]
  omega
theorem mxh_two : 2 ≤ mxh 4294967296 2 := by
  unfold mxh
  rw [if_pos (by decide)]
  have := hgt_two
  show (2 : Int) ≤ ((hgt 2 4294967296 : Nat) : Int)
  omega
theorem ex8_height : mxh 100 2 = 7 := by decide +kernel
theorem ex8_one : CheckR 2 (lst8 [7]) 1 [[⟨7, 0, 0, 0, 1⟩]] 0 := by
  refine .inr (.inr (.inr ⟨by decide, fun j hj => by omega, ⟨?_, by decide⟩, by decide +kernel⟩))
  have := mxh_two
  simp only [List.length_cons, List.length_nil]
  omega
theorem ex8_none : CheckR 2 (lst8 [7]) 1 [] 81 := .inr (.inr (.inl ⟨by decide, fun j hj => by omega, fun q => by simp at q, rfl⟩))
theorem ex8_off : CheckR 2 (lst8 [0, 1, 2, 3, 4, 5]) 6 [[⟨0, 0, 0, 0, 6⟩]] 85 := by
  refine .inr (.inr (.inr ⟨by decide, fun j hj => ?_, ⟨?_, by decide⟩, by decide +kernel⟩))
  · have : ∀ j, j < 5 → lst8 [0, 1, 2, 3, 4, 5] j < lst8 [0, 1, 2, 3, 4, 5] (j + 1) := by decide +kernel
    exact this j (by omega)
  · have := mxh_two
    simp only [List.length_cons, List.length_nil]
    omega
theorem ex8_root : CheckR 2 (lst8 [7, 9]) 2 [[⟨7, 0, 0, 0, 1⟩, ⟨9, 0, 0, 1, 2⟩]] 84 := by
  refine .inr (.inr (.inr ⟨by decide, fun j hj => ?_, ⟨?_, by decide⟩, by decide +kernel⟩))
  · have : ∀ j, j < 1 → lst8 [7, 9] j < lst8 [7, 9] (j + 1) := by decide +kernel
    exact this j (by omega)
  · have := mxh_two
    simp only [List.length_cons, List.length_nil]
    omega

end Go.Proofs.YtdikiaeagcokdaaGreat
