/- Built levels end with one segment; sixty cubes make more than one level. No Go in it. -/
import Derived.Test.YtmmkmakajolfhabPVp
namespace Go.Proofs.Ytmmkmakajolfhab

theorem BuildR.top {eps : Int} : ∀ {L : List (List Sg)} {f : Nat → Int} {n : Nat}, BuildR eps f n L → L ≠ [] → (L.getD (L.length - 1) []).length = 1 := by
  intro L
  induction L with
  | nil => intro f n _ h; exact absurd rfl h
  | cons l r ih =>
    intro f n h _
    obtain ⟨a, b, c⟩ := h
    by_cases q : l.length = 1
    · rw [if_pos q] at c
      subst c
      exact q
    · rw [if_neg q] at c
      have l0 : l ≠ [] := b.some a
      have r0 : r ≠ [] := fun e => by
        subst e
        have z : l.length = 0 := c
        exact l0 (List.length_eq_zero_iff.1 z)
      have := ih c r0
      have rl := List.length_pos_iff.2 r0
      rw [List.length_cons, show r.length + 1 - 1 = (r.length - 1) + 1 by omega]
      exact this

def cub (i : Nat) : Int := (i : Int) * i * i
theorem cub_up : Up cub 60 := by
  have h : ∀ j : Fin 59, cub j.val < cub (j.val + 1) := by decide +kernel
  exact fun j hj => h ⟨j, by omega⟩
theorem cub_bd : ∀ t, t < 60 → 0 ≤ cub t ∧ cub t < 18446744073709551616 := by
  have h : ∀ j : Fin 60, 0 ≤ cub j.val ∧ cub j.val < 18446744073709551616 := by decide +kernel
  exact fun j hj => h ⟨j, hj⟩
theorem cub_many {L : List (List Sg)} (h : BuildR 2 cub 60 L) : 1 < L.length ∧ 1 < (L.getD 0 []).length := by
  cases L with
  | nil => have : (60 : Nat) = 0 := h; omega
  | cons l r =>
    obtain ⟨a, b, c⟩ := h
    have l0 : l ≠ [] := b.some a
    have ll := List.length_pos_iff.2 l0
    by_cases q : l.length = 1
    · exfalso
      obtain ⟨s, rfl⟩ := List.length_eq_one_iff.1 q
      obtain ⟨j, ⟨_, _, ft, _⟩, _, e⟩ := b
      have ej : j = 60 := e
      subst ej
      have v := ft 0 5 50 59 ⟨by decide, by decide⟩ ⟨by decide, by decide⟩
      exact absurd v (by decide +kernel)
    · rw [if_neg q] at c
      have r0 : r ≠ [] := fun e => by
        subst e
        have z : l.length = 0 := c
        omega
      have rl := List.length_pos_iff.2 r0
      exact ⟨by rw [List.length_cons]; omega, by show 1 < l.length; omega⟩

/-- Each segment but the last covers many slots. -/
theorem LvlAt.wide {eps : Int} (e1 : 2 ≤ eps) {f : Nat → Int} {n : Nat} (n1 : n ≤ 2000000) (bd : ∀ t, t < n → 0 ≤ f t ∧ f t < 18446744073709551616) (u : Up f n) {l : List Sg} (h : LvlAt eps f n 0 l) (t : Nat) (ht : t + 1 < l.length) : 2 * eps - 1 ≤ (l.getD t sg0).te - (l.getD t sg0).fr := by
  have tl := h.tiles n1 bd
  have T := tile_at tl t (by omega)
  have T' := tile_at tl (t + 1) ht
  have gm : ∀ x, x < l.length → (l.map fun s => s.te.toNat).getD x 0 = (l.getD x sg0).te.toNat := fun x hx => by simp [List.getD, hx]
  have E := (h.ends n1 bd).few (by omega) u t (by simpa using (show t < l.length by omega)) (by rw [gm t (by omega)]; have := T.2.2.2.2.1 ht; omega)
  rw [gm t (by omega)] at E
  have st : (starts 0 (l.map fun s => s.te.toNat) t : Int) = (l.getD t sg0).fr := by
    cases t with
    | zero => have := T.2.2.2.1 rfl; show ((0 : Nat) : Int) = _; omega
    | succ t =>
      show (((l.map fun s => s.te.toNat).getD t 0 : Nat) : Int) = _
      rw [gm t (by omega)]
      have q := tile_at tl t (by omega)
      have := q.2.2.2.2.1 (by omega)
      have := q.1
      omega
  rw [st] at E
  have := T.1
  omega

end Go.Proofs.Ytmmkmakajolfhab
