/- The descent through right levels: which segment stands for q, and where q's rank lies. No Go in it. -/
import Derived.Test.YtapjipinceoaoaaPVp
namespace Go.Proofs.Ytapjipinceoaoaa

/-- A right level over keys. -/
structure LvR (eps : Int) (f : Nat → Int) (n : Nat) (l : List Sg) : Prop where
  up : Up f n
  bd : ∀ t, t < n → 0 ≤ f t ∧ f t < 18446744073709551616
  tl : tileB n 0 l = true
  ne : l ≠ []
  ok : ∀ s ∈ l, segE eps f s = 0

/-- The keys of a level: level 0 has the keys themselves. -/
def rowF (f : Nat → Int) (L : List (List Sg)) (j : Nat) : Nat → Int := if j = 0 then f else fst8 (L.getD (j - 1) [])
def rowN (n : Nat) (L : List (List Sg)) (j : Nat) : Nat := if j = 0 then n else (L.getD (j - 1) []).length

theorem chk_levels {eps : Int} : ∀ {L : List (List Sg)} {f : Nat → Int} {n : Nat}, Up f n → (∀ t, t < n → 0 ≤ f t ∧ f t < 18446744073709551616) → chkE eps f n L = 0 → (∀ i, i < L.length → LvR eps (rowF f L i) (rowN n L i) (L.getD i [])) ∧ (L ≠ [] → (L.getD (L.length - 1) []).length = 1) := by
  intro L
  induction L with
  | nil => intro f n _ _ _; exact ⟨fun i hi => by simp at hi, fun h => absurd rfl h⟩
  | cons l r ih =>
    intro f n u bd h
    unfold chkE at h
    by_cases t : (tileB n 0 l && !l.isEmpty) = false
    · rw [if_pos t] at h; omega
    · rw [if_neg t] at h
      have t' : tileB n 0 l = true ∧ l ≠ [] := by
        have : (tileB n 0 l && !l.isEmpty) = true := by simpa using t
        rw [Bool.and_eq_true] at this
        refine ⟨this.1, fun e => ?_⟩
        rw [e] at this
        simp at this
      by_cases z : lvlE eps f l = 0
      · rw [if_neg (fun q => q z)] at h
        have K : LvR eps f n l := ⟨u, bd, t'.1, t'.2, lvlE_ok.1 z⟩
        obtain ⟨u1, _, u3⟩ := fst8_up u t'.1 (fun s hs => (segE_ok.1 (K.ok s hs)).2.1)
        by_cases e : r = []
        · subst e
          rw [if_pos rfl] at h
          by_cases o : l.length = 1
          · refine ⟨fun i hi => ?_, fun _ => o⟩
            have : i = 0 := by simp at hi; omega
            subst this
            exact K
          · rw [if_neg o] at h; omega
        · rw [if_neg e] at h
          obtain ⟨a, b⟩ := ih u1 (fst8_bd bd u3) h
          have rl := List.length_pos_iff.2 e
          refine ⟨fun i hi => ?_, fun _ => ?_⟩
          · cases i with
            | zero => exact K
            | succ i =>
              have := a i (by simpa using hi)
              have e1 : rowF f (l :: r) (i + 1) = rowF (fst8 l) r i := by
                unfold rowF
                rw [if_neg (by omega)]
                cases i with
                | zero => rw [if_pos rfl]; rfl
                | succ i => rw [if_neg (by omega)]; rfl
              have e2 : rowN n (l :: r) (i + 1) = rowN l.length r i := by
                unfold rowN
                rw [if_neg (by omega)]
                cases i with
                | zero => rw [if_pos rfl]; rfl
                | succ i => rw [if_neg (by omega)]; rfl
              rw [e1, e2]
              exact this
          · rw [List.length_cons, show r.length + 1 - 1 = (r.length - 1) + 1 by omega]
            exact b e
      · rw [if_pos z] at h; exact absurd h z

/-- The slot that stands for q. -/
def rs (f : Nat → Int) (n : Nat) (q : Int) : Nat := if cntb f q n < n ∧ f (cntb f q n) = q then cntb f q n else cntb f q n - 1
theorem rs_pick {f : Nat → Int} {n : Nat} (u : Up f n) (n0 : 0 < n) (q : Int) : rs f n q < n ∧ (rs f n q = 0 ∨ f (rs f n q) ≤ q) ∧ ∀ t, rs f n q < t → t < n → q < f t := by
  obtain ⟨a, b⟩ := cntb_up u q n (Nat.le_refl _)
  have le := cntb_le f q n
  unfold rs
  by_cases h : cntb f q n < n ∧ f (cntb f q n) = q
  · rw [if_pos h]
    refine ⟨h.1, .inr (by omega), fun t h1 h2 => ?_⟩
    have := u.lt h1 h2
    omega
  · rw [if_neg h]
    refine ⟨by omega, ?_, fun t h1 h2 => ?_⟩
    · by_cases c : cntb f q n = 0
      · exact .inl (by omega)
      · have := a (cntb f q n - 1) (by omega)
        exact .inr (by omega)
    · have k := b t (by omega) h2
      by_cases c : t = cntb f q n
      · subst c
        have : f (cntb f q n) ≠ q := fun e => h ⟨h2, e⟩
        omega
      · have c1 : cntb f q n < n := by omega
        have k1 := b (cntb f q n) (Nat.le_refl _) c1
        have k2 := u.lt (show cntb f q n < t by omega) h2
        omega

/-- What a visit tells of a right level. -/
structure VisR (eps : Int) (f : Nat → Int) (n : Nat) (s : Sg) (q : Int) : Prop where
  e0 : errM s.sl s.ic s.fr s.te = 0
  lo : s.fr ≤ cntb f q n
  hi : (cntb f q n : Int) ≤ s.te
  ten : s.te ≤ n
  far : -(eps + 1) ≤ guessV s.k s.sl s.ic s.fr s.te q - cntb f q n ∧ guessV s.k s.sl s.ic s.fr s.te q - cntb f q n ≤ eps + 1
  near : (cntb f q n < n ∧ f (cntb f q n) = q) → -eps ≤ guessV s.k s.sl s.ic s.fr s.te q - cntb f q n ∧ guessV s.k s.sl s.ic s.fr s.te q - cntb f q n ≤ eps
  there : ((cntb f q n : Int) < s.te ∧ f (cntb f q n) = q) ↔ (cntb f q n < n ∧ f (cntb f q n) = q)
  next : ¬ ((cntb f q n : Int) < s.te ∧ f (cntb f q n) = q) → max ((cntb f q n : Int) - 1) s.fr = rs f n q
theorem visit_right {eps : Int} {f : Nat → Int} {n : Nat} {l : List Sg} (h : LvR eps f n l) (q : Int) (q1 : q < 18446744073709551616) : VisR eps f n (l.getD (rs (fst8 l) l.length q) sg0) q := by
  have l0 := List.length_pos_iff.2 h.ne
  obtain ⟨u1, _, _⟩ := fst8_up h.up h.tl (fun s hs => (segE_ok.1 (h.ok s hs)).2.1)
  obtain ⟨r1, r2, r3⟩ := rs_pick u1 l0 q
  generalize rs (fst8 l) l.length q = t at r1 r2 r3
  obtain ⟨s, hs⟩ : ∃ s, l.getD t sg0 = s := ⟨_, rfl⟩
  have T := tile_at h.tl t r1
  have mem : s ∈ l := by
    rw [← hs, List.getD_eq_getElem?_getD, List.getElem?_eq_getElem r1]
    exact List.getElem_mem r1
  obtain ⟨er, hk, _⟩ := segE_ok.1 (h.ok s mem)
  have N := near_lvl h.up h.bd h.tl h.ok q q1 t r1 r2 r3 s hs
  rw [hs] at T ⊢
  obtain ⟨T1, T2, T3, T4, T5, T6⟩ := T
  obtain ⟨c1, c2⟩ := cntb_up h.up q n (Nat.le_refl _)
  have cl := cntb_le f q n
  have fk : fst8 l t = f s.fr.toNat := by
    show (l.getD t sg0).k = _
    rw [hs]; exact hk
  have beh : ∀ i : Nat, s.te ≤ (i : Int) → i < n → q < f i := fun i h1 h2 => by
    by_cases c : t + 1 < l.length
    · have e := T5 c
      have m' : l.getD (t + 1) sg0 ∈ l := by
        rw [List.getD_eq_getElem?_getD, List.getElem?_eq_getElem c]
        exact List.getElem_mem c
      have k' := (segE_ok.1 (h.ok _ m')).2.1
      have lt := r3 (t + 1) (by omega) c
      have e2 : fst8 l (t + 1) = f s.te.toNat := by
        show (l.getD (t + 1) sg0).k = _
        rw [k', e]
      rw [e2] at lt
      have := h.up.le (show s.te.toNat ≤ i by omega) h2
      omega
    · have := T6 (by omega)
      omega
  have lo : s.fr ≤ cntb f q n := by
    rcases r2 with z | z
    · have := T4 z; omega
    · rw [fk] at z
      by_cases c : s.fr ≤ (cntb f q n : Int)
      · exact c
      · exfalso
        have x := c2 (cntb f q n) (Nat.le_refl _) (by omega)
        have y := h.up.lt (show cntb f q n < s.fr.toNat by omega) (by omega)
        omega
  have hi : (cntb f q n : Int) ≤ s.te := by
    by_cases c : (cntb f q n : Int) ≤ s.te
    · exact c
    · exfalso
      have x := c1 s.te.toNat (by omega)
      have y := beh s.te.toNat (by omega) (by omega)
      omega
  have th : ((cntb f q n : Int) < s.te ∧ f (cntb f q n) = q) ↔ (cntb f q n < n ∧ f (cntb f q n) = q) := by
    constructor
    · exact fun x => ⟨by omega, x.2⟩
    · intro x
      refine ⟨?_, x.2⟩
      by_cases c : (cntb f q n : Int) < s.te
      · exact c
      · have := beh (cntb f q n) (by omega) x.1
        omega
  refine ⟨er, lo, hi, T3, N.1, fun x => N.2 ⟨_, x.1, x.2⟩, th, fun x => ?_⟩
  have nx : ¬ (cntb f q n < n ∧ f (cntb f q n) = q) := fun y => x (th.2 y)
  unfold rs
  rw [if_neg nx]
  by_cases c : (cntb f q n : Int) = s.fr
  · -- no key of the stretch is below q: then the stretch is the first one
    have z : cntb f q n = 0 := by
      rcases r2 with z | z
      · have := T4 z; omega
      · exfalso
        rw [fk] at z
        have e : s.fr.toNat = cntb f q n := by omega
        rw [e] at z
        have := c2 (cntb f q n) (Nat.le_refl _) (by omega)
        exact nx ⟨by omega, by omega⟩
    omega
  · omega

/-- The topmost level: its one slot. -/
theorem rs_one (f : Nat → Int) (q : Int) : rs f 1 q = 0 := by
  have := cntb_le f q 1
  unfold rs
  split <;> omega

end Go.Proofs.Ytapjipinceoaoaa
