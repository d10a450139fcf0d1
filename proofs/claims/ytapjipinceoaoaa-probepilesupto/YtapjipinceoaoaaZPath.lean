/- The visits of a descent, level by level. No Go in it. -/
import Derived.Test.YtapjipinceoaoaaZPlain
namespace Go.Proofs.Ytapjipinceoaoaa

/-- A visit. -/
structure Vis where
  lv : Int
  sl : Int
  gu : Int
  lo : Int
  hi : Int
  rk : Int

/-- The slot of the level above that stands for q, and its segment. -/
def slotA (q : Int) (L : List (List Sg)) (i : Nat) : Nat := rs (fst8 (L.getD i [])) (L.getD i []).length q
def segA (q : Int) (L : List (List Sg)) (i : Nat) : Sg := (L.getD i []).getD (slotA q L i) sg0
def guessA (q : Int) (L : List (List Sg)) (i : Nat) : Int := guessV (segA q L i).k (segA q L i).sl (segA q L i).ic (segA q L i).fr (segA q L i).te q
/-- The visit of level i. -/
def visAt (eps q : Int) (f : Nat → Int) (n : Nat) (L : List (List Sg)) (i : Nat) : Vis :=
  ⟨i, slotA q L i, guessA q L i, max (segA q L i).fr (guessA q L i - eps - 1), min (segA q L i).te (guessA q L i + eps + 1), cntb (rowF f L i) q (rowN n L i)⟩
/-- All of them, from the topmost one down. -/
def pathL (eps q : Int) (f : Nat → Int) (n : Nat) (L : List (List Sg)) : List Vis := (List.range L.length).map fun j => visAt eps q f n L (L.length - 1 - j)
theorem pathL_len (eps q : Int) (f : Nat → Int) (n : Nat) (L : List (List Sg)) : (pathL eps q f n L).length = L.length := by simp [pathL]

/-- Right levels. -/
structure Lvs (eps : Int) (f : Nat → Int) (n : Nat) (L : List (List Sg)) : Prop where
  lvl : ∀ i, i < L.length → LvR eps (rowF f L i) (rowN n L i) (L.getD i [])
  top : L ≠ [] → (L.getD (L.length - 1) []).length = 1

section
variable {eps q : Int} {f : Nat → Int} {n : Nat} {L : List (List Sg)}
theorem Lvs.vis (h : Lvs eps f n L) (q1 : q < 18446744073709551616) {i : Nat} (hi : i < L.length) : VisR eps (rowF f L i) (rowN n L i) (segA q L i) q := visit_right (h.lvl i hi) q q1
theorem Lvs.slot (h : Lvs eps f n L) {i : Nat} (hi : i < L.length) : slotA q L i < (L.getD i []).length := by
  have K := h.lvl i hi
  obtain ⟨u1, _, _⟩ := fst8_up K.up K.tl (fun s hs => (segE_ok.1 (K.ok s hs)).2.1)
  exact (rs_pick u1 (List.length_pos_iff.2 K.ne) q).1
/-- The topmost slot is 0. -/
theorem Lvs.slot_top (h : Lvs eps f n L) (h0 : 0 < L.length) : slotA q L (L.length - 1) = 0 := by
  unfold slotA
  rw [h.top (fun e => by rw [e] at h0; simp at h0)]
  exact rs_one _ _
/-- The next slot is the row's own. -/
theorem slot_row (i : Nat) : slotA q L i = rs (rowF f L (i + 1)) (rowN n L (i + 1)) q := by
  unfold slotA rowF rowN
  rw [if_neg (by omega), if_neg (by omega)]
  rfl
/-- The window has the rank. -/
theorem Lvs.window (h : Lvs eps f n L) (q1 : q < 18446744073709551616) {i : Nat} (hi : i < L.length) : (visAt eps q f n L i).lo ≤ (visAt eps q f n L i).rk ∧ (visAt eps q f n L i).rk ≤ (visAt eps q f n L i).hi := by
  have V := h.vis (q := q) q1 hi
  have a := V.lo
  have b := V.hi
  have c := V.far
  show max (segA q L i).fr (guessA q L i - eps - 1) ≤ (cntb (rowF f L i) q (rowN n L i) : Int) ∧ (cntb (rowF f L i) q (rowN n L i) : Int) ≤ min (segA q L i).te (guessA q L i + eps + 1)
  unfold guessA
  omega
/-- Below the rank keys are below q; from it on they are not. -/
theorem Lvs.below (h : Lvs eps f n L) {i : Nat} (hi : i < L.length) : (∀ r, r < cntb (rowF f L i) q (rowN n L i) → rowF f L i r < q) ∧ ∀ r, cntb (rowF f L i) q (rowN n L i) ≤ r → r < rowN n L i → q ≤ rowF f L i r :=
  cntb_up (h.lvl i hi).up q _ (Nat.le_refl _)
theorem Lvs.bounds (h : Lvs eps f n L) (q1 : q < 18446744073709551616) {i : Nat} (hi : i < L.length) : 0 ≤ (segA q L i).fr ∧ (segA q L i).fr < (segA q L i).te ∧ (segA q L i).te ≤ 4294967296 ∧ (segA q L i).te ≤ rowN n L i ∧ (segA q L i).fr ≤ guessA q L i ∧ guessA q L i ≤ (segA q L i).te ∧ 0 ≤ (segA q L i).k := by
  have V := h.vis (q := q) q1 hi
  obtain ⟨a, b, c, d, e⟩ := errM_ok.1 V.e0
  have K := h.lvl i hi
  have sl := h.slot (q := q) hi
  have mem : segA q L i ∈ L.getD i [] := by
    unfold segA
    generalize L.getD i [] = l at sl
    rw [List.getD_eq_getElem?_getD, List.getElem?_eq_getElem sl]
    exact List.getElem_mem sl
  have kk := (segE_ok.1 (K.ok _ mem)).2.1
  have k0 : 0 ≤ (segA q L i).k := by
    rw [kk]
    exact (K.bd _ (by have := V.ten; omega)).1
  have g := guessV_in (q := q) V.e0 k0 q1
  exact ⟨a, b, c, V.ten, g.1, g.2, k0⟩
end

end Go.Proofs.Ytapjipinceoaoaa
