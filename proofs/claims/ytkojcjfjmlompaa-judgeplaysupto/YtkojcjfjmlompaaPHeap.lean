/- Heads of lists in a heap: plain words. No Go in it. -/
import Derived.Test.YtkojcjfjmlompaaGPlain
namespace Go.Proofs.Ytkojcjfjmlompaa
set_option linter.unusedVariables false

/-- A list, and where it lies. -/
structure Lst (α : Type) where
  b : Nat
  off : Nat
  c : Nat
  l : List α
/-- A head: its key, its list's number, what is left. -/
structure Hd (α : Type) where
  k : Int
  i : Nat
  s : Lst α
def hd0 {α : Type} : Hd α := ⟨0, 0, ⟨0, 0, 0, []⟩⟩
section
variable {α : Type}
def Hd.lt (a b : Hd α) : Prop := a.k < b.k ∨ a.k = b.k ∧ a.i < b.i
def aheadB (a b : Hd α) : Bool := decide (a.k < b.k) || (decide (a.k = b.k) && decide (a.i < b.i))
theorem aheadB_iff {a b : Hd α} : aheadB a b = true ↔ a.lt b := by simp [aheadB, Hd.lt]
theorem aheadB_not {a b : Hd α} : aheadB a b = false ↔ ¬ a.lt b := by rw [← aheadB_iff]; simp
theorem Hd.lt.asymm {a b : Hd α} (h : a.lt b) : ¬ b.lt a := by simp only [Hd.lt] at *; omega
theorem Hd.nlt_trans {a b c : Hd α} (h : ¬ a.lt b) (k : ¬ b.lt c) : ¬ a.lt c := by simp only [Hd.lt] at *; omega
theorem Hd.nlt_lt {a b c : Hd α} (h : ¬ a.lt b) (k : c.lt b) : ¬ a.lt c := by simp only [Hd.lt] at *; omega
def gt (H : List (Hd α)) (i : Nat) : Hd α := H.getD i hd0
/-- A heap. -/
def HeapOn (H : List (Hd α)) : Prop := ∀ i, 0 < i → i < H.length → ¬ (gt H i).lt (gt H ((i - 1) / 2))
def RiseOn (H : List (Hd α)) (a : Nat) : Prop := (∀ i, 0 < i → i < H.length → i ≠ a → ¬ (gt H i).lt (gt H ((i - 1) / 2))) ∧ (∀ c, 0 < c → c < H.length → (c - 1) / 2 = a → 0 < a → ¬ (gt H c).lt (gt H ((a - 1) / 2)))
def SinkOn (H : List (Hd α)) (a : Nat) : Prop := (∀ i, 0 < i → i < H.length → (i - 1) / 2 ≠ a → ¬ (gt H i).lt (gt H ((i - 1) / 2))) ∧ (∀ c, 0 < c → c < H.length → (c - 1) / 2 = a → 0 < a → ¬ (gt H c).lt (gt H ((a - 1) / 2)))
def swp (H : List (Hd α)) (i j : Nat) : List (Hd α) := (H.set i (gt H j)).set j (gt H i)
theorem swp_len (H : List (Hd α)) (i j : Nat) : (swp H i j).length = H.length := by simp [swp]
theorem gt_set (H : List (Hd α)) (i : Nat) (x : Hd α) (hi : i < H.length) (j : Nat) : gt (H.set i x) j = if j = i then x else gt H j := by
  unfold gt
  rw [List.getD_eq_getElem?_getD, List.getD_eq_getElem?_getD, List.getElem?_set]
  by_cases h : i = j
  · subst h; simp [hi]
  · rw [if_neg h, if_neg (Ne.symm h)]
theorem gt_swp (H : List (Hd α)) {i j : Nat} (hi : i < H.length) (hj : j < H.length) (q : Nat) : gt (swp H i j) q = if q = j then gt H i else if q = i then gt H j else gt H q := by
  unfold swp
  rw [gt_set _ _ _ (by simpa using hj), gt_set _ _ _ hi]
theorem swp_perm (H : List (Hd α)) {i j : Nat} (hi : i < H.length) (hj : j < H.length) : (swp H i j).Perm H := by
  unfold swp gt
  have e1 : H.getD j hd0 = H[j] := by simp [List.getD, hj]
  have e2 : H.getD i hd0 = H[i] := by simp [List.getD, hi]
  rw [e1, e2]
  exact List.set_set_perm hi hj
theorem RiseOn.done {H : List (Hd α)} {a : Nat} (h : RiseOn H a) (e : a = 0 ∨ ¬ (gt H a).lt (gt H ((a - 1) / 2))) : HeapOn H := by
  intro i h0 hi
  by_cases q : i = a
  · subst q
    rcases e with e | e
    · omega
    · exact e
  · exact h.1 i h0 hi q
theorem RiseOn.step {H : List (Hd α)} {a : Nat} (h : RiseOn H a) (ha : a < H.length) (h0 : 0 < a) (lt : (gt H a).lt (gt H ((a - 1) / 2))) : RiseOn (swp H a ((a - 1) / 2)) ((a - 1) / 2) := by
  obtain ⟨u, hu⟩ : ∃ u, (a - 1) / 2 = u := ⟨_, rfl⟩
  rw [hu] at lt ⊢
  have ul : u < H.length := by omega
  have G := gt_swp H ha ul
  refine ⟨fun i i0 hi ne => ?_, fun c c0 hc ec u0 => ?_⟩
  · rw [swp_len] at hi
    rw [G i, G ((i - 1) / 2), if_neg ne]
    by_cases q : i = a
    · subst q
      rw [if_pos rfl, hu, if_pos rfl]
      exact lt.asymm
    · rw [if_neg q]
      by_cases q1 : (i - 1) / 2 = u
      · rw [if_pos q1]
        have := h.1 i i0 hi q
        rw [q1] at this
        exact Hd.nlt_lt this lt
      · rw [if_neg q1]
        by_cases q2 : (i - 1) / 2 = a
        · rw [if_pos q2]
          have := h.2 i i0 hi q2 h0
          rwa [hu] at this
        · rw [if_neg q2]
          exact h.1 i i0 hi q
  · rw [swp_len] at hc
    have e1 : (u - 1) / 2 ≠ u := by omega
    have e2 : (u - 1) / 2 ≠ a := by omega
    have e3 : c ≠ u := by omega
    rw [G c, G ((u - 1) / 2), if_neg e3, if_neg e1, if_neg e2]
    have e4 := h.1 u u0 ul (by omega)
    by_cases q : c = a
    · rw [if_pos q]; exact e4
    · rw [if_neg q]
      have := h.1 c c0 hc q
      rw [ec] at this
      exact Hd.nlt_trans this e4
/-- The first of three. -/
def BelowR (H : List (Hd α)) (a d : Nat) : Prop := (d = a ∧ ∀ c, 0 < c → c < H.length → (c - 1) / 2 = a → ¬ (gt H c).lt (gt H a)) ∨ (a < d ∧ d < H.length ∧ (d - 1) / 2 = a ∧ (gt H d).lt (gt H a) ∧ ∀ c, 0 < c → c < H.length → (c - 1) / 2 = a → ¬ (gt H c).lt (gt H d))
theorem SinkOn.done {H : List (Hd α)} {a : Nat} (h : SinkOn H a) (e : ∀ c, 0 < c → c < H.length → (c - 1) / 2 = a → ¬ (gt H c).lt (gt H a)) : HeapOn H := by
  intro i h0 hi
  by_cases q : (i - 1) / 2 = a
  · rw [q]; exact e i h0 hi q
  · exact h.1 i h0 hi q
theorem SinkOn.step {H : List (Hd α)} {a d : Nat} (h : SinkOn H a) (ad : a < d) (hd : d < H.length) (pd : (d - 1) / 2 = a) (lt : (gt H d).lt (gt H a)) (e : ∀ c, 0 < c → c < H.length → (c - 1) / 2 = a → ¬ (gt H c).lt (gt H d)) : SinkOn (swp H a d) d := by
  have G := gt_swp H (show a < H.length by omega) hd
  refine ⟨fun i i0 hi ne => ?_, fun c c0 hc ec u0 => ?_⟩
  · rw [swp_len] at hi
    rw [G i, G ((i - 1) / 2), if_neg ne]
    by_cases q : i = d
    · subst q
      rw [if_pos rfl, if_pos pd]
      exact lt.asymm
    · rw [if_neg q]
      by_cases q1 : i = a
      · subst q1
        rw [if_pos rfl, if_neg (by omega)]
        exact h.2 d (by omega) hd pd i0
      · rw [if_neg q1]
        by_cases q2 : (i - 1) / 2 = a
        · rw [if_pos q2]; exact e i i0 hi q2
        · rw [if_neg q2]; exact h.1 i i0 hi q2
  · rw [swp_len] at hc
    have e1 : c ≠ d := by omega
    have e2 : c ≠ a := by omega
    rw [G c, G ((d - 1) / 2), if_neg e1, if_neg e2, if_neg (by omega), if_pos pd]
    have := h.1 c c0 hc (by omega)
    rwa [ec] at this
/-- The first of a heap is ahead of all. -/
theorem HeapOn.first {H : List (Hd α)} (h : HeapOn H) : ∀ (n i : Nat), i ≤ n → i < H.length → ¬ (gt H i).lt (gt H 0)
  | 0, i, hn, hi => by
    have : i = 0 := by omega
    subst this
    simp only [Hd.lt]; omega
  | n + 1, i, hn, hi => by
    by_cases q : i = 0
    · subst q; simp only [Hd.lt]; omega
    · exact Hd.nlt_trans (h i (by omega) hi) (HeapOn.first h n ((i - 1) / 2) (by omega) (by omega))
theorem HeapOn.least {H : List (Hd α)} (h : HeapOn H) {x : Hd α} (hx : x ∈ H) : ¬ x.lt (gt H 0) := by
  obtain ⟨i, hi, rfl⟩ := List.mem_iff_getElem.1 hx
  have := h.first i i (Nat.le_refl _) hi
  rwa [show gt H i = H[i] by simp [gt, List.getD, hi]] at this
theorem gt_app (H : List (Hd α)) (x : Hd α) (i : Nat) : gt (H ++ [x]) i = if i < H.length then gt H i else if i = H.length then x else hd0 := by
  unfold gt
  rw [List.getD_eq_getElem?_getD, List.getD_eq_getElem?_getD, List.getElem?_append]
  split
  · rfl
  · rename_i q
    by_cases e : i = H.length
    · rw [if_pos e, e]; simp
    · rw [if_neg e, List.getElem?_eq_none (by simp; omega)]; rfl
theorem HeapOn.app {H : List (Hd α)} (h : HeapOn H) (x : Hd α) : RiseOn (H ++ [x]) H.length := by
  refine ⟨fun i i0 hi ne => ?_, fun c c0 hc ec a0 => ?_⟩
  · have : i < H.length := by simp at hi; omega
    rw [gt_app, gt_app, if_pos this, if_pos (by omega)]
    exact h i i0 this
  · simp at hc; omega
/-- The last in the place of the first. -/
def cutL (H : List (Hd α)) : List (Hd α) := (H.set 0 (gt H (H.length - 1))).take (H.length - 1)
theorem cutL_len (H : List (Hd α)) : (cutL H).length = H.length - 1 := by simp [cutL]
theorem cutL_perm (H : List (Hd α)) (h0 : 0 < H.length) : H.Perm (gt H 0 :: cutL H) := by
  match H, h0 with
  | x :: t, _ =>
    rcases List.eq_nil_or_concat t with rfl | ⟨t0, y, rfl⟩
    · simp [gt, cutL]
    · have e : gt (x :: t0.concat y) ((x :: t0.concat y).length - 1) = y := by simp [gt, List.concat_eq_append]
      unfold cutL
      rw [e]
      simp only [List.concat_eq_append, List.set_cons_zero, List.length_cons, List.length_append, List.length_nil, Nat.zero_add, Nat.add_sub_cancel]
      show List.Perm _ (x :: List.take (t0.length + 1) (y :: (t0 ++ [y])))
      rw [List.take_succ_cons, List.take_left']
      · exact List.Perm.cons _ (List.perm_append_comm (l₁ := t0) (l₂ := [y]))
      · rfl
theorem gt_take (H : List (Hd α)) (n i : Nat) (hi : i < n) : gt (H.take n) i = gt H i := by
  unfold gt
  rw [List.getD_eq_getElem?_getD, List.getD_eq_getElem?_getD, List.getElem?_take_of_lt hi]
theorem HeapOn.cut {H : List (Hd α)} (h : HeapOn H) (h0 : 0 < H.length) : SinkOn (cutL H) 0 := by
  refine ⟨fun i i0 hi ne => ?_, fun c c0 hc ec a0 => by omega⟩
  rw [cutL_len] at hi
  unfold cutL
  rw [gt_take _ _ _ hi, gt_take _ _ _ (by omega), gt_set _ _ _ h0, gt_set _ _ _ h0, if_neg (by omega), if_neg ne]
  exact h i i0 (by omega)
variable (key : α → Int) (sz : Nat)
/-- A list's head, if it has one. -/
def hd1 (i : Nat) (s : Lst α) : List (Hd α) := match s.l with
  | [] => []
  | x :: _ => [⟨key x, i, s⟩]
/-- The heads of lists. -/
def hds : Nat → List (Lst α) → List (Hd α)
  | _, [] => []
  | i, s :: r => hd1 key i s ++ hds (i + 1) r
def adv (s : Lst α) : Lst α := ⟨s.b, s.off + sz, s.c - 1, s.l.tail⟩
def passS (k : Int) (s : Lst α) : Lst α := match s.l with
  | [] => s
  | x :: _ => if key x = k then adv sz s else s
variable {key} {sz}
theorem passS_l (k : Int) (s : Lst α) : (passS key sz k s).l = pass key k s.l := by
  obtain ⟨b, off, c, l⟩ := s
  cases l with
  | nil => rfl
  | cons x t =>
    simp only [passS, pass]
    split <;> rfl
theorem hd1_mem {i : Nat} {s : Lst α} {h : Hd α} (m : h ∈ hd1 key i s) : h.i = i ∧ h.s = s ∧ ∃ x t, s.l = x :: t ∧ h.k = key x := by
  unfold hd1 at m
  split at m
  · cases m
  · rename_i x t e
    have : h = ⟨key x, i, s⟩ := by simpa using m
    subst this
    exact ⟨rfl, rfl, x, t, e, rfl⟩
theorem hds_mem : ∀ {L : List (Lst α)} {i : Nat} {h : Hd α}, h ∈ hds key i L → h.s ∈ L ∧ i ≤ h.i ∧ h.i < i + L.length ∧ ∃ x t, h.s.l = x :: t ∧ h.k = key x
  | [], i, h, m => by simp [hds] at m
  | s :: r, i, h, m => by
    rw [hds, List.mem_append] at m
    rcases m with m | m
    · obtain ⟨h1, h2, x, t, h3, h4⟩ := hd1_mem m
      exact ⟨by rw [h2]; exact List.mem_cons_self .., by omega, by simp; omega, x, t, by rw [h2]; exact h3, h4⟩
    · obtain ⟨h1, h2, h3, h4⟩ := hds_mem m
      exact ⟨List.mem_cons_of_mem _ h1, by omega, by simp; omega, h4⟩
theorem hds_of {L : List (Lst α)} {s : Lst α} (hs : s ∈ L) {x : α} {t : List α} (e : s.l = x :: t) : ∀ i, ∃ h ∈ hds key i L, h.s = s ∧ h.k = key x := by
  induction L with
  | nil => cases hs
  | cons a r ih =>
    intro i
    rcases List.mem_cons.1 hs with rfl | q
    · refine ⟨⟨key x, i, s⟩, ?_, rfl, rfl⟩
      rw [hds, List.mem_append]
      left
      unfold hd1
      rw [e]
      exact List.mem_cons_self ..
    · obtain ⟨h, h1, h2⟩ := ih q (i + 1)
      exact ⟨h, by rw [hds, List.mem_append]; exact .inr h1, h2⟩
theorem hds_nil {L : List (Lst α)} {i : Nat} (h : hds key i L = []) : leastM key (L.map Lst.l) = none := by
  rw [least_none]
  intro l hl
  obtain ⟨s, hs, rfl⟩ := List.mem_map.1 hl
  cases e : s.l with
  | nil => rfl
  | cons x t =>
    obtain ⟨y, hy, _⟩ := hds_of hs e i (key := key)
    rw [h] at hy
    cases hy
/-- The leastM head is the one that is told. -/
theorem hds_least : ∀ {L : List (Lst α)} {i : Nat} {h : Hd α}, h ∈ hds key i L → (∀ y ∈ hds key i L, ¬ y.lt h) → ∃ x t, h.s.l = x :: t ∧ h.k = key x ∧ leastM key (L.map Lst.l) = some x
  | [], i, h, m, _ => by simp [hds] at m
  | s :: r, i, h, m, mn => by
    rw [hds, List.mem_append] at m
    have mr : ∀ y ∈ hds key (i + 1) r, ¬ y.lt h := fun y hy => mn y (by rw [hds, List.mem_append]; exact .inr hy)
    rcases m with m | m
    · obtain ⟨h1, h2, x, t, h3, h4⟩ := hd1_mem m
      refine ⟨x, t, by rw [h2]; exact h3, h4, ?_⟩
      rw [List.map_cons, h3]
      simp only [leastM]
      cases e : leastM key (r.map Lst.l) with
      | none => rfl
      | some y =>
        obtain ⟨a, l, b, el, _, _⟩ := least_some e
        have : (y :: l) ∈ r.map Lst.l := by rw [el]; simp
        obtain ⟨s', hs', es⟩ := List.mem_map.1 this
        obtain ⟨q, hq, _, qk⟩ := hds_of hs' es (i + 1) (key := key)
        have := mr q hq
        simp only [Hd.lt] at this
        have nl : ¬ key y < key x := by omega
        simp [nl]
    · obtain ⟨x, t, h1, h2, h3⟩ := hds_least m mr
      refine ⟨x, t, h1, h2, ?_⟩
      rw [List.map_cons]
      cases e : s.l with
      | nil => simp only [leastM]; exact h3
      | cons z u =>
        simp only [leastM, h3]
        obtain ⟨_, g1, _, _⟩ := hds_mem m
        have : ¬ (⟨key z, i, s⟩ : Hd α).lt h := mn _ (by rw [hds, List.mem_append]; left; unfold hd1; rw [e]; exact List.mem_cons_self ..)
        simp only [Hd.lt] at this
        rw [if_pos (by omega)]
theorem hds_pass (k : Int) : ∀ (L : List (Lst α)) (i : Nat), (hds key i (L.map (passS key sz k))).Perm ((hds key i L).filter (fun h => !decide (h.k = k)) ++ ((hds key i L).filter (fun h => decide (h.k = k))).flatMap (fun h => hd1 key h.i (adv sz h.s)))
  | [], i => by simp [hds]
  | s :: r, i => by
    have ih := hds_pass k r (i + 1)
    rw [List.map_cons, hds, hds]
    rw [List.filter_append, List.filter_append, List.flatMap_append]
    cases e : s.l with
    | nil =>
      have e1 : hd1 key i s = [] := by unfold hd1; rw [e]
      have e2 : hd1 key i (passS key sz k s) = [] := by
        have : passS key sz k s = s := by unfold passS; rw [e]
        rw [this]; exact e1
      rw [e1, e2]
      simpa using ih
    | cons x t =>
      have e1 : hd1 key i s = [⟨key x, i, s⟩] := by unfold hd1; rw [e]
      rw [e1]
      by_cases q : key x = k
      · have e2 : passS key sz k s = adv sz s := by unfold passS; rw [e]; simp [q]
        rw [e2]
        simp only [List.filter_cons, List.filter_nil, q, decide_true, Bool.not_true, if_true, List.flatMap_cons, List.flatMap_nil, List.append_nil]
        refine (List.Perm.append_left _ ih).trans ?_
        simp only [Bool.false_eq_true, if_false, List.nil_append]
        rw [← List.append_assoc, ← List.append_assoc]
        exact List.Perm.append_right _ List.perm_append_comm
      · have e2 : passS key sz k s = s := by unfold passS; rw [e]; simp [q]
        rw [e2, e1]
        simp only [List.filter_cons, List.filter_nil, q, decide_false, Bool.not_false, if_true, Bool.false_eq_true, if_false, List.flatMap_nil, List.nil_append, List.cons_append]
        exact List.Perm.cons _ ih
theorem filter_all {β : Type} {p : β → Bool} {l : List β} (h : ∀ x ∈ l, p x = true) : l.filter p = l := List.filter_eq_self.2 h
theorem filter_no {β : Type} {p : β → Bool} {l : List β} (h : ∀ x ∈ l, p x = false) : l.filter p = [] := by
  rw [List.filter_eq_nil_iff]
  intro x hx
  rw [h x hx]
  decide
/-- One told: the heads behind it. -/
theorem hds_next {L : List (Lst α)} {H P H' Hf : List (Hd α)} {k : Int} (hH : H.Perm (hds key 0 L)) (hP : (P ++ H').Perm H) (p1 : ∀ p ∈ P, p.k = k) (p2 : ∀ h ∈ H', h.k ≠ k) (hf : Hf.Perm (H' ++ P.flatMap (fun h => hd1 key h.i (adv sz h.s)))) : Hf.Perm (hds key 0 (L.map (passS key sz k))) := by
  have h1 := hds_pass (sz := sz) k L 0 (key := key)
  have e := hP.trans hH
  have f1 := e.filter (fun h : Hd α => !decide (h.k = k))
  have f2 := e.filter (fun h : Hd α => decide (h.k = k))
  rw [List.filter_append, filter_no (l := P) (fun x hx => by simp [p1 x hx]), filter_all (l := H') (fun x hx => by simp [p2 x hx]), List.nil_append] at f1
  rw [List.filter_append, filter_all (l := P) (fun x hx => by simp [p1 x hx]), filter_no (l := H') (fun x hx => by simp [p2 x hx]), List.append_nil] at f2
  exact hf.trans ((List.Perm.append f1 (f2.flatMap_right _)).trans h1.symm)
theorem hd1_len (i : Nat) (s : Lst α) : (hd1 key i s).length ≤ s.l.length := by
  unfold hd1
  split
  · exact Nat.zero_le _
  · rename_i e; rw [e]; simp
theorem hds_len : ∀ (L : List (Lst α)) (i : Nat), (hds key i L).length ≤ L.length
  | [], i => Nat.le_refl _
  | s :: r, i => by
    rw [hds, List.length_append]
    have := hds_len r (i + 1)
    have : (hd1 key i s).length ≤ 1 := by unfold hd1; split <;> simp
    simp; omega
end
end Go.Proofs.Ytkojcjfjmlompaa
