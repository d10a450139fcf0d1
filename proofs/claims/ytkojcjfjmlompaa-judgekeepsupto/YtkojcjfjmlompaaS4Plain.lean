/- Layer 23, plain: a map of numbers as a list of pairs that rise; what is found among all keys, whatever their order. -/
import Derived.Test.YtkojcjfjmlompaaS3Plain2
namespace Go.Proofs.Ytkojcjfjmlompaa
set_option linter.unusedVariables false

/-- The value at a key. -/
def vlP (l : Ps) (q : Int) : Int := ((l[rk l q]?).map Prod.snd).getD 0
theorem rise_key {l : Ps} (r : RiseP l) {i j : Nat} {p q : Int × Int} (hi : l[i]? = some p) (hj : l[j]? = some q) (e : p.1 = q.1) : i = j := by
  rcases Nat.lt_trichotomy i j with h | h | h
  · have := rise_get r hi hj h; omega
  · exact h
  · have := rise_get r hj hi h; omega
theorem mem_at {l : Ps} {p : Int × Int} (h : p ∈ l) : ∃ i : Nat, l[i]? = some p := by
  obtain ⟨i, hi, e⟩ := List.mem_iff_getElem.1 h
  exact ⟨i, by rw [List.getElem?_eq_getElem hi, e]⟩
theorem at_mem {l : Ps} {i : Nat} {p : Int × Int} (h : l[i]? = some p) : p ∈ l := by
  obtain ⟨hi, e⟩ := List.getElem?_eq_some_iff.1 h
  exact List.mem_iff_getElem.2 ⟨i, hi, e⟩
theorem rk_at {l : Ps} (r : RiseP l) {i : Nat} {p : Int × Int} (h : l[i]? = some p) : rk l p.1 = i := by
  have hl : i < l.length := (List.getElem?_eq_some_iff.1 h).1
  refine rk_is p.1 l i (fun j q hj hq => rise_get r hq h hj) (by omega) (fun q hq => ?_)
  rw [h] at hq
  cases hq
  omega
theorem mem_key {l : Ps} (r : RiseP l) {p : Int × Int} (h : p ∈ l) : isK l p.1 = true ∧ vlP l p.1 = p.2 := by
  obtain ⟨i, hi⟩ := mem_at h
  have e := rk_at r hi
  refine ⟨?_, ?_⟩
  · unfold isK
    rw [e, hi]
    simp
  · unfold vlP
    rw [e, hi]
    rfl
theorem key_mem {l : Ps} {x : Int} (h : isK l x = true) : (x, vlP l x) ∈ l := by
  obtain ⟨p, hp, e⟩ := isK_some h
  have : (x, vlP l x) = p := by
    unfold vlP
    rw [hp, ← e]
    rfl
  rw [this]
  exact at_mem hp
theorem isK_iff {l m : Ps} (r : RiseP l) (s : RiseP m) (x : Int) (P : Prop) [Decidable P] (h : (∃ v, (x, v) ∈ m) ↔ P ∨ ∃ v, (x, v) ∈ l) : isK m x = (decide P || isK l x) := by
  rw [Bool.eq_iff_iff]
  constructor
  · intro q
    rcases h.1 ⟨_, key_mem q⟩ with q | ⟨v, q⟩
    · simp [q]
    · simp [(mem_key r q).1]
  · intro q
    have : P ∨ ∃ v, (x, v) ∈ l := by
      by_cases c : P
      · exact .inl c
      · refine .inr ⟨_, key_mem ?_⟩
        simpa [c] using q
    obtain ⟨v, hv⟩ := h.2 this
    exact (mem_key s hv).1
/-- What is there behind a put that is taken. -/
theorem mem_put {l : Ps} (r : RiseP l) {most k v : Int} (ok : isK l k = true ∨ (l.length : Int) < most) (p : Int × Int) : p ∈ (putP most l k v).1 ↔ p = (k, v) ∨ (p ∈ l ∧ p.1 ≠ k) := by
  unfold putP
  by_cases h : isK l k = true
  · rw [if_pos h]
    obtain ⟨p0, hp0, e0⟩ := isK_some h
    have hl : rk l k < l.length := (List.getElem?_eq_some_iff.1 hp0).1
    constructor
    · intro q
      obtain ⟨i, hi⟩ := mem_at q
      rw [List.getElem?_set] at hi
      split at hi
      · simp at hi
        exact .inl hi.symm
      · rename_i ne
        refine .inr ⟨at_mem hi, fun e => ne ?_⟩
        exact rise_key r hp0 hi (by rw [e0, e])
    · rintro (rfl | ⟨q, ne⟩)
      · exact at_mem (i := rk l k) (by simp [hl])
      · obtain ⟨i, hi⟩ := mem_at q
        refine at_mem (i := i) ?_
        rw [List.getElem?_set_ne]
        · exact hi
        · intro e
          rw [← e, hp0] at hi
          cases hi
          exact ne e0
  · rw [if_neg h, if_neg (by have := ok.resolve_left h; omega)]
    have hn := isK_no (Bool.eq_false_iff.2 h)
    show p ∈ l.take (rk l k) ++ (k, v) :: l.drop (rk l k) ↔ _
    have split : p ∈ l ↔ p ∈ l.take (rk l k) ∨ p ∈ l.drop (rk l k) := by
      rw [← List.mem_append, List.take_append_drop]
    have ne : p ∈ l → p.1 ≠ k := fun q e => by
      have := (mem_key r q).1
      rw [e] at this
      exact h this
    simp only [List.mem_append, List.mem_cons]
    constructor
    · rintro (q | q | q)
      · exact .inr ⟨split.2 (.inl q), ne (split.2 (.inl q))⟩
      · exact .inl q
      · exact .inr ⟨split.2 (.inr q), ne (split.2 (.inr q))⟩
    · rintro (q | ⟨q, _⟩)
      · exact .inr (.inl q)
      · rcases split.1 q with q | q
        · exact .inl q
        · exact .inr (.inr q)
theorem isK_put {l : Ps} (r : RiseP l) {most k v : Int} (ok : isK l k = true ∨ (l.length : Int) < most) (x : Int) : isK (putP most l k v).1 x = (decide (x = k) || isK l x) := by
  refine isK_iff r (rise_put r most k v) x (x = k) ⟨?_, ?_⟩
  · rintro ⟨u, hu⟩
    rcases (mem_put r ok _).1 hu with q | ⟨q, _⟩
    · cases q; exact .inl rfl
    · exact .inr ⟨u, q⟩
  · rintro (rfl | ⟨u, hu⟩)
    · exact ⟨v, (mem_put r ok _).2 (.inl rfl)⟩
    · by_cases c : x = k
      · subst c; exact ⟨v, (mem_put r ok _).2 (.inl rfl)⟩
      · exact ⟨u, (mem_put r ok _).2 (.inr ⟨hu, c⟩)⟩
theorem vlP_put {l : Ps} (r : RiseP l) {most k v : Int} (ok : isK l k = true ∨ (l.length : Int) < most) {x : Int} (hx : x = k ∨ isK l x = true) : vlP (putP most l k v).1 x = if x = k then v else vlP l x := by
  have s := rise_put r most k v
  by_cases c : x = k
  · subst c
    rw [if_pos rfl]
    exact (mem_key s ((mem_put r ok _).2 (.inl rfl))).2
  · rw [if_neg c]
    have h : isK l x = true := hx.resolve_left c
    exact (mem_key s ((mem_put r ok _).2 (.inr ⟨key_mem h, c⟩))).2
theorem len_put_is {l : Ps} {most k v : Int} (ok : isK l k = true ∨ (l.length : Int) < most) : (putP most l k v).1.length = if isK l k = true then l.length else l.length + 1 := by
  unfold putP
  by_cases h : isK l k = true
  · rw [if_pos h, if_pos h]; simp
  · rw [if_neg h, if_neg h, if_neg (by have := ok.resolve_left h; omega)]
    have := rk_le l k
    simp
    omega
/-- What is there behind a drop. -/
def dropP (l : Ps) (k : Int) : Ps := if isK l k = true then l.take (rk l k) ++ l.drop (rk l k + 1) else l
theorem nxt_two (most : Int) (l : Ps) (k v : Int) : nxtP most l 2 k v = dropP l k := by
  unfold nxtP dropP
  simp
theorem mem_drop {l : Ps} (r : RiseP l) (k : Int) (p : Int × Int) : p ∈ dropP l k ↔ p ∈ l ∧ p.1 ≠ k := by
  unfold dropP
  by_cases h : isK l k = true
  · rw [if_pos h]
    obtain ⟨p0, hp0, e0⟩ := isK_some h
    have hl : rk l k < l.length := (List.getElem?_eq_some_iff.1 hp0).1
    have split : p ∈ l ↔ p ∈ l.take (rk l k) ∨ p = p0 ∨ p ∈ l.drop (rk l k + 1) := by
      have e1 : l.drop (rk l k) = p0 :: l.drop (rk l k + 1) := by
        rw [List.drop_eq_getElem_cons hl]
        congr 1
        rw [List.getElem?_eq_getElem hl] at hp0
        exact Option.some.inj hp0
      rw [← List.mem_cons, ← e1, ← List.mem_append, List.take_append_drop]
    rw [List.mem_append]
    constructor
    · intro q
      have m : p ∈ l := split.2 (q.elim .inl fun z => .inr (.inr z))
      refine ⟨m, fun e => ?_⟩
      rcases q with q | q
      · obtain ⟨i, hi⟩ := mem_at q
        rw [List.getElem?_take] at hi
        split at hi
        · have := rise_key r hi hp0 (by rw [e, e0]); omega
        · cases hi
      · obtain ⟨i, hi⟩ := mem_at q
        rw [List.getElem?_drop] at hi
        have := rise_key r hi hp0 (by rw [e, e0])
        omega
    · rintro ⟨q, ne⟩
      rcases split.1 q with q | q | q
      · exact .inl q
      · exact absurd (by rw [q]; exact e0) ne
      · exact .inr q
  · rw [if_neg h]
    exact ⟨fun q => ⟨q, fun e => h (by rw [← e]; exact (mem_key r q).1)⟩, fun q => q.1⟩
theorem rise_drop {l : Ps} (r : RiseP l) (k : Int) : RiseP (dropP l k) := by rw [← nxt_two 0 l k 0]; exact rise_nxt r _ _ _ _
theorem isK_drop {l : Ps} (r : RiseP l) (k x : Int) : isK (dropP l k) x = (!decide (x = k) && isK l x) := by
  rw [Bool.eq_iff_iff]
  constructor
  · intro q
    have := (mem_drop r k _).1 (key_mem q)
    have h1 := (mem_key r this.1).1
    have h2 := this.2
    simp only [] at h1 h2
    simp [h1, h2]
  · intro q
    simp only [Bool.and_eq_true, Bool.not_eq_true', decide_eq_false_iff_not] at q
    exact (mem_key (rise_drop r k) ((mem_drop r k _).2 ⟨key_mem q.2, q.1⟩)).1
theorem vlP_drop {l : Ps} (r : RiseP l) {k x : Int} (h : isK (dropP l k) x = true) : vlP (dropP l k) x = vlP l x := by
  rw [isK_drop r] at h
  simp only [Bool.and_eq_true, Bool.not_eq_true', decide_eq_false_iff_not] at h
  exact (mem_key (rise_drop r k) ((mem_drop r k _).2 ⟨key_mem h.2, h.1⟩)).2
theorem len_drop_is (l : Ps) (k : Int) : (dropP l k).length + (if isK l k = true then 1 else 0) = l.length := by
  unfold dropP
  by_cases h : isK l k = true
  · rw [if_pos h, if_pos h]
    obtain ⟨p0, hp0, _⟩ := isK_some h
    have hl : rk l k < l.length := (List.getElem?_eq_some_iff.1 hp0).1
    simp
    omega
  · simp [h]
/-- The greatest key that is not above. -/
theorem floor_no {l : Ps} {q : Int} (r : RiseP l) (h : ∀ x, isK l x = true → ¬ x ≤ q) : hitP (atP l (spotP 4 l q)) = aw0 := by
  have e0 : isK l q = false := by
    cases e : isK l q with
    | false => rfl
    | true => exact absurd (Int.le_refl q) (h q e)
  have z : rk l q = 0 := by
    refine rk_is q l 0 (fun i p hi _ => by omega) (Nat.zero_le _) (fun p hp => ?_)
    have := h p.1 (mem_key r (at_mem hp)).1
    omega
  have s : spotP 4 l q = -1 := by unfold spotP; rw [if_pos ⟨rfl, e0⟩, z]; rfl
  rw [s]
  rfl
theorem floor_is {l : Ps} {q x : Int} (r : RiseP l) (hx : isK l x = true) (hq : x ≤ q) (h : ∀ y, isK l y = true → y ≤ q → y ≤ x) : hitP (atP l (spotP 4 l q)) = ⟨0, true, x, vlP l x, 0, []⟩ := by
  obtain ⟨p, hp, e⟩ := isK_some hx
  have ev : vlP l x = p.2 := by unfold vlP; rw [hp]; rfl
  have key : ∀ (i : Nat), (0 : Int) ≤ spotP 4 l q → (spotP 4 l q).toNat = i → l[i]? = some p → hitP (atP l (spotP 4 l q)) = ⟨0, true, x, vlP l x, 0, []⟩ := fun i h0 h1 h2 => by
    unfold atP
    rw [if_pos h0, h1, h2, ev, ← e]
    rfl
  by_cases c : isK l q = true
  · have eq : x = q := by have := h q c (Int.le_refl q); omega
    have s : spotP 4 l q = (rk l q : Int) := by unfold spotP; rw [if_neg (by simp [c])]
    refine key (rk l q) (by rw [s]; omega) (by rw [s]; omega) ?_
    rw [← eq]
    exact hp
  · have cf : isK l q = false := Bool.eq_false_iff.2 c
    have s : spotP 4 l q = (rk l q : Int) - 1 := by unfold spotP; rw [if_pos ⟨rfl, cf⟩]
    have lt : p.1 < q := by
      rcases Int.lt_or_eq_of_le hq with g | g
      · omega
      · rw [← g] at cf; rw [hx] at cf; cases cf
    have hrl : rk l x < rk l q := by
      rcases Nat.lt_or_ge (rk l x) (rk l q) with g | g
      · exact g
      · have hl : rk l x < l.length := (List.getElem?_eq_some_iff.1 hp).1
        have hl2 : rk l q < l.length := by omega
        have h0 := rk_ge q l _ (List.getElem?_eq_getElem hl2)
        rcases Nat.lt_or_eq_of_le g with g | g
        · have := rise_get r (List.getElem?_eq_getElem hl2) hp g
          omega
        · have hp2 := hp
          rw [← g, List.getElem?_eq_getElem hl2] at hp2
          have : l[rk l q] = p := Option.some.inj hp2
          rw [this] at h0
          omega
    have hle := rk_le l q
    have hl3 : rk l q - 1 < l.length := by omega
    obtain ⟨p2, hp2⟩ : ∃ p2, l[rk l q - 1]? = some p2 := ⟨_, List.getElem?_eq_getElem hl3⟩
    have a1 := rk_lt q l (rk l q - 1) p2 (by omega) hp2
    have a2 := h p2.1 (mem_key r (at_mem hp2)).1 (by omega)
    have eqi : rk l x = rk l q - 1 := by
      rcases Nat.lt_or_eq_of_le (show rk l x ≤ rk l q - 1 by omega) with g | g
      · have := rise_get r hp hp2 g; omega
      · exact g
    refine key (rk l x) (by rw [s]; omega) (by rw [s]; omega) hp
/-- The least key that is not below. -/
theorem ceil_no {l : Ps} {q : Int} (r : RiseP l) (h : ∀ x, isK l x = true → ¬ q ≤ x) : hitP (atP l (spotP 5 l q)) = aw0 := by
  have n : l[rk l q]? = none := by
    cases e : l[rk l q]? with
    | none => rfl
    | some p =>
      have := rk_ge q l p e
      exact absurd (show q ≤ p.1 by omega) (h p.1 (mem_key r (at_mem e)).1)
  have s : spotP 5 l q = (rk l q : Int) := by unfold spotP; rw [if_neg (by omega)]
  rw [s]
  unfold atP
  rw [if_pos (by omega), Int.toNat_natCast, n]
  rfl
theorem ceil_is {l : Ps} {q x : Int} (r : RiseP l) (hx : isK l x = true) (hq : q ≤ x) (h : ∀ y, isK l y = true → q ≤ y → x ≤ y) : hitP (atP l (spotP 5 l q)) = ⟨0, true, x, vlP l x, 0, []⟩ := by
  obtain ⟨p, hp, e⟩ := isK_some hx
  have ev : vlP l x = p.2 := by unfold vlP; rw [hp]; rfl
  have eqi : rk l q = rk l x := by
    refine rk_is q l _ (fun i p' hi hp' => ?_) (by have := (List.getElem?_eq_some_iff.1 hp).1; omega) (fun p' hp' => ?_)
    · have lt := rise_get r hp' hp hi
      rcases Int.lt_or_le p'.1 q with g | g
      · exact g
      · have := h p'.1 (mem_key r (at_mem hp')).1 g; omega
    · rw [hp] at hp'
      cases hp'
      omega
  have s : spotP 5 l q = (rk l q : Int) := by unfold spotP; rw [if_neg (by omega)]
  rw [s]
  unfold atP
  rw [if_pos (by omega), Int.toNat_natCast, eqi, hp, ev, ← e]
  rfl
/-- Rising lists of numbers with the same members are one. -/
theorem rising_eq : ∀ {a b : List Int}, a.Pairwise (· < ·) → b.Pairwise (· < ·) → (∀ x, x ∈ a ↔ x ∈ b) → a = b
  | [], [], _, _, _ => rfl
  | [], y :: b, _, _, h => by have := (h y).2 (by simp); cases this
  | x :: a, [], _, _, h => by have := (h x).1 (by simp); cases this
  | x :: a, y :: b, ha, hb, h => by
    obtain ⟨a1, a2⟩ := List.pairwise_cons.1 ha
    obtain ⟨b1, b2⟩ := List.pairwise_cons.1 hb
    have e : x = y := by
      rcases List.mem_cons.1 ((h x).1 (by simp)) with e | m
      · exact e
      · rcases List.mem_cons.1 ((h y).2 (by simp)) with e | m2
        · exact e.symm
        · have := b1 x m; have := a1 y m2; omega
    subst e
    rw [rising_eq a2 b2 (fun z => ⟨fun m => by
      rcases List.mem_cons.1 ((h z).1 (by simp [m])) with e | m2
      · have := a1 z m; omega
      · exact m2, fun m => by
      rcases List.mem_cons.1 ((h z).2 (by simp [m])) with e | m2
      · have := b1 z m; omega
      · exact m2⟩)]
/-- The pairs from one key up to another. -/
def btwP (l : Ps) (a b : Int) : Ps := l.filter fun p => decide (a ≤ p.1 ∧ p.1 ≤ b)
theorem run_btw {l : Ps} (r : RiseP l) (a b : Int) : runP (l.drop (rk l a)) b = btwP l a b := by
  induction l with
  | nil => rfl
  | cons p l ih =>
    obtain ⟨r1, r2⟩ := List.pairwise_cons.1 r
    by_cases c : p.1 < a
    · have e : rk (p :: l) a = rk l a + 1 := by show (if p.1 < a then rk l a + 1 else 0) = _; rw [if_pos c]
      rw [e, List.drop_succ_cons, ih r2]
      unfold btwP
      rw [List.filter_cons_of_neg (by simp; omega)]
    · have e : rk (p :: l) a = 0 := by show (if p.1 < a then rk l a + 1 else 0) = _; rw [if_neg c]
      rw [e, List.drop_zero]
      have z : ∀ (m : Ps), m.Pairwise (fun x y => x.1 < y.1) → (∀ x ∈ m, a ≤ x.1) → runP m b = btwP m a b := by
        intro m
        induction m with
        | nil => intro _ _; rfl
        | cons x m ihm =>
          intro hm ham
          obtain ⟨m1, m2⟩ := List.pairwise_cons.1 hm
          show (if x.1 ≤ b then x :: runP m b else []) = _
          unfold btwP
          by_cases d : x.1 ≤ b
          · rw [if_pos d, List.filter_cons_of_pos (by simp [d, ham x (by simp)]), ihm m2 (fun y hy => ham y (by simp [hy]))]
            rfl
          · rw [if_neg d, List.filter_cons_of_neg (by simp; omega)]
            symm
            rw [List.filter_eq_nil_iff]
            intro y hy
            have := m1 y hy
            simp
            omega
      exact z (p :: l) r (fun x hx => by
        rcases List.mem_cons.1 hx with g | g
        · rw [g]; omega
        · have := r1 x g; omega)
theorem rk_filter {l : Ps} (r : RiseP l) (q : Int) : rk l q = (l.filter fun p => decide (p.1 < q)).length := by
  induction l with
  | nil => rfl
  | cons p l ih =>
    obtain ⟨r1, r2⟩ := List.pairwise_cons.1 r
    show (if p.1 < q then rk l q + 1 else 0) = _
    by_cases c : p.1 < q
    · rw [if_pos c, List.filter_cons_of_pos (by simp [c]), List.length_cons, ih r2]
    · rw [if_neg c, List.filter_cons_of_neg (by simp [c])]
      symm
      rw [List.length_eq_zero_iff, List.filter_eq_nil_iff]
      intro y hy
      have := r1 y hy
      simp
      omega
theorem all_btw {l : Ps} (h : BdP l) : btwP l 0 18446744073709551615 = l := by
  unfold btwP
  rw [List.filter_eq_self]
  intro p hp
  have := h p hp
  simp
  omega
/-- The keys that were met so far of those that are asked for, each once; 'left' tells which are still to come. -/
def Met (l : Ps) (left : Int → Bool) (P : Int → Bool) (ks : List Int) : Prop := ks.Nodup ∧ ∀ x, x ∈ ks ↔ isK l x = true ∧ P x = true ∧ left x = false
theorem met_start {l : Ps} {left : Int → Bool} (h : ∀ x, isK l x = true → left x = true) (P : Int → Bool) : Met l left P [] :=
  ⟨List.nodup_nil, fun x => Iff.intro (fun q => by cases q) (fun q => by have := h x q.1; rw [q.2.2] at this; cases this)⟩
theorem met_step {l : Ps} {left left' : Int → Bool} {P : Int → Bool} {ks : List Int} (h : Met l left P ks) {x : Int} (hx : isK l x = true) (hl : left x = true) (e : ∀ y, left' y = (left y && !decide (y = x))) (hp : P x = true) : Met l left' P (ks ++ [x]) := by
  refine ⟨?_, fun y => ?_⟩
  · rw [List.nodup_append]
    refine ⟨h.1, by simp, fun a ha b hb => ?_⟩
    simp at hb
    subst hb
    intro eq
    subst eq
    have := ((h.2 a).1 ha).2.2
    rw [hl] at this
    cases this
  · rw [List.mem_append, List.mem_singleton, h.2, e]
    by_cases c : y = x
    · subst c; simp [hx, hp]
    · simp [c]
theorem met_skip {l : Ps} {left left' : Int → Bool} {P : Int → Bool} {ks : List Int} (h : Met l left P ks) {x : Int} (e : ∀ y, left' y = (left y && !decide (y = x))) (hp : P x = false) : Met l left' P ks := by
  refine ⟨h.1, fun y => ?_⟩
  rw [h.2, e]
  by_cases c : y = x
  · subst c; simp [hp]
  · simp [c]
theorem rise_keys {l : Ps} (r : RiseP l) : (l.map Prod.fst).Pairwise (· < ·) := by
  rw [List.pairwise_map]
  exact r
theorem met_mem {l : Ps} (r : RiseP l) (P : Int → Bool) (x : Int) : x ∈ (l.filter fun p => P p.1).map Prod.fst ↔ isK l x = true ∧ P x = true := by
  rw [List.mem_map]
  constructor
  · rintro ⟨p, hp, rfl⟩
    obtain ⟨h1, h2⟩ := List.mem_filter.1 hp
    exact ⟨(mem_key r h1).1, h2⟩
  · rintro ⟨h1, h2⟩
    exact ⟨_, List.mem_filter.2 ⟨key_mem h1, h2⟩, rfl⟩
theorem met_end {l : Ps} (r : RiseP l) {left : Int → Bool} {P : Int → Bool} {ks : List Int} (h : Met l left P ks) (e : ∀ x, left x = false) : ks.Perm ((l.filter fun p => P p.1).map Prod.fst) := by
  have n2 : ((l.filter fun p => P p.1).map Prod.fst).Nodup := by
    have : ((l.filter fun p => P p.1).map Prod.fst).Pairwise (· < ·) := rise_keys (List.Pairwise.sublist List.filter_sublist r)
    exact this.imp (fun {a b} q => by omega)
  refine (List.perm_ext_iff_of_nodup h.1 n2).2 fun x => ?_
  rw [h.2, met_mem r, e]
  simp
theorem met_len {l : Ps} (r : RiseP l) {left : Int → Bool} {q : Int} {ks : List Int} (h : Met l left (fun x => decide (x < q)) ks) (e : ∀ x, left x = false) : ks.length = rk l q := by
  rw [(met_end r h e).length_eq, rk_filter r, List.length_map]
theorem met_le {l : Ps} (r : RiseP l) {left : Int → Bool} {P : Int → Bool} {ks : List Int} (h : Met l left P ks) : ks.length ≤ l.length := by
  have s : ∀ x ∈ ks, x ∈ l.map Prod.fst := fun x hx => by
    rw [List.mem_map]
    exact ⟨_, key_mem ((h.2 x).1 hx).1, rfl⟩
  have key : ∀ (a b : List Int), a.Nodup → (∀ x ∈ a, x ∈ b) → a.length ≤ b.length := by
    intro a
    induction a with
    | nil => intro b _ _; exact Nat.zero_le _
    | cons x a ih =>
      intro b hn hs
      obtain ⟨n1, n2⟩ := List.nodup_cons.1 hn
      have hb := hs x (by simp)
      have := ih (b.erase x) n2 (fun y hy => by
        have ne : y ≠ x := fun e => n1 (e ▸ hy)
        exact (List.mem_erase_of_ne ne).2 (hs y (by simp [hy])))
      rw [List.length_erase_of_mem hb] at this
      have := List.length_pos_of_mem hb
      simp
      omega
  simpa using key ks (l.map Prod.fst) h.1 s
end Go.Proofs.Ytkojcjfjmlompaa
