/- Sorted lists brought together: plain words. No Go in it. -/
namespace Go.Proofs.Ytkojcjfjmlompaa
set_option linter.unusedVariables false

section
variable {α : Type} (key : α → Int)
/-- The head that is told: of the leastM key, the first list's. -/
def leastM : List (List α) → Option α
  | [] => none
  | [] :: r => leastM r
  | (x :: _) :: r => match leastM r with
    | none => some x
    | some y => if key y < key x then some y else some x
/-- A list passes its head, if it has this key. -/
def pass (k : Int) : List α → List α
  | [] => []
  | x :: l => if key x = k then l else x :: l
/-- What is told of lists. -/
def Mg : List (List α) → List α → Prop
  | ls, [] => leastM key ls = none
  | ls, x :: out => leastM key ls = some x ∧ Mg (ls.map (pass key (key x))) out
variable {key}
theorem Mg.done {ls : List (List α)} (h : leastM key ls = none) : Mg key ls [] := by unfold Mg; exact h
theorem Mg.step {ls : List (List α)} {x : α} {out : List α} (h : leastM key ls = some x) (r : Mg key (ls.map (pass key (key x))) out) : Mg key ls (x :: out) := by unfold Mg; exact ⟨h, r⟩
theorem Mg.ind {motive : (ls : List (List α)) → (out : List α) → Mg key ls out → Prop} (done : ∀ {ls : List (List α)} (h : leastM key ls = none), motive ls [] (Mg.done h)) (step : ∀ {ls : List (List α)} {x : α} {out : List α} (h : leastM key ls = some x) (r : Mg key (ls.map (pass key (key x))) out) (ih : motive _ out r), motive ls (x :: out) (Mg.step h r)) : ∀ {ls : List (List α)} {out : List α} (h : Mg key ls out), motive ls out h := by
  intro ls out
  induction out generalizing ls with
  | nil => intro h; exact done (by unfold Mg at h; exact h)
  | cons x out ih =>
    intro h
    have h' := h
    unfold Mg at h'
    exact step h'.1 h'.2 (ih h'.2)
theorem Mg.one {ls : List (List α)} {a b : List α} (h : Mg key ls a) (h' : Mg key ls b) : a = b := by
  induction h using Mg.ind generalizing b with
  | done e =>
    cases b with
    | nil => rfl
    | cons y b => unfold Mg at h'; rw [e] at h'; cases h'.1
  | step e _ ih =>
    cases b with
    | nil => unfold Mg at h'; rw [e] at h'; cases h'
    | cons y b =>
      unfold Mg at h'
      have q := h'.1
      rw [e] at q
      cases q
      rw [ih h'.2]
def sizes (ls : List (List α)) : Nat := (ls.map List.length).sum
theorem sizes_cons (l : List α) (ls : List (List α)) : sizes (l :: ls) = l.length + sizes ls := by simp [sizes]
theorem pass_cons (k : Int) (x : α) (l : List α) : pass key k (x :: l) = if key x = k then l else x :: l := rfl
theorem pass_len (k : Int) (l : List α) : (pass key k l).length ≤ l.length := by
  cases l with
  | nil => exact Nat.le_refl _
  | cons x l => rw [pass_cons]; split <;> simp
theorem passes_len (k : Int) (ls : List (List α)) : sizes (ls.map (pass key k)) ≤ sizes ls := by
  induction ls with
  | nil => exact Nat.le_refl _
  | cons l ls ih => rw [List.map_cons, sizes_cons, sizes_cons]; have := pass_len (key := key) k l; omega
theorem least_none {ls : List (List α)} : leastM key ls = none ↔ ∀ l ∈ ls, l = [] := by
  induction ls with
  | nil => simp [leastM]
  | cons l ls ih =>
    cases l with
    | nil => simp [leastM, ih]
    | cons x l =>
      simp only [leastM]
      constructor
      · intro h; split at h
        · cases h
        · split at h <;> cases h
      · intro h; have := h _ (List.mem_cons_self ..); cases this
/-- What is told is the head of a list, the lists ahead of which have greater heads, and no list a less one. -/
theorem least_some {ls : List (List α)} {x : α} (h : leastM key ls = some x) : ∃ a l b, ls = a ++ (x :: l) :: b ∧ (∀ y t, y :: t ∈ a → key x < key y) ∧ (∀ y t, y :: t ∈ ls → key x ≤ key y) := by
  induction ls generalizing x with
  | nil => simp [leastM] at h
  | cons l ls ih =>
    cases l with
    | nil =>
      obtain ⟨a, l', b, e, h1, h2⟩ := ih (by simpa [leastM] using h)
      refine ⟨[] :: a, l', b, by simp [e], fun y t hy => ?_, fun y t hy => ?_⟩
      · rcases List.mem_cons.1 hy with q | q
        · cases q
        · exact h1 y t q
      · rcases List.mem_cons.1 hy with q | q
        · cases q
        · exact h2 y t q
    | cons z l =>
      simp only [leastM] at h
      split at h
      · rename_i hn
        cases h
        refine ⟨[], l, ls, rfl, (fun y t hy => by cases hy), fun y t hy => ?_⟩
        rcases List.mem_cons.1 hy with q | q
        · cases q; exact Int.le_refl _
        · have := least_none.1 hn _ q; cases this
      · rename_i y hy
        obtain ⟨a, l', b, e, h1, h2⟩ := ih hy
        split at h
        · rename_i lt
          cases h
          refine ⟨(z :: l) :: a, l', b, by simp [e], fun y' t hy' => ?_, fun y' t hy' => ?_⟩
          · rcases List.mem_cons.1 hy' with q | q
            · cases q; exact lt
            · exact h1 y' t q
          · rcases List.mem_cons.1 hy' with q | q
            · cases q; exact Int.le_of_lt lt
            · exact h2 y' t q
        · rename_i ge
          cases h
          refine ⟨[], l, ls, rfl, (fun y t hy => by cases hy), fun y' t hy' => ?_⟩
          rcases List.mem_cons.1 hy' with q | q
          · cases q; exact Int.le_refl _
          · have := h2 y' t q; omega
theorem sizes_app (a b : List (List α)) : sizes (a ++ b) = sizes a + sizes b := by simp [sizes]
theorem passes_lt {ls : List (List α)} {x : α} (h : leastM key ls = some x) : sizes (ls.map (pass key (key x))) < sizes ls := by
  obtain ⟨a, l, b, e, _, _⟩ := least_some h
  rw [e, List.map_append, List.map_cons, sizes_app, sizes_app, sizes_cons, sizes_cons]
  have h1 := passes_len (key := key) (key x) a
  have h2 := passes_len (key := key) (key x) b
  have h3 : (pass key (key x) (x :: l)).length = l.length := by simp [pass]
  rw [h3]
  simp
  omega
theorem Mg.ex (key : α → Int) : ∀ (n : Nat) (ls : List (List α)), sizes ls ≤ n → ∃ out, Mg key ls out
  | n, ls, hn => by
    cases h : leastM key ls with
    | none => exact ⟨[], .done h⟩
    | some x =>
      have := passes_lt h
      match n, hn with
      | 0, hn => omega
      | n + 1, hn =>
        obtain ⟨out, r⟩ := Mg.ex key n (ls.map (pass key (key x))) (by omega)
        exact ⟨_, .step h r⟩
theorem Mg.few {ls : List (List α)} {out : List α} (h : Mg key ls out) : out.length ≤ sizes ls := by
  induction h using Mg.ind with
  | done _ => exact Nat.zero_le _
  | step e _ ih => have := passes_lt e; simp; omega
/-- Keys rise. -/
def Rise (key : α → Int) (l : List α) : Prop := l.Pairwise fun a b => key a < key b
/-- The thing with a key. -/
def look (key : α → Int) (k : Int) (l : List α) : Option α := l.find? fun x => key x == k
theorem look_nil (k : Int) : look key k [] = none := rfl
theorem look_cons (k : Int) (x : α) (l : List α) : look key k (x :: l) = if key x = k then some x else look key k l := by
  unfold look
  rw [List.find?_cons]
  by_cases h : key x = k
  · simp [h]
  · rw [if_neg h, show (key x == k) = false by simpa using h]
theorem look_key {k : Int} {l : List α} {x : α} (h : look key k l = some x) : key x = k := by
  have := List.find?_some h
  simpa using this
theorem Rise.below {k : Int} {l : List α} (h : ∀ x ∈ l, k < key x) : look key k l = none := by
  unfold look
  rw [List.find?_eq_none]
  intro x hx
  have := h x hx
  simp
  omega
theorem Rise.eq : ∀ {a b : List α}, Rise key a → Rise key b → (∀ k, look key k a = look key k b) → a = b
  | [], [], _, _, _ => rfl
  | [], y :: b, _, _, h => by have := h (key y); rw [look_nil, look_cons, if_pos rfl] at this; cases this
  | x :: a, [], _, _, h => by have := h (key x); rw [look_nil, look_cons, if_pos rfl] at this; cases this
  | x :: a, y :: b, ha, hb, h => by
    obtain ⟨a1, a2⟩ := List.pairwise_cons.1 ha
    obtain ⟨b1, b2⟩ := List.pairwise_cons.1 hb
    have xy : key x = key y := by
      rcases Int.lt_trichotomy (key x) (key y) with q | q | q
      · have e := h (key x)
        rw [look_cons, if_pos rfl, look_cons, if_neg (by omega), Rise.below fun z hz => by have := b1 z hz; omega] at e
        cases e
      · exact q
      · have e := h (key y)
        rw [look_cons, if_neg (by omega), Rise.below (fun z hz => by have := a1 z hz; omega), look_cons, if_pos rfl] at e
        cases e
    have e := h (key x)
    rw [look_cons, if_pos rfl, look_cons, if_pos xy.symm] at e
    cases e
    have : a = b := Rise.eq a2 b2 fun k => by
      have e := h k
      rw [look_cons, look_cons] at e
      by_cases q : key x = k
      · subst q
        rw [Rise.below a1, Rise.below b1]
      · rw [if_neg q, if_neg q] at e
        exact e
    rw [this]
/-- The first list that has a key. -/
def firstOf (key : α → Int) (k : Int) : List (List α) → Option α
  | [] => none
  | l :: r => match look key k l with
    | some x => some x
    | none => firstOf key k r
theorem Rise.pass {k : Int} {l : List α} (h : Rise key l) : Rise key (pass key k l) := by
  cases l with
  | nil => exact h
  | cons x l => rw [pass_cons]; split; exact (List.pairwise_cons.1 h).2; exact h
theorem pass_above {k : Int} {l : List α} (h : Rise key l) (hk : ∀ y t, l = y :: t → k ≤ key y) : ∀ y ∈ pass key k l, k < key y := by
  cases l with
  | nil => intro y hy; cases hy
  | cons x l =>
    obtain ⟨h1, h2⟩ := List.pairwise_cons.1 h
    have := hk x l rfl
    rw [pass_cons]
    split
    · intro y hy; have := h1 y hy; omega
    · intro y hy
      rcases List.mem_cons.1 hy with rfl | q
      · omega
      · have := h1 y q; omega
theorem pass_look {k k' : Int} {l : List α} (n : k' ≠ k) : look key k' (pass key k l) = look key k' l := by
  cases l with
  | nil => rfl
  | cons x l =>
    rw [pass_cons]
    split
    · rename_i e
      rw [look_cons, if_neg (by omega)]
    · rfl
theorem firstOf_pass {k k' : Int} (n : k' ≠ k) : ∀ ls : List (List α), firstOf key k' (ls.map (pass key k)) = firstOf key k' ls
  | [] => rfl
  | l :: r => by simp only [List.map_cons, firstOf, pass_look n, firstOf_pass n r]
theorem firstOf_none {k : Int} : ∀ {ls : List (List α)}, (∀ l ∈ ls, look key k l = none) → firstOf key k ls = none
  | [], _ => rfl
  | l :: r, h => by simp only [firstOf, h l (List.mem_cons_self ..)]; exact firstOf_none fun l hl => h l (List.mem_cons_of_mem _ hl)
theorem firstOf_app {k : Int} (b : List (List α)) : ∀ a : List (List α), (∀ l ∈ a, look key k l = none) → firstOf key k (a ++ b) = firstOf key k b
  | [], _ => rfl
  | l :: r, h => by simp only [List.cons_append, firstOf, h l (List.mem_cons_self ..)]; exact firstOf_app b r fun l hl => h l (List.mem_cons_of_mem _ hl)
/-- Of lists that rise: once, with the first one's thing. -/
theorem Mg.once {ls : List (List α)} {out : List α} (h : Mg key ls out) (rs : ∀ l ∈ ls, Rise key l) : Rise key out ∧ ∀ k, look key k out = firstOf key k ls := by
  induction h using Mg.ind with
  | done e =>
    refine ⟨List.Pairwise.nil, fun k => ?_⟩
    rw [firstOf_none fun l hl => by rw [least_none.1 e l hl]; rfl]
    rfl
  | @step ls x out e r ih =>
    obtain ⟨a, l, b, el, h1, h2⟩ := least_some e
    obtain ⟨q1, q2⟩ := ih fun l' hl' => by
      obtain ⟨l, hl, rfl⟩ := List.mem_map.1 hl'
      exact (rs l hl).pass
    have ab : ∀ y ∈ out, key x < key y := fun y hy => by
      have hs : look key (key y) out = some y := by
        have : ∀ (o : List α), Rise key o → y ∈ o → look key (key y) o = some y := by
          intro o
          induction o with
          | nil => intro _ h; cases h
          | cons z o ih =>
            intro hr hy
            obtain ⟨z1, z2⟩ := List.pairwise_cons.1 hr
            rw [look_cons]
            rcases List.mem_cons.1 hy with rfl | q
            · rw [if_pos rfl]
            · have := z1 y q
              rw [if_neg (by omega)]
              exact ih z2 q
        exact this out q1 hy
      rw [q2] at hs
      have : ∀ ls' : List (List α), (∀ l ∈ ls', ∀ z ∈ l, key x < key z) → ∀ z, firstOf key (key y) ls' = some z → key x < key y := by
        intro ls'
        induction ls' with
        | nil => intro _ z hz; cases hz
        | cons l' r' ih' =>
          intro hl z hz
          simp only [firstOf] at hz
          cases hh : look key (key y) l' with
          | some u =>
            have hm := List.mem_of_find?_eq_some hh
            have := hl l' (List.mem_cons_self ..) u hm
            have := look_key hh
            omega
          | none =>
            rw [hh] at hz
            exact ih' (fun l hl' => hl l (List.mem_cons_of_mem _ hl')) z hz
      refine this _ (fun l' hl' => ?_) y hs
      obtain ⟨l, hl, rfl⟩ := List.mem_map.1 hl'
      exact pass_above (rs l hl) fun y t e => h2 y t (by rw [← e]; exact hl)
    refine ⟨List.pairwise_cons.2 ⟨ab, q1⟩, fun k => ?_⟩
    rw [look_cons]
    by_cases ek : key x = k
    · rw [if_pos ek]
      subst ek
      rw [el, firstOf_app]
      · simp only [firstOf, look_cons, if_true]
      · intro l' hl'
        cases l' with
        | nil => rfl
        | cons y t =>
          have h3 := h1 y t hl'
          refine Rise.below fun z hz => ?_
          have hr := rs (y :: t) (by rw [el]; exact List.mem_append_left _ hl')
          rcases List.mem_cons.1 hz with rfl | q
          · exact h3
          · have := (List.pairwise_cons.1 hr).1 z q
            omega
    · rw [if_neg ek, q2, firstOf_pass (Ne.symm ek)]
theorem firstOf_two (k : Int) (a b : List α) : firstOf key k [a, b] = (look key k a).or (look key k b) := by
  simp only [firstOf]
  cases look key k a <;> cases look key k b <;> rfl
theorem firstOf_three (k : Int) (a b c : List α) : firstOf key k [a, b, c] = (look key k a).or ((look key k b).or (look key k c)) := by
  simp only [firstOf]
  cases look key k a <;> cases look key k b <;> cases look key k c <;> rfl
theorem all_two {a b : List α} (ha : Rise key a) (hb : Rise key b) : ∀ l ∈ [a, b], Rise key l := by
  intro l hl
  rcases List.mem_cons.1 hl with rfl | q
  · exact ha
  · rw [List.mem_singleton.1 q]; exact hb
theorem all_three {a b c : List α} (ha : Rise key a) (hb : Rise key b) (hc : Rise key c) : ∀ l ∈ [a, b, c], Rise key l := by
  intro l hl
  rcases List.mem_cons.1 hl with rfl | q
  · exact ha
  · exact all_two hb hc l q
/-- In groups. -/
theorem Mg.left {a b c ab o o' : List α} (ha : Rise key a) (hb : Rise key b) (hc : Rise key c) (h : Mg key [a, b, c] o) (h1 : Mg key [a, b] ab) (h2 : Mg key [ab, c] o') : o = o' := by
  obtain ⟨r, e⟩ := h.once (all_three ha hb hc)
  obtain ⟨r1, e1⟩ := h1.once (all_two ha hb)
  obtain ⟨r2, e2⟩ := h2.once (all_two r1 hc)
  refine Rise.eq r r2 fun k => ?_
  rw [e, e2, firstOf_three, firstOf_two, e1, firstOf_two, Option.or_assoc]
theorem Mg.right {a b c bc o o' : List α} (ha : Rise key a) (hb : Rise key b) (hc : Rise key c) (h : Mg key [a, b, c] o) (h1 : Mg key [b, c] bc) (h2 : Mg key [a, bc] o') : o = o' := by
  obtain ⟨r, e⟩ := h.once (all_three ha hb hc)
  obtain ⟨r1, e1⟩ := h1.once (all_two hb hc)
  obtain ⟨r2, e2⟩ := h2.once (all_two ha r1)
  refine Rise.eq r r2 fun k => ?_
  rw [e, e2, firstOf_three, firstOf_two, e1, firstOf_two]
theorem Mg.single {a o : List α} (ha : Rise key a) (h : Mg key [a] o) : o = a := by
  obtain ⟨r, e⟩ := h.once (fun l hl => by rw [List.mem_singleton.1 hl]; exact ha)
  refine Rise.eq r ha fun k => ?_
  rw [e]
  simp only [firstOf]
  cases look key k a <;> rfl
theorem Mg.twice {a o : List α} (ha : Rise key a) (h : Mg key [a, a] o) : o = a := by
  obtain ⟨r, e⟩ := h.once (all_two ha ha)
  refine Rise.eq r ha fun k => ?_
  rw [e, firstOf_two]
  cases look key k a <;> rfl
theorem Mg.empty {a b o o' : List α} (ha : Rise key a) (hb : Rise key b) (h : Mg key [a, [], b] o) (h' : Mg key [[], a, b] o') : o = o' := by
  obtain ⟨r, e⟩ := h.once (all_three ha List.Pairwise.nil hb)
  obtain ⟨r', e'⟩ := h'.once (all_three List.Pairwise.nil ha hb)
  refine Rise.eq r r' fun k => ?_
  rw [e, e', firstOf_three, firstOf_three, look_nil]
  cases look key k a <;> rfl
theorem look_filter {l : List α} (h : Rise key l) (p : α → Bool) (k : Int) : look key k (l.filter p) = (look key k l).filter p := by
  induction l with
  | nil => rfl
  | cons x l ih =>
    obtain ⟨h1, h2⟩ := List.pairwise_cons.1 h
    have ih := ih h2
    rw [look_cons, List.filter_cons]
    by_cases e : key x = k
    · rw [if_pos e]
      by_cases q : p x = true
      · rw [if_pos q, look_cons, if_pos e]
        simp [Option.filter, q]
      · rw [if_neg q, ih, Rise.below (by rw [← e]; exact h1)]
        simp [Option.filter, q]
    · rw [if_neg e]
      by_cases q : p x = true
      · rw [if_pos q, look_cons, if_neg e, ih]
      · rw [if_neg q, ih]
theorem Rise.filter {l : List α} (h : Rise key l) (p : α → Bool) : Rise key (l.filter p) := List.Pairwise.filter p h
/-- Sifted. -/
theorem Mg.sift {a b o o' : List α} (ha : Rise key a) (hb : Rise key b) (p : α → Bool) (un : ∀ k, look key k a = none ∨ look key k b = none) (h : Mg key [a, b] o) (h' : Mg key [a.filter p, b.filter p] o') : o.filter p = o' := by
  obtain ⟨r, e⟩ := h.once (all_two ha hb)
  obtain ⟨r', e'⟩ := h'.once (all_two (ha.filter p) (hb.filter p))
  refine Rise.eq (r.filter p) r' fun k => ?_
  rw [look_filter r, e, e', firstOf_two, firstOf_two, look_filter ha, look_filter hb]
  rcases un k with q | q
  · rw [q]; cases look key k b <;> rfl
  · rw [q]
    cases look key k a with
    | none => rfl
    | some x => simp [Option.filter]
theorem Mg.long {ls : List (List α)} {out : List α} (h : Mg key ls out) (rs : ∀ l ∈ ls, Rise key l) : ∀ l ∈ ls, l.length ≤ out.length := by
  induction h using Mg.ind with
  | done e => intro l hl; rw [least_none.1 e l hl]; exact Nat.le_refl _
  | @step ls x out e r ih =>
    intro l hl
    have := ih (fun l' hl' => by
      obtain ⟨l, hl, rfl⟩ := List.mem_map.1 hl'
      exact (rs l hl).pass) _ (List.mem_map.2 ⟨l, hl, rfl⟩)
    have : l.length ≤ (pass key (key x) l).length + 1 := by
      cases l with
      | nil => simp
      | cons y l => rw [pass_cons]; split <;> simp
    simp
    omega
theorem least_map {β : Type} (f : α → β) (key' : β → Int) (hk : ∀ x, key' (f x) = key x) : ∀ ls : List (List α), leastM key' (ls.map (List.map f)) = (leastM key ls).map f
  | [] => rfl
  | [] :: r => by simp only [List.map_cons, List.map_nil, leastM]; exact least_map f key' hk r
  | (x :: l) :: r => by
    simp only [List.map_cons, leastM]
    rw [least_map f key' hk r]
    cases leastM key r with
    | none => rfl
    | some y =>
      simp only [Option.map_some, hk]
      split <;> rfl
theorem pass_map {β : Type} (f : α → β) (key' : β → Int) (hk : ∀ x, key' (f x) = key x) (k : Int) (l : List α) : pass key' k (l.map f) = (pass key k l).map f := by
  cases l with
  | nil => rfl
  | cons x l =>
    rw [List.map_cons, pass_cons, pass_cons, hk]
    split <;> rfl
theorem Mg.map {β : Type} (f : α → β) (key' : β → Int) (hk : ∀ x, key' (f x) = key x) {ls : List (List α)} {o : List α} (h : Mg key ls o) : Mg key' (ls.map (List.map f)) (o.map f) := by
  induction h using Mg.ind with
  | done e => exact .done (by rw [least_map f key' hk, e]; rfl)
  | @step ls x out e r ih =>
    refine .step (by rw [least_map f key' hk, e]; rfl) ?_
    rw [hk]
    have : (ls.map (List.map f)).map (pass key' (key x)) = (ls.map (pass key (key x))).map (List.map f) := by
      rw [List.map_map, List.map_map]
      refine List.map_congr_left fun l _ => ?_
      exact pass_map f key' hk _ l
    rw [this]
    exact ih
theorem least_map' {β : Type} (f : α → β) (key' : β → Int) {S : α → Prop} (hk : ∀ x, S x → key' (f x) = key x) : ∀ ls : List (List α), (∀ l ∈ ls, ∀ x ∈ l, S x) → leastM key' (ls.map (List.map f)) = (leastM key ls).map f ∧ ∀ x, leastM key ls = some x → S x
  | [], _ => ⟨rfl, fun x h => by cases h⟩
  | [] :: r, h => by simp only [List.map_cons, List.map_nil, leastM]; exact least_map' f key' hk r fun l hl => h l (List.mem_cons_of_mem _ hl)
  | (x :: l) :: r, h => by
    obtain ⟨e1, e2⟩ := least_map' f key' hk r fun l hl => h l (List.mem_cons_of_mem _ hl)
    have sx : S x := h _ (List.mem_cons_self ..) x (List.mem_cons_self ..)
    simp only [List.map_cons, leastM]
    rw [e1]
    cases hh : leastM key r with
    | none => exact ⟨rfl, fun y hy => by cases hy; exact sx⟩
    | some y =>
      have sy := e2 y hh
      simp only [Option.map_some, hk x sx, hk y sy]
      refine ⟨by split <;> rfl, fun z hz => ?_⟩
      split at hz
      · cases hz; exact sy
      · cases hz; exact sx
theorem pass_mem {k : Int} {l : List α} {x : α} (h : x ∈ pass key k l) : x ∈ l := by
  cases l with
  | nil => exact h
  | cons y l =>
    rw [pass_cons] at h
    split at h
    · exact List.mem_cons_of_mem _ h
    · exact h
theorem pass_map' {β : Type} (f : α → β) (key' : β → Int) {S : α → Prop} (hk : ∀ x, S x → key' (f x) = key x) (k : Int) (l : List α) (h : ∀ x ∈ l, S x) : pass key' k (l.map f) = (pass key k l).map f := by
  cases l with
  | nil => rfl
  | cons x l =>
    rw [List.map_cons, pass_cons, pass_cons, hk x (h x (List.mem_cons_self ..))]
    split <;> rfl
theorem Mg.map' {β : Type} (f : α → β) (key' : β → Int) {S : α → Prop} (hk : ∀ x, S x → key' (f x) = key x) {ls : List (List α)} {o : List α} (h : Mg key ls o) (hs : ∀ l ∈ ls, ∀ x ∈ l, S x) : Mg key' (ls.map (List.map f)) (o.map f) := by
  induction h using Mg.ind with
  | done e => exact .done (by rw [(least_map' f key' hk _ hs).1, e]; rfl)
  | @step ls x out e r ih =>
    obtain ⟨e1, e2⟩ := least_map' f key' hk _ hs
    have sx := e2 x e
    refine .step (x := f x) (by rw [e1, e]; rfl) ?_
    rw [hk x sx]
    have : (ls.map (List.map f)).map (pass key' (key x)) = (ls.map (pass key (key x))).map (List.map f) := by
      rw [List.map_map, List.map_map]
      refine List.map_congr_left fun l hl => ?_
      exact pass_map' f key' hk _ l (hs l hl)
    rw [this]
    refine ih fun l' hl' y hy => ?_
    obtain ⟨l, hl, rfl⟩ := List.mem_map.1 hl'
    exact hs l hl y (pass_mem hy)
theorem least_at {ls : List (List α)} {f : Nat} {x : α} {l : List α} (hf : ls[f]? = some (x :: l)) (h1 : ∀ i y t, i < f → ls[i]? = some (y :: t) → key x < key y) (h2 : ∀ (i : Nat) y t, ls[i]? = some (y :: t) → key x ≤ key y) : leastM key ls = some x := by
  cases h : leastM key ls with
  | none => have := least_none.1 h (x :: l) (List.mem_of_getElem? hf); cases this
  | some y =>
    obtain ⟨a, l', b, e, q1, q2⟩ := least_some h
    have ea : ls[a.length]? = some (y :: l') := by rw [e]; simp
    rcases Nat.lt_trichotomy a.length f with c | c | c
    · have h3 := h1 a.length y l' c ea
      have h4 := q2 x l (List.mem_of_getElem? hf)
      omega
    · rw [c, hf] at ea
      cases ea
      rfl
    · have hm : (x :: l) ∈ a := by
        rw [e, List.getElem?_append_left c] at hf
        exact List.mem_of_getElem? hf
      have h3 := q1 x l hm
      have h4 := h2 a.length y l' ea
      omega
end
/-- The places of lists, from a place in each on. -/
def frow (len a : Nat → Nat) (i : Nat) : List (Nat × Nat) := (List.range' (a i) (len i - a i)).map fun j => (i, j)
def froms (ln : Nat) (len a : Nat → Nat) : List (List (Nat × Nat)) := (List.range ln).map (frow len a)
theorem froms_at (ln : Nat) (len a : Nat → Nat) (i : Nat) : (froms ln len a)[i]? = if i < ln then some (frow len a i) else none := by
  unfold froms
  rw [List.getElem?_map]
  by_cases h : i < ln
  · rw [if_pos h, List.getElem?_range h]; rfl
  · rw [if_neg h, List.getElem?_eq_none (by simpa using h)]; rfl
theorem frow_none {len a : Nat → Nat} {i : Nat} (h : ¬ a i < len i) : frow len a i = [] := by
  unfold frow
  rw [show len i - a i = 0 by omega]
  rfl
theorem frow_some {len a : Nat → Nat} {i : Nat} (h : a i < len i) : frow len a i = (i, a i) :: (List.range' (a i + 1) (len i - (a i + 1))).map fun j => (i, j) := by
  unfold frow
  rw [show len i - a i = (len i - (a i + 1)) + 1 by omega, List.range'_succ]
  rfl
theorem frow_head {len a : Nat → Nat} {i : Nat} {y : Nat × Nat} {t : List (Nat × Nat)} (h : frow len a i = y :: t) : a i < len i ∧ y = (i, a i) := by
  by_cases q : a i < len i
  · rw [frow_some q] at h
    cases h
    exact ⟨q, rfl⟩
  · rw [frow_none q] at h
    cases h
/-- What is passed. -/
def passA (key : Nat × Nat → Int) (k : Int) (len a : Nat → Nat) (i : Nat) : Nat := if a i < len i ∧ key (i, a i) = k then a i + 1 else a i
theorem passA_pos {key : Nat × Nat → Int} {k : Int} {len a : Nat → Nat} {i : Nat} (h : a i < len i ∧ key (i, a i) = k) : passA key k len a i = a i + 1 := if_pos h
theorem passA_neg {key : Nat × Nat → Int} {k : Int} {len a : Nat → Nat} {i : Nat} (h : ¬ (a i < len i ∧ key (i, a i) = k)) : passA key k len a i = a i := if_neg h
theorem frow_pass (key : Nat × Nat → Int) (k : Int) (len a : Nat → Nat) (i : Nat) : pass key k (frow len a i) = frow len (passA key k len a) i := by
  by_cases q : a i < len i
  · rw [frow_some q, pass_cons]
    by_cases e : key (i, a i) = k
    · rw [if_pos e]
      unfold frow
      rw [passA_pos ⟨q, e⟩]
    · rw [if_neg e]
      unfold frow
      rw [passA_neg (fun x => e x.2), show len i - a i = (len i - (a i + 1)) + 1 by omega, List.range'_succ]
      rfl
  · rw [frow_none q]
    unfold frow
    rw [passA_neg (fun x => q x.1), show len i - a i = 0 by omega]
    rfl
theorem froms_pass (key : Nat × Nat → Int) (k : Int) (ln : Nat) (len a : Nat → Nat) : (froms ln len a).map (pass key k) = froms ln len (passA key k len a) := by
  unfold froms
  rw [List.map_map]
  exact List.map_congr_left fun i _ => frow_pass key k len a i
theorem froms_none {key : Nat × Nat → Int} {ln : Nat} {len a : Nat → Nat} (h : ∀ i, i < ln → ¬ a i < len i) : leastM key (froms ln len a) = none := by
  refine least_none.2 fun l hl => ?_
  obtain ⟨i, hi, rfl⟩ := List.mem_map.1 hl
  exact frow_none (h i (List.mem_range.1 hi))
theorem froms_least {key : Nat × Nat → Int} {ln : Nat} {len a : Nat → Nat} {f : Nat} (hf : f < ln) (h0 : a f < len f) (h1 : ∀ i, i < f → a i < len i → key (f, a f) < key (i, a i)) (h2 : ∀ i, i < ln → a i < len i → key (f, a f) ≤ key (i, a i)) : leastM key (froms ln len a) = some (f, a f) := by
  refine least_at (f := f) (by rw [froms_at, if_pos hf, frow_some h0]) (fun i y t hi e => ?_) (fun i y t e => ?_)
  · rw [froms_at, if_pos (by omega)] at e
    obtain ⟨q, rfl⟩ := frow_head (Option.some.inj e)
    exact h1 i hi q
  · rw [froms_at] at e
    by_cases hi : i < ln
    · rw [if_pos hi] at e
      obtain ⟨q, rfl⟩ := frow_head (Option.some.inj e)
      exact h2 i hi q
    · rw [if_neg hi] at e
      cases e
theorem froms_map {α : Type} (L : List (List α)) (d : α) : (froms L.length (fun i => (L.getD i []).length) (fun _ => 0)).map (List.map fun p => (L.getD p.1 []).getD p.2 d) = L := by
  refine List.ext_getElem? fun i => ?_
  rw [List.getElem?_map, froms_at]
  by_cases h : i < L.length
  · rw [if_pos h, List.getElem?_eq_getElem h]
    show some _ = _
    congr 1
    have e : L.getD i [] = L[i] := by simp [List.getD, h]
    refine List.ext_getElem? fun j => ?_
    unfold frow
    rw [List.map_map, List.getElem?_map]
    by_cases q : j < L[i].length
    · have q' : j < (L.getD i []).length - 0 := by rw [e]; omega
      rw [List.getElem?_range' q', List.getElem?_eq_getElem q]
      show some ((L.getD i []).getD (0 + 1 * j) d) = _
      rw [e, show 0 + 1 * j = j by omega]
      simp [List.getD, q]
    · rw [List.getElem?_eq_none (by rw [List.length_range']; show (L.getD i []).length - 0 ≤ j; rw [e]; omega), List.getElem?_eq_none (by omega)]
      rfl
  · rw [if_neg h, List.getElem?_eq_none (by omega)]
    rfl
end Go.Proofs.Ytkojcjfjmlompaa
