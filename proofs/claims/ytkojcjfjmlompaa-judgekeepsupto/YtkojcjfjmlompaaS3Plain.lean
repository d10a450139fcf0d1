/- Layer 23, plain: the plain map as a list of pairs, what it answers, what a judge tells. -/
namespace Go.Proofs.Ytkojcjfjmlompaa
set_option linter.unusedVariables false

abbrev Ps := List (Int × Int)
/-- How many keys are below one. -/
def rk : Ps → Int → Nat
  | [], _ => 0
  | p :: l, q => if p.1 < q then rk l q + 1 else 0
theorem rk_le (l : Ps) (q : Int) : rk l q ≤ l.length := by
  induction l with
  | nil => exact Nat.le_refl _
  | cons p l ih => unfold rk; split <;> simp <;> omega
theorem rk_is (q : Int) : ∀ (l : Ps) (n : Nat), (∀ i p, i < n → l[i]? = some p → p.1 < q) → n ≤ l.length → (∀ p, l[n]? = some p → ¬ p.1 < q) → rk l q = n := by
  intro l
  induction l with
  | nil => intro n _ h _; simp at h; rw [h]; rfl
  | cons p l ih =>
    intro n h1 h2 h3
    unfold rk
    cases n with
    | zero => rw [if_neg (h3 p (by simp))]
    | succ n =>
      rw [if_pos (h1 0 p (by omega) (by simp)), ih n (fun i x hi hx => h1 (i + 1) x (by omega) (by simpa using hx)) (by simpa using h2) (fun x hx => h3 x (by simpa using hx))]
theorem rk_lt (q : Int) : ∀ (l : Ps) (i : Nat) (p : Int × Int), i < rk l q → l[i]? = some p → p.1 < q := by
  intro l
  induction l with
  | nil => intro i p h; simp [rk] at h
  | cons x l ih =>
    intro i p h hp
    unfold rk at h
    split at h
    · rename_i hx
      cases i with
      | zero => simp at hp; subst hp; exact hx
      | succ i => exact ih i p (by omega) (by simpa using hp)
    · omega
theorem rk_ge (q : Int) : ∀ (l : Ps) (p : Int × Int), l[rk l q]? = some p → ¬ p.1 < q := by
  intro l
  induction l with
  | nil => intro p h; simp at h
  | cons x l ih =>
    intro p h
    unfold rk at h
    split at h
    · exact ih p (by simpa using h)
    · rename_i hx
      simp at h
      subst h
      exact hx
/-- Whether a key is there. -/
def isK (l : Ps) (q : Int) : Bool := match l[rk l q]? with
  | some p => decide (p.1 = q)
  | none => false
theorem isK_some {l : Ps} {q : Int} (h : isK l q = true) : ∃ p, l[rk l q]? = some p ∧ p.1 = q := by
  unfold isK at h
  cases e : l[rk l q]? with
  | none => rw [e] at h; cases h
  | some p => rw [e] at h; exact ⟨p, rfl, of_decide_eq_true h⟩
theorem isK_no {l : Ps} {q : Int} (h : isK l q = false) : ∀ p, l[rk l q]? = some p → p.1 ≠ q := by
  intro p hp
  unfold isK at h
  rw [hp] at h
  exact of_decide_eq_false h
/-- An answer. -/
structure Aw where
  c : Int
  is : Bool
  k : Int
  v : Int
  n : Int
  L : Ps
def aw0 : Aw := ⟨0, false, 0, 0, 0, []⟩
/-- What a put leaves, and its code. -/
def putP (most : Int) (l : Ps) (k v : Int) : Ps × Int :=
  if isK l k = true then (l.set (rk l k) (k, v), 0)
  else if most ≤ (l.length : Int) then (l, 161)
  else (l.take (rk l k) ++ (k, v) :: l.drop (rk l k), 0)
/-- Where a floor or a ceiling stands. -/
def spotP (kd : Int) (l : Ps) (k : Int) : Int := if kd = 4 ∧ isK l k = false then (rk l k : Int) - 1 else (rk l k : Int)
def atP (l : Ps) (i : Int) : Option (Int × Int) := if 0 ≤ i then l[i.toNat]? else none
def hitP (o : Option (Int × Int)) : Aw := match o with
  | some p => ⟨0, true, p.1, p.2, 0, []⟩
  | none => aw0
/-- The pairs from here on up to a key. -/
def runP : Ps → Int → Ps
  | [], _ => []
  | p :: l, b => if p.1 ≤ b then p :: runP l b else []
/-- What an operation answers. -/
def ansP (most : Int) (l : Ps) (kd k v : Int) : Aw :=
  if kd = 1 then { aw0 with c := (putP most l k v).2 }
  else if kd = 2 then { aw0 with is := isK l k }
  else if kd = 3 then { aw0 with is := isK l k, v := if isK l k = true then ((l[rk l k]?).map Prod.snd).getD 0 else 0 }
  else if kd = 4 ∨ kd = 5 then hitP (atP l (spotP kd l k))
  else if kd = 6 then { aw0 with n := (rk l k : Int) }
  else if kd = 7 then { aw0 with L := runP (l.drop (rk l k)) v }
  else { aw0 with c := 1 }
/-- What an operation leaves. -/
def nxtP (most : Int) (l : Ps) (kd k v : Int) : Ps :=
  if kd = 1 then (putP most l k v).1
  else if kd = 2 ∧ isK l k = true then l.take (rk l k) ++ l.drop (rk l k + 1)
  else l
/-- What a judge tells of an answer. -/
def seeP (w a : Aw) : List Int :=
  (if a.c = w.c then [] else [1]) ++ ((if a.is = w.is then [] else [2]) ++ ((if a.k = w.k ∧ a.v = w.v then [] else [3]) ++ ((if a.n = w.n then [] else [4]) ++ (if a.L = w.L then [] else [5]))))
theorem seeP_self (a : Aw) : seeP a a = [] := by simp [seeP]
/-- Operations with answers, from a list on: what is told, and the list behind it. -/
def allP (most : Int) : Ps → Nat → List ((Int × Int × Int) × Aw) → List (Int × Int)
  | _, _, [] => []
  | l, i, (o, a) :: r => (seeP (ansP most l o.1 o.2.1 o.2.2) a).map (fun x => ((i : Int), x)) ++ allP most (nxtP most l o.1 o.2.1 o.2.2) (i + 1) r
def endP (most : Int) : Ps → List (Int × Int × Int) → Ps
  | l, [] => l
  | l, o :: r => endP most (nxtP most l o.1 o.2.1 o.2.2) r
/-- What All tells. -/
def tellsP (most : Int) (os : List (Int × Int × Int)) (as : List Aw) : List (Int × Int) :=
  allP most [] 0 (os.zip as) ++ if os.length = as.length then [] else [(((min os.length as.length : Nat) : Int), 6)]

/-- Keys rise. -/
def RiseP (l : Ps) : Prop := l.Pairwise (fun a b => a.1 < b.1)
theorem rise_get {l : Ps} (h : RiseP l) {i j : Nat} {p q : Int × Int} (hi : l[i]? = some p) (hj : l[j]? = some q) (lt : i < j) : p.1 < q.1 := by
  obtain ⟨h1, e1⟩ := List.getElem?_eq_some_iff.1 hi
  obtain ⟨h2, e2⟩ := List.getElem?_eq_some_iff.1 hj
  have := List.pairwise_iff_getElem.1 h i j h1 h2 lt
  rw [e1, e2] at this
  exact this
theorem rise_of {l : Ps} (h : ∀ (i j : Nat) (p q : Int × Int), l[i]? = some p → l[j]? = some q → i < j → p.1 < q.1) : RiseP l :=
  List.pairwise_iff_getElem.2 fun i j h1 h2 lt => h i j _ _ (List.getElem?_eq_getElem h1) (List.getElem?_eq_getElem h2) lt
theorem rise_put {l : Ps} (r : RiseP l) (most k v : Int) : RiseP (putP most l k v).1 := by
  unfold putP
  split
  · rename_i h
    obtain ⟨p, hp, e⟩ := isK_some h
    have key : ∀ (i : Nat) (x : Int × Int), (l.set (rk l k) (k, v))[i]? = some x → ∃ y : Int × Int, l[i]? = some y ∧ y.1 = x.1 := fun i x hx => by
      rw [List.getElem?_set] at hx
      split at hx
      · rename_i hi
        subst hi
        split at hx
        · simp at hx
          subst hx
          exact ⟨p, hp, e⟩
        · cases hx
      · exact ⟨x, hx, rfl⟩
    refine rise_of fun i j x y hx hy lt => ?_
    obtain ⟨x', hx', ex⟩ := key i x hx
    obtain ⟨y', hy', ey⟩ := key j y hy
    have := rise_get r hx' hy' lt
    omega
  · split
    · exact r
    · rename_i h _
      have hn := isK_no (Bool.eq_false_iff.2 h)
      unfold RiseP
      rw [List.pairwise_append]
      refine ⟨List.Pairwise.sublist (List.take_sublist _ _) r, ?_, fun a ha b hb => ?_⟩
      · rw [List.pairwise_cons]
        refine ⟨fun b hb => ?_, List.Pairwise.sublist (List.drop_sublist _ _) r⟩
        obtain ⟨i, hi, e⟩ := List.mem_iff_getElem.1 hb
        have hb' : l[rk l k + i]? = some b := by rw [← e, ← List.getElem?_drop]; exact List.getElem?_eq_getElem hi
        have hl : rk l k < l.length := by simp at hi; omega
        have h0 := rk_ge k l l[rk l k] (List.getElem?_eq_getElem hl)
        have h1 := hn l[rk l k] (List.getElem?_eq_getElem hl)
        by_cases z : i = 0
        · subst z
          rw [Nat.add_zero, List.getElem?_eq_getElem hl] at hb'
          have : l[rk l k] = b := Option.some.inj hb'
          rw [← this]
          show k < _
          omega
        · have := rise_get r (List.getElem?_eq_getElem hl) hb' (by omega)
          show k < _
          omega
      · obtain ⟨i, hi, e⟩ := List.mem_iff_getElem.1 ha
        have hi' : i < rk l k := by simp at hi; omega
        have ha' : l[i]? = some a := by rw [← e]; rw [List.getElem_take]; exact List.getElem?_eq_getElem _
        have h1 := rk_lt k l i a hi' ha'
        rcases List.mem_cons.1 hb with q | q
        · rw [q]; exact h1
        · obtain ⟨j, hj, e'⟩ := List.mem_iff_getElem.1 q
          have hb' : l[rk l k + j]? = some b := by rw [← e', ← List.getElem?_drop]; exact List.getElem?_eq_getElem hj
          exact rise_get r ha' hb' (by omega)
theorem rise_nxt {l : Ps} (r : RiseP l) (most kd k v : Int) : RiseP (nxtP most l kd k v) := by
  unfold nxtP
  split
  · exact rise_put r most k v
  · split
    · refine List.Pairwise.sublist ?_ r
      have h1 := (List.Sublist.refl (l.take (rk l k))).append (List.drop_sublist 1 (l.drop (rk l k)))
      rw [List.drop_drop, List.take_append_drop] at h1
      exact h1
    · exact r
theorem len_put {l : Ps} (most k v : Int) (h : (l.length : Int) ≤ most) : ((putP most l k v).1.length : Int) ≤ most := by
  unfold putP
  split
  · simpa using h
  · split
    · exact h
    · have := rk_le l k
      simp
      omega
theorem len_nxt {l : Ps} (most kd k v : Int) (h : (l.length : Int) ≤ most) : ((nxtP most l kd k v).length : Int) ≤ most := by
  unfold nxtP
  split
  · exact len_put most k v h
  · split
    · have := rk_le l k
      simp
      omega
    · exact h
theorem len_one (l : Ps) (most kd k v : Int) : (nxtP most l kd k v).length ≤ l.length + 1 := by
  unfold nxtP putP
  have := rk_le l k
  split
  · split
    · simp
    · split
      · simp
      · simp; omega
  · split
    · simp; omega
    · omega
theorem same_nxt (l : Ps) (most kd k v : Int) (h1 : kd ≠ 1) (h2 : kd ≠ 2) : nxtP most l kd k v = l := by
  unfold nxtP
  rw [if_neg h1, if_neg (fun h => h2 h.1)]
/-- A beginning is told of a beginning. -/
theorem all_app (most : Int) : ∀ (x y : List ((Int × Int × Int) × Aw)) (l : Ps) (i : Nat), allP most l i (x ++ y) = allP most l i x ++ allP most (endP most l (x.map Prod.fst)) (i + x.length) y := by
  intro x
  induction x with
  | nil => intro y l i; rfl
  | cons a x ih =>
    intro y l i
    obtain ⟨o, a⟩ := a
    simp only [List.cons_append, allP, List.map_cons, endP, List.length_cons, List.append_assoc]
    rw [ih, show i + (x.length + 1) = i + 1 + x.length by omega]
theorem all_at (most : Int) : ∀ (x : List ((Int × Int × Int) × Aw)) (l : Ps) (i : Nat), ∀ f ∈ allP most l i x, (i : Int) ≤ f.1 := by
  intro x
  induction x with
  | nil => intro l i f hf; cases hf
  | cons a x ih =>
    intro l i f hf
    obtain ⟨o, a⟩ := a
    rcases List.mem_append.1 hf with h | h
    · obtain ⟨_, _, rfl⟩ := List.mem_map.1 h
      exact Int.le_refl _
    · have := ih _ _ f h
      omega
end Go.Proofs.Ytkojcjfjmlompaa
