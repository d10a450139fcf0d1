/- Commands as text: there and back, put together, what says nothing. No Go in it. -/
import Derived.Test.YtocnmdabilaccaaDoorS1Plain
namespace Go.Proofs.YtocnmdabilaccaaDoor
set_option linter.unusedVariables false

/-- What a word of the table is like: no blank, no line's end, not empty, no number sign ahead. -/
def Good (w : List UInt8) : Prop := w ≠ [] ∧ w.head? ≠ some 35 ∧ ∀ b ∈ w, b ≠ 32 ∧ b ≠ 10
theorem good_takes {w : List UInt8} (h : ¬ takes w < 0) : Good w := by
  unfold takes at h
  split at h
  · rename_i q; rcases q with rfl | rfl | rfl <;> (unfold Good; decide)
  split at h
  · rename_i q; rcases q with rfl | rfl | rfl | rfl | rfl <;> (unfold Good; decide)
  split at h
  · rename_i q; rcases q with rfl | rfl | rfl <;> (unfold Good; decide)
  split at h
  · rename_i q; subst q; unfold Good; decide
  · exact absurd (by decide) h
theorem digits_good (n : Nat) : ∀ b ∈ digits n, b ≠ 32 ∧ b ≠ 10 := by
  intro b hb
  have := digits_isD n b hb
  unfold isD at this
  constructor
  · rintro rfl; revert this; decide
  · rintro rfl; revert this; decide

theorem spl_end (c : UInt8) (acc : List UInt8) : spl c acc [] = [acc] := rfl
/-- Words with a blank ahead of each. -/
theorem spl_words : ∀ (ws : List (List UInt8)) (acc : List UInt8), (∀ w ∈ ws, ∀ b ∈ w, b ≠ 32) → spl 32 acc (ws.flatMap (fun w => 32 :: w)) = acc :: ws := by
  intro ws
  induction ws with
  | nil => intro acc _; rfl
  | cons w ws ih =>
    intro acc h
    rw [List.flatMap_cons, List.cons_append, spl_at, spl_plain 32 w [] _ (h w List.mem_cons_self), List.nil_append, ih w (fun x hx => h x (List.mem_cons_of_mem _ hx))]
theorem lineOf_eq (c : Cd) : lineOf c = c.word ++ (c.nums.map (fun n => digits n.toNat)).flatMap (fun w => 32 :: w) := by
  unfold lineOf
  rw [List.flatMap_map]
theorem words_line (c : Cd) (h : Good c.word) : wordsOf (lineOf c) = c.word :: c.nums.map (fun n => digits n.toNat) := by
  unfold wordsOf
  rw [lineOf_eq, spl_plain 32 _ _ _ (fun b hb => (h.2.2 b hb).1), List.nil_append, spl_words]
  · rw [List.filter_eq_self]
    intro p hp
    rcases List.mem_cons.1 hp with rfl | q
    · simp [h.1]
    · obtain ⟨n, _, rfl⟩ := List.mem_map.1 q
      simp [digits_ne]
  · intro w hw b hb
    obtain ⟨n, _, rfl⟩ := List.mem_map.1 hw
    exact (digits_good _ b hb).1
/-- Numbers that may be. -/
def NumsOk (c : Cd) : Prop := ∀ n ∈ c.nums, 0 ≤ n ∧ n < 18446744073709551616
theorem nums_back : ∀ (l : List Int), (∀ n ∈ l, 0 ≤ n ∧ n < 18446744073709551616) → numsOf (l.map (fun n => digits n.toNat)) = some l := by
  intro l
  induction l with
  | nil => intro _; rfl
  | cons n l ih =>
    intro h
    have hn := h n List.mem_cons_self
    have e : numOf (digits n.toNat) = some n := by
      rw [numOf_digits (by omega)]
      congr 1
      omega
    rw [List.map_cons, numsOf, e, ih (fun x hx => h x (List.mem_cons_of_mem _ hx))]
theorem cmd_line (c : Cd) (h1 : ¬ takes c.word < 0) (h2 : takes c.word = (c.nums.length : Int)) (h3 : NumsOk c) (ahead : Nat) (ha : ahead < 4096) : cmdOf (wordsOf (lineOf c)) ahead = (true, 0, c) := by
  have g := good_takes h1
  rw [words_line c g, cmdOf, if_neg g.2.1, if_neg (by omega), if_neg h1, if_neg (by rw [h2]; simp), nums_back c.nums h3]
theorem chk_ok : ∀ {l : List Cd}, chk l = 0 → ∀ c ∈ l, ¬ takes c.word < 0 ∧ takes c.word = (c.nums.length : Int) := by
  intro l
  induction l with
  | nil => intro _ c h; cases h
  | cons d l ih =>
    intro h c hc
    rw [chk] at h
    split at h
    · exact absurd h (by decide)
    split at h
    · exact absurd h (by decide)
    rename_i p q
    rcases List.mem_cons.1 hc with rfl | r
    · exact ⟨p, Classical.not_not.1 q⟩
    · exact ih h c r
theorem chk_all : ∀ {l : List Cd}, (∀ c ∈ l, ¬ takes c.word < 0 ∧ takes c.word = (c.nums.length : Int)) → chk l = 0 := by
  intro l
  induction l with
  | nil => intro _; rfl
  | cons d l ih =>
    intro h
    have hd := h d List.mem_cons_self
    rw [chk, if_neg hd.1, if_neg (fun q => q hd.2)]
    exact ih fun c hc => h c (List.mem_cons_of_mem _ hc)
theorem line_plain (c : Cd) (h : Good c.word) : ∀ b ∈ lineOf c, b ≠ 10 := by
  intro b hb
  unfold lineOf at hb
  rcases List.mem_append.1 hb with q | q
  · exact (h.2.2 b q).2
  · obtain ⟨n, _, hn⟩ := List.mem_flatMap.1 q
    rcases List.mem_cons.1 hn with rfl | r
    · decide
    · exact (digits_good _ b r).2
theorem spl_text : ∀ (l : List Cd), (∀ c ∈ l, Good c.word) → spl 10 [] (text l) = l.map lineOf ++ [[]] := by
  intro l
  induction l with
  | nil => intro _; rfl
  | cons c l ih =>
    intro h
    unfold text
    rw [List.flatMap_cons, List.append_assoc, spl_plain 10 _ _ _ (line_plain c (h c List.mem_cons_self)), List.nil_append]
    show spl 10 (lineOf c) (10 :: l.flatMap (fun c => lineOf c ++ [10])) = _
    rw [spl_at]
    have := ih fun c hc => h c (List.mem_cons_of_mem _ hc)
    unfold text at this
    rw [this]
    rfl
theorem words_nil : wordsOf [] = [] := rfl
theorem go_lines : ∀ (l : List Cd), (∀ c ∈ l, ¬ takes c.word < 0 ∧ takes c.word = (c.nums.length : Int) ∧ NumsOk c) → ∀ (i : Nat) (out : List Cd), out.length + l.length ≤ 4096 → goP (l.map lineOf ++ [[]]) i out = (out ++ l, 0, 0) := by
  intro l
  induction l with
  | nil =>
    intro _ i out _
    simp [goP, words_nil, cmdOf]
  | cons c l ih =>
    intro h i out hl
    have hc := h c List.mem_cons_self
    simp only [List.length_cons] at hl
    have e := cmd_line c hc.1 hc.2.1 hc.2.2 out.length (by omega)
    rw [List.map_cons, List.cons_append, goP, e]
    rw [if_neg (by simp), if_pos rfl, ih (fun c hc => h c (List.mem_cons_of_mem _ hc)) (i + 1) (out ++ [c]) (by simp; omega)]
    simp
/-- THERE AND BACK. -/
theorem parse_print {l : List Cd} (hn : ∀ c ∈ l, NumsOk c) (h : (print l).2 = 0) : parse (print l).1 = (l, 0, 0) ∧ (print l).1.length ≤ 65536 := by
  unfold print at h ⊢
  split at h
  · exact absurd h (by decide)
  rename_i h1
  split at h
  · rename_i q; exact absurd h q
  rename_i h2
  split at h
  · exact absurd h (by decide)
  rename_i h3
  have hc := chk_ok (Classical.not_not.1 h2)
  rw [if_neg h1, if_neg h2, if_neg h3]
  refine ⟨?_, by show (text l).length ≤ _; omega⟩
  unfold parse
  rw [if_neg h3]
  show goP (spl 10 [] (text l)) 0 [] = _
  rw [spl_text l (fun c hc' => good_takes (hc c hc').1), go_lines l (fun c hc' => ⟨(hc c hc').1, (hc c hc').2, hn c hc'⟩) 0 [] (by simp; omega), List.nil_append]
theorem print_err {l : List Cd} (h : (print l).2 ≠ 0) : (print l).1 = [] := by
  unfold print at h ⊢
  split
  · rfl
  split
  · rfl
  split
  · rfl
  · rename_i h1 h2 h3
    rw [if_neg h1, if_neg h2, if_neg h3] at h
    exact absurd rfl h

/-! What was read. -/
/-- How long a line is that says these words. -/
def wide (ws : List (List UInt8)) : Nat := (ws.map (fun p => p.length + 1)).sum
theorem filter_wide : ∀ (L : List (List UInt8)), wide (L.filter (fun p => decide (p ≠ []))) ≤ lens L := by
  intro L
  induction L with
  | nil => exact Nat.le_refl _
  | cons p L ih =>
    unfold wide lens at ih ⊢
    by_cases q : p = []
    · rw [List.filter_cons_of_neg (by simp [q])]
      simp only [List.map_cons, List.sum_cons]
      omega
    · rw [List.filter_cons_of_pos (by simp [q])]
      simp only [List.map_cons, List.sum_cons]
      omega
theorem words_wide (l : List UInt8) : wide (wordsOf l) ≤ l.length + 1 := by
  refine Nat.le_trans (filter_wide _) ?_
  rw [spl_lens]
  simp
theorem nums_some : ∀ {r : List (List UInt8)} {ns : List Int}, numsOf r = some ns → r = ns.map (fun n => digits n.toNat) ∧ (∀ n ∈ ns, 0 ≤ n ∧ n < 18446744073709551616) := by
  intro r
  induction r with
  | nil => intro ns h; cases h; exact ⟨rfl, fun n h => by cases h⟩
  | cons w r ih =>
    intro ns h
    rw [numsOf] at h
    cases e : numOf w with
    | none => rw [e] at h; cases h
    | some n =>
      rw [e] at h
      cases e2 : numsOf r with
      | none => rw [e2] at h; cases h
      | some ms =>
        rw [e2] at h
        cases h
        obtain ⟨q1, q2, q3⟩ := numOf_some e
        obtain ⟨r1, r2⟩ := ih e2
        refine ⟨by rw [List.map_cons, ← q1, ← r1], fun x hx => ?_⟩
        rcases List.mem_cons.1 hx with rfl | y
        · exact ⟨q2, q3⟩
        · exact r2 x y
/-- A command that was read. -/
theorem cmd_some {ws : List (List UInt8)} {ahead : Nat} {e : Int} {c : Cd} (h : cmdOf ws ahead = (true, e, c)) (he : e = 0) : ws = c.word :: c.nums.map (fun n => digits n.toNat) ∧ ¬ takes c.word < 0 ∧ takes c.word = (c.nums.length : Int) ∧ NumsOk c ∧ ahead < 4096 := by
  subst he
  unfold cmdOf at h
  cases ws with
  | nil => simp at h
  | cons w r =>
    simp only at h
    split at h
    · simp at h
    split at h
    · simp at h
    split at h
    · simp at h
    split at h
    · simp at h
    rename_i h1 h2 h3 h4
    cases e : numsOf r with
    | none => rw [e] at h; simp at h
    | some ns =>
      rw [e] at h
      simp only [Prod.mk.injEq, true_and] at h
      subst h
      obtain ⟨q1, q2⟩ := nums_some e
      refine ⟨by rw [← q1], h3, ?_, q2, by omega⟩
      have : r.length = ns.length := by rw [q1]; simp
      show takes w = (ns.length : Int)
      rw [← this]
      exact Classical.not_not.1 h4
theorem line_wide (c : Cd) : (lineOf c).length + 1 = wide (c.word :: c.nums.map (fun n => digits n.toNat)) := by
  rw [lineOf_eq]
  generalize c.nums.map (fun n => digits n.toNat) = ws
  unfold wide
  rw [List.map_cons, List.sum_cons, List.length_append]
  have : (ws.flatMap (fun w => 32 :: w)).length = (ws.map (fun p => p.length + 1)).sum := by
    induction ws with
    | nil => rfl
    | cons w ws ih => simp [List.flatMap_cons, ih]; omega
  omega
theorem go_facts : ∀ (L : List (List UInt8)) (i : Nat) (out : List Cd) (l : List Cd) (a : Int), goP L i out = (l, a, 0) →
    a = 0 ∧ ∃ m, l = out ++ m ∧ (∀ c ∈ m, ¬ takes c.word < 0 ∧ takes c.word = (c.nums.length : Int) ∧ NumsOk c) ∧ (out.length ≤ 4096 → l.length ≤ 4096) ∧ (text m).length ≤ lens L := by
  intro L
  induction L with
  | nil =>
    intro i out l a h
    rw [goP] at h
    cases h
    exact ⟨rfl, [], (List.append_nil _).symm, (fun c h => by cases h), id, by simp [text]⟩
  | cons x L ih =>
    intro i out l a h
    rw [goP] at h
    split at h
    · rename_i q
      simp only [Prod.mk.injEq] at h
      exact absurd h.2.2 q
    rename_i h0
    split at h
    · rename_i q
      obtain ⟨e, m, r1, r2, r3, r4⟩ := ih _ _ _ _ h
      have hs := cmd_some (ws := wordsOf x) (ahead := out.length) (e := (cmdOf (wordsOf x) out.length).2.1) (c := (cmdOf (wordsOf x) out.length).2.2) (by rw [← q]) (Classical.not_not.1 h0)
      refine ⟨e, (cmdOf (wordsOf x) out.length).2.2 :: m, by rw [r1]; simp, fun c hc => ?_, fun _ => r3 (by have := hs.2.2.2.2; simp; omega), ?_⟩
      · rcases List.mem_cons.1 hc with rfl | y
        · exact ⟨hs.2.1, hs.2.2.1, hs.2.2.2.1⟩
        · exact r2 c y
      · have e1 : (text ((cmdOf (wordsOf x) out.length).2.2 :: m)).length = (lineOf (cmdOf (wordsOf x) out.length).2.2).length + 1 + (text m).length := by
          simp [text]
          omega
        have e2 := line_wide (cmdOf (wordsOf x) out.length).2.2
        rw [← hs.1] at e2
        have e3 := words_wide x
        have e4 : lens (x :: L) = x.length + 1 + lens L := by simp [lens]
        omega
    · obtain ⟨e, m, r1, r2, r3, r4⟩ := ih _ _ _ _ h
      have e4 : lens (x :: L) = x.length + 1 + lens L := by simp [lens]
      exact ⟨e, m, r1, r2, r3, by omega⟩
theorem go_err : ∀ (L : List (List UInt8)) (i : Nat) (out : List Cd), (goP L i out).2.2 ≠ 0 → (goP L i out).1 = [] ∧ 0 < (goP L i out).2.1 := by
  intro L
  induction L with
  | nil => intro i out h; exact absurd rfl h
  | cons x L ih =>
    intro i out h
    rw [goP] at h ⊢
    split
    · exact ⟨rfl, by show (0 : Int) < (i : Int) + 1; omega⟩
    rename_i h0
    rw [if_neg h0] at h
    split
    · rename_i q
      rw [if_pos q] at h
      exact ih _ _ h
    · rename_i q
      rw [if_neg q] at h
      exact ih _ _ h
/-- What a text that is taken tells. -/
theorem parse_facts {t : List UInt8} {l : List Cd} {a : Int} (h : parse t = (l, a, 0)) : a = 0 ∧ t.length ≤ 65536 ∧ l.length ≤ 4096 ∧ chk l = 0 ∧ (∀ c ∈ l, NumsOk c) ∧ (text l).length ≤ t.length + 1 := by
  unfold parse at h
  split at h
  · simp at h
  rename_i h0
  obtain ⟨e, m, r1, r2, r3, r4⟩ := go_facts _ _ _ _ _ h
  rw [List.nil_append] at r1
  subst r1
  rw [spl_lens] at r4
  exact ⟨e, by omega, r3 (Nat.zero_le _), chk_all fun c hc => ⟨(r2 c hc).1, (r2 c hc).2.1⟩, fun c hc => (r2 c hc).2.2, by simpa using r4⟩
theorem parse_err {t : List UInt8} (h : (parse t).2.2 ≠ 0) : (parse t).1 = [] ∧ (0 < (parse t).2.1 ∨ 65536 < t.length) := by
  unfold parse at h ⊢
  split
  · rename_i q; exact ⟨rfl, .inr q⟩
  · rename_i q
    rw [if_neg q] at h
    have := go_err _ _ _ h
    exact ⟨this.1, .inl this.2⟩
/-- READ, PRINTED AND READ AGAIN. -/
theorem parse_again {t : List UInt8} {l : List Cd} {a : Int} (h : parse t = (l, a, 0)) :
    ((print l).2 ≠ 0 → (print l).2 = 210 ∧ t.length = 65536) ∧ ((print l).2 = 0 → parse (print l).1 = (l, 0, 0) ∧ (print l).1.length ≤ t.length + 1) := by
  obtain ⟨_, h1, h2, h3, h4, h5⟩ := parse_facts h
  refine ⟨fun q => ?_, fun q => ⟨(parse_print h4 q).1, ?_⟩⟩
  · unfold print at q ⊢
    rw [if_neg (by omega), if_neg (by simp [h3])] at q ⊢
    split
    · exact ⟨rfl, by omega⟩
    · rename_i r
      rw [if_neg r] at q
      exact absurd rfl q
  · unfold print at q ⊢
    rw [if_neg (by omega), if_neg (by simp [h3])] at q ⊢
    split
    · simp
    · exact h5

/-! Put together. -/
theorem go_app : ∀ (L : List (List UInt8)) (i : Nat) (out : List Cd) (M : List (List UInt8)), (goP L i out).2.2 = 0 → goP (L ++ M) i out = goP M (i + L.length) (goP L i out).1 := by
  intro L
  induction L with
  | nil => intro i out M _; simp [goP]
  | cons x L ih =>
    intro i out M h
    rw [goP] at h
    rw [List.cons_append, goP, goP]
    split at h
    · rename_i q; exact absurd h q
    rename_i h0
    rw [if_neg h0, if_neg h0]
    split at h
    · rename_i q
      rw [if_pos q, if_pos q, ih _ _ _ h]
      simp; congr 1; omega
    · rename_i q
      rw [if_neg q, if_neg q, ih _ _ _ h]
      simp; congr 1; omega
/-- Behind others, as long as there are not too many. -/
theorem go_behind : ∀ (M : List (List UInt8)) (i k : Nat) (pre out : List Cd), (goP M i out).2.2 = 0 → pre.length + (goP M i out).1.length ≤ 4096 → goP M k (pre ++ out) = (pre ++ (goP M i out).1, 0, 0) := by
  intro M
  induction M with
  | nil => intro i k pre out _ _; rfl
  | cons x M ih =>
    intro i k pre out h hl
    rw [goP] at h hl ⊢
    have GE : goP (x :: M) i out = if (cmdOf (wordsOf x) out.length).2.1 ≠ 0 then ([], (i : Int) + 1, (cmdOf (wordsOf x) out.length).2.1) else if (cmdOf (wordsOf x) out.length).1 = true then goP M (i + 1) (out ++ [(cmdOf (wordsOf x) out.length).2.2]) else goP M (i + 1) out := rfl
    split at h
    · rename_i q; exact absurd h q
    rename_i h0
    rw [if_neg h0] at hl GE
    have same : (cmdOf (wordsOf x) out.length).1 = true → (pre ++ out).length < 4096 → cmdOf (wordsOf x) (pre ++ out).length = cmdOf (wordsOf x) out.length := by
      intro q hq
      have hs := cmd_some (ws := wordsOf x) (ahead := out.length) (e := (cmdOf (wordsOf x) out.length).2.1) (c := (cmdOf (wordsOf x) out.length).2.2) (by rw [← q]) (Classical.not_not.1 h0)
      cases e : wordsOf x with
      | nil => rfl
      | cons w r =>
        unfold cmdOf
        simp only
        rw [if_neg (show ¬ 4096 ≤ (pre ++ out).length by omega), if_neg (show ¬ 4096 ≤ out.length by have := hs.2.2.2.2; omega)]
    have quiet : ¬ (cmdOf (wordsOf x) out.length).1 = true → cmdOf (wordsOf x) (pre ++ out).length = cmdOf (wordsOf x) out.length := by
      intro q
      cases e : wordsOf x with
      | nil => rfl
      | cons w r =>
        rw [e] at q
        unfold cmdOf at q ⊢
        simp only at q ⊢
        by_cases z : w.head? = some 35
        · rw [if_pos z, if_pos z]
        · exfalso
          apply q
          rw [if_neg z]
          repeat' split
          all_goals rfl
    split at h
    · rename_i q
      rw [if_pos q] at hl
      have grow : out.length + 1 ≤ (goP M (i + 1) (out ++ [(cmdOf (wordsOf x) out.length).2.2])).1.length := by
        cases hg : goP M (i + 1) (out ++ [(cmdOf (wordsOf x) out.length).2.2]) with
        | mk l r =>
          obtain ⟨a, e⟩ := r
          rw [hg] at h
          have he : e = 0 := h
          subst he
          obtain ⟨_, m, r1, _⟩ := go_facts _ _ _ _ _ hg
          rw [r1]
          simp
      have e := same q (by simp; omega)
      rw [if_pos q] at GE
      rw [e, if_neg h0, if_pos q, List.append_assoc, GE]
      exact ih _ _ _ _ h hl
    · rename_i q
      rw [if_neg q] at hl
      have e := quiet q
      rw [if_neg q] at GE
      rw [e, if_neg h0, if_neg q, GE]
      exact ih _ _ _ _ h hl
/-- PUT TOGETHER. -/
theorem parse_joined {a b : List UInt8} (ha : (parse a).2.2 = 0) (hb : (parse b).2.2 = 0) (hl : a.length + 1 + b.length ≤ 65536) (hc : (parse a).1.length + (parse b).1.length ≤ 4096) :
    parse (a ++ 10 :: b) = ((parse a).1 ++ (parse b).1, 0, 0) := by
  have pa : parse a = goP (spl 10 [] a) 0 [] := by unfold parse; rw [if_neg (by omega)]
  have pb : parse b = goP (spl 10 [] b) 0 [] := by unfold parse; rw [if_neg (by omega)]
  rw [pa] at ha hc ⊢
  rw [pb] at hb hc ⊢
  unfold parse
  rw [if_neg (show ¬ 65536 < (a ++ 10 :: b).length by simp; omega), spl_two, go_app _ _ _ _ ha]
  have := go_behind (spl 10 [] b) 0 (0 + (spl 10 [] a).length) (goP (spl 10 [] a) 0 []).1 [] hb hc
  rw [List.append_nil] at this
  exact this

/-! What says nothing. -/
/-- A line that says nothing. -/
def Mute (l : List UInt8) : Prop := ∀ n, (cmdOf (wordsOf l) n).1 = false ∧ (cmdOf (wordsOf l) n).2.1 = 0
theorem go_mute {x : List UInt8} (h : Mute x) (L : List (List UInt8)) (i : Nat) (out : List Cd) : goP (x :: L) i out = goP L (i + 1) out := by
  rw [goP, if_neg (by rw [(h _).2]; simp), if_neg (by rw [(h _).1]; simp)]
/-- The same words, line by line, so many lines further on. -/
theorem go_alike : ∀ (L M : List (List UInt8)) (i k : Nat) (out : List Cd), L.map wordsOf = M.map wordsOf → ((goP L i out).2.2 = 0 → goP M (i + k) out = goP L i out) ∧ ((goP L i out).2.2 ≠ 0 → goP M (i + k) out = ((goP L i out).1, (goP L i out).2.1 + k, (goP L i out).2.2)) := by
  intro L
  induction L with
  | nil =>
    intro M i k out h
    cases M with
    | nil => exact ⟨fun _ => rfl, fun q => absurd rfl q⟩
    | cons y M => simp at h
  | cons x L ih =>
    intro M i k out h
    cases M with
    | nil => simp at h
    | cons y M =>
      simp only [List.map_cons, List.cons.injEq] at h
      rw [goP, goP, ← h.1]
      split
      · rename_i q
        exact ⟨fun z => absurd z q, fun _ => by simp; omega⟩
      split
      · have := ih M (i + 1) k (out ++ [(cmdOf (wordsOf x) out.length).2.2]) h.2
        rw [show i + 1 + k = i + k + 1 by omega] at this
        exact this
      · have := ih M (i + 1) k out h.2
        rw [show i + 1 + k = i + k + 1 by omega] at this
        exact this
/-- Blanks about blanks and line ends. -/
def wid (t : List UInt8) : List UInt8 := t.flatMap (fun b => if b = 32 ∨ b = 10 then [32, b, 32] else [b])
/-- The words of what stands behind a piece that is begun. -/
theorem words_acc : ∀ (l acc : List UInt8), (spl 32 acc (wid l)).filter (fun p => decide (p ≠ [])) = (spl 32 acc l).filter (fun p => decide (p ≠ [])) ∨ 10 ∈ l := by
  intro l
  induction l with
  | nil => intro acc; exact .inl rfl
  | cons b l ih =>
    intro acc
    by_cases h10 : b = 10
    · exact .inr (by rw [h10]; exact List.mem_cons_self)
    by_cases q : b = 32
    · subst q
      rcases ih [] with h | h
      · left
        have e : wid (32 :: l) = 32 :: 32 :: 32 :: wid l := by simp [wid]
        rw [e, spl_at, spl_at, spl_at, spl_at, List.filter_cons, List.filter_cons, List.filter_cons, List.filter_cons]
        simp only [ne_eq, not_true_eq_false, decide_false, Bool.false_eq_true, if_false]
        rw [h]
      · exact .inr (List.mem_cons_of_mem _ h)
    · rcases ih (acc ++ [b]) with h | h
      · left
        have e : wid (b :: l) = b :: wid l := by simp [wid, q, h10]
        rw [e, spl, if_neg q, spl, if_neg q, h]
      · exact .inr (List.mem_cons_of_mem _ h)
theorem words_ahead (l : List UInt8) : wordsOf (32 :: l) = wordsOf l := by
  unfold wordsOf
  rw [spl_at, List.filter_cons]
  simp
theorem words_behind (l : List UInt8) : wordsOf (l ++ [32]) = wordsOf l := by
  unfold wordsOf
  rw [spl_two 32 l [] [], List.filter_append]
  simp [spl]
/-- The lines of a widened text have the words that the text's have. -/
theorem wid_lines : ∀ (t acc acc' : List UInt8), (∀ l, (∀ b ∈ l, b ≠ 10) → wordsOf (acc' ++ wid l) = wordsOf (acc ++ l)) → (spl 10 acc' (wid t)).map wordsOf = (spl 10 acc t).map wordsOf := by
  intro t
  induction t with
  | nil =>
    intro acc acc' h
    have := h [] (by simp)
    simp [wid] at this
    simp [wid, spl, this]
  | cons b t ih =>
    intro acc acc' h
    by_cases q : b = 10
    · subst q
      have e : wid (10 :: t) = 32 :: 10 :: 32 :: wid t := by simp [wid]
      rw [e, spl, if_neg (by decide), spl_at, spl_at, spl, if_neg (by decide), List.map_cons, List.map_cons, List.nil_append]
      have h0 := h [] (by simp)
      simp only [wid, List.flatMap_nil, List.append_nil] at h0
      rw [words_behind, h0, ih [] [32] (fun l hl => ?_)]
      rw [List.nil_append]
      show wordsOf (32 :: wid l) = _
      rw [words_ahead]
      unfold wordsOf
      rcases words_acc l [] with z | z
      · exact z
      · exact absurd rfl (hl 10 z)
    · have e : wid (b :: t) = (wid [b]) ++ wid t := by simp [wid]
      have nb : ∀ x ∈ wid [b], x ≠ 10 := by
        intro x hx
        by_cases r : b = 32
        · subst r
          simp [wid] at hx
          rw [hx]
          decide
        · simp [wid, q, r] at hx
          rw [hx]
          exact q
      rw [e, spl_plain 10 _ _ _ nb, spl, if_neg q]
      refine ih (acc ++ [b]) (acc' ++ wid [b]) (fun l hl => ?_)
      have := h (b :: l) (by
        intro x hx
        rcases List.mem_cons.1 hx with rfl | y
        · exact q
        · exact hl x y)
      have e2 : wid (b :: l) = wid [b] ++ wid l := by simp [wid]
      rw [e2] at this
      rw [List.append_assoc, this, List.append_assoc]
      rfl
theorem wid_words (t : List UInt8) : (spl 10 [] (wid t)).map wordsOf = (spl 10 [] t).map wordsOf :=
  wid_lines t [] [] (fun l hl => by
    rw [List.nil_append, List.nil_append]
    unfold wordsOf
    rcases words_acc l [] with z | z
    · exact z
    · exact absurd rfl (hl 10 z))
/-- The last piece, with blanks behind it. -/
theorem spl_blank : ∀ (l acc : List UInt8), (spl 10 acc (l ++ [32, 32])).map wordsOf = (spl 10 acc l).map wordsOf := by
  intro l
  induction l with
  | nil =>
    intro acc
    have e : spl 10 acc [32, 32] = [acc ++ [32] ++ [32]] := rfl
    rw [List.nil_append, e, spl_end, List.map_cons, List.map_cons, words_behind, words_behind, List.map_nil]
  | cons b l ih =>
    intro acc
    rw [List.cons_append, spl, spl]
    by_cases q : b = 10
    · rw [if_pos q, if_pos q, List.map_cons, List.map_cons, ih]
    · rw [if_neg q, if_neg q, ih]
/-- A note. -/
theorem mute_note {n : List UInt8} : Mute (35 :: n) := by
  intro k
  have : ∃ r, wordsOf (35 :: n) = r ∧ (r = [] ∨ ∃ w s, r = w :: s ∧ w.head? = some 35) := by
    refine ⟨_, rfl, .inr ?_⟩
    have aux : ∀ (l acc : List UInt8), acc.head? = some 35 → ∃ w s, (spl 32 acc l).filter (fun p => decide (p ≠ [])) = w :: s ∧ w.head? = some 35 := by
      intro l
      induction l with
      | nil =>
        intro acc h
        have : acc ≠ [] := by rintro rfl; cases h
        exact ⟨acc, [], by simp [spl, this], h⟩
      | cons b l ih =>
        intro acc h
        have ne : acc ≠ [] := by rintro rfl; cases h
        rw [spl]
        split
        · exact ⟨acc, _, by rw [List.filter_cons_of_pos (by simp [ne])], h⟩
        · exact ih _ (by cases acc with | nil => cases h | cons x y => exact h)
    unfold wordsOf
    rw [spl, if_neg (by decide)]
    exact aux n _ rfl
  obtain ⟨r, e, h⟩ := this
  rw [e]
  rcases h with rfl | ⟨w, s, rfl, hw⟩
  · exact ⟨rfl, rfl⟩
  · unfold cmdOf
    simp only
    rw [if_pos hw]
    exact ⟨rfl, rfl⟩
theorem mute_blank : Mute [32] := fun k => ⟨rfl, rfl⟩
/-- What a note is: no line's end in it. -/
def noteOf (n : List UInt8) : List UInt8 := 35 :: n.filter (fun b => decide (b ≠ 10))
theorem mute_noteOf (n : List UInt8) : Mute (noteOf n) := mute_note
/-- The long text. -/
def longOf (t n : List UInt8) : List UInt8 := noteOf n ++ 10 :: 32 :: 10 :: (wid t ++ 32 :: 32 :: 10 :: noteOf n)
theorem wid_len (t : List UInt8) : t.length ≤ (wid t).length := by
  induction t with
  | nil => exact Nat.le_refl _
  | cons b t ih =>
    have : (wid (b :: t)).length = (if b = 32 ∨ b = 10 then [32, b, 32] else [b]).length + (wid t).length := by simp [wid]
    rw [this]
    split <;> simp <;> omega
theorem note_plain (n : List UInt8) : ∀ b ∈ noteOf n, b ≠ 10 := by
  intro b hb
  rcases List.mem_cons.1 hb with rfl | q
  · decide
  · simpa using (List.mem_filter.1 q).2
/-- WHAT SAYS NOTHING. -/
theorem parse_blank (t n : List UInt8) (h : (longOf t n).length ≤ 65536) :
    ((parse t).2.2 = 0 → parse (longOf t n) = ((parse t).1, 0, 0)) ∧ ((parse t).2.2 ≠ 0 → parse (longOf t n) = ((parse t).1, (parse t).2.1 + 2, (parse t).2.2)) := by
  have hw := wid_len t
  have ht : t.length ≤ 65536 := by
    unfold longOf at h
    simp at h
    omega
  have e : spl 10 [] (longOf t n) = noteOf n :: [32] :: (spl 10 [] (wid t ++ [32, 32]) ++ [noteOf n]) := by
    unfold longOf
    rw [spl_plain 10 _ _ _ (note_plain n), List.nil_append, spl_at, spl, if_neg (by decide), spl_at, List.nil_append]
    rw [show wid t ++ 32 :: 32 :: 10 :: noteOf n = (wid t ++ [32, 32]) ++ 10 :: noteOf n by simp, spl_two]
    have := spl_plain 10 (noteOf n) [] [] (note_plain n)
    rw [List.append_nil, List.nil_append, spl_end] at this
    rw [this]
  have p1 : parse t = goP (spl 10 [] t) 0 [] := by unfold parse; rw [if_neg (by omega)]
  have p2 : parse (longOf t n) = goP (spl 10 [] (wid t ++ [32, 32]) ++ [noteOf n]) 2 [] := by
    unfold parse
    rw [if_neg (by omega), e, go_mute (mute_noteOf n), go_mute mute_blank]
  have hm : (spl 10 [] t).map wordsOf = (spl 10 [] (wid t ++ [32, 32])).map wordsOf := by rw [spl_blank, wid_words]
  have al := go_alike (spl 10 [] t) (spl 10 [] (wid t ++ [32, 32])) 0 2 [] hm
  rw [Nat.zero_add] at al
  -- the note behind it
  have tail : ∀ (L : List (List UInt8)) (i : Nat) (out : List Cd), goP (L ++ [noteOf n]) i out = goP L i out := by
    intro L
    induction L with
    | nil => intro i out; rw [List.nil_append, go_mute (mute_noteOf n)]; rfl
    | cons x L ih =>
      intro i out
      rw [List.cons_append, goP, goP]
      simp only [ih]
  rw [p1, p2, tail]
  refine ⟨fun q => ?_, fun q => ?_⟩
  · rw [al.1 q]
    have g : goP (spl 10 [] t) 0 [] = ((goP (spl 10 [] t) 0 []).1, (goP (spl 10 [] t) 0 []).2.1, 0) := by rw [← q]
    have := (go_facts _ _ _ _ _ g).1
    rw [this] at g
    exact g
  · exact al.2 q
end Go.Proofs.YtocnmdabilaccaaDoor
