/- Layer 14, no Go: of each key the last entry. -/
import Derived.Test.YtkofbjdgidaieaaQMem
namespace Go.Proofs.Ytkofbjdgidaieaa
set_option linter.unusedVariables false

/-- An entry that may be. -/
def gd (e : Ent) : Bool := !e.g || e.v == 0
theorem gd_iff (e : Ent) : gd e = true ↔ ¬ (e.g = true ∧ e.v ≠ 0) := by
  unfold gd
  cases e.g <;> simp
def stepL (a : List Ent) (e : Ent) : List Ent := if gd e = true then ins Ent.k e a else a
/-- Entries put one behind the other. -/
def bldL (l : List Ent) : List Ent := l.foldl stepL []
/-- The last of a key. -/
def lastK (k : Int) (l : List Ent) : Option Ent := l.foldl (fun o e => if e.k = k ∧ gd e = true then some e else o) none
theorem bldL_snoc (l : List Ent) (e : Ent) : bldL (l ++ [e]) = stepL (bldL l) e := by simp [bldL]
theorem lastK_snoc (k : Int) (l : List Ent) (e : Ent) : lastK k (l ++ [e]) = if e.k = k ∧ gd e = true then some e else lastK k l := by simp [lastK]
theorem stepL_rise {a : List Ent} {e : Ent} (h : Rise Ent.k a) : Rise Ent.k (stepL a e) := by
  unfold stepL
  split
  · exact h.ins
  · exact h
theorem stepL_len {a : List Ent} {e : Ent} (h : Rise Ent.k a) : (stepL a e).length ≤ a.length + 1 := by
  unfold stepL
  split
  · exact ins_len h
  · exact Nat.le_succ _
theorem bld_snoc (P : List Ent → Prop) (h0 : P []) (h1 : ∀ l e, P l → P (l ++ [e])) : ∀ l, P l := by
  intro l
  have : ∀ n, ∀ l : List Ent, l.length = n → P l := by
    intro n
    induction n with
    | zero => intro l hl; rw [List.eq_nil_of_length_eq_zero hl]; exact h0
    | succ n ih =>
      intro l hl
      have ne : l ≠ [] := fun e => by rw [e] at hl; simp at hl
      rw [← List.dropLast_concat_getLast ne]
      exact h1 _ _ (ih _ (by rw [List.length_dropLast]; omega))
  exact this _ l rfl
theorem bldL_facts : ∀ l : List Ent, Rise Ent.k (bldL l) ∧ (∀ k, look Ent.k k (bldL l) = lastK k l) ∧ (bldL l).length ≤ l.length := by
  refine bld_snoc _ ⟨List.Pairwise.nil, fun k => rfl, Nat.le_refl _⟩ ?_
  rintro l e ⟨h1, h2, h3⟩
  refine ⟨by rw [bldL_snoc]; exact stepL_rise h1, fun k => ?_, ?_⟩
  · rw [bldL_snoc, lastK_snoc, ← h2 k]
    unfold stepL
    by_cases g : gd e = true
    · rw [if_pos g, look_ins h1]
      by_cases q : e.k = k
      · rw [if_pos q, if_pos ⟨q, g⟩]
      · rw [if_neg q, if_neg (fun x => q x.1)]
    · rw [if_neg g, if_neg (fun x => g x.2)]
  · rw [bldL_snoc, List.length_append]
    have := stepL_len (e := e) h1
    simp
    omega
theorem putR_step {most : Int} {a : List Ent} {e : Ent} (h : (a.length : Int) < most) : putR most a e = (if gd e = true then 0 else 31, stepL a e) := by
  unfold putR stepL
  by_cases g : gd e = true
  · rw [if_neg ((gd_iff e).1 g), if_neg (fun q => by omega), if_pos g, if_pos g]
  · rw [if_pos (Classical.byContradiction fun q => g ((gd_iff e).2 q)), if_neg g, if_neg g]
/-- What stands in it is the last of its key. -/
theorem bldL_at {l : List Ent} {i : Nat} {x : Ent} (h : (bldL l)[i]? = some x) : lastK x.k l = some x := by
  obtain ⟨r, lk, _⟩ := bldL_facts l
  rw [← lk]
  have : ∀ (a : List Ent), Rise Ent.k a → x ∈ a → look Ent.k x.k a = some x := by
    intro a
    induction a with
    | nil => intro _ hx; cases hx
    | cons y a ih =>
      intro hr hx
      rw [look_cons]
      rcases List.mem_cons.1 hx with e | e
      · rw [e, if_pos rfl]
      · have := hr.head x e
        rw [if_neg (by omega), ih hr.tail e]
  exact this _ r (List.mem_of_getElem? h)
theorem take_snoc {l : List Ent} {i : Nat} {x : Ent} (h : l[i]? = some x) : l.take (i + 1) = l.take i ++ [x] := by
  rw [List.take_add_one, h]; rfl
/-- Whether a key was put. -/
def anyK (k : Int) (l : List Ent) : Bool := l.any fun e => e.k == k && gd e
theorem anyK_snoc (k : Int) (l : List Ent) (e : Ent) : anyK k (l ++ [e]) = (anyK k l || (e.k == k && gd e)) := by simp [anyK]
theorem anyK_last (k : Int) : ∀ l : List Ent, (lastK k l).isSome = anyK k l := by
  refine bld_snoc _ rfl ?_
  intro l e h
  rw [lastK_snoc, anyK_snoc, ← h]
  by_cases q : e.k = k ∧ gd e = true
  · rw [if_pos q]; simp [q.1, q.2]
  · rw [if_neg q]
    have : (e.k == k && gd e) = false := by
      cases g : gd e with
      | false => simp
      | true =>
        have : ¬ e.k = k := fun x => q ⟨x, g⟩
        simpa using this
    rw [this, Bool.or_false]
theorem lastK_key {k : Int} : ∀ {l : List Ent} {x : Ent}, lastK k l = some x → x.k = k := by
  intro l
  refine bld_snoc (fun l => ∀ {x : Ent}, lastK k l = some x → x.k = k) (fun h => by cases h) ?_ l
  intro l e ih x h
  rw [lastK_snoc] at h
  split at h
  · rename_i q; cases h; exact q.1
  · exact ih h
end Go.Proofs.Ytkofbjdgidaieaa
