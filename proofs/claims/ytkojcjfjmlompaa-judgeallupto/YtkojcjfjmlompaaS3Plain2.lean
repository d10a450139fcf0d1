/- Layer 23, plain: an answer with one thing turned. -/
import Derived.Test.YtkojcjfjmlompaaS3Plain
namespace Go.Proofs.Ytkojcjfjmlompaa
set_option linter.unusedVariables false

def w64 (x : Int) : Int := x % 18446744073709551616
/-- The list, turned. -/
def turnL (L : Ps) (b : Int) : Ps :=
  if L.length = 0 ∨ b % 3 = 0 then L ++ [(b, b)]
  else if b % 3 = 1 then L.take (L.length - 1)
  else L.set (b / 3 % (L.length : Int)).toNat (((L.getD (b / 3 % (L.length : Int)).toNat (0, 0)).1), w64 ((L.getD (b / 3 % (L.length : Int)).toNat (0, 0)).2 + 1))
def turnP (a : Aw) (rule b : Int) : Aw × Bool :=
  if rule = 1 then ({ a with c := a.c + (1 + b % 1000) }, true)
  else if rule = 2 then ({ a with is := !a.is }, true)
  else if rule = 3 then (if b % 2 = 0 then ({ a with k := w64 (a.k + 1 + b / 2) }, true) else ({ a with v := w64 (a.v + 1 + b / 2) }, true))
  else if rule = 4 then ({ a with n := a.n + 1 + b % 1000 }, true)
  else if rule = 5 then ({ a with L := turnL a.L b }, true)
  else (a, false)
theorem turnL_ne {L : Ps} {b : Int} (hb : 0 ≤ b) (hl : ∀ p ∈ L, 0 ≤ p.2 ∧ p.2 < 18446744073709551616) : turnL L b ≠ L := by
  unfold turnL
  split
  · intro e
    have := congrArg List.length e
    simp at this
  · rename_i h
    have hn : 0 < L.length := by
      rcases Nat.eq_zero_or_pos L.length with z | z
      · exact absurd (.inl z) h
      · exact z
    split
    · intro e
      have := congrArg List.length e
      simp at this
      omega
    · have h1 : 0 ≤ b / 3 % (L.length : Int) := Int.emod_nonneg _ (by omega)
      have h2 : b / 3 % (L.length : Int) < (L.length : Int) := Int.emod_lt_of_pos _ (by omega)
      have hi : (b / 3 % (L.length : Int)).toNat < L.length := by omega
      generalize (b / 3 % (L.length : Int)).toNat = i at hi
      intro e
      have e1 := congrArg (fun l => l[i]?) e
      simp only [List.getElem?_set, hi, if_true, List.getElem?_eq_getElem hi, Option.some.injEq] at e1
      have e2 := congrArg Prod.snd e1
      have e3 : L.getD i (0, 0) = L[i] := by simp [List.getD, hi]
      rw [e3] at e2
      have := hl L[i] (List.getElem_mem hi)
      simp only [w64] at e2
      omega
theorem see_turn {a : Aw} {rule b : Int} (hb : 0 ≤ b) (hb2 : b < 18446744073709551616) (hk : 0 ≤ a.k ∧ a.k < 18446744073709551616) (hv : 0 ≤ a.v ∧ a.v < 18446744073709551616) (hl : ∀ p ∈ a.L, 0 ≤ p.2 ∧ p.2 < 18446744073709551616) :
    seeP a (turnP a rule b).1 = if (turnP a rule b).2 = true then [rule] else [] := by
  unfold turnP
  split
  · rename_i h
    subst h
    have : ¬ (a.c + (1 + b % 1000) = a.c) := by omega
    simp [seeP]
    omega
  · split
    · rename_i h
      subst h
      have : ¬ ((!a.is) = a.is) := by cases a.is <;> simp
      simp [seeP]
    · split
      · rename_i h
        subst h
        split
        · have : ¬ (w64 (a.k + 1 + b / 2) = a.k) := by unfold w64; omega
          simp [seeP, this]
        · have : ¬ (w64 (a.v + 1 + b / 2) = a.v) := by unfold w64; omega
          simp [seeP, this]
      · split
        · rename_i h
          subst h
          have : ¬ (a.n + 1 + b % 1000 = a.n) := by omega
          simp [seeP, this]
        · split
          · rename_i h
            subst h
            have := turnL_ne (L := a.L) hb hl
            simp [seeP, this]
          · simp [seeP_self]
/-- What the plain map answers, bounded. -/
def BdP (l : Ps) : Prop := ∀ p ∈ l, (0 ≤ p.1 ∧ p.1 < 18446744073709551616) ∧ (0 ≤ p.2 ∧ p.2 < 18446744073709551616)
theorem bd_put {l : Ps} (h : BdP l) (most : Int) {k v : Int} (hk : 0 ≤ k ∧ k < 18446744073709551616) (hv : 0 ≤ v ∧ v < 18446744073709551616) : BdP (putP most l k v).1 := by
  unfold putP
  split
  · intro p hp
    rcases List.mem_or_eq_of_mem_set hp with q | q
    · exact h p q
    · rw [q]; exact ⟨hk, hv⟩
  · split
    · exact h
    · intro p hp
      rcases List.mem_append.1 hp with q | q
      · exact h p (List.mem_of_mem_take q)
      · rcases List.mem_cons.1 q with q | q
        · rw [q]; exact ⟨hk, hv⟩
        · exact h p (List.mem_of_mem_drop q)
theorem bd_nxt {l : Ps} (h : BdP l) (most kd : Int) {k v : Int} (hk : 0 ≤ k ∧ k < 18446744073709551616) (hv : 0 ≤ v ∧ v < 18446744073709551616) : BdP (nxtP most l kd k v) := by
  unfold nxtP
  split
  · exact bd_put h most hk hv
  · split
    · intro p hp
      rcases List.mem_append.1 hp with q | q
      · exact h p (List.mem_of_mem_take q)
      · exact h p (List.mem_of_mem_drop q)
    · exact h
theorem run_sub : ∀ (l : Ps) (b : Int), ∀ p ∈ runP l b, p ∈ l := by
  intro l b
  induction l with
  | nil => intro p hp; exact hp
  | cons x l ih =>
    intro p hp
    unfold runP at hp
    split at hp
    · rcases List.mem_cons.1 hp with q | q
      · rw [q]; exact List.mem_cons_self
      · exact List.mem_cons_of_mem _ (ih p q)
    · cases hp
theorem run_len : ∀ (l : Ps) (b : Int), (runP l b).length ≤ l.length := by
  intro l b
  induction l with
  | nil => exact Nat.le_refl _
  | cons x l ih =>
    unfold runP
    split
    · simp; omega
    · simp
theorem hit_bd {l : Ps} (h : BdP l) (i : Int) : (0 ≤ (hitP (atP l i)).k ∧ (hitP (atP l i)).k < 18446744073709551616) ∧ (0 ≤ (hitP (atP l i)).v ∧ (hitP (atP l i)).v < 18446744073709551616) ∧ (hitP (atP l i)).L = [] ∧ (hitP (atP l i)).n = 0 ∧ (hitP (atP l i)).c = 0 := by
  unfold atP
  split
  · cases e : l[i.toNat]? with
    | none => simp [hitP, aw0]
    | some p => have := h p (List.mem_of_getElem? e); exact ⟨this.1, this.2, rfl, rfl, rfl⟩
  · simp [hitP, aw0]
theorem ans_bd {l : Ps} (h : BdP l) (most kd k v : Int) : (0 ≤ (ansP most l kd k v).k ∧ (ansP most l kd k v).k < 18446744073709551616) ∧ (0 ≤ (ansP most l kd k v).v ∧ (ansP most l kd k v).v < 18446744073709551616) ∧ BdP (ansP most l kd k v).L ∧ (ansP most l kd k v).L.length ≤ l.length ∧ (0 ≤ (ansP most l kd k v).n ∧ (ansP most l kd k v).n ≤ (l.length : Int)) ∧ (0 ≤ (ansP most l kd k v).c ∧ (ansP most l kd k v).c ≤ 161) := by
  have hr := rk_le l k
  have nil : BdP [] := fun p hp => by cases hp
  unfold ansP
  split
  · refine ⟨by simp [aw0], by simp [aw0], nil, by simp [aw0], by simp [aw0], ?_⟩
    unfold putP
    split
    · simp
    · split <;> simp
  · split
    · exact ⟨by simp [aw0], by simp [aw0], nil, by simp [aw0], by simp [aw0], by simp [aw0]⟩
    · split
      · refine ⟨by simp [aw0], ?_, nil, by simp [aw0], by simp [aw0], by simp [aw0]⟩
        show 0 ≤ (if isK l k = true then ((l[rk l k]?).map Prod.snd).getD 0 else 0) ∧ _
        split
        · cases e : l[rk l k]? with
          | none => simp
          | some p => have := h p (List.mem_of_getElem? e); exact this.2
        · simp
      · split
        · obtain ⟨a, b, c, d, e⟩ := hit_bd h (spotP kd l k)
          refine ⟨a, b, by rw [c]; exact nil, by rw [c]; simp, by rw [d]; simp, by rw [e]; simp⟩
        · split
          · exact ⟨by simp [aw0], by simp [aw0], nil, by simp [aw0], by simp; omega, by simp [aw0]⟩
          · split
            · refine ⟨by simp [aw0], by simp [aw0], fun p hp => h p (List.mem_of_mem_drop (run_sub _ _ p hp)), ?_, by simp [aw0], by simp [aw0]⟩
              have := run_len (l.drop (rk l k)) v
              simp at this ⊢
              omega
            · exact ⟨by simp [aw0], by simp [aw0], nil, by simp [aw0], by simp [aw0], by simp⟩
end Go.Proofs.Ytkojcjfjmlompaa
