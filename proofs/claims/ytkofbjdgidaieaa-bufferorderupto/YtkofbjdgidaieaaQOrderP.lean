/- Layer 14, no Go: entries of unlike keys, in whatever order. -/
import Derived.Test.YtkofbjdgidaieaaQLastP
namespace Go.Proofs.Ytkofbjdgidaieaa
set_option linter.unusedVariables false

def Uq (l : List Ent) : Prop := l.Pairwise fun a b => a.k ≠ b.k
theorem Uq.snoc {l : List Ent} {x : Ent} (h : Uq l) (n : ∀ y ∈ l, y.k ≠ x.k) : Uq (l ++ [x]) := by
  unfold Uq
  rw [List.pairwise_append]
  exact ⟨h, List.pairwise_singleton _ _, fun a ha b hb => by rw [List.mem_singleton.1 hb]; exact n a ha⟩
theorem Uq.front {l : List Ent} {x : Ent} (h : Uq (l ++ [x])) : Uq l ∧ ∀ y ∈ l, y.k ≠ x.k := by
  unfold Uq at h
  rw [List.pairwise_append] at h
  exact ⟨h.1, fun y hy => h.2.2 y hy x (List.mem_singleton.2 rfl)⟩
theorem Uq.perm {l l' : List Ent} (h : Uq l) (p : l'.Perm l) : Uq l' := (p.pairwise_iff (fun {a b} q => q.symm)).2 h
theorem lastK_mem {k : Int} : ∀ l : List Ent, Uq l → (∀ e ∈ l, gd e = true) → ∀ x, lastK k l = some x ↔ x ∈ l ∧ x.k = k := by
  refine bld_snoc _ (fun _ _ x => ⟨fun h => (by cases h), fun h => (by cases h.1)⟩) ?_
  intro l e ih u g x
  obtain ⟨u1, u2⟩ := u.front
  have ge : gd e = true := g e (by simp)
  have := ih u1 (fun y hy => g y (by simp [hy])) x
  rw [lastK_snoc]
  by_cases q : e.k = k
  · rw [if_pos ⟨q, ge⟩]
    constructor
    · intro h; cases h; exact ⟨by simp, q⟩
    · rintro ⟨h1, h2⟩
      rcases List.mem_append.1 h1 with y | y
      · exact absurd (h2.trans q.symm) (u2 x y)
      · rw [List.mem_singleton.1 y]
  · rw [if_neg (fun z => q z.1), this]
    constructor
    · rintro ⟨h1, h2⟩; exact ⟨by simp [h1], h2⟩
    · rintro ⟨h1, h2⟩
      rcases List.mem_append.1 h1 with y | y
      · exact ⟨y, h2⟩
      · rw [List.mem_singleton.1 y] at h2; exact absurd h2 q
theorem bld_perm {l l' : List Ent} (u : Uq l) (g : ∀ e ∈ l, gd e = true) (p : l'.Perm l) : bldL l' = bldL l := by
  obtain ⟨r1, k1, _⟩ := bldL_facts l
  obtain ⟨r2, k2, _⟩ := bldL_facts l'
  refine Rise.eq r2 r1 fun k => ?_
  rw [k1, k2]
  have a := lastK_mem (k := k) l u g
  have b := lastK_mem (k := k) l' (u.perm p) (fun e he => g e (p.mem_iff.1 he))
  cases q : lastK k l with
  | some x =>
    have := (a x).1 q
    exact (b x).2 ⟨p.mem_iff.2 this.1, this.2⟩
  | none =>
    cases q' : lastK k l' with
    | none => rfl
    | some x =>
      have := (b x).1 q'
      rw [(a x).2 ⟨p.mem_iff.1 this.1, this.2⟩] at q
      cases q
theorem bld_absent {l : List Ent} {e : Ent} (u : Uq (l ++ [e])) (g : ∀ x ∈ l ++ [e], gd x = true) : look Ent.k e.k (bldL l) = none := by
  obtain ⟨u1, u2⟩ := u.front
  rw [(bldL_facts l).2.1]
  cases q : lastK e.k l with
  | none => rfl
  | some x =>
    have := (lastK_mem l u1 (fun y hy => g y (by simp [hy])) x).1 q
    exact absurd this.2 (u2 x this.1)
theorem bld_len : ∀ l : List Ent, Uq l → (∀ e ∈ l, gd e = true) → (bldL l).length = l.length := by
  refine bld_snoc _ (fun _ _ => rfl) ?_
  intro l e ih u g
  rw [bldL_snoc]
  unfold stepL
  rw [if_pos (g e (by simp)), ins_len_new (bld_absent u g), ih u.front.1 (fun y hy => g y (by simp [hy])), List.length_append]
  rfl
theorem Uq.take {l : List Ent} (h : Uq l) (n : Nat) : Uq (l.take n) := List.Pairwise.sublist (List.take_sublist n l) h
/-- A full one refuses a new key. -/
theorem putR_full {most : Int} {a : List Ent} {e : Ent} (h : (a.length : Int) = most) (g : gd e = true) (n : look Ent.k e.k a = none) : putR most a e = (140, a) := by
  unfold putR
  rw [if_neg ((gd_iff e).1 g), if_pos ⟨n, h⟩]
/-- Another entry behind the first ones is new to them. -/
theorem late_absent {l : List Ent} {m i : Nat} {e : Ent} (u : Uq l) (g : ∀ x ∈ l, gd x = true) (hi : l[i]? = some e) (hm : m ≤ i) : look Ent.k e.k (bldL (l.take m)) = none := by
  rw [(bldL_facts _).2.1]
  cases q : lastK e.k (l.take m) with
  | none => rfl
  | some x =>
    obtain ⟨h1, h2⟩ := (lastK_mem (l.take m) (u.take m) (fun y hy => g y (List.mem_of_mem_take hy)) x).1 q
    obtain ⟨j, hj, ex⟩ := List.mem_iff_getElem.1 h1
    obtain ⟨i1, i2⟩ := List.getElem?_eq_some_iff.1 hi
    have jl : j < m := by simp at hj; omega
    have jn : j < l.length := by simp at hj; omega
    have ex' : l[j] = x := by rw [← ex]; simp
    have := (List.pairwise_iff_getElem.1 u) j i jn i1 (by omega)
    rw [ex', i2] at this
    exact absurd h2 this
def swpE (t : List Ent) (i j : Nat) : List Ent := (t.set i (t.getD j ent0)).set j (t.getD i ent0)
theorem swpE_len (t : List Ent) (i j : Nat) : (swpE t i j).length = t.length := by simp [swpE]
theorem swpE_perm (t : List Ent) {i j : Nat} (hi : i < t.length) (hj : j < t.length) : (swpE t i j).Perm t := by
  unfold swpE
  have e1 : t.getD i ent0 = t[i] := by simp [List.getD, hi]
  have e2 : t.getD j ent0 = t[j] := by simp [List.getD, hj]
  rw [e1, e2]
  exact List.set_set_perm hi hj
/-- Whether a key stands in a list. -/
def hasK (k : Int) (l : List Ent) : Bool := l.any fun e => e.k == k
theorem hasK_snoc (k : Int) (l : List Ent) (e : Ent) : hasK k (l ++ [e]) = (hasK k l || e.k == k) := by simp [hasK]
theorem hasK_not {k : Int} {l : List Ent} (h : hasK k l = false) : ∀ y ∈ l, y.k ≠ k := by
  intro y hy e
  unfold hasK at h
  rw [List.any_eq_false] at h
  exact h y hy (by simpa using e)
end Go.Proofs.Ytkofbjdgidaieaa
