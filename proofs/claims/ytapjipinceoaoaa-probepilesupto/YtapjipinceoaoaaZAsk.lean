/- What is read on a descent, in plain words. No Go in it. -/
import Derived.Test.YtapjipinceoaoaaZPath
namespace Go.Proofs.Ytapjipinceoaoaa
set_option linter.unusedVariables false

/-- A list without doubles, all of whose members stand in another, is no longer. -/
theorem nodup_le : ∀ (l m : List (Int × Int)), l.Nodup → (∀ x ∈ l, x ∈ m) → l.length ≤ m.length := by
  intro l
  induction l with
  | nil => intro m _ _; exact Nat.zero_le _
  | cons x l ih =>
    intro m nd hm
    have xm := hm x (by simp)
    obtain ⟨nx, nl⟩ := List.nodup_cons.1 nd
    have := ih (m.erase x) nl fun y hy => (List.mem_erase_of_ne (fun e => nx (by rw [← e]; exact hy))).2 (hm y (by simp [hy]))
    rw [List.length_erase_of_mem xm] at this
    have p : 0 < m.length := List.length_pos_of_mem xm
    rw [List.length_cons]
    omega
/-- All slots of all windows. -/
def winL (lo : Nat → Int) (W : Nat) : Nat → List (Int × Int)
  | 0 => []
  | k + 1 => winL lo W k ++ (List.range W).map fun (t : Nat) => ((k : Int), lo k + (t : Int))
theorem winL_len (lo : Nat → Int) (W : Nat) : ∀ k, (winL lo W k).length = k * W := by
  intro k
  induction k with
  | zero => rw [Nat.zero_mul]; rfl
  | succ k ih => rw [winL, List.length_append, ih, List.length_map, List.length_range, Nat.succ_mul]
theorem winL_mem {lo : Nat → Int} {W : Nat} : ∀ {k i : Nat} {x : Int × Int}, i < k → x.1 = i → lo i ≤ x.2 → x.2 < lo i + W → x ∈ winL lo W k := by
  intro k
  induction k with
  | zero => intro i x hi; omega
  | succ k ih =>
    intro i x hi h1 h2 h3
    rw [winL]
    by_cases e : i < k
    · exact List.mem_append.2 (.inl (ih e h1 h2 h3))
    · have ei : i = k := by omega
      subst ei
      refine List.mem_append.2 (.inr (List.mem_map.2 ⟨(x.2 - lo i).toNat, List.mem_range.2 (by omega), ?_⟩))
      obtain ⟨a, b⟩ := x
      have ha : a = (i : Int) := h1
      have hb : lo i + ((b - lo i).toNat : Int) = b := by
        have : lo i ≤ b := h2
        omega
      show ((i : Int), lo i + (((b - lo i).toNat : Nat) : Int)) = (a, b)
      rw [hb, ha]

/-- What a descent may read. -/
structure AskR (eps q : Int) (f : Nat → Int) (n : Nat) (L : List (List Sg)) (A B : List (Int × Int)) : Prop where
  an : A.Nodup
  ain : ∀ a ∈ A, ∃ i, i < L.length ∧ a.1 = i ∧ (visAt eps q f n L i).lo ≤ a.2 ∧ a.2 ≤ (visAt eps q f n L i).hi ∧ a.2 < (segA q L i).te
  bn : B.Nodup
  bl : B.length = L.length
  bin : ∀ b ∈ B, ∃ i, i < L.length ∧ b.1 = (i : Int) + 1 ∧ b.2 = slotA q L i
theorem AskR.few {eps q : Int} {f : Nat → Int} {n : Nat} {L : List (List Sg)} {A B : List (Int × Int)} (h : AskR eps q f n L A B) (e0 : 0 ≤ eps) : (A.length : Int) ≤ L.length * (2 * eps + 3) := by
  have le := nodup_le A (winL (fun i => (visAt eps q f n L i).lo) (2 * eps + 3).toNat L.length) h.an fun a ha => by
    obtain ⟨i, hi, h1, h2, h3, _⟩ := h.ain a ha
    refine winL_mem hi h1 h2 ?_
    have w : (visAt eps q f n L i).hi ≤ (visAt eps q f n L i).lo + (2 * eps + 2) := by
      show min _ _ ≤ max _ _ + _
      omega
    show a.2 < (visAt eps q f n L i).lo + _
    omega
  rw [winL_len] at le
  obtain ⟨W, hW⟩ : ∃ W : Nat, 2 * eps + 3 = W := ⟨(2 * eps + 3).toNat, by omega⟩
  rw [hW] at le ⊢
  rw [Int.toNat_natCast] at le
  exact_mod_cast le

end Go.Proofs.Ytapjipinceoaoaa
