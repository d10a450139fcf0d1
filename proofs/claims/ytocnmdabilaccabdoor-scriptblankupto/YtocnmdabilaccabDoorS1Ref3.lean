/- The document's layer 21: a line read. -/
import Derived.Test.YtocnmdabilaccabDoorS1Ref2
import Derived.Test.YtocnmdabilaccabDoorPMem
namespace Go.Proofs.YtocnmdabilaccabDoor
open Go.RowKit
set_option linter.unusedVariables false

theorem nums_more : ∀ {r : List (List UInt8)} {j : Nat} {ns : List Int} {w : List UInt8} {n : Int}, numsOf (r.take j) = some ns → r[j]? = some w → numOf w = some n → numsOf (r.take (j + 1)) = some (ns ++ [n]) := by
  intro r
  induction r with
  | nil => intro j ns w n _ h; simp at h
  | cons x r ih =>
    intro j ns w n h1 h2 h3
    cases j with
    | zero =>
      simp only [List.getElem?_cons_zero, Option.some.injEq] at h2
      subst h2
      simp only [List.take_zero, numsOf, Option.some.injEq] at h1
      subst h1
      simp [numsOf, h3]
    | succ j =>
      rw [List.getElem?_cons_succ] at h2
      rw [List.take_succ_cons, numsOf] at h1 ⊢
      cases e : numOf x with
      | none => rw [e] at h1; cases h1
      | some m =>
        rw [e] at h1
        cases e2 : numsOf (r.take j) with
        | none => rw [e2] at h1; cases h1
        | some ms =>
          rw [e2] at h1
          cases h1
          rw [ih e2 h2 h3]
          rfl
theorem nums_bad : ∀ {r : List (List UInt8)} {w : List UInt8}, w ∈ r → numOf w = none → numsOf r = none := by
  intro r
  induction r with
  | nil => intro w h; cases h
  | cons x r ih =>
    intro w h e
    rw [numsOf]
    rcases List.mem_cons.1 h with rfl | q
    · rw [e]
    · cases numOf x with
      | none => rfl
      | some m => rw [ih q e]
/-- A row of numbers of a call's own. -/
def nus (ns : List Int) : List Value := ns.map fun n => .int .u64 n
theorem nus_one (ns : List Int) : ∀ u ∈ nus ns, u.oneCell' = true := by
  intro u hu
  obtain ⟨_, _, rfl⟩ := List.mem_map.1 hu
  rfl
def NUO (w : World) (base : Nat) (v : Value) (ns : List Int) : Prop := w.ownsRow base 35 1 v ns.length (nus ns)
theorem NUO.more {w : World} {base : Nat} {v : Value} {ns : List Int} {n : Int} (h : w.ownsRow base 35 1 v (ns.length + 1) (nus ns ++ [.int .u64 n])) : NUO w base v (ns ++ [n]) := by
  unfold NUO nus
  rw [List.length_append, List.map_append]
  exact h
theorem NUO.low {w : World} {base base' : Nat} {v : Value} {ns : List Int} (h : NUO w base v ns) (hb : base' ≤ base) : NUO w base' v ns := by
  refine ⟨h.1, ?_⟩
  rcases h.2 with q | ⟨b, cap, cur, rfl, hb', r⟩
  · exact .inl q
  · exact .inr ⟨b, cap, cur, rfl, Nat.le_trans hb hb', r⟩
theorem own_keep {w w' : World} {base e size n : Nat} {v : Value} {xs : List Value} (h : w.ownsRow base e size v n xs) (k : ∀ q, v.ownBlock = some q → w'.heap[q]? = w.heap[q]?) : w'.ownsRow base e size v n xs := by
  refine ⟨h.1, ?_⟩
  rcases h.2 with q | ⟨b, cap, cur, rfl, hb, hh, r⟩
  · exact .inl q
  · exact .inr ⟨b, cap, cur, rfl, hb, (k b rfl).trans hh, r⟩
theorem NUO.nil (w : World) (base : Nat) : NUO w base (.slice none 0 0) [] := World.ownsRow_nil w base _ _
theorem box2c {b : Nat} {w : World} {x y : Value} {t : TypeId} (h : w.heap[b]? = some (.cells #[x, y] t (0, 0))) (u v : Value) :
    ((w.setCell ⟨b, 0, none⟩ u).setCell ⟨b, 1, none⟩ v).heap[b]? = some (.cells #[u, v] t (0, 0)) := by
  have h1 : (w.setCell ⟨b, 0, none⟩ u).heap[b]? = some (.cells #[u, y] t (0, 0)) := by simp [World.setCell, Array.getElem?_modify, h]
  generalize w.setCell ⟨b, 0, none⟩ u = w1 at h1
  simp [World.setCell, Array.getElem?_modify, h1]
theorem box2 {b : Nat} {w : World} {x y : Value} {t : TypeId} (h : w.heap[b]? = some (.cells #[x, y] t (0, 0))) (u v : Value) :
    ((w.setCell ⟨b, 0, none⟩ u).setCell ⟨b, 1, none⟩ v).cell? ⟨b, 0, none⟩ = some u ∧ ((w.setCell ⟨b, 0, none⟩ u).setCell ⟨b, 1, none⟩ v).cell? ⟨b, 1, none⟩ = some v :=
  ⟨blkc (box2c h u v) rfl, blkc (box2c h u v) rfl⟩
theorem len_lens : ∀ (P : List (List UInt8)), P.length ≤ lens P := by
  intro P
  induction P with
  | nil => exact Nat.le_refl _
  | cons p P ih => simp [lens] at ih ⊢; omega
/-- What 'command' tells of a line. -/
def CmdO (w w' : World) (e : Ending) (r : Bool × Int × Cd) : Prop :=
  ∃ v, e = .returned (.tuple #[.agg #[.string (Bs r.2.2.word), v], .bool r.1, .int .i64 r.2.1]) ∧ NUO w' w.heap.size v r.2.2.nums
theorem filter_snoc {α : Type} (p : α → Bool) (l : List α) (i : Nat) (x : α) (h : l[i]? = some x) : (l.take (i + 1)).filter p = (l.take i).filter p ++ (if p x = true then [x] else []) := by
  rw [List.take_add_one, h]
  simp only [Option.toList_some, List.filter_append]
  cases e : p x <;> simp [e]
theorem mem_lens : ∀ {P : List (List UInt8)} {x : List UInt8}, x ∈ P → x.length + 1 ≤ lens P := by
  intro P
  induction P with
  | nil => intro x h; cases h
  | cons p P ih =>
    intro x h
    have e : lens (p :: P) = p.length + 1 + lens P := by simp [lens]
    rcases List.mem_cons.1 h with rfl | q
    · omega
    · have := ih q; omega
theorem words_len {l x : List UInt8} (h : x ∈ wordsOf l) : x.length ≤ l.length := by
  have := mem_lens (List.mem_filter.1 h).1
  rw [spl_lens] at this
  simp at this
  omega
theorem info_u64 : (Tryd.prog.info? 35).map (fun i => (i.zero, i.size, i.bytes)) = some (some (.int .u64 0), 1, 8) := by kernel_rfl
end Go.Proofs.YtocnmdabilaccabDoor
