/- Layer 23: the plain map in memory; how many keys are below one. -/
import Derived.Test.YtkojcjfjmlompaaS3Plain2
import Derived.Test.YtkojcjfjmlompaaPMem
import Derived.Test.YtkojcjfjmlompaaHStep
namespace Go.Proofs.Ytkojcjfjmlompaa
open Go.RowKit
set_option linter.unusedVariables false

def pc2 (p : Int × Int) : List Value := [.int .u64 p.1, .int .u64 p.2]
def pcs (l : Ps) : List Value := l.flatMap pc2
theorem pcs_len (l : Ps) : (pcs l).length = l.length * 2 := by
  induction l with
  | nil => rfl
  | cons p l ih => unfold pcs at ih ⊢; rw [List.flatMap_cons, List.length_append, ih, List.length_cons]; show 2 + _ = _; omega
theorem pcs_app (l m : Ps) : pcs (l ++ m) = pcs l ++ pcs m := by simp [pcs]
theorem pcs_at : ∀ (l : Ps) (i : Nat) (p : Int × Int), l[i]? = some p → ∀ j, j < 2 → (pcs l)[i * 2 + j]? = (pc2 p)[j]? := by
  intro l
  induction l with
  | nil => intro i p h; simp at h
  | cons x l ih =>
    intro i p h j hj
    have e : pcs (x :: l) = pc2 x ++ pcs l := by simp [pcs]
    rw [e]
    cases i with
    | zero =>
      simp only [List.getElem?_cons_zero, Option.some.injEq] at h
      subst h
      rw [Nat.zero_mul, Nat.zero_add, List.getElem?_append_left (by show j < 2; exact hj)]
    | succ i =>
      rw [List.getElem?_cons_succ] at h
      rw [show (i + 1) * 2 + j = i * 2 + j + 2 by omega, List.getElem?_append_right (by show 2 ≤ _; omega), show i * 2 + j + 2 - (pc2 x).length = i * 2 + j by show i * 2 + j + 2 - 2 = _; omega]
      exact ih i p h j hj
theorem pcs_take (l : Ps) (n : Nat) : (pcs l).take (n * 2) = pcs (l.take n) := by
  induction l generalizing n with
  | nil => simp [pcs]
  | cons x l ih =>
    cases n with
    | zero => simp [pcs]
    | succ n =>
      have e : pcs (x :: l) = pc2 x ++ pcs l := by simp [pcs]
      rw [e, List.take_succ_cons, show pcs (x :: l.take n) = pc2 x ++ pcs (l.take n) by simp [pcs], ← ih n]
      rw [show (n + 1) * 2 = (pc2 x).length + n * 2 by show _ = 2 + _; omega, List.take_length_add_append]
theorem pcs_drop (l : Ps) (n : Nat) : (pcs l).drop (n * 2) = pcs (l.drop n) := by
  induction l generalizing n with
  | nil => simp [pcs]
  | cons x l ih =>
    cases n with
    | zero => simp [pcs]
    | succ n =>
      have e : pcs (x :: l) = pc2 x ++ pcs l := by simp [pcs]
      rw [e, List.drop_succ_cons, ← ih n, show (n + 1) * 2 = (pc2 x).length + n * 2 by show _ = 2 + _; omega, List.drop_length_add_append]
theorem pcs_one (l : Ps) : ∀ u ∈ pcs l, u.oneCell' = true := by
  intro u hu
  obtain ⟨p, _, h⟩ := List.mem_flatMap.1 hu
  simp only [pc2, List.mem_cons, List.not_mem_nil, or_false] at h
  rcases h with rfl | rfl <;> rfl
/-- A plain map in memory; S: its blocks. -/
structure HPl (w : World) (p : Nat) (S : Nat → Prop) (most : Int) (l : Ps) : Prop where
  lies : ∃ v, w.heap[p]? = some (.cells #[.int .i64 most, v] 47 (0, 0)) ∧ w.ownsRow 0 44 2 v l.length (pcs l) ∧ (∀ q, v.ownBlock = some q → S q ∧ q ≠ p) ∧ S p
  bd : BdP l
theorem HPl.keep {w w' : World} {p : Nat} {S : Nat → Prop} {most : Int} {l : Ps} (h : HPl w p S most l) (k : ∀ q, S q → q < w.heap.size → w'.heap[q]? = w.heap[q]?) : HPl w' p S most l := by
  obtain ⟨v, h1, h2, h3, h4⟩ := h.lies
  refine ⟨⟨v, (k p h4 (blkl h1)).trans h1, ⟨h2.1, ?_⟩, h3, h4⟩, h.bd⟩
  rcases h2.2 with q | ⟨b, cap, cur, rfl, hb, hh, r⟩
  · exact .inl q
  · exact .inr ⟨b, cap, cur, rfl, hb, (k b (h3 b rfl).1 (blkl hh)).trans hh, r⟩
theorem HPl.gx {w w' : World} {p : Nat} {S F : Nat → Prop} {most : Int} {l : Ps} (h : HPl w p S most l) (g : Gx F w w') (no : ∀ q, S q → ¬ F q) : HPl w' p S most l :=
  h.keep fun q hq hl => g.block q hl (no q hq)
theorem HPl.gw {w w' : World} {p : Nat} {S : Nat → Prop} {most : Int} {l : Ps} (h : HPl w p S most l) (g : Gw w w') : HPl w' p S most l :=
  h.keep fun q _ hl => g.below.block q hl
/-- Where its pairs lie. -/
theorem row_shape {w : World} {base : Nat} {v : Value} {l : Ps} (h : w.ownsRow base 44 2 v l.length (pcs l)) : ∃ (bo : Option Addr) (c : Nat), v = .slice bo l.length c ∧ l.length ≤ c ∧ (bo = none → l.length = 0 ∧ c = 0) ∧ ∀ i p, l[i]? = some p → ∃ g, bo = some ⟨g, 0, none⟩ ∧ g < w.heap.size ∧ v.ownBlock = some g ∧ w.cell? ⟨g, i * 2, none⟩ = some (.int .u64 p.1) ∧ w.cell? ⟨g, i * 2 + 1, none⟩ = some (.int .u64 p.2) ∧ ∀ o, w.frozen? ⟨g, o, none⟩ = false := by
  rcases id h.2 with ⟨q, q2⟩ | ⟨g, cap, cur, rfl, hb, hh, hc, r⟩
  · refine ⟨none, 0, ?_, by omega, fun _ => ⟨q2, rfl⟩, fun i p hp => ?_⟩
    · rw [q2]; exact q
    · have := (List.getElem?_eq_some_iff.1 hp).1
      omega
  · refine ⟨_, cap, rfl, hc, (fun e => by cases e), fun i p hp => ⟨g, rfl, blkl hh, rfl, ?_, ?_, fun o => by simp [World.frozen?, hh]⟩⟩
    · have il := (List.getElem?_eq_some_iff.1 hp).1
      have e := pcs_at l i p hp 0 (by decide)
      rw [Nat.add_zero] at e
      rw [World.ownsRow.cellAt h (i * 2) (by omega), e]
      rfl
    · have il := (List.getElem?_eq_some_iff.1 hp).1
      rw [World.ownsRow.cellAt h (i * 2 + 1) (by omega), pcs_at l i p hp 1 (by decide)]
      rfl
set_option maxRecDepth 100000 in
set_option maxHeartbeats 4000000 in
theorem rank23 (p : Nat) (S : Nat → Prop) (most : Int) (l : Ps) (x : Int) (hn : l.length ≤ 4000000) (w : World) (h : HPl w p S most l) :
    Calls Try.prog 24 #[.pointer (some ⟨p, 0, none⟩), .int .u64 x] w fun e w' => e = .returned (.int .i64 (rk l x : Int)) ∧ w' = w := by
  obtain ⟨v, h1, h2, h3, h4⟩ := h.lies
  obtain ⟨bo, c, rfl, hc, _, AT⟩ := row_shape h2
  have c1 := blkc (o := 1) h1 rfl
  have HE : Aside (∀ i q, l[i]? = some q → ∃ g, bo = some ⟨g, 0, none⟩ ∧ w.cell? ⟨g, i * 2, none⟩ = some (.int .u64 q.1)) := fun i q hq => by
    obtain ⟨g, e, _, _, e2, _⟩ := AT i q hq
    exact ⟨g, e, e2⟩
  obtain ⟨n, hln⟩ : ∃ n, l.length = n := ⟨_, rfl⟩
  have LN : Aside (l.length = n) := hln
  rw [hln] at hn
  have c1' : w.cell? ⟨p, 1, none⟩ = some (.slice bo n c) := by rw [← hln]; exact c1
  clear h h1 h2 h3 h4 hc c1 hln AT
  go_enter Try.func24, Try.ntmps24
  go_wp2_with fail
  go_loopg [5] n (fun gg s wr => ∃ i : Nat, s = .int .i64 (i : Int) ∧ i ≤ n ∧ n - i ≤ gg ∧ Aside (∀ t y, t < i → l[t]? = some y → y.1 < x) ∧ wr = w)
  case atStart => exact ⟨0, rfl, Nat.zero_le _, by omega, (show Aside _ from fun j y hj => by omega), rfl⟩
  case round =>
    obtain ⟨i, rfl, a1, a2, LO, rfl⟩ := hrel
    by_cases hlt : i < n
    · have hlt' : (i : Int) < (n : Int) := by omega
      have il : i < l.length := by rw [LN.out]; exact hlt
      obtain ⟨y, hy⟩ : ∃ y, l[i]? = some y := ⟨l[i], List.getElem?_eq_getElem il⟩
      obtain ⟨g, rfl, kc⟩ := HE.out i y hy
      have YI : Aside (l[i]? = some y) := hy
      obtain ⟨yk, yv⟩ := y
      dsimp only at kc
      clear hy il
      by_cases e : yk < x
      · have t1 : decide (yk < x) = true := by simpa using e
        have LO' : Aside (∀ t y, t < i + 1 → l[t]? = some y → y.1 < x) := fun t y ht hy => by
          by_cases q : t = i
          · rw [q, YI.out] at hy; cases hy; exact e
          · exact LO.out t y (by omega) hy
        clear e LO
        go_wp2_with fail
        go_roundg (n - (i + 1))
        case measure => omega
        case rel => exact ⟨i + 1, by go_num, by omega, Nat.le_refl _, LO', rfl⟩
      · have t1 : decide (yk < x) = false := by simpa using e
        have PL : Aside (rk l x = i) := rk_is x l i LO.out (by rw [LN.out]; omega) (fun y hy => by rw [YI.out] at hy; cases hy; exact e)
        clear e LO
        go_wp2_with fail
        go_ret
        exact ⟨by rw [PL.out]; rfl, rfl⟩
    · have PL : Aside (rk l x = i) := rk_is x l i LO.out (by rw [LN.out]; omega) (fun y hy => by have := (List.getElem?_eq_some_iff.1 hy).1; rw [LN.out] at this; omega)
      clear LO
      go_wp2_with fail
      go_ret
      exact ⟨by rw [PL.out]; rfl, rfl⟩
end Go.Proofs.Ytkojcjfjmlompaa
