import Derived.Test.YtnkcnfpbbdlifabHRise
import Derived.Test.YtnkcnfpbbdlifabKPlain
import Derived.Test.YtnkcnfpbbdlifabGC
import Derived.Deep.DeepCutAuto
import Derived.Deep.CutBlock
import Derived.Deep.RegionHeld3
/- The document's Rank, over what is kept. -/
namespace Go.Proofs.Ytnkcnfpbbdlifab
open Go.RowKit
set_option linter.unusedVariables false

def RankA (f : Nat → Int) (n : Nat) (q : Int) (m : Int) (t : Bool) : Prop := (Up f n ∧ ∃ k : Nat, m = k ∧ RankR f n q k t) ∨ (¬ Up f n ∧ m = -1 ∧ t = false)
set_option maxHeartbeats 1000000 in
theorem rrank13 (ao : Option Addr) (n c : Nat) (f : Nat → Int) (x : Int) (hn : n < 4611686018427387904) (w : World) (h : KS w ao n f) :
    Calls Try.prog 15 #[.slice ao n c, .int .u64 x] w fun e w' => (∃ (m : Int) (t : Bool), e = .returned (.tuple #[.int .i64 m, .bool t]) ∧ RankA f n x m t) ∧ Gw w w' := by
  go_enter Try.func15, Try.ntmps15
  go_wp2_with fail
  refine (rrising_any ao n c f hn w h).mono ?_
  rintro e w1 ⟨⟨r, rfl, h1⟩, g1⟩
  cases r with
  | false =>
    have H : Hid (¬ Up f n) := fun hu => Bool.noConfusion (h1.2 hu)
    clear h1
    go_wp2_with fail
    go_ret2
    exact ⟨⟨-1, false, rfl, .inr ⟨H.out, rfl, rfl⟩⟩, g1⟩
  | true =>
    have U : Aside (Up f n) := h1.1 rfl
    clear h1
    go_wp2_with fail
    go_loopg [6, 7, 8] n (fun gg s6 s7 s8 wr => ∃ (k i : Nat) (t : Bool), s6 = .int .i64 k ∧ s7 = .bool t ∧ s8 = .int .i64 i ∧ i ≤ n ∧ n - i ≤ gg ∧ k ≤ i ∧ Aside ((∀ j, j < k → f j < x) ∧ (∀ j, k ≤ j → j < i → x ≤ f j) ∧ (t = true ↔ (k < i ∧ f k = x))) ∧ Aside (Gw w wr))
    case atStart => exact ⟨0, 0, false, rfl, rfl, rfl, Nat.zero_le _, by omega, Nat.le_refl _, ⟨fun j hj => by omega, fun j h1 h2 => by omega, by simp⟩, g1⟩
    case round =>
      obtain ⟨k, i, t, rfl, rfl, rfl, hin, hg, hki, I, G⟩ := hrel
      by_cases hlt : i < n
      · obtain ⟨b, off, rfl, hb, hc⟩ := (h.gw G.out).cells (by omega)
        have c1 := hc i hlt
        clear hc h
        generalize hy : f i = y at c1
        have Y : Aside (f i = y) := hy
        clear hy
        by_cases hyx : y < x
        · have hk : k = i := by
            rcases Nat.lt_or_ge k i with hh | hh
            · have := I.out.2.1 k (Nat.le_refl _) hh
              have := U.out.lt hh hlt
              rw [Y.out] at this
              omega
            · omega
          subst hk
          have ht : t = false := by
            cases t with
            | false => rfl
            | true => have := I.out.2.2.1 rfl; omega
          subst ht
          have J : Aside (∀ j, j < k → f j < x) := I.out.1
          clear I
          have hne : (y == x) = false := by simp; omega
          go_wp2_with fail
          go_roundg (n - (k + 1))
          case measure => omega
          case rel =>
            refine ⟨k + 1, k + 1, false, by go_num, by simp, by go_num, by omega, Nat.le_refl _, Nat.le_refl _, (show Aside _ from ⟨fun j hj => ?_, fun j h1 h2 => by omega, by simp⟩), G⟩
            by_cases e : j = k
            · subst e; rw [Y.out]; exact hyx
            · exact J.out j (by omega)
        · cases t with
          | true =>
            have J : Aside ((∀ j, j < k → f j < x) ∧ (∀ j, k ≤ j → j < i → x ≤ f j) ∧ (k < i ∧ f k = x)) := ⟨I.out.1, I.out.2.1, I.out.2.2.1 rfl⟩
            clear I
            go_wp2_with fail
            go_roundg (n - (i + 1))
            case measure => omega
            case rel =>
              refine ⟨k, i + 1, true, rfl, rfl, by go_num, by omega, Nat.le_refl _, by omega, (show Aside _ from ⟨J.out.1, fun j h1 h2 => ?_, by simpa using ⟨by omega, J.out.2.2.2⟩⟩), G⟩
              by_cases e : j = i
              · subst e; rw [Y.out]; omega
              · exact J.out.2.1 j h1 (by omega)
          | false =>
            have J : Aside ((∀ j, j < k → f j < x) ∧ (∀ j, k ≤ j → j < i → x ≤ f j) ∧ ¬ (k < i ∧ f k = x)) := ⟨I.out.1, I.out.2.1, fun hh => Bool.noConfusion (I.out.2.2.2 hh)⟩
            clear I
            go_wp2_with fail
            go_roundg (n - (i + 1))
            case measure => omega
            case rel =>
              refine ⟨k, i + 1, y == x, rfl, rfl, by go_num, by omega, Nat.le_refl _, by omega, (show Aside _ from ⟨J.out.1, fun j h1 h2 => ?_, ?_⟩), G⟩
              · by_cases e : j = i
                · subst e; rw [Y.out]; omega
                · exact J.out.2.1 j h1 (by omega)
              · rw [beq_iff_eq]
                constructor
                · intro hh
                  have hk : k = i := by
                    rcases Nat.lt_or_ge k i with h1 | h1
                    · have h2 := J.out.2.1 k (Nat.le_refl _) h1
                      have h3 := U.out.lt h1 hlt
                      rw [Y.out] at h3
                      omega
                    · omega
                  subst hk
                  exact ⟨by omega, by rw [Y.out]; exact hh⟩
                · intro ⟨h1, h2⟩
                  have hk : k = i := by
                    rcases Nat.lt_or_ge k i with h3 | h3
                    · exact absurd ⟨h3, h2⟩ J.out.2.2
                    · omega
                  subst hk
                  rw [Y.out] at h2
                  exact h2
      · obtain rfl : i = n := by omega
        go_wp2_with fail
        go_ret2
        exact ⟨⟨k, t, rfl, .inl ⟨U.out, k, rfl, hki, I.out.1, I.out.2.1, I.out.2.2⟩⟩, G.out⟩
end Go.Proofs.Ytnkcnfpbbdlifab

/- MergeOnce: the walk. -/
namespace Go.Proofs.Ytnkcnfpbbdlifab
open Go.RowKit
set_option linter.unusedVariables false

/-- A list's keys. -/
def kAt (l : List Ent) (i : Nat) : Int := (l.getD i ent0).k
theorem look_at {l : List Ent} (h : Rise Ent.k l) {i : Nat} (hi : i < l.length) : look Ent.k (kAt l i) l = some (l.getD i ent0) := by
  have e : l.getD i ent0 = l[i] := by simp [List.getD, hi]
  have hm : l[i] ∈ l := List.getElem_mem hi
  have : ∀ (o : List Ent), Rise Ent.k o → ∀ y ∈ o, look Ent.k y.k o = some y := by
    intro o
    induction o with
    | nil => intro _ y hy; cases hy
    | cons z o ih =>
      intro hr y hy
      obtain ⟨z1, z2⟩ := List.pairwise_cons.1 hr
      rw [look_cons]
      rcases List.mem_cons.1 hy with rfl | q
      · rw [if_pos rfl]
      · have := z1 y q
        rw [if_neg (by omega)]
        exact ih z2 y q
  unfold kAt
  rw [e]
  exact this l h _ hm
/-- What Rank says of a rising list. -/
theorem rank_look {l : List Ent} (h : Rise Ent.k l) {q : Int} {m : Int} {t : Bool} (r : RankA (kAt l) l.length q m t) : ∃ k : Nat, m = k ∧ k ≤ l.length ∧ (t = true → k < l.length ∧ look Ent.k q l = some (l.getD k ent0)) ∧ (t = true ↔ look Ent.k q l ≠ none) := by
  have u : Up (kAt l) l.length := rise_up.1 h
  rcases r with ⟨_, k, e, R⟩ | ⟨nu, _⟩
  · have tt : t = true → k < l.length ∧ look Ent.k q l = some (l.getD k ent0) := fun ht => by
      obtain ⟨h1, h2⟩ := R.at_.1 ht
      refine ⟨h1, ?_⟩
      rw [← h2]
      exact look_at h h1
    refine ⟨k, e, R.le, tt, ⟨fun ht => by rw [(tt ht).2]; simp, fun hn => ?_⟩⟩
    cases hl : look Ent.k q l with
    | none => exact absurd hl hn
    | some x =>
      have hx := List.mem_of_find?_eq_some hl
      obtain ⟨i, hi, ei⟩ := List.mem_iff_getElem.1 hx
      have ek := look_key hl
      have eg : l.getD i ent0 = x := by simp [List.getD, hi, ei]
      refine R.at_.2 ?_
      have hk : kAt l i = q := by unfold kAt; rw [eg]; exact ek
      rcases Nat.lt_trichotomy k i with c | c | c
      · have h1 := R.hi k (Nat.le_refl _) (by omega)
        have h2 := u.lt c hi
        omega
      · rw [c]; exact ⟨hi, hk⟩
      · have := R.lo i c
        omega
  · exact absurd u nu
theorem sizes_take {L : List (List Ent)} {i : Nat} (hi : i < L.length) : sizes (L.take (i + 1)) = sizes (L.take i) + (L.getD i []).length := by
  have e : L.take (i + 1) = L.take i ++ [L.getD i []] := by
    rw [List.take_add_one, List.getElem?_eq_getElem hi, List.getD_eq_getElem?_getD, List.getElem?_eq_getElem hi]
    rfl
  rw [e, sizes_app]
  simp [sizes]
theorem sizes_take_le (L : List (List Ent)) (i : Nat) : sizes (L.take i) ≤ sizes L := by
  have := sizes_app (L.take i) (L.drop i)
  rw [List.take_append_drop] at this
  omega
theorem firstOf_at {L : List (List Ent)} {k : Int} : ∀ {i : Nat}, i < L.length → (∀ t, t < i → look Ent.k k (L.getD t []) = none) → ∀ {x : Ent}, look Ent.k k (L.getD i []) = some x → firstOf Ent.k k L = some x := by
  induction L with
  | nil => intro i hi; simp at hi
  | cons l r ih =>
    intro i hi h x hx
    cases i with
    | zero =>
      have e : look Ent.k k l = some x := hx
      simp only [firstOf, e]
    | succ i =>
      have e : look Ent.k k l = none := h 0 (by omega)
      simp only [firstOf, e]
      exact ih (by simpa using hi) (fun t ht => h (t + 1) (by omega)) hx
theorem firstOf_has {L : List (List Ent)} {k : Int} {l : List Ent} (hl : l ∈ L) (h : look Ent.k k l ≠ none) : firstOf Ent.k k L ≠ none := by
  induction L with
  | nil => cases hl
  | cons a r ih =>
    simp only [firstOf]
    cases e : look Ent.k k a with
    | some x => simp
    | none =>
      rcases List.mem_cons.1 hl with rfl | q
      · exact absurd e h
      · exact ih q
end Go.Proofs.Ytnkcnfpbbdlifab
