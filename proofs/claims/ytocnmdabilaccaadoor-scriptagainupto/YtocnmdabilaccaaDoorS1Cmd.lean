/- Commands in memory. -/
import Derived.Test.YtocnmdabilaccaaDoorS1Ref3
import Derived.Test.YtocnmdabilaccaaDoorS1Plain2
namespace Go.Proofs.YtocnmdabilaccaaDoor
open Go.RowKit
set_option linter.unusedVariables false

/-- The cells of commands whose numbers lie as these values say. -/
def cd2 (c : Cd) (u : Value) : List Value := [.string (Bs c.word), u]
def cds (L : List Cd) (V : List Value) : List Value := (L.zip V).flatMap fun p => cd2 p.1 p.2
theorem cds_at : ∀ (L : List Cd) (V : List Value) (i : Nat) (c : Cd) (u : Value), L[i]? = some c → V[i]? = some u → ∀ j, j < 2 → (cds L V)[i * 2 + j]? = (cd2 c u)[j]? := by
  intro L
  induction L with
  | nil => intro V i c u h; simp at h
  | cons d L ih =>
    intro V i c u h1 h2 j hj
    cases V with
    | nil => simp at h2
    | cons x V =>
      have e : cds (d :: L) (x :: V) = cd2 d x ++ cds L V := by simp [cds]
      rw [e]
      cases i with
      | zero =>
        simp only [List.getElem?_cons_zero, Option.some.injEq] at h1 h2
        subst h1 h2
        rw [Nat.zero_mul, Nat.zero_add, List.getElem?_append_left (by show j < 2; exact hj)]
      | succ i =>
        rw [List.getElem?_cons_succ] at h1 h2
        have e2 : (i + 1) * 2 + j = i * 2 + j + 2 := by omega
        rw [e2, List.getElem?_append_right (by show 2 ≤ _; omega), show i * 2 + j + 2 - (cd2 d x).length = i * 2 + j by show i * 2 + j + 2 - 2 = _; omega]
        exact ih V i c u h1 h2 j hj
theorem cds_snoc (L : List Cd) (V : List Value) (h : V.length = L.length) (c : Cd) (u : Value) : cds (L ++ [c]) (V ++ [u]) = cds L V ++ cd2 c u := by
  unfold cds
  rw [List.zip_append h.symm, List.flatMap_append]
  simp
/-- Commands of a call's own, with their numbers. -/
structure CO (w : World) (base : Nat) (v : Value) (L : List Cd) (V : List Value) : Prop where
  row : w.ownsRow base 30 2 v L.length (cds L V)
  len : V.length = L.length
  nums : ∀ (i : Nat) (c : Cd) (u : Value), L[i]? = some c → V[i]? = some u → NUO w base u c.nums
  apart : ∀ (i : Nat) (u : Value) (q : Nat), V[i]? = some u → u.ownBlock = some q → v.ownBlock ≠ some q
  away : ∀ (i j : Nat) (u u' : Value) (q : Nat), V[i]? = some u → V[j]? = some u' → u.ownBlock = some q → u'.ownBlock = some q → i = j
  ok : ∀ c ∈ L, NumsOk c
/-- Commands that can be read. -/
structure CS (w : World) (ao : Option Addr) (L : List Cd) : Prop where
  cells : 0 < L.length → ∃ b off, ao = some ⟨b, off, none⟩ ∧ b < w.heap.size ∧ ∀ (i : Nat) (c : Cd), L[i]? = some c → ∃ bo cp, w.cell? ⟨b, off + i * 2, none⟩ = some (.string (Bs c.word)) ∧ w.cell? ⟨b, off + i * 2 + 1, none⟩ = some (.slice bo c.nums.length cp) ∧ KS w bo c.nums.length (fun j => c.nums.getD j 0) ∧ (bo = none → cp = 0)
theorem CS.gw {w w' : World} {ao : Option Addr} {L : List Cd} (h : CS w ao L) (g : Gw w w') : CS w' ao L :=
  ⟨fun h0 => by
    obtain ⟨b, off, e, hb, hc⟩ := h.cells h0
    refine ⟨b, off, e, Nat.lt_of_lt_of_le hb g.size, fun i c hi => ?_⟩
    obtain ⟨bo, cp, h1, h2, h3, h4⟩ := hc i c hi
    exact ⟨bo, cp, (g.cell _ _ hb).trans h1, (g.cell _ _ hb).trans h2, h3.gw g, h4⟩⟩
theorem CS.ok {w : World} {ao : Option Addr} {L : List Cd} (h : CS w ao L) : ∀ c ∈ L, NumsOk c := by
  intro c hc x hx
  obtain ⟨i, hi, e⟩ := List.mem_iff_getElem.1 hc
  obtain ⟨b, off, _, _, hcc⟩ := h.cells (by omega)
  obtain ⟨bo, cp, _, _, k, _⟩ := hcc i c (by rw [List.getElem?_eq_getElem hi, e])
  obtain ⟨j, hj, e2⟩ := List.mem_iff_getElem.1 hx
  have := k.bd j hj
  have e3 : c.nums.getD j 0 = x := by simp [List.getD, hj, e2]
  simp only [e3] at this
  exact this
theorem nu_slice {w : World} {base : Nat} {u : Value} {ns : List Int} (h : NUO w base u ns) : ∃ bo cp, u = .slice bo ns.length cp ∧ (bo = none → cp = 0) := by
  rcases h.2 with ⟨q, q2⟩ | ⟨g, cap, cur, rfl, _⟩
  · exact ⟨none, 0, by rw [q2]; exact q, fun _ => rfl⟩
  · exact ⟨_, _, rfl, fun e => by cases e⟩
theorem nu_ks {w : World} {base : Nat} {bo : Option Addr} {n cp : Nat} {ns : List Int} (h : NUO w base (.slice bo n cp) ns) (hn : n = ns.length) (ok : ∀ x ∈ ns, 0 ≤ x ∧ x < 18446744073709551616) : KS w bo n (fun j => ns.getD j 0) := by
  subst hn
  refine ⟨fun h0 => ?_, fun i hi => ?_⟩
  · rcases h.2 with ⟨_, q2⟩ | ⟨g, cap, cur, e, hg, hh, _⟩
    · omega
    · cases e
      refine ⟨g, 0, rfl, (Array.getElem?_eq_some_iff.1 hh).1, fun i hi => ?_⟩
      rw [Nat.zero_add]
      have := World.ownsRow.cellAt h i (by omega)
      rw [this]
      simp [nus, List.getD, hi]
  · have : ns.getD i 0 = ns[i] := by simp [List.getD, hi]
    rw [this]
    exact ok _ (List.getElem_mem hi)
theorem CO.cs {w : World} {base b n cap : Nat} {L : List Cd} {V : List Value} (h : CO w base (.slice (some ⟨b, 0, none⟩) n cap) L V) : CS w (some ⟨b, 0, none⟩) L :=
  ⟨fun h0 => by
    refine ⟨b, 0, rfl, (World.ownsRow.lt h.row b rfl).2, fun i c hi => ?_⟩
    have il := (List.getElem?_eq_some_iff.1 hi).1
    have hn : n = L.length := by
      rcases h.row.2 with ⟨e, _⟩ | ⟨_, _, _, e, _⟩ <;> cases e
      rfl
    subst hn
    obtain ⟨u, hu⟩ : ∃ u, V[i]? = some u := ⟨V[i]'(by rw [h.len]; exact il), List.getElem?_eq_getElem _⟩
    have hN := h.nums i c u hi hu
    obtain ⟨bo, cp, rfl, hnil⟩ := nu_slice hN
    have cell : ∀ j, j < 2 → w.cell? ⟨b, i * 2 + j, none⟩ = (cd2 c (.slice bo c.nums.length cp))[j]? := fun j hj => by
      have := World.ownsRow.cellAt h.row (i * 2 + j) (by omega)
      rw [this]
      exact cds_at L V i c _ hi hu j hj
    refine ⟨bo, cp, ?_, ?_, nu_ks hN rfl (h.ok c (List.mem_of_getElem? hi)), hnil⟩
    · rw [Nat.zero_add]; exact cell 0 (by decide)
    · rw [Nat.zero_add]; exact cell 1 (by decide)⟩
theorem CO.gw {w w' : World} {base : Nat} {v : Value} {L : List Cd} {V : List Value} (h : CO w base v L V) (g : Gw w w') : CO w' base v L V :=
  ⟨own_gw h.row g, h.len, fun i c u h1 h2 => own_gw (h.nums i c u h1 h2) g, h.apart, h.away, h.ok⟩
/-- One more, whose numbers are new. -/
theorem CO.more {w w2 w' : World} {base B : Nat} {v v' : Value} {L : List Cd} {V : List Value} {c : Cd} {u : Value} (h : CO w base v L V) (hB : B ≤ w2.heap.size) (hw : ∀ q, q < B → w2.heap[q]? = w.heap[q]?)
    (old : ∀ q, v.ownBlock = some q → q < B) (olds : ∀ (i : Nat) (x : Value) (q : Nat), V[i]? = some x → x.ownBlock = some q → q < B) (hb : base ≤ B)
    (hu : NUO w2 B u c.nums) (ok : NumsOk c) (hr : w'.ownsRow base 30 2 v' (L.length + 1) (cds L V ++ cd2 c u))
    (hg : ∀ q, q < w2.heap.size → v.ownBlock ≠ some q → w'.heap[q]? = w2.heap[q]?) (hv : v'.ownBlock = v.ownBlock ∨ ∀ q, v'.ownBlock = some q → w2.heap.size ≤ q) :
    CO w' base v' (L ++ [c]) (V ++ [u]) := by
  have blt : ∀ q, u.ownBlock = some q → B ≤ q ∧ q < w2.heap.size := fun q hq => World.ownsRow.lt hu q hq
  have split : ∀ i x, (V ++ [u])[i]? = some x → (i < V.length ∧ V[i]? = some x) ∨ (i = V.length ∧ x = u) := fun i x hx => by
    by_cases q : i < V.length
    · rw [List.getElem?_append_left q] at hx; exact .inl ⟨q, hx⟩
    · rw [List.getElem?_append_right (by omega)] at hx
      have : i - V.length = 0 := by
        rcases Nat.eq_zero_or_pos (i - V.length) with z | z
        · exact z
        · rw [List.getElem?_eq_none (by simp; omega)] at hx; cases hx
      rw [this] at hx
      exact .inr ⟨by omega, (Option.some.inj hx).symm⟩
  have keepn : ∀ (i : Nat) (x : Value) (c' : Cd), V[i]? = some x → NUO w base x c'.nums → NUO w' base x c'.nums := fun i x c' hx hN => own_keep hN fun q hq => by
    have h1 := olds i x q hx hq
    rw [hg q (by omega) (h.apart i x q hx hq), hw q h1]
  refine ⟨?_, by rw [List.length_append, List.length_append, h.len]; rfl, fun i d x hi hx => ?_, fun i x q hx hq => ?_, fun i j x y q hx hy h1 h2 => ?_, fun d hd => ?_⟩
  · rw [cds_snoc L V h.len, List.length_append]; exact hr
  · rcases split i x hx with ⟨q, hx'⟩ | ⟨q, rfl⟩
    · rw [List.getElem?_append_left (by rw [← h.len]; exact q)] at hi
      exact keepn i x d hx' (h.nums i d x hi hx')
    · rw [q, h.len, List.getElem?_append_right (Nat.le_refl _)] at hi
      simp at hi
      subst hi
      refine own_keep (NUO.low hu hb) fun q hq => ?_
      have := blt q hq
      exact hg q this.2 (fun e => by have := old q e; omega)
  · rcases split i x hx with ⟨_, hx'⟩ | ⟨_, rfl⟩
    · rcases hv with e | e
      · rw [e]; exact h.apart i x q hx' hq
      · intro z
        have h1 := e q z
        have h2 := olds i x q hx' hq
        omega
    · have h1 := blt q hq
      rcases hv with e | e
      · rw [e]; intro z; have := old q z; omega
      · intro z; have := e q z; omega
  · rcases split i x hx with ⟨q1, hx'⟩ | ⟨q1, rfl⟩ <;> rcases split j y hy with ⟨q2, hy'⟩ | ⟨q2, rfl⟩
    · exact h.away i j x y q hx' hy' h1 h2
    · have a := olds i x q hx' h1; have b := blt q h2; omega
    · have a := olds j y q hy' h2; have b := blt q h1; omega
    · omega
  · rcases List.mem_append.1 hd with z | z
    · exact h.ok d z
    · simp at z; subst z; exact ok
theorem CO.nil (w : World) (base : Nat) : CO w base (.slice none 0 0) [] [] :=
  ⟨World.ownsRow_nil w base _ _, rfl, fun i c u h => by simp at h, fun i u q h => by simp at h, fun i j u u' q h => by simp at h, fun c h => by cases h⟩
theorem CO.made (w : World) : CO (w.alloc (.cells #[] 30)) w.heap.size (.slice (some ⟨w.heap.size, 0, none⟩) 0 0) [] [] :=
  ⟨World.ownsRow_made w #[] 0 (Nat.le_refl _) (Nat.zero_le _) rfl, rfl, fun i c u h => by simp at h, fun i u q h => by simp at h, fun i j u u' q h => by simp at h, fun c h => by cases h⟩
theorem info_cmd : (Tryd.prog.info? 30).map (fun i => (i.zero, i.size, i.bytes)) = some (some (.agg #[.string (Bs []), .slice none 0 0]), 2, 40) := by kernel_rfl
theorem cd2_one (c : Cd) (bo : Option Addr) (n cp : Nat) : ∀ x ∈ cd2 c (.slice bo n cp), x.oneCell' = true := by
  intro x hx
  simp only [cd2, List.mem_cons, List.not_mem_nil, or_false] at hx
  rcases hx with rfl | rfl <;> rfl
theorem new_cmd (w : World) (c : Cd) (u : Value) : ∀ j x, (cd2 c u)[j]? = some x → (w.alloc (.cells #[.string (Bs c.word), u] 30)).cell? ((⟨w.heap.size, 0, none⟩ : Addr).add j) = some x := by
  intro j x hx
  match j, hx with
  | 0, hx =>
    simp [cd2] at hx
    subst hx
    simp [Addr.add, go_sem]
  | 1, hx =>
    simp [cd2] at hx
    subst hx
    simp [Addr.add, go_sem]
  | j + 2, hx => simp [cd2] at hx
end Go.Proofs.YtocnmdabilaccaaDoor
