/- Lists of entries, and lists of them, in memory. -/
import Derived.Test.YtnkcnfpbbdlifaaGMem
namespace Go.Proofs.Ytnkcnfpbbdlifaa
open Go.RowKit
set_option linter.unusedVariables false

/-- An entry. -/
structure Ent where
  k : Int
  v : Int
  g : Bool
def ent0 : Ent := ⟨0, 0, false⟩
def Ent.ok (e : Ent) : Prop := (0 ≤ e.k ∧ e.k < 18446744073709551616) ∧ (0 ≤ e.v ∧ e.v < 18446744073709551616)
def ent3 (e : Ent) : List Value := [.int .u64 e.k, .int .u64 e.v, .bool e.g]
/-- A list of entries. -/
def EL (w : World) (ao : Option Addr) (l : List Ent) : Prop := ES w ao l.length (fun i => (l.getD i ent0).k) (fun i => (l.getD i ent0).v) (fun i => (l.getD i ent0).g)
theorem EL.gw {w w' : World} {ao : Option Addr} {l : List Ent} (h : EL w ao l) (g : Gw w w') : EL w' ao l := ES.gw h g
theorem EL.ok {w : World} {ao : Option Addr} {l : List Ent} (h : EL w ao l) {i : Nat} (hi : i < l.length) : (l.getD i ent0).ok := h.bd i hi
theorem EL.all {w : World} {ao : Option Addr} {l : List Ent} (h : EL w ao l) : ∀ e ∈ l, e.ok := by
  intro e he
  obtain ⟨i, hi, rfl⟩ := List.mem_iff_getElem.1 he
  have := h.ok hi
  rwa [show l.getD i ent0 = l[i] by simp [List.getD, hi]] at this
theorem ent3_one (e : Ent) : ∀ u ∈ ent3 e, u.oneCell' = true := by
  intro u hu
  simp only [ent3, List.mem_cons, List.not_mem_nil, or_false] at hu
  rcases hu with rfl | rfl | rfl <;> rfl
/-- A row of entries of a call's own. -/
def EO (w : World) (base : Nat) (v : Value) (l : List Ent) : Prop := w.ownsRow base 32 3 v l.length (l.flatMap ent3)
theorem eo_keep {w w' : World} {base : Nat} {v : Value} {l : List Ent} (h : EO w base v l) (k : ∀ q, v.ownBlock = some q → w'.heap[q]? = w.heap[q]?) : EO w' base v l := by
  refine ⟨h.1, ?_⟩
  rcases h.2 with q | ⟨b, cap, cur, rfl, hb, hh, r⟩
  · exact .inl q
  · exact .inr ⟨b, cap, cur, rfl, hb, (k b rfl).trans hh, r⟩
theorem eo_gw {w w' : World} {base : Nat} {v : Value} {l : List Ent} (h : EO w base v l) (g : Gw w w') : EO w' base v l := eo_keep h fun q hq => g.below.block q (World.ownsRow.lt h q hq).2
theorem eo_base {w : World} {base base' : Nat} {v : Value} {l : List Ent} (h : EO w base v l) (hb : base' ≤ base) : EO w base' v l := by
  refine ⟨h.1, ?_⟩
  rcases h.2 with q | ⟨b, cap, cur, rfl, hg, r⟩
  · exact .inl q
  · exact .inr ⟨b, cap, cur, rfl, Nat.le_trans hb hg, r⟩
theorem flat_e : ∀ (l : List Ent) (i : Nat), i < l.length → ∀ j, j < 3 → (l.flatMap ent3)[i * 3 + j]? = (ent3 (l.getD i ent0))[j]? := by
  intro l
  induction l with
  | nil => intro i hi; simp at hi
  | cons s l ih =>
    intro i hi j hj
    rw [List.flatMap_cons]
    cases i with
    | zero =>
      rw [Nat.zero_mul, Nat.zero_add, List.getElem?_append_left (by show j < 3; exact hj)]
      rfl
    | succ i =>
      have e : (i + 1) * 3 + j = i * 3 + j + 3 := by omega
      rw [e, List.getElem?_append_right (by show 3 ≤ _; omega), show i * 3 + j + 3 - (ent3 s).length = i * 3 + j by show i * 3 + j + 3 - 3 = _; omega]
      exact ih i (by simpa using hi) j hj
theorem eo_el {w : World} {base : Nat} {ao : Option Addr} {c : Nat} {l : List Ent} (h : EO w base (.slice ao l.length c) l) (ok : ∀ e ∈ l, e.ok) : EL w ao l := by
  refine ⟨fun h0 => ?_, fun i hi => ?_⟩
  · rcases h.2 with ⟨_, z⟩ | ⟨b, cap, cur, e, hb, hh, r⟩
    · omega
    · injection e with e1 e2 e3
      subst e1 e3
      have c' : ∀ i, i < l.length → ∀ j, j < 3 → w.cell? ⟨b, i * 3 + j, none⟩ = (ent3 (l.getD i ent0))[j]? := fun i hi j hj => by
        have := World.ownsRow.cellAt h (i * 3 + j) (by omega)
        rw [this]
        exact flat_e l i hi j hj
      refine ⟨b, 0, rfl, (Array.getElem?_eq_some_iff.1 hh).1, fun i hi => ?_⟩
      rw [Nat.zero_add]
      exact ⟨c' i hi 0 (by decide), c' i hi 1 (by decide), c' i hi 2 (by decide)⟩
  · have : l.getD i ent0 = l[i] := by simp [List.getD, hi]
    show (l.getD i ent0).ok
    rw [this]
    exact ok _ (List.getElem_mem hi)
theorem new_ent (w : World) (e : Ent) : ∀ j u, (ent3 e)[j]? = some u → (w.alloc (.cells #[.int .u64 e.k, .int .u64 e.v, .bool e.g] 32)).cell? ((⟨w.heap.size, 0, none⟩ : Addr).add j) = some u := by
  intro j u hu
  match j, hu with
  | 0, hu => simp [ent3] at hu; subst hu; simp [Addr.add, go_sem]
  | 1, hu => simp [ent3] at hu; subst hu; simp [Addr.add, go_sem]
  | 2, hu => simp [ent3] at hu; subst hu; simp [Addr.add, go_sem]
  | j + 3, hu => simp [ent3] at hu
theorem eo_new (w : World) (base : Nat) (hb : base ≤ w.heap.size) : EO (w.alloc (.cells #[] 32)) base (.slice (some ⟨w.heap.size, 0, none⟩) 0 0) [] := World.ownsRow_made w #[] 0 hb (Nat.zero_le _) rfl
theorem eo_more {w : World} {base : Nat} {v : Value} {l : List Ent} {e : Ent} (h : w.ownsRow base 32 3 v (l.length + 1) (l.flatMap ent3 ++ ent3 e)) : EO w base v (l ++ [e]) := by
  show World.ownsRow _ _ _ _ _ _ _
  rw [List.length_append, List.flatMap_append]
  simpa using h
/-- Lists of entries. -/
structure EV (w : World) (ao : Option Addr) (L : List (List Ent)) : Prop where
  cells : 0 < L.length → ∃ b off, ao = some ⟨b, off, none⟩ ∧ b < w.heap.size ∧ ∀ i, i < L.length → ∃ bo c, w.cell? ⟨b, off + i, none⟩ = some (.slice bo (L.getD i []).length c) ∧ (L.getD i []).length ≤ c ∧ EL w bo (L.getD i []) ∧ (bo = none → (L.getD i []).length = 0 ∧ c = 0)
theorem EV.gw {w w' : World} {ao : Option Addr} {L : List (List Ent)} (h : EV w ao L) (g : Gw w w') : EV w' ao L :=
  ⟨fun h0 => by
    obtain ⟨b, off, e, hb, hc⟩ := h.cells h0
    refine ⟨b, off, e, Nat.lt_of_lt_of_le hb g.size, fun i hi => ?_⟩
    obtain ⟨bo, c, h1, h2, h3, h4⟩ := hc i hi
    exact ⟨bo, c, (g.cell _ _ hb).trans h1, h2, h3.gw g, h4⟩⟩
/-- Whether a key is one of some. -/
def liveB (n : Nat) (f : Nat → Int) (k : Int) : Bool := (List.range n).any fun i => f i == k
def keep13 (n : Nat) (f : Nat → Int) (e : Ent) : Bool := !e.g || liveB n f e.k
set_option maxHeartbeats 2000000 in
theorem rlive13 (ao : Option Addr) (n c : Nat) (f : Nat → Int) (q : Int) (hn : n ≤ 4000000) (w : World) (h : KS w ao n f) :
    Calls Try.prog 24 #[.slice ao n c, .int .u64 q] w fun e w' => e = .returned (.bool (liveB n f q)) ∧ w' = w := by
  have HK : Aside (KS w ao n f) := h
  clear h
  go_enter Try.func24, Try.ntmps24
  go_wp2_with fail
  go_loopg [5] n (fun gg s wr => ∃ i : Nat, s = .int .i64 (i : Int) ∧ i ≤ n ∧ n - i ≤ gg ∧ Aside (∀ j, j < i → f j ≠ q) ∧ wr = w)
  case atStart => exact ⟨0, rfl, Nat.zero_le _, by omega, (show Aside _ from fun j hj => by omega), rfl⟩
  case round =>
    obtain ⟨i, rfl, a1, a2, NO, rfl⟩ := hrel
    by_cases hlt : i < n
    · have hlt' : (i : Int) < (n : Int) := by omega
      obtain ⟨lb, loff, rfl, hlb, hlc⟩ := HK.out.cells (by omega)
      have kc := hlc i hlt
      clear hlc
      by_cases e : f i = q
      · have YES : Aside (liveB n f q = true) := by
          show _ = _
          unfold liveB
          rw [List.any_eq_true]
          exact ⟨i, List.mem_range.2 hlt, by simpa using e⟩
        have e' : (f i == q) = true := by simpa using e
        generalize f i = fi at kc e'
        clear e
        go_wp2_with fail
        go_ret
        exact ⟨by rw [YES.out]; rfl, rfl⟩
      · have NO' : Aside (∀ j, j < i + 1 → f j ≠ q) := fun j hj => by
          by_cases x : j = i
          · rw [x]; exact e
          · exact NO.out j (by omega)
        have e' : (f i == q) = false := by simpa using e
        generalize f i = fi at kc e'
        clear e NO
        go_wp2_with fail
        go_roundg (n - (i + 1))
        case measure => omega
        case rel => exact ⟨i + 1, by go_num, by omega, Nat.le_refl _, NO', rfl⟩
    · have ei : i = n := by omega
      subst ei
      have NOT : Aside (liveB i f q = false) := by
        show _ = _
        unfold liveB
        rw [List.any_eq_false]
        intro j hj
        have := NO.out j (List.mem_range.1 hj)
        simpa using this
      go_wp2_with fail
      go_ret
      exact ⟨by rw [NOT.out]; rfl, rfl⟩
set_option maxHeartbeats 2000000 in
theorem rsift13 (ao : Option Addr) (c : Nat) (l : List Ent) (qo : Option Addr) (qn qc : Nat) (qf : Nat → Int) (hn : l.length ≤ 4000000) (hqn : qn ≤ 4000000) (w : World) (h : EL w ao l) (hq : KS w qo qn qf) :
    Calls Try.prog 26 #[.slice ao l.length c, .slice qo qn qc] w fun e w' => (∃ ob oc, e = .returned (.slice (some ⟨ob, 0, none⟩) (l.filter (keep13 qn qf)).length oc) ∧ EO w' w.heap.size (.slice (some ⟨ob, 0, none⟩) (l.filter (keep13 qn qf)).length oc) (l.filter (keep13 qn qf))) ∧ Gw w w' := by
  have HE : Aside (EL w ao l) := h
  have LV : Hid (∀ W, Gw w W → ∀ q : Int, Calls Try.prog 24 #[.slice qo qn qc, .int .u64 q] W fun e w' => e = .returned (.bool (liveB qn qf q)) ∧ w' = W) := fun W gg q => rlive13 qo qn qc qf q hqn W (hq.gw gg)
  obtain ⟨n, hln⟩ : ∃ n, l.length = n := ⟨_, rfl⟩
  have LN : Aside (l.length = n) := hln
  rw [hln] at hn ⊢
  clear h hq hln
  obtain ⟨ii, hii, hz, hs, hby⟩ := info_parts info_e
  have E1 : Aside (EO (w.alloc (.cells #[] 32)) w.heap.size (.slice (some ⟨w.heap.size, 0, none⟩) 0 0) []) := eo_new w _ (Nat.le_refl _)
  have G1 : Aside (Gw w (w.alloc (.cells #[] 32))) := (Gw.refl w).alloc _ _
  go_enter Try.func26, Try.ntmps26
  go_wp2_with fail
  generalize w.alloc (.cells #[] 32) = w1 at E1 G1 ⊢
  go_loopg [5, 6] n (fun gg s5 s6 wr => ∃ (i m ob oc : Nat), s5 = .slice (some ⟨ob, 0, none⟩) m oc ∧ s6 = .int .i64 (i : Int) ∧ i ≤ n ∧ n - i ≤ gg ∧ m ≤ i ∧ Aside (((l.take i).filter (keep13 qn qf)).length = m) ∧ Aside (EO wr w.heap.size (.slice (some ⟨ob, 0, none⟩) m oc) ((l.take i).filter (keep13 qn qf))) ∧ Aside (Gw w wr))
  case atStart => exact ⟨0, 0, w.heap.size, 0, rfl, rfl, Nat.zero_le _, by omega, Nat.le_refl _, (by show _ = _; simp), (by show EO _ _ _ _; simpa using E1.out), G1⟩
  case round =>
    clear E1 G1
    obtain ⟨i, m, ob, oc, rfl, rfl, a1, a2, a3, ML, E, G⟩ := hrel
    by_cases hlt : i < n
    · have hlt' : (i : Int) < (n : Int) := by omega
      obtain ⟨lb, loff, rfl, hlb, hlc⟩ := (ES.gw HE.out G.out).cells (by rw [LN.out]; omega)
      obtain ⟨c0, c1, c2⟩ := hlc i (by rw [LN.out]; exact hlt)
      have TK : Aside ((l.take (i + 1)).filter (keep13 qn qf) = (l.take i).filter (keep13 qn qf) ++ (if keep13 qn qf (l.getD i ent0) = true then [l.getD i ent0] else [])) := by
        show _ = _
        have e : l.take (i + 1) = l.take i ++ [l.getD i ent0] := by
          rw [List.take_add_one, List.getElem?_eq_getElem (by rw [LN.out]; exact hlt), List.getD_eq_getElem?_getD, List.getElem?_eq_getElem (by rw [LN.out]; exact hlt)]; rfl
        rw [e, List.filter_append, List.filter_cons]
        split <;> rfl
      obtain ⟨x, hx⟩ : ∃ x, l.getD i ent0 = x := ⟨_, rfl⟩
      rw [hx] at c0 c1 c2 TK
      obtain ⟨xk, xv, xg⟩ := x
      have d0 : wr.cell? ⟨lb, loff + i * 3, none⟩ = some (.int .u64 xk) := c0
      have d1 : wr.cell? ⟨lb, loff + i * 3 + 1, none⟩ = some (.int .u64 xv) := c1
      have d2 : wr.cell? ⟨lb, loff + i * 3 + 2, none⟩ = some (.bool xg) := c2
      have EOW : Aside (wr.ownsRow w.heap.size 32 3 (.slice (some ⟨ob, 0, none⟩) m oc) m (((l.take i).filter (keep13 qn qf)).flatMap ent3)) := by
        have := E.out
        unfold EO at this
        rw [ML.out] at this
        exact this
      have wz := G.out.size
      clear hlc c0 c1 c2 hx
      have STAY : Aside (keep13 qn qf ⟨xk, xv, xg⟩ = false → ((l.take (i + 1)).filter (keep13 qn qf)) = (l.take i).filter (keep13 qn qf)) := fun q => by
        rw [TK.out, if_neg (by rw [q]; decide), List.append_nil]
      have MORE : Aside (keep13 qn qf ⟨xk, xv, xg⟩ = true → ((l.take (i + 1)).filter (keep13 qn qf)) = (l.take i).filter (keep13 qn qf) ++ [⟨xk, xv, xg⟩]) := fun q => by
        rw [TK.out, if_pos q]
      clear TK
      obtain ⟨kp, hkp⟩ : ∃ kp, liveB qn qf xk = kp := ⟨_, rfl⟩
      have KP : Aside (keep13 qn qf ⟨xk, xv, xg⟩ = (!xg || kp)) := by show _ = _; rw [← hkp]; rfl
      have LVi := fun W gg => LV.out W gg xk
      rw [hkp] at LVi
      have LVH : Hid (∀ W, Gw w W → Calls Try.prog 24 #[.slice qo qn qc, .int .u64 xk] W fun e w' => e = .returned (.bool kp) ∧ w' = W) := LVi
      clear LVi hkp
      have FIN : Hid (∀ (v' : Value) (w5 : World), keep13 qn qf ⟨xk, xv, xg⟩ = true → w5.ownsRow w.heap.size 32 3 v' (m + 1) (((l.take i).filter (keep13 qn qf)).flatMap ent3 ++ ent3 ⟨xk, xv, xg⟩) → EO w5 w.heap.size v' ((l.take (i + 1)).filter (keep13 qn qf)) ∧ ((l.take (i + 1)).filter (keep13 qn qf)).length = m + 1) := fun v' w5 q r => by
        rw [MORE.out q]
        refine ⟨eo_more ?_, ?_⟩
        · rw [ML.out]; exact r
        · rw [List.length_append, ML.out]; rfl
      cases xg with
      | false =>
        go_wp2_with (at_builtin; refine wpList_append_own _ rfl _ _ 25 rfl w.heap.size 32 ii (.agg #[.int .u64 0, .int .u64 0, .bool false]) 3 24 Try.underlying25 hii hz hs hby rfl (by decide) _ m _ rfl (EOW.out.alloc _) ⟨wr.heap.size, 0, none⟩ 1 1 (ent3 ⟨xk, xv, false⟩) rfl rfl (new_ent wr ⟨xk, xv, false⟩) (ent3_one _) (by simp only [maxLen]; omega) (by omega) (by simp; omega) ?_)
        intro v' w5 r1 r2 r3
        obtain ⟨b5, cap5, rfl, hb5, _, _⟩ := own_slice r1 (by simpa using r3)
        obtain ⟨f1, f2⟩ := FIN.out _ w5 (by rw [KP.out]; rfl) r1
        have E5 : Aside (EO w5 w.heap.size (.slice (some ⟨b5, 0, none⟩) (m + 1) cap5) ((l.take (i + 1)).filter (keep13 qn qf))) := f1
        have M5 : Aside (((l.take (i + 1)).filter (keep13 qn qf)).length = m + 1) := f2
        have G5 : Aside (Gw w w5) := (G.out.alloc _ _).grown r2 (fun q hq => (World.ownsRow.lt EOW.out q hq).1)
        clear r1 r2 r3 f1 f2 E EOW FIN MORE STAY LVH d0 d1 d2
        go_wp2_with fail
        go_roundg (n - (i + 1))
        case measure => omega
        case rel => exact ⟨i + 1, m + 1, b5, cap5, rfl, by go_num, by omega, Nat.le_refl _, by omega, M5, E5, G5⟩
      | true =>
        go_wp2_with fail
        refine Calls.mono (LVH.out _ G.out) ?_
        rintro e w3 ⟨rfl, e3⟩
        have e4 := e3.symm
        subst e4
        clear e3
        cases kp with
        | true =>
          go_wp2_with (at_builtin; refine wpList_append_own _ rfl _ _ 25 rfl w.heap.size 32 ii (.agg #[.int .u64 0, .int .u64 0, .bool false]) 3 24 Try.underlying25 hii hz hs hby rfl (by decide) _ m _ rfl (EOW.out.alloc _) ⟨wr.heap.size, 0, none⟩ 1 1 (ent3 ⟨xk, xv, true⟩) rfl rfl (new_ent wr ⟨xk, xv, true⟩) (ent3_one _) (by simp only [maxLen]; omega) (by omega) (by simp; omega) ?_)
          intro v' w5 r1 r2 r3
          obtain ⟨b5, cap5, rfl, hb5, _, _⟩ := own_slice r1 (by simpa using r3)
          obtain ⟨f1, f2⟩ := FIN.out _ w5 (by rw [KP.out]; rfl) r1
          have E5 : Aside (EO w5 w.heap.size (.slice (some ⟨b5, 0, none⟩) (m + 1) cap5) ((l.take (i + 1)).filter (keep13 qn qf))) := f1
          have M5 : Aside (((l.take (i + 1)).filter (keep13 qn qf)).length = m + 1) := f2
          have G5 : Aside (Gw w w5) := (G.out.alloc _ _).grown r2 (fun q hq => (World.ownsRow.lt EOW.out q hq).1)
          clear r1 r2 r3 f1 f2 E EOW FIN MORE STAY LVH d0 d1 d2
          go_wp2_with fail
          go_roundg (n - (i + 1))
          case measure => omega
          case rel => exact ⟨i + 1, m + 1, b5, cap5, rfl, by go_num, by omega, Nat.le_refl _, by omega, M5, E5, G5⟩
        | false =>
          have ST := STAY.out (by rw [KP.out]; rfl)
          have E5 : Aside (EO wr w.heap.size (.slice (some ⟨ob, 0, none⟩) m oc) ((l.take (i + 1)).filter (keep13 qn qf))) := by rw [ST]; exact E.out
          have M5 : Aside (((l.take (i + 1)).filter (keep13 qn qf)).length = m) := by rw [ST]; exact ML.out
          clear ST FIN MORE STAY LVH
          go_wp2_with fail
          go_roundg (n - (i + 1))
          case measure => omega
          case rel => exact ⟨i + 1, m, ob, oc, rfl, by go_num, by omega, Nat.le_refl _, by omega, M5, E5, G⟩
    · have ei : i = n := by omega
      subst ei
      have TT : l.take i = l := List.take_of_length_le (by rw [LN.out]; exact Nat.le_refl _)
      rw [TT] at ML E
      have ML2 : Aside ((l.filter (keep13 qn qf)).length = m) := ML
      have E2 : Aside (EO wr w.heap.size (.slice (some ⟨ob, 0, none⟩) (l.filter (keep13 qn qf)).length oc) (l.filter (keep13 qn qf))) := by
        rw [ML2.out]
        exact E.out
      clear ML E TT
      go_wp2_with fail
      refine bodyPost_ret (v := .slice (some ⟨ob, 0, none⟩) m oc) (by simp [results, Try.results26, go_sem]) rfl ⟨⟨ob, oc, by rw [ML2.out], E2.out⟩, G.out⟩
end Go.Proofs.Ytnkcnfpbbdlifaa
