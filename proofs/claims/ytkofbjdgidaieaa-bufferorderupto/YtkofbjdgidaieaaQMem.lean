/- Buffers in memory: how many there may be, and a row of entries; a row of one's own copied one place further. -/
import Derived.Test.YtkofbjdgidaieaaQPlain
import Derived.Test.YtkofbjdgidaieaaGEo
import Derived.Test.YtkofbjdgidaieaaGCopy
import Derived.Test.YtkofbjdgidaieaaPMem
import Derived.Laws.CopyRow
import Derived.Deep.RegionLaw
namespace Go.Proofs.Ytkofbjdgidaieaa
open Go.RowKit
set_option linter.unusedVariables false

/-- A buffer (of type t) at block p, made of the blocks S. -/
structure HB (t : TypeId) (w : World) (p : Nat) (S : Nat → Prop) (most : Int) (l : List Ent) : Prop where
  lies : ∃ v, w.heap[p]? = some (.cells #[.int .i64 most, v] t (0, 0)) ∧ EO w 0 v l ∧ (∀ q, v.ownBlock = some q → q ≠ p) ∧ ∀ q, S q ↔ q = p ∨ v.ownBlock = some q
  rise : Rise Ent.k l
  ok : ∀ e ∈ l, e.ok
  room : (l.length : Int) ≤ most
section
variable {t : TypeId} {w w' : World} {p : Nat} {S : Nat → Prop} {most : Int} {l : List Ent}
theorem HB.lt (h : HB t w p S most l) : ∀ q, S q → q < w.heap.size := by
  obtain ⟨v, h1, h2, h3, h4⟩ := h.lies
  intro q hq
  rcases (h4 q).1 hq with rfl | e
  · exact blkl h1
  · exact (World.ownsRow.lt h2 q e).2
theorem HB.own (h : HB t w p S most l) : S p := by
  obtain ⟨v, h1, h2, h3, h4⟩ := h.lies
  exact (h4 p).2 (.inl rfl)
theorem HB.keep (h : HB t w p S most l) (k : ∀ q, S q → w'.heap[q]? = w.heap[q]?) : HB t w' p S most l := by
  obtain ⟨v, h1, h2, h3, h4⟩ := h.lies
  exact ⟨⟨v, (k p h.own).trans h1, eo_keep h2 (fun q hq => k q ((h4 q).2 (.inr hq))), h3, h4⟩, h.rise, h.ok, h.room⟩
theorem HB.gw (h : HB t w p S most l) (g : Gw w w') : HB t w' p S most l := h.keep fun q hq => g.below.block q (h.lt q hq)
theorem HB.gx {T : Nat → Prop} (h : HB t w p S most l) (g : Gx T w w') (d : ∀ q, S q → ¬ T q) : HB t w' p S most l := h.keep fun q hq => g.block q (h.lt q hq) (d q hq)
theorem HB.new (t : TypeId) (w : World) (most : Int) (h : 0 ≤ most) : HB t (w.alloc (.cells #[.int .i64 most, .slice none 0 0] t)) w.heap.size (fun q => q = w.heap.size) most [] :=
  ⟨⟨.slice none 0 0, heap_alloc_new w _, World.ownsRow_nil _ _ _ _, (fun q e => by cases e), fun q => ⟨fun e => .inl e, fun e => e.elim id (fun x => by cases x)⟩⟩, List.Pairwise.nil, (fun e he => by cases he), by simpa using h⟩
end
/-- A row of one's own: what it is, or nothing. -/
theorem eo_shape {w : World} {base : Nat} {v : Value} {l : List Ent} (h : EO w base v l) : ∃ bo c, v = .slice bo l.length c ∧ l.length ≤ c ∧ (bo = none → l.length = 0 ∧ c = 0) := by
  rcases h.2 with ⟨e, z⟩ | ⟨b, cap, cur, e, hb, hh, hc, _⟩
  · exact ⟨none, 0, by rw [e, z], by omega, fun _ => ⟨z, rfl⟩⟩
  · exact ⟨_, cap, e, hc, fun x => by cases x⟩
/-- What Put answers, and what is there then. -/
def putR (most : Int) (l : List Ent) (e : Ent) : Int × List Ent := if e.g = true ∧ e.v ≠ 0 then (31, l) else if look Ent.k e.k l = none ∧ (l.length : Int) = most then (140, l) else (0, ins Ent.k e l)
theorem put_len {most : Int} {l : List Ent} {e : Ent} (r : Rise Ent.k l) : (putR most l e).2.length ≤ l.length + 1 := by
  unfold putR
  split
  · exact Nat.le_succ _
  · split
    · exact Nat.le_succ _
    · exact ins_len r
def PutOut (t : TypeId) (w w' : World) (p : Nat) (S : Nat → Prop) (most : Int) (l : List Ent) : Prop := ∃ S', HB t w' p S' most l ∧ Gx S w w' ∧ ∀ q, S' q → S q ∨ w.heap.size ≤ q
theorem PutOut.same {t : TypeId} {w w' : World} {p : Nat} {S : Nat → Prop} {most : Int} {l : List Ent} (h : HB t w p S most l) (g : Gw w w') : PutOut t w w' p S most l := ⟨S, h.gw g, g.gx S, fun q hq => .inl hq⟩
def entV (e : Ent) : Value := .agg #[.int .u64 e.k, .int .u64 e.v, .bool e.g]
/-- What Get answers. -/
def getV14 (o : Option Ent) : Value := .tuple #[entV (o.getD ent0), .bool o.isSome]
theorem flat_take : ∀ (l : List Ent) (k : Nat), (l.take k).flatMap ent3 = (l.flatMap ent3).take (k * 3)
  | [], k => by simp
  | s :: l, 0 => by simp
  | s :: l, k + 1 => by
    rw [List.take_succ_cons, List.flatMap_cons, List.flatMap_cons, flat_take l k, show (k + 1) * 3 = (ent3 s).length + k * 3 by show _ = 3 + _; omega, List.take_length_add_append]
theorem flat_drop : ∀ (l : List Ent) (k : Nat), (l.drop k).flatMap ent3 = (l.flatMap ent3).drop (k * 3)
  | [], k => by simp
  | s :: l, 0 => by simp
  | s :: l, k + 1 => by
    rw [List.drop_succ_cons, List.flatMap_cons, flat_drop l k, show (k + 1) * 3 = (ent3 s).length + k * 3 by show _ = 3 + _; omega, List.drop_length_add_append]
theorem run_copy_ent (w : World) (ty : TypeId) (g o dLen dCap : Nat) (a : Addr) (sLen sCap : Nat) (cur : Array Value) (t : TypeId) (cs : List Value)
    (hg : w.heap[g]? = some (.cells cur t (0, 0))) (hn : cs.length = Nat.min sLen dLen * 3)
    (hsrc : ∀ j v, cs[j]? = some v → w.cell? (a.add j) = some v) (hfit : o + cs.length ≤ cur.size) (h1 : ∀ v ∈ cs, v.oneCell' = true) :
    (Builtin.copy_ #[40, 40] ty #[.slice (some ⟨g, o, none⟩) dLen dCap, .slice (some a) sLen sCap]).run Try.prog w =
      .ok (goInt (Nat.min sLen dLen)) (w.setRow g (cur.toList.take o ++ cs ++ cur.toList.drop (o + cs.length)).toArray) := by
  have hl := run_loadCells_list (P := Try.prog) w a cs hsrc
  have hst := run_storeCells_at Try.prog g o t cs 0 cur w hg (by simpa using hfit) h1
  obtain ⟨i, hi, _, hs, _⟩ := info_parts info_e
  rw [hn] at hl
  simp [Builtin.copy_, run_underlying Try.underlying40, Builtin.lenOf, Builtin.firstCells, sizeOf, typeInfo, hi, hs, hl, hst]
/-- A row of one's own, from a place on laid one place further. -/
def further (L : List Ent) (n k : Nat) : List Ent := L.take (k + 1) ++ (L.drop k).take (n - k)
theorem further_len {L : List Ent} {n k : Nat} (h : L.length = n + 1) (hk : k ≤ n) : (further L n k).length = n + 1 := by
  unfold further
  rw [List.length_append, List.length_take, List.length_take, List.length_drop]
  omega
theorem further_set {l : List Ent} {e0 e : Ent} {k : Nat} (hk : k ≤ l.length) : (further (l ++ [e0]) l.length k).set k e = l.take k ++ e :: l.drop k := by
  unfold further
  rw [List.set_append_left _ _ (by simp; omega)]
  have a : ((l ++ [e0]).take (k + 1)).set k e = l.take k ++ [e] := by
    by_cases q : k < l.length
    · rw [List.take_append_of_le_length (by omega), List.set_eq_take_append_cons_drop, if_pos (by simp; omega), List.take_take, Nat.min_eq_left (by omega), List.drop_eq_nil_of_le (by simp; omega)]
    · have e : k = l.length := by omega
      subst e
      rw [List.take_of_length_le (by simp)]
      simp
  rw [a, List.append_assoc, List.singleton_append]
  congr 2
  rw [List.drop_append_of_le_length hk, List.take_append_of_le_length (by simp)]
  rw [List.take_of_length_le (by simp)]
theorem step_copy_e {ops : Array Oper} {o : Oper} {a : Act} {w : World} {K : Act → World → Prop} {Q : Exit → Act → World → Prop} {E : Prop} (hgd : o.guard = none) (d s : Operand)
    (ho : o.op = .call { callee := .builtin .copy, args := #[d, s], argTypes := #[40, 40] })
    (b cap n k : Nat) (L : List Ent) (hown : EO w 0 (.slice (some ⟨b, 0, none⟩) (n + 1) cap) L) (hL : L.length = n + 1) (hk : k ≤ n)
    (dp : Option Addr) (dL dC : Nat) (so sL sC : Nat) (hd : a.eval d = .slice dp dL dC) (hs : a.eval s = .slice (some ⟨b, so, none⟩) sL sC) (hdL : dL = n - k) (hsL : sL = n + 1 - k) (hso : so = k * 3) (hdp : k < n → dp = some ⟨b, (k + 1) * 3, none⟩)
    (h : ∀ w', EO w' 0 (.slice (some ⟨b, 0, none⟩) (n + 1) cap) (further L n k) → Gx (fun q => q = b) w w' → K (a.put o.dst (goInt (n - k : Nat))) w') :
    if Region.wanted o (yielded ops a.tmps) = true then Oper.wp Try.prog o a w K Q else E := by
  have hw : Region.wanted o (yielded ops a.tmps) = true := by simp [Region.wanted, hgd]
  rw [if_pos hw]
  subst hdL hsL hso
  have hmin : Nat.min (n + 1 - k) (n - k) = n - k := Nat.min_eq_right (by omega)
  rcases hown.2 with ⟨z, _⟩ | ⟨b', cap', cur, e, hb, hh, hc, hm, hz, ht⟩
  · cases z
  injection e with e1 e2 e3
  injection e1 with e1
  injection e1 with e1
  subst e1 e3
  rw [hL] at hc ht
  have hown' : w.ownsRow 0 35 3 (.slice (some ⟨b, 0, none⟩) (n + 1) cap) (n + 1) (L.flatMap ent3) := by
    have := hown
    unfold EO at this
    rw [hL] at this
    exact this
  by_cases kn : k < n
  · have := hdp kn
    subst this
    have cl : ((L.drop k).take (n - k)).length = n - k := by simp; omega
    have fl := flat_len ((L.drop k).take (n - k))
    rw [cl] at fl
    have hrun := run_copy_ent w o.type b ((k + 1) * 3) (n - k) dC ⟨b, k * 3, none⟩ (n + 1 - k) sC cur _ (((L.drop k).take (n - k)).flatMap ent3) hh (by rw [fl, hmin]) (fun j v hj => by
        have hj' : j < (n - k) * 3 := by
          have := (List.getElem?_eq_some_iff.1 hj).1
          rwa [fl] at this
        rw [flat_take, flat_drop, List.getElem?_take_of_lt hj', List.getElem?_drop] at hj
        have := World.ownsRow.cellAt hown' (k * 3 + j) (by omega)
        rw [Addr.add_lit]
        exact this.trans hj) (by rw [fl, hz]; have : n + 1 ≤ cap := hc; omega) (flat_ones _)
    rw [hmin] at hrun
    unfold Oper.wp
    simp only [execOp, ho, resolve, invoke, builtin, Sem.run_bind, Sem.run_pure, Result.andThen_ok, List.map_toArray, List.map_cons, List.map_nil, hd, hs, hrun]
    refine h _ ⟨?_, .inr ⟨b, cap, _, ?_, hb, setRow_heap w b cur _ _ _ hh, ?_, hm, ?_, ?_⟩⟩ ⟨rfl, rfl, rfl, by simp [World.setRow], fun q hq hn => setRow_other w b q _ hn⟩
    · rw [flat_len]
    · rw [further_len hL hk]
    · rw [further_len hL hk]; exact hc
    · have : n + 1 ≤ cap := hc
      rw [List.size_toArray, List.length_append, List.length_append, fl, List.length_take, List.length_drop, Array.length_toList, hz]
      omega
    · rw [further_len hL hk]
      unfold further
      rw [List.flatMap_append, flat_take L, ← ht]
      have z1 : (cur.toList.take ((k + 1) * 3)).length = (k + 1) * 3 := by have : n + 1 ≤ cap := hc; simp [hz]; omega
      have z2 : ∀ X Y Z : List Value, X.length + Y.length = (n + 1) * 3 → ((X ++ Y ++ Z).toArray.toList).take ((n + 1) * 3) = X ++ Y := fun X Y Z e => List.take_left' (by rw [List.length_append]; exact e)
      rw [z2 _ _ _ (by rw [z1, fl]; omega), List.take_take, Nat.min_eq_left (by omega)]
  · have kn' : k = n := by omega
    subst kn'
    have hrun : (Builtin.copy_ #[40, 40] o.type #[.slice dp (k - k) dC, .slice (some ⟨b, k * 3, none⟩) (k + 1 - k) sC]).run Try.prog w = .ok (.int .i64 0) w := by
      obtain ⟨i, hi, _, hs', _⟩ := info_parts info_e
      have hl : ∀ (x : Addr), (loadCells x 0).run Try.prog w = .ok #[] w := fun x => by simpa using run_loadCells_list (P := Try.prog) w x [] (by simp)
      cases dp <;> simp [Builtin.copy_, run_underlying Try.underlying40, Builtin.lenOf, Builtin.firstCells, sizeOf, typeInfo, hi, storeCells, hl, goInt]
    unfold Oper.wp
    simp only [execOp, ho, resolve, invoke, builtin, Sem.run_bind, Sem.run_pure, Result.andThen_ok, List.map_toArray, List.map_cons, List.map_nil, hd, hs, hrun]
    have fe : further L k k = L := by unfold further; rw [Nat.sub_self, List.take_zero, List.append_nil, List.take_of_length_le (by omega)]
    have := h w (by rw [fe]; exact hown) (Gx.refl _ w)
    simp [goInt] at this
    exact this
end Go.Proofs.Ytkofbjdgidaieaa
