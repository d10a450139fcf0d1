/- Package script: lines read: what a round keeps. -/
import Derived.Test.YtocnmdabilaccaaDoorS2Seq
import Derived.Test.YtocnmdabilaccaaDoorS2Cmd
import Derived.Test.YtocnmdabilaccaaDoorS1Ref4
namespace Go.Proofs.YtocnmdabilaccaaDoor
open Go.RowKit Go.Shelf
set_option linter.unusedVariables false

/-- The mark of a range that is over. -/
def mark1 (D : Nat) : Deferred := { target := .collected D, args := #[] }
theorem leaves_mark1 {F : Fence} {n : Nat} {P : Program} {fn : Func} {tmps : Array Value} {R : Ending → World → Prop} (D : Nat) (W : World) (hd : W.heap[D]? = some (.deferred (some [])))
    (h : ∀ W', (∀ q, q ≠ D → W'.heap[q]? = W.heap[q]?) → W'.heap.size = W.heap.size → W'.os = W.os → W'.tape = W.tape → W'.output = W.output → ∃ v, (results fn tmps).run P W' = .ok v W' ∧ R (.returned v) W') :
    LeavesInM F n P fn tmps R [mark1 D] .returning W := by
  refine ⟨by simp, .inl ⟨D, _, rfl, run_takeDeferred hd, ?_⟩⟩
  exact h _ (fun q hq => World.putObj_heap_other hq) (by simp) rfl rfl rfl
/-- The blocks that commands of a call's own take. -/
def ownC (v : Value) (V : List Value) (q : Nat) : Prop := v.ownBlock = some q ∨ ∃ (i : Nat) (u : Value), V[i]? = some u ∧ u.ownBlock = some q
theorem CO.keep {w w' : World} {base : Nat} {v : Value} {L : List Cd} {V : List Value} (h : CO w base v L V) (k : ∀ q, ownC v V q → w'.heap[q]? = w.heap[q]?) : CO w' base v L V :=
  ⟨own_keep h.row fun q hq => k q (.inl hq), h.len, fun i c u h1 h2 => own_keep (h.nums i c u h1 h2) fun q hq => k q (.inr ⟨i, u, h2, hq⟩), h.apart, h.away, h.ok⟩
theorem CO.lt {w : World} {base : Nat} {v : Value} {L : List Cd} {V : List Value} (h : CO w base v L V) : ∀ q, ownC v V q → base ≤ q ∧ q < w.heap.size := by
  intro q hq
  rcases hq with e | ⟨i, u, hi, e⟩
  · exact World.ownsRow.lt h.row q e
  · have il : i < L.length := by rw [← h.len]; exact (List.getElem?_eq_some_iff.1 hi).1
    exact World.ownsRow.lt (h.nums i L[i] u (List.getElem?_eq_getElem il) hi) q e
theorem CO.low {w : World} {base base' : Nat} {v : Value} {L : List Cd} {V : List Value} (h : CO w base v L V) (hb : base' ≤ base) : CO w base' v L V := by
  have lw : ∀ {e size n : Nat} {u : Value} {xs : List Value}, w.ownsRow base e size u n xs → w.ownsRow base' e size u n xs := fun r => by
    refine ⟨r.1, ?_⟩
    rcases r.2 with q | ⟨b, cap, cur, e, hb', q⟩
    · exact .inl q
    · exact .inr ⟨b, cap, cur, e, Nat.le_trans hb hb', q⟩
  exact ⟨lw h.row, h.len, fun i c u h1 h2 => lw (h.nums i c u h1 h2), h.apart, h.away, h.ok⟩
theorem CO.shape {w : World} {base : Nat} {v : Value} {L : List Cd} {V : List Value} (h : CO w base v L V) : ∃ bo n cp, v = .slice bo n cp ∧ n = L.length := by
  rcases h.row.2 with ⟨q, q2⟩ | ⟨b, cap, cur, rfl, _⟩
  · exact ⟨none, 0, 0, q, q2.symm⟩
  · exact ⟨_, _, _, rfl, rfl⟩
/-- Lines were read: the three results' boxes; nothing was wrong. -/
structure PI (X : World) (N ss : Nat) (xs pre : List (List UInt8)) (O : Nat → Prop) (W : World) : Prop where
  ex : ∃ (v : Value) (V : List Value) (out : List Cd), W.heap[N]? = some (.cells #[v] 23 (0, 0)) ∧ CO W X.heap.size v out V ∧ (∀ q, ownC v V q → O q) ∧ goP xs 0 [] = goP (xs.drop pre.length) pre.length out ∧ out.length ≤ 4096
  at' : W.heap[N + 1]? = some (.cells #[.int .i64 (pre.length : Int)] 3 (0, 0))
  er : W.heap[N + 2]? = some (.cells #[.int .i64 0] 24 (0, 0))
  gx : Gx (fun q => q = N ∨ q = N + 1 ∨ q = N + 2 ∨ q = ss) X W
/-- A line was wrong. -/
structure PJ (X : World) (N ss : Nat) (xs : List (List UInt8)) (W : World) : Prop where
  ex : ∃ k e : Int, goP xs 0 [] = ([], k, e) ∧ W.heap[N]? = some (.cells #[.slice none 0 0] 23 (0, 0)) ∧ W.heap[N + 1]? = some (.cells #[.int .i64 k] 3 (0, 0)) ∧ W.heap[N + 2]? = some (.cells #[.int .i64 e] 24 (0, 0))
  gx : Gx (fun q => q = N ∨ q = N + 1 ∨ q = N + 2 ∨ q = ss) X W
theorem gx_ko {X W W' : World} {N ss : Nat} {O : Nat → Prop} (h : Gx (fun q => q = N ∨ q = N + 1 ∨ q = N + 2 ∨ q = ss) X W) (k : Ko X.heap.size (fun q => q = ss) O W W') : Gx (fun q => q = N ∨ q = N + 1 ∨ q = N + 2 ∨ q = ss) X W' :=
  ⟨k.os.trans h.os, k.tape.trans h.tape, k.output.trans h.output, Nat.le_trans h.size k.size, fun q hq hs => (k.block q (Nat.lt_of_lt_of_le hq h.size) (.inl ⟨hq, fun e => hs (.inr (.inr (.inr e)))⟩)).trans (h.block q hq hs)⟩
theorem PI.ko {X W W' : World} {N ss : Nat} {xs pre : List (List UInt8)} {O : Nat → Prop} (h : PI X N ss xs pre O W) (hN : N + 2 < X.heap.size) (hs : N + 2 < ss) (k : Ko X.heap.size (fun q => q = ss) O W W') : PI X N ss xs pre O W' := by
  have kb : ∀ q, q ≤ N + 2 → q < W.heap.size → W'.heap[q]? = W.heap[q]? := fun q h1 h2 => k.block q h2 (.inl ⟨by omega, fun e => by have e' : q = ss := e; omega⟩)
  obtain ⟨v, V, out, e1, e2, e3, e4, e5⟩ := h.ex
  refine ⟨⟨v, V, out, (kb N (by omega) (blkl e1)).trans e1, e2.keep fun q hq => k.block q (e2.lt q hq).2 (.inr (e3 q hq)), e3, e4, e5⟩, (kb _ (by omega) (blkl h.at')).trans h.at', (kb _ (by omega) (blkl h.er)).trans h.er, gx_ko h.gx k⟩
theorem PJ.ko {X W W' : World} {N ss : Nat} {xs : List (List UInt8)} {O : Nat → Prop} (h : PJ X N ss xs W) (hN : N + 2 < X.heap.size) (hs : N + 2 < ss) (k : Ko X.heap.size (fun q => q = ss) O W W') : PJ X N ss xs W' := by
  have kb : ∀ q, q ≤ N + 2 → q < W.heap.size → W'.heap[q]? = W.heap[q]? := fun q h1 h2 => k.block q h2 (.inl ⟨by omega, fun e => by have e' : q = ss := e; omega⟩)
  obtain ⟨a, e, e1, e2, e3, e4⟩ := h.ex
  exact ⟨⟨a, e, e1, (kb N (by omega) (blkl e2)).trans e2, (kb _ (by omega) (blkl e3)).trans e3, (kb _ (by omega) (blkl e4)).trans e4⟩, gx_ko h.gx k⟩
theorem PI.close {X W2 F : World} {N ss z : Nat} {xs pre : List (List UInt8)} {x : List UInt8} {O : Nat → Prop} {v' : Value} {V' : List Value} {out' : List Cd} (h : PI X N ss xs pre O W2) (hN : N + 2 < X.heap.size) (hz : W2.heap.size = z)
    (f0 : F.heap[N]? = some (.cells #[v'] 23 (0, 0))) (f1 : F.heap[N + 1]? = some (.cells #[.int .i64 ((pre.length : Int) + 1)] 3 (0, 0))) (f2 : F.heap[N + 2]? = some (.cells #[.int .i64 0] 24 (0, 0)))
    (C : CO F X.heap.size v' out' V') (go : goP xs 0 [] = goP (xs.drop (pre.length + 1)) (pre.length + 1) out') (l : out'.length ≤ 4096) (own : ∀ q, ownC v' V' q → O q ∨ z ≤ q) (g : Gx (fun q => q = N ∨ q = N + 1 ∨ O q) W2 F) (ho : ∀ q, O q → X.heap.size ≤ q) :
    ∃ O' : Nat → Prop, (∀ q, O' q → (O q ∨ z ≤ q) ∧ q < F.heap.size) ∧ Gx (fun q => (q < X.heap.size ∧ (q = N ∨ q = N + 1 ∨ q = N + 2)) ∨ O q ∨ z ≤ q) W2 F ∧ PI X N ss xs (pre ++ [x]) O' F := by
  have len : (pre ++ [x]).length = pre.length + 1 := by simp
  refine ⟨ownC v' V', fun q hq => ⟨own q hq, (C.lt q hq).2⟩, g.mono fun q hq => .inl ?_, ⟨⟨v', V', out', f0, C, fun q hq => hq, by rw [len]; exact go, l⟩, by rw [len]; exact f1, f2, h.gx.trans g fun q hq => ?_⟩⟩
  · rcases hq with e | e | e
    · exact .inl ⟨by omega, .inl e⟩
    · exact .inl ⟨by omega, .inr (.inl e)⟩
    · exact .inr (.inl e)
  · rcases hq with e | e | e
    · exact .inl (.inl e)
    · exact .inl (.inr (.inl e))
    · exact .inr (ho q e)
theorem PJ.close {X W2 F : World} {N ss z : Nat} {xs pre : List (List UInt8)} {O : Nat → Prop} {a e : Int} (h : PI X N ss xs pre O W2) (hN : N + 2 < X.heap.size)
    (f0 : F.heap[N]? = some (.cells #[.slice none 0 0] 23 (0, 0))) (f1 : F.heap[N + 1]? = some (.cells #[.int .i64 a] 3 (0, 0))) (f2 : F.heap[N + 2]? = some (.cells #[.int .i64 e] 24 (0, 0)))
    (go : goP xs 0 [] = ([], a, e)) (g : Gx (fun q => q = N ∨ q = N + 1 ∨ q = N + 2) W2 F) :
    ∃ O' : Nat → Prop, (∀ q, O' q → (O q ∨ z ≤ q) ∧ q < F.heap.size) ∧ Gx (fun q => (q < X.heap.size ∧ (q = N ∨ q = N + 1 ∨ q = N + 2)) ∨ O q ∨ z ≤ q) W2 F ∧ PJ X N ss xs F := by
  refine ⟨fun _ => False, fun q hq => hq.elim, g.mono fun q hq => .inl (.inl ⟨by omega, hq⟩), ⟨⟨a, e, go, f0, f1, f2⟩, h.gx.trans g fun q hq => .inl ?_⟩⟩
  rcases hq with e | e | e
  · exact .inl e
  · exact .inr (.inl e)
  · exact .inr (.inr (.inl e))
theorem PJ.stores {X W2 B : World} {N ss z : Nat} {xs pre : List (List UInt8)} {O : Nat → Prop} {v0 v1 v2 : Value} {a e : Int} (h : PI X N ss xs pre O W2) (hN : N + 2 < X.heap.size)
    (b0 : B.heap[N]? = some (.cells #[v0] 23 (0, 0))) (b1 : B.heap[N + 1]? = some (.cells #[v1] 3 (0, 0))) (b2 : B.heap[N + 1 + 1]? = some (.cells #[v2] 24 (0, 0)))
    (g : Gx (fun q => q = N + 1) W2 B) (go : goP xs 0 [] = ([], a, e)) :
    ∃ O' : Nat → Prop, (∀ q, O' q → (O q ∨ z ≤ q) ∧ q < ((((B.setCell ⟨N, 0, none⟩ (.slice none 0 0)).setCell ⟨N + 1, 0, none⟩ (.int .i64 a)).setCell ⟨N + 1 + 1, 0, none⟩ (.int .i64 e)).drew).heap.size) ∧ Gx (fun q => (q < X.heap.size ∧ (q = N ∨ q = N + 1 ∨ q = N + 2)) ∨ O q ∨ z ≤ q) W2 (((B.setCell ⟨N, 0, none⟩ (.slice none 0 0)).setCell ⟨N + 1, 0, none⟩ (.int .i64 a)).setCell ⟨N + 1 + 1, 0, none⟩ (.int .i64 e)).drew ∧ (Code.ret = Code.ret ∧ PJ X N ss xs (((B.setCell ⟨N, 0, none⟩ (.slice none 0 0)).setCell ⟨N + 1, 0, none⟩ (.int .i64 a)).setCell ⟨N + 1 + 1, 0, none⟩ (.int .i64 e)).drew) := by
  obtain ⟨O', h1, h2, h3⟩ := PJ.close (z := z) (F := (((B.setCell ⟨N, 0, none⟩ (.slice none 0 0)).setCell ⟨N + 1, 0, none⟩ (.int .i64 a)).setCell ⟨N + 1 + 1, 0, none⟩ (.int .i64 e)).drew) h hN
    (show (((B.setCell ⟨N, 0, none⟩ (.slice none 0 0)).setCell ⟨N + 1, 0, none⟩ (.int .i64 a)).setCell ⟨N + 1 + 1, 0, none⟩ (.int .i64 e)).heap[N]? = _ by
      rw [Go.Deep.blk_setCell_other _ _ _ _ (by simp <;> omega), Go.Deep.blk_setCell_other _ _ _ _ (by simp)]
      exact blk_put (o := 0) b0 _)
    (show (((B.setCell ⟨N, 0, none⟩ (.slice none 0 0)).setCell ⟨N + 1, 0, none⟩ (.int .i64 a)).setCell ⟨N + 1 + 1, 0, none⟩ (.int .i64 e)).heap[N + 1]? = _ by
      rw [Go.Deep.blk_setCell_other _ _ _ _ (by simp)]
      exact blk_put (o := 0) ((Go.Deep.blk_setCell_other _ _ _ _ (by simp)).trans b1) _)
    (show (((B.setCell ⟨N, 0, none⟩ (.slice none 0 0)).setCell ⟨N + 1, 0, none⟩ (.int .i64 a)).setCell ⟨N + 1 + 1, 0, none⟩ (.int .i64 e)).heap[N + 1 + 1]? = _ from
      blk_put (o := 0) ((Go.Deep.blk_setCell_other _ _ _ _ (by simp)).trans ((Go.Deep.blk_setCell_other _ _ _ _ (by simp <;> omega)).trans b2)) _)
    go
    ((((g.mono fun q hq => .inl (.inr (.inl hq))).set (.inl (.inl rfl)) _ _).set (.inl (.inr (.inl rfl))) _ _).set (.inl (.inr (.inr rfl))) _ _).drew
  exact ⟨O', h1, h2, rfl, h3⟩
theorem cmd_none (n : Nat) : cmdOf [] n = (false, 0, ⟨[], []⟩) := rfl
theorem cmd_hash {w : List UInt8} {r : List (List UInt8)} (n : Nat) (h : w.head? = some 35) : cmdOf (w :: r) n = (false, 0, ⟨[], []⟩) := by simp [cmdOf, h]
theorem cmd_many {w : List UInt8} {r : List (List UInt8)} {n : Nat} (h : w.head? ≠ some 35) (hn : 4096 ≤ n) : cmdOf (w :: r) n = (true, 210, ⟨[], []⟩) := by simp [cmdOf, h, hn]
set_option maxRecDepth 100000 in
set_option maxHeartbeats 4000000 in
theorem seq_any (t : List UInt8) (w : World) : Calls Tryd.prog 20 #[.string (Bs t), .string (Bs [10])] w fun e w' => e = .returned (.func (.func 53) #[] #[.pointer (some ⟨w.heap.size + 1, 0, none⟩), .pointer (some ⟨w.heap.size, 0, none⟩), .pointer (some ⟨w.heap.size + 2, 0, none⟩)]) ∧ SpA (w.heap.size + 1) w.heap.size (w.heap.size + 2) t w' ∧ w'.heap.size = w.heap.size + 3 ∧ Gw w w' := by
  have S : Hid (Calls Tryd.prog 41 #[.string (Bs t), .string (Bs [10]), .int .i64 0] w fun e w' => e = .returned (.func (.func 53) #[] #[.pointer (some ⟨w.heap.size + 1, 0, none⟩), .pointer (some ⟨w.heap.size, 0, none⟩), .pointer (some ⟨w.heap.size + 2, 0, none⟩)]) ∧ SpA (w.heap.size + 1) w.heap.size (w.heap.size + 2) t w' ∧ w'.heap.size = w.heap.size + 3 ∧ Gw w w') := by
    show Calls _ _ _ _ _
    go_enter Tryd.func41, Tryd.ntmps41
    go_wp2_with fail
    go_ret
    obtain ⟨w1, E1⟩ : ∃ W, w.alloc (.cells #[.string (Bs t)] 9) = W := ⟨_, rfl⟩
    obtain ⟨w2, E2⟩ : ∃ W, w1.alloc (.cells #[.string (Bs [10])] 9) = W := ⟨_, rfl⟩
    obtain ⟨w3, E3⟩ : ∃ W, w2.alloc (.cells #[.int .i64 0] 3) = W := ⟨_, rfl⟩
    have z1 : w1.heap.size = w.heap.size + 1 := by rw [← E1]; simp
    have z2 : w2.heap.size = w.heap.size + 2 := by rw [← E2]; simp [z1]
    have z3 : w3.heap.size = w.heap.size + 3 := by rw [← E3]; simp [z2]
    have g1 : Gw w w1 := by rw [← E1]; exact (Gw.refl _).alloc _ _
    have g2 : Gw w1 w2 := by rw [← E2]; exact (Gw.refl _).alloc _ _
    have g3 : Gw w2 w3 := by rw [← E3]; exact (Gw.refl _).alloc _ _
    rw [E1, E2, E3]
    refine ⟨rfl, ⟨?_, ?_, ?_⟩, z3, g1.trans (g2.trans g3)⟩
    · refine (g3.below.block _ (by omega)).trans ?_
      rw [← E2, ← z1]; exact heap_alloc_new _ _
    · refine ((g2.trans g3).below.block _ (by omega)).trans ?_
      rw [← E1]; exact heap_alloc_new _ _
    · rw [← E3, ← z2]; exact heap_alloc_new _ _
  go_enter Tryd.func20, Tryd.ntmps20
  go_wp2_with fail
  refine S.out.mono ?_
  rintro e w1 ⟨rfl, h⟩
  go_wp2_with fail
  go_ret
  exact ⟨rfl, h⟩
theorem hash_any (l : List UInt8) (w : World) : Calls Tryd.prog 22 #[.string (Bs l), .string (Bs [35])] w fun e w' => e = .returned (.bool (decide (l.head? = some 35))) ∧ w' = w := by
  have := Tryd.strings_HasPrefix (Bs l) (Bs [35]) w
  refine this.mono ?_
  rintro e w' ⟨rfl, hw⟩
  refine ⟨?_, hw⟩
  congr 2
  show Lib.hasPrefix l [35] = _
  cases l with
  | nil => rfl
  | cons x l =>
    by_cases q : x = 35
    · subst q; simp [Lib.hasPrefix]
    · have q' : ¬ (35 : UInt8) = x := fun e => q e.symm
      simp [Lib.hasPrefix, List.isPrefixOf, q, q']
end Go.Proofs.YtocnmdabilaccaaDoor
