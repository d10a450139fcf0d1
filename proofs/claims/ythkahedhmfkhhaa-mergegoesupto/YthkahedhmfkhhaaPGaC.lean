/- What is gathered: the two loops' relations; marks. -/
import Derived.Test.YthkahedhmfkhhaaPFam
namespace Go.Proofs.Ythkahedhmfkhhaa
open Go.RowKit Go.Shelf
set_option linter.unusedVariables false

/-- Which operations may come, behind which. -/
def tbl8 : List (Array Bool × List Nat) := [(#[true, true, true, true, true, true, true, true, true, true, true], []), (#[true, true, true, true, true, true, true, true, true, true, false], [10]), (#[true, true, true, true, true, true, true, true, true, false, false], [9]), (#[true, true, true, true, true, true, true, true, false, false, false], [8]), (#[true, false, true, true, true, true, true, true, true, false, false], [1]), (#[false, true, true, true, true, true, true, true, true, false, false], [0]), (#[true, true, true, true, true, true, true, false, false, false, false], [7]), (#[true, true, true, true, true, false, true, true, false, false, false], [5]), (#[true, false, true, true, true, true, true, true, false, false, false], [1, 8]), (#[false, true, true, true, true, true, true, true, false, false, false], [0, 8]), (#[false, false, true, true, true, true, true, true, true, false, false], [0, 1]), (#[true, true, true, true, true, true, false, false, false, false, false], [6]), (#[true, true, true, true, true, false, true, false, false, false, false], [5, 7]), (#[true, true, true, true, false, false, true, true, false, false, false], [4]), (#[true, false, true, true, true, true, true, false, false, false, false], [1, 7]), (#[true, false, true, true, true, false, true, true, false, false, false], [1, 5]), (#[false, true, true, true, true, true, true, false, false, false, false], [0, 7]), (#[false, true, true, true, true, false, true, true, false, false, false], [0, 5]), (#[false, false, true, true, true, true, true, true, false, false, false], [0, 1, 8]), (#[true, true, true, true, true, false, false, false, false, false, false], [5, 6]), (#[true, true, true, true, false, false, true, false, false, false, false], [4, 7]), (#[true, true, true, false, false, false, true, true, false, false, false], [3]), (#[true, true, false, true, false, false, true, true, false, false, false], [2]), (#[true, false, true, true, true, true, false, false, false, false, false], [1, 6]), (#[true, false, true, true, true, false, true, false, false, false, false], [1, 5, 7]), (#[true, false, true, true, false, false, true, true, false, false, false], [1, 4]), (#[false, true, true, true, true, true, false, false, false, false, false], [0, 6]), (#[false, true, true, true, true, false, true, false, false, false, false], [0, 5, 7]), (#[false, true, true, true, false, false, true, true, false, false, false], [0, 4]), (#[false, false, true, true, true, true, true, false, false, false, false], [0, 1, 7]), (#[false, false, true, true, true, false, true, true, false, false, false], [0, 1, 5]), (#[true, true, true, true, false, false, false, false, false, false, false], [4, 6]), (#[true, true, true, false, false, false, true, false, false, false, false], [3, 7]), (#[true, true, false, true, false, false, true, false, false, false, false], [2, 7]), (#[true, true, false, false, false, false, true, true, false, false, false], [2, 3]), (#[true, false, true, true, true, false, false, false, false, false, false], [1, 5, 6]), (#[true, false, true, true, false, false, true, false, false, false, false], [1, 4, 7]), (#[true, false, true, false, false, false, true, true, false, false, false], [1, 3]), (#[true, false, false, true, false, false, true, true, false, false, false], [1, 2]), (#[false, true, true, true, true, false, false, false, false, false, false], [0, 5, 6]), (#[false, true, true, true, false, false, true, false, false, false, false], [0, 4, 7]), (#[false, true, true, false, false, false, true, true, false, false, false], [0, 3]), (#[false, true, false, true, false, false, true, true, false, false, false], [0, 2]), (#[false, false, true, true, true, true, false, false, false, false, false], [0, 1, 6]), (#[false, false, true, true, true, false, true, false, false, false, false], [0, 1, 5, 7]), (#[false, false, true, true, false, false, true, true, false, false, false], [0, 1, 4]), (#[true, true, true, false, false, false, false, false, false, false, false], [3, 6]), (#[true, true, false, true, false, false, false, false, false, false, false], [2, 6]), (#[true, true, false, false, false, false, true, false, false, false, false], [2, 3, 7]), (#[true, false, true, true, false, false, false, false, false, false, false], [1, 4, 6]), (#[true, false, true, false, false, false, true, false, false, false, false], [1, 3, 7]), (#[true, false, false, true, false, false, true, false, false, false, false], [1, 2, 7]), (#[true, false, false, false, false, false, true, true, false, false, false], [1, 2, 3]), (#[false, true, true, true, false, false, false, false, false, false, false], [0, 4, 6]), (#[false, true, true, false, false, false, true, false, false, false, false], [0, 3, 7]), (#[false, true, false, true, false, false, true, false, false, false, false], [0, 2, 7]), (#[false, true, false, false, false, false, true, true, false, false, false], [0, 2, 3]), (#[false, false, true, true, true, false, false, false, false, false, false], [0, 1, 5, 6]), (#[false, false, true, true, false, false, true, false, false, false, false], [0, 1, 4, 7]), (#[false, false, true, false, false, false, true, true, false, false, false], [0, 1, 3]), (#[false, false, false, true, false, false, true, true, false, false, false], [0, 1, 2]), (#[true, true, false, false, false, false, false, false, false, false, false], [2, 3, 6]), (#[true, false, true, false, false, false, false, false, false, false, false], [1, 3, 6]), (#[true, false, false, true, false, false, false, false, false, false, false], [1, 2, 6]), (#[true, false, false, false, false, false, true, false, false, false, false], [1, 2, 3, 7]), (#[false, true, true, false, false, false, false, false, false, false, false], [0, 3, 6]), (#[false, true, false, true, false, false, false, false, false, false, false], [0, 2, 6]), (#[false, true, false, false, false, false, true, false, false, false, false], [0, 2, 3, 7]), (#[false, false, true, true, false, false, false, false, false, false, false], [0, 1, 4, 6]), (#[false, false, true, false, false, false, true, false, false, false, false], [0, 1, 3, 7]), (#[false, false, false, true, false, false, true, false, false, false, false], [0, 1, 2, 7]), (#[false, false, false, false, false, false, true, true, false, false, false], [0, 1, 2, 3]), (#[true, false, false, false, false, false, false, false, false, false, false], [1, 2, 3, 6]), (#[false, true, false, false, false, false, false, false, false, false, false], [0, 2, 3, 6]), (#[false, false, true, false, false, false, false, false, false, false, false], [0, 1, 3, 6]), (#[false, false, false, true, false, false, false, false, false, false, false], [0, 1, 2, 6]), (#[false, false, false, false, false, false, true, false, false, false, false], [0, 1, 2, 3, 7]), (#[false, false, false, false, false, false, false, false, false, false, false], [0, 1, 2, 3, 6])]
/-- An append whose outcome is known, as an operation of a region within a round. -/
theorem app_in13 {F : Fence} {n : Nat} {P : Program} {ops : Array Oper} {o : Oper} {a : Act} {K : Act → World → Prop} {Q : Exit → Act → World → Prop} {E : Prop} {w w' : World} {v x v' : Value} (hF : ∀ f, F.fn f) (hgd : o.guard = none) (s u : Operand) (t : TypeId)
    (ho : o.op = .call { callee := .builtin .append, args := #[s, u], argTypes := #[t, t] }) (hs : a.eval s = v) (hu : a.eval u = x) (hr : (Builtin.append_ #[t, t] o.type #[v, x]).run P w = .ok v' w') (hK : K (a.put o.dst v') w') :
    if Region.wanted o (yielded ops a.tmps) = true then Oper.wpIn F n P o a w K Q else E := by
  have hw : Region.wanted o (yielded ops a.tmps) = true := by simp [Region.wanted, hgd]
  rw [if_pos hw]
  unfold Oper.wpIn
  refine ⟨fun f _ => hF f, ?_⟩
  · rw [Oper.semAt_plain F _ _ (by rw [ho]; intro c hc; cases hc)]
    unfold execOp
    simp only [ho, resolve, invoke, builtin, Sem.run_bind, Sem.run_pure, Result.andThen_ok, List.map_toArray, List.map_cons, List.map_nil, hs, hu, hr]
    exact hK
/-- The mark of a range that is over. -/
def mark (D : Nat) : Deferred := { target := .collected D, args := #[] }
/-- A function leaves with marks. -/
theorem leaves_marks {F : Fence} {n : Nat} {P : Program} {fn : Func} {tmps : Array Value} {R : Ending → World → Prop} : ∀ (Ds : List Nat) (W : World), Ds.Nodup → (∀ D ∈ Ds, W.heap[D]? = some (.deferred (some []))) →
    (∀ W', (∀ q, q ∉ Ds → W'.heap[q]? = W.heap[q]?) → W'.heap.size = W.heap.size → W'.os = W.os → W'.tape = W.tape → W'.output = W.output → ∃ v, (results fn tmps).run P W' = .ok v W' ∧ R (.returned v) W') →
    LeavesInM F n P fn tmps R (Ds.map mark) .returning W
  | [], W, _, _, h => h W (fun _ _ => rfl) rfl rfl rfl rfl
  | D :: Ds, W, nd, hd, h => by
    have nd' := List.nodup_cons.1 nd
    refine ⟨by simp, .inl ⟨D, _, rfl, run_takeDeferred (hd D (List.mem_cons_self ..)), ?_⟩⟩
    refine leaves_marks Ds _ nd'.2 (fun E hE => ?_) (fun W' k1 k2 k3 k4 k5 => ?_)
    · have ne : E ≠ D := fun e => nd'.1 (by rw [← e]; exact hE)
      exact (World.putObj_heap_other ne).trans (hd E (List.mem_cons_of_mem _ hE))
    · refine h W' (fun q hq => ?_) (by rw [k2]; simp) k3 k4 k5
      have h1 : q ≠ D := fun e => hq (by rw [e]; exact List.mem_cons_self ..)
      exact (k1 q (fun e => hq (List.mem_cons_of_mem _ e))).trans (World.putObj_heap_other h1)
theorem rows_sz {α : Type} : ∀ (xs : List (List α)) (i : Nat) (h : i < xs.length), xs[i].length ≤ sizes xs
  | [], i, h => by simp at h
  | a :: xs, 0, h => by rw [sizes_cons]; simp
  | a :: xs, i + 1, h => by
    rw [sizes_cons]
    have := rows_sz xs i (by simpa using h)
    simp only [List.getElem_cons_succ]
    omega
theorem new_onec (w : World) (v : Value) (t : TypeId) : ∀ j u, [v][j]? = some u → (w.alloc (.cells #[v] t)).cell? ((⟨w.heap.size, 0, none⟩ : Addr).add j) = some u := by
  intro j u hu
  match j, hu with
  | 0, hu => simp at hu; subst hu; simp [Addr.add, go_sem]
  | j + 1, hu => simp at hu
theorem info_s13 : (Try.prog.info? 9).map (fun i => (i.zero, i.size, i.bytes)) = some (some (.string (ByteArray.mk #[])), 1, 16) := by kernel_rfl
section
variable {α : Type}
/-- Gathered so far: the lists ahead of i. -/
structure GaI (t tt : TypeId) (El : World → Lst α → Prop) (ok : α → Prop) (w : World) (xs : List (List α)) (n i : Nat) (Wr : Nat → Prop) (St : Nat → World → Prop) (Ld : List (Lst α)) (cur : Array Value) (Ds : List Nat) (W : World) : Prop where
  st : St i W
  gx : Gx Wr w W
  ab : W.heap[w.heap.size]? = some (.cells cur t (0, 0))
  cz : cur.size = n
  cl : ∀ j (h : j < Ld.length), ∃ bo c, cur[j]? = some (.slice bo Ld[j].l.length c) ∧ (0 < Ld[j].l.length → bo = some ⟨Ld[j].b, Ld[j].off, none⟩ ∧ c = Ld[j].c)
  cr : ∀ j, i ≤ j → j < n → cur[j]? = some (.slice none 0 0)
  ba : W.heap[w.heap.size + 1]? = some (.cells #[.slice (some ⟨w.heap.size, 0, none⟩) n n] tt (0, 0))
  ld : Ld.map Lst.l = xs.take i
  lo : ∀ s ∈ Ld, LOk ok W.heap.size s ∧ (s.l ≠ [] → w.heap.size + 2 ≤ s.b ∧ s.b ∉ Ds ∧ El W s)
  ds : ∀ D ∈ Ds, w.heap.size + 2 ≤ D ∧ W.heap[D]? = some (.deferred (some []))
  nd : Ds.Nodup
theorem GaI.gw {t tt : TypeId} {El : World → Lst α → Prop} {sz : Nat} (P' : ElP El sz) {ok : α → Prop} {w : World} {xs : List (List α)} {n i : Nat} {R Wr : Nat → Prop} {St : Nat → World → Prop} {Ld : List (Lst α)} {cur : Array Value} {Ds : List Nat} {W W' : World} (h : GaI t tt El ok w xs n i Wr St Ld cur Ds W) (ks : ∀ W W', St i W → W.heap.size ≤ W'.heap.size → (∀ q, R q ∨ Wr q → W'.heap[q]? = W.heap[q]?) → St i W') (hR : ∀ q, R q ∨ Wr q → q < w.heap.size) (g : Gw W W') : GaI t tt El ok w xs n i Wr St Ld cur Ds W' := by
  have a0 := blkl h.ab
  exact ⟨ks W W' h.st g.size (fun q hq => g.below.block q (by have := hR q hq; omega)), h.gx.tw g, (g.below.block _ a0).trans h.ab, h.cz, h.cl, h.cr, (g.below.block _ (blkl h.ba)).trans h.ba, h.ld, fun s hs => ⟨fun ne => by
    obtain ⟨x1, x2⟩ := (h.lo s hs).1 ne
    exact ⟨Nat.lt_of_lt_of_le x1 g.size, x2⟩, fun ne => ⟨((h.lo s hs).2 ne).1, ((h.lo s hs).2 ne).2.1, P'.keep ((h.lo s hs).2 ne).2.2 (g.below.block _ ((h.lo s hs).1 ne).1)⟩⟩, fun D hD => ⟨(h.ds D hD).1, (g.below.block _ (blkl (h.ds D hD).2)).trans (h.ds D hD).2⟩, h.nd⟩
/-- While a list is gone through. -/
structure GaJ (t te : TypeId) (sz : Nat) (cs : α → List Value) (w Wi : World) (n i : Nat) (Wr : Nat → Prop) (cur0 : Array Value) (pre : List α) (O : Nat → Prop) (v : Value) (cur : Array Value) (W : World) : Prop where
  gx : Gx Wr w W
  ab : W.heap[w.heap.size]? = some (.cells cur t (0, 0))
  cz : cur.size = n
  ci : cur[i]? = some v
  co : ∀ j, j ≠ i → cur[j]? = cur0[j]?
  ow : W.ownsRow (w.heap.size + 2) te sz v pre.length (pre.flatMap cs)
  vo : ∀ q, v.ownBlock = some q → O q
  kp : ∀ q, q < Wi.heap.size → w.heap.size < q → W.heap[q]? = Wi.heap[q]?
  sz : w.heap.size + 2 ≤ Wi.heap.size ∧ Wi.heap.size ≤ W.heap.size
theorem GaJ.ko {t te : TypeId} {sz : Nat} {cs : α → List Value} {w Wi : World} {n i : Nat} {Wr : Nat → Prop} {cur0 : Array Value} {pre : List α} {O : Nat → Prop} {v : Value} {cur : Array Value} {W W' : World} (h : GaJ t te sz cs w Wi n i Wr cur0 pre O v cur W) (hW : ∀ q, Wr q → q < w.heap.size) (k : Ko Wi.heap.size Wr O W W') : GaJ t te sz cs w Wi n i Wr cur0 pre O v cur W' := by
  have hz := h.sz
  have a0 := blkl h.ab
  have n0 : ∀ q, w.heap.size ≤ q → ¬ Wr q := fun q hq e => by have := hW q e; omega
  refine ⟨⟨k.os.trans h.gx.os, k.tape.trans h.gx.tape, k.output.trans h.gx.output, Nat.le_trans h.gx.size k.size, fun q hq hs => (k.block q (by have := h.gx.size; omega) (.inl ⟨by omega, hs⟩)).trans (h.gx.block q hq hs)⟩, (k.block _ a0 (.inl ⟨by omega, n0 _ (Nat.le_refl _)⟩)).trans h.ab, h.cz, h.ci, h.co, ?_, h.vo, fun q hq hl => (k.block q (by omega) (.inl ⟨hq, n0 q (by omega)⟩)).trans (h.kp q hq hl), ⟨hz.1, Nat.le_trans hz.2 k.size⟩⟩
  refine ⟨h.ow.1, ?_⟩
  rcases h.ow.2 with e | ⟨b, cap, cu, rfl, hb, hh, r⟩
  · exact .inl e
  · exact .inr ⟨b, cap, cu, rfl, hb, (k.block b (blkl hh) (.inr (h.vo b rfl))).trans hh, r⟩
theorem GaI.toJ {t tt te : TypeId} {El : World → Lst α → Prop} {ok : α → Prop} {w : World} {xs : List (List α)} {n i sz : Nat} {Wr : Nat → Prop} {St : Nat → World → Prop} {Ld : List (Lst α)} {cur : Array Value} {Ds : List Nat} {W : World} {cs : α → List Value} (h : GaI t tt El ok w xs n i Wr St Ld cur Ds W) (hi : i < n) : GaJ t te sz cs w W n i Wr cur [] (fun _ => False) (.slice none 0 0) cur W :=
  ⟨h.gx, h.ab, h.cz, h.cr i (Nat.le_refl _) hi, fun _ _ => rfl, World.ownsRow_nil _ _ _ _, (fun q e => by cases e), fun _ _ _ => rfl, ⟨by have := blkl h.ba; omega, Nat.le_refl _⟩⟩
/-- One more. -/
theorem GaJ.step {t te : TypeId} {sz : Nat} {cs : α → List Value} {w Wi : World} {n i : Nat} {Wr : Nat → Prop} {cur0 : Array Value} {pre : List α} {O : Nat → Prop} {v v' : Value} {cur : Array Value} {W2 W3 w7 : World} {x : α} {z : Nat} (h : GaJ t te sz cs w Wi n i Wr cur0 pre O v cur W2) (hi : i < n) (hO : ∀ q, O q → Wi.heap.size ≤ q) (hz : Wi.heap.size ≤ z ∧ z ≤ W2.heap.size) (g3 : Gw W2 W3)
    (r1 : w7.ownsRow (w.heap.size + 2) te sz v' (pre.length + 1) (pre.flatMap cs ++ cs x)) (r2 : W3.grownBy w7 v.ownBlock) (r4 : v'.ownBlock = v.ownBlock ∨ v'.ownBlock = some W3.heap.size) :
    w7.heap[w.heap.size]? = some (.cells cur t (0, 0)) ∧ GaJ t te sz cs w Wi n i Wr cur0 (pre ++ [x]) (fun q => (O q ∨ z ≤ q) ∧ q < w7.heap.size) v' (cur.setIfInBounds i v') (w7.setCell ⟨w.heap.size, i, none⟩ v') ∧ Gx (fun q => (q < Wi.heap.size ∧ q = w.heap.size) ∨ O q ∨ z ≤ q) W2 (w7.setCell ⟨w.heap.size, i, none⟩ v') := by
  have hs := h.sz
  have a0 := blkl h.ab
  have s3 := g3.size
  have vn : ∀ q, v.ownBlock = some q → Wi.heap.size ≤ q := fun q hq => hO q (h.vo q hq)
  have vn' : ∀ q, v'.ownBlock = some q → Wi.heap.size ≤ q ∧ (O q ∨ z ≤ q) := fun q hq => by
    rcases r4 with e | e
    · rw [e] at hq; exact ⟨vn q hq, .inl (h.vo q hq)⟩
    · rw [e] at hq; cases hq; exact ⟨by omega, .inr (by omega)⟩
  have b7 : w7.heap[w.heap.size]? = some (.cells cur t (0, 0)) := (r2.block _ (by omega) (fun e => by have := vn _ e.symm; omega)).trans ((g3.below.block _ a0).trans h.ab)
  have GX : Gx (fun q => (q < Wi.heap.size ∧ q = w.heap.size) ∨ O q ∨ z ≤ q) W2 (w7.setCell ⟨w.heap.size, i, none⟩ v') := ((g3.gx _).grown r2 (fun q hq => .inl (Or.inr (Or.inl (h.vo q hq))))).set (.inl (Or.inl ⟨by omega, rfl⟩)) _ _
  refine ⟨b7, ⟨?_, blk_set b7 _, by simp [h.cz], by simp [h.cz, hi], fun j hj => ?_, ?_, fun q hq => ⟨(vn' q hq).2, (World.ownsRow.lt r1 q hq).2⟩, fun q hq hl => ?_, ⟨hs.1, by have := GX.size; omega⟩⟩, GX⟩
  · refine h.gx.trans GX (fun q hq => .inr ?_)
    rcases hq with ⟨_, e⟩ | e | e
    · omega
    · have := hO q e; omega
    · omega
  · rw [Array.getElem?_setIfInBounds_ne (Ne.symm hj)]; exact h.co j hj
  · have r : w7.ownsRow (w.heap.size + 2) te sz v' (pre ++ [x]).length ((pre ++ [x]).flatMap cs) := by
      rw [List.length_append, List.flatMap_append]; simpa using r1
    refine ⟨r.1, ?_⟩
    rcases r.2 with e | ⟨b, cap, cu, e, hb, hh, rr⟩
    · exact .inl e
    · refine .inr ⟨b, cap, cu, e, hb, ?_, rr⟩
      have := vn' b (by rw [e]; rfl)
      exact (Go.Deep.blk_setCell_other _ _ _ _ (by show b ≠ w.heap.size; omega)).trans hh
  · have no : ¬ ((q < Wi.heap.size ∧ q = w.heap.size) ∨ O q ∨ z ≤ q) := fun e => by
      rcases e with ⟨_, e⟩ | e | e
      · omega
      · have := hO q e; omega
      · omega
    exact (GX.block q (by omega) no).trans (h.kp q hq hl)
/-- A list is over. -/
theorem GaJ.over {t tt te : TypeId} {El : World → Lst α → Prop} {sz : Nat} (P' : ElP El sz) {ok : α → Prop} {w Wi : World} {xs : List (List α)} {n i : Nat} {Wr : Nat → Prop} {St : Nat → World → Prop} {Ld : List (Lst α)} {cur0 cur : Array Value} {Ds : List Nat} {W : World} {cs : α → List Value} {O : Nat → Prop} {v : Value} {D : Nat} (h0 : GaI t tt El ok w xs n i Wr St Ld cur0 Ds Wi) (hi : i < xs.length) (h : GaJ t te sz cs w Wi n i Wr cur0 xs[i] O v cur W) (hO : ∀ q, O q → Wi.heap.size ≤ q) (hl : xs[i].length ≤ 4000000) (hok : ∀ x ∈ xs[i], ok x) (st : St (i + 1) W) (hD : Wi.heap.size ≤ D) (nD : ¬ O D) (bD : W.heap[D]? = some (.deferred (some [])))
    (ex : ∀ b, 0 < xs[i].length → (∀ k, k < xs[i].length * sz → W.cell? ⟨b, k, none⟩ = (xs[i].flatMap cs)[k]?) → ∀ c, El W ⟨b, 0, c, xs[i]⟩) :
    ∃ Ld', GaI t tt El ok w xs n (i + 1) Wr St Ld' cur (D :: Ds) W := by
  have hs := h.sz
  have ll : Ld.length = i := by have := congrArg List.length h0.ld; simp at this; omega
  have keep : ∀ q, q < Wi.heap.size → w.heap.size < q → W.heap[q]? = Wi.heap[q]? := h.kp
  have dlt : ∀ E ∈ Ds, E < Wi.heap.size := fun E hE => blkl (h0.ds E hE).2
  have old : ∀ s ∈ Ld, LOk ok W.heap.size s ∧ (s.l ≠ [] → w.heap.size + 2 ≤ s.b ∧ s.b ∉ (D :: Ds) ∧ El W s) := fun s hs' => by
    obtain ⟨q1, q2⟩ := h0.lo s hs'
    refine ⟨fun ne => ?_, fun ne => ⟨(q2 ne).1, ?_, ?_⟩⟩
    · obtain ⟨x1, x2⟩ := q1 ne
      exact ⟨by omega, x2⟩
    · have := (q1 ne).1
      intro e
      rcases List.mem_cons.1 e with e | e
      · omega
      · exact (q2 ne).2.1 e
    · exact P'.keep (q2 ne).2.2 (keep _ (q1 ne).1 (by have := (q2 ne).1; omega))
  obtain ⟨s, s1, s2, s3⟩ : ∃ s : Lst α, s.l = xs[i] ∧ (∃ bo c, v = .slice bo s.l.length c ∧ (0 < s.l.length → bo = some ⟨s.b, s.off, none⟩ ∧ c = s.c)) ∧ (LOk ok W.heap.size s ∧ (s.l ≠ [] → w.heap.size + 2 ≤ s.b ∧ s.b ∉ (D :: Ds) ∧ El W s)) := by
    rcases h.ow.2 with ⟨e, z⟩ | ⟨b, cap, cu, e, hb, hh, hc, _⟩
    · refine ⟨⟨0, 0, 0, xs[i]⟩, rfl, ⟨none, 0, by rw [e]; show _ = Value.slice none xs[i].length 0; rw [z], fun x => by dsimp only at x; omega⟩, fun ne => ?_, fun ne => ?_⟩
      · exact absurd (List.length_eq_zero_iff.1 z) ne
      · exact absurd (List.length_eq_zero_iff.1 z) ne
    · have bO := h.vo b (by rw [e]; rfl)
      have bl := hO b bO
      refine ⟨⟨b, 0, cap, xs[i]⟩, rfl, ⟨_, cap, e, fun _ => ⟨rfl, rfl⟩⟩, fun ne => ⟨blkl hh, hc, hl, hok⟩, fun ne => ⟨hb, fun q => ?_, ?_⟩⟩
      · rcases List.mem_cons.1 q with q | q
        · exact nD (by rw [← q]; exact bO)
        · have := dlt _ q; dsimp only at this; omega
      · refine ex b (List.length_pos_iff.2 ne) (fun k hk => ?_) cap
        have ow := h.ow
        rw [e] at ow
        exact World.ownsRow.cellAt ow k hk
  refine ⟨Ld ++ [s], ⟨st, h.gx, h.ab, h.cz, fun j hj => ?_, fun j j1 j2 => ?_, (keep _ (by omega) (by omega)).trans h0.ba, ?_, fun q hq => ?_, fun E hE => ?_, List.nodup_cons.2 ⟨fun e => by have := dlt D e; omega, h0.nd⟩⟩⟩
  · by_cases q : j < Ld.length
    · rw [List.getElem_append_left q, h.co j (by omega)]
      exact h0.cl j q
    · have e : j = Ld.length := by simp at hj; omega
      subst e
      obtain ⟨bo, c, x1, x2⟩ := s2
      rw [List.getElem_append_right (Nat.le_refl _)]
      simp only [Nat.sub_self, List.getElem_cons_zero]
      rw [ll, h.ci, x1]
      exact ⟨bo, c, rfl, x2⟩
  · rw [h.co j (by omega)]; exact h0.cr j (by omega) j2
  · rw [List.map_append, h0.ld, List.take_add_one, List.getElem?_eq_getElem hi]
    simp [s1]
  · rcases List.mem_append.1 hq with q | q
    · exact old _ q
    · have : ‹Lst α› = s := by simpa using q
      rw [this]; exact s3
  · rcases List.mem_cons.1 hE with e | e
    · rw [e]; exact ⟨by omega, bD⟩
    · obtain ⟨d1, d2⟩ := h0.ds E e
      exact ⟨d1, (keep E (dlt E e) (by omega)).trans d2⟩
end
theorem ex_1 {α : Type} (enc : α → Value) {W : World} {b cc : Nat} {l : List α} (hc : ∀ k, k < l.length * 1 → W.cell? ⟨b, k, none⟩ = (l.flatMap (fun x => [enc x]))[k]?) : El1 enc W ⟨b, 0, cc, l⟩ := fun i x hx => by
  have il : i < l.length := (List.getElem?_eq_some_iff.1 hx).1
  show W.cell? ⟨b, 0 + i, none⟩ = _
  rw [Nat.zero_add, hc i (by omega)]
  have : l.flatMap (fun x => [enc x]) = l.map enc := by
    clear hc hx il
    induction l with
    | nil => rfl
    | cons a l ih => simp [List.flatMap_cons, ih]
  rw [this, List.getElem?_map, show l[i]? = some x from hx]
  rfl
theorem ex_e {W : World} {b cc : Nat} {l : List Ent} (hc : ∀ k, k < l.length * 3 → W.cell? ⟨b, k, none⟩ = (l.flatMap ent3)[k]?) : ElE W ⟨b, 0, cc, l⟩ := fun i x hx => by
  have il : i < l.length := (List.getElem?_eq_some_iff.1 hx).1
  have e : l.getD i ent0 = x := by rw [List.getD_eq_getElem?_getD, show l[i]? = some x from hx]; rfl
  have c : ∀ j, j < 3 → W.cell? ⟨b, i * 3 + j, none⟩ = (ent3 x)[j]? := fun j hj => by
    rw [hc (i * 3 + j) (by omega), flat_e l i il j hj, e]
  show W.cell? ⟨b, 0 + i * 3, none⟩ = _ ∧ W.cell? ⟨b, 0 + i * 3 + 1, none⟩ = _ ∧ W.cell? ⟨b, 0 + i * 3 + 2, none⟩ = _
  rw [Nat.zero_add]
  exact ⟨c 0 (by decide), c 1 (by decide), c 2 (by decide)⟩
end Go.Proofs.Ythkahedhmfkhhaa
