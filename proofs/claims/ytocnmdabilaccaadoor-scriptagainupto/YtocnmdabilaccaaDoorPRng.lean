/- A range over a function that has memory of its own: who may change which block. -/
import Derived.RangeFuncNested
import Derived.RangeFuncBound
import Derived.RangeFuncCalls
import Derived.RangeFuncLeaves
import Derived.Shelf.Abstract
import Derived.OwnWalkIn
import Derived.TacticsInMore
import Derived.LoopNIn
import Derived.LoopIn
import Derived.Test.YtocnmdabilaccaaDoorPMem
namespace Go.Proofs.YtocnmdabilaccaaDoor
open Go.RowKit Go.Shelf
set_option linter.unusedVariables false

/-- What lay below n0 and is none of Wr, and what is one's own, is as it was. -/
structure Ko (n0 : Nat) (Wr O : Nat → Prop) (W W' : World) : Prop where
  os : W'.os = W.os
  tape : W'.tape = W.tape
  output : W'.output = W.output
  size : W.heap.size ≤ W'.heap.size
  block : ∀ q, q < W.heap.size → ((q < n0 ∧ ¬ Wr q) ∨ O q) → W'.heap[q]? = W.heap[q]?
theorem Ko.refl (n0 : Nat) (Wr O : Nat → Prop) (W : World) : Ko n0 Wr O W W := ⟨rfl, rfl, rfl, Nat.le_refl _, fun _ _ _ => rfl⟩
theorem Ko.trans {n0 : Nat} {Wr O : Nat → Prop} {a b c : World} (h : Ko n0 Wr O a b) (k : Ko n0 Wr O b c) : Ko n0 Wr O a c :=
  ⟨k.os.trans h.os, k.tape.trans h.tape, k.output.trans h.output, Nat.le_trans h.size k.size, fun q hq hs => (k.block q (Nat.lt_of_lt_of_le hq h.size) hs).trans (h.block q hq hs)⟩
theorem Ko.less {n0 n1 : Nat} {Wr O : Nat → Prop} {a b : World} (h : Ko n1 Wr O a b) (l : n0 ≤ n1) : Ko n0 Wr O a b :=
  ⟨h.os, h.tape, h.output, h.size, fun q hq hs => h.block q hq (hs.imp (fun x => ⟨by omega, x.2⟩) id)⟩
theorem Ko.gw {n0 : Nat} {Wr O : Nat → Prop} {a b : World} (h : Gw a b) : Ko n0 Wr O a b := ⟨h.below.os, h.below.tape, h.below.output, h.size, fun q hq _ => h.below.block q hq⟩
theorem Ko.gx {n0 : Nat} {Wr O S : Nat → Prop} {a b : World} (h : Gx S a b) (no : ∀ q, S q → (n0 ≤ q ∨ Wr q) ∧ ¬ O q) : Ko n0 Wr O a b := ⟨h.os, h.tape, h.output, h.size, fun q hq hs => h.block q hq (fun x => by
  obtain ⟨y, z⟩ := no q x
  rcases hs with ⟨h1, h2⟩ | h1
  · rcases y with y | y
    · omega
    · exact h2 y
  · exact z h1)⟩
/-- What an iterator does: it gives these things, in this order, as long as more are wanted. R: what it reads; Wr: what it writes; from A to Z. -/
def SeqO {α : Type} (F : Fence) (n : Nat) (P : Program) (g : Nat) (lb : Array Value) (encs : α → Array Value) (xs : List α) (R Wr : Nat → Prop) (A Z : World → Prop) : Prop :=
  ∀ (l : Nat) (M : Nat → Prop) (J Jx : List α → (Nat → Prop) → World → Prop) (W : World), A W → (∀ q, R q ∨ Wr q → q < W.heap.size ∧ ¬ M q) →
    (∀ pre O W1 W2, J pre O W1 → Ko W.heap.size Wr O W1 W2 → J pre O W2) → (∀ pre O W1 W2, Jx pre O W1 → Ko W.heap.size Wr O W1 W2 → Jx pre O W2) →
    (∀ pre x O W1, J pre O W1 → W.heap.size ≤ W1.heap.size → (pre ++ [x]) <+: xs → YieldAt F (n - 1) P l (encs x) W1 fun e W' => ∃ O', (∀ q, O' q → (O q ∨ W1.heap.size ≤ q) ∧ q < W'.heap.size) ∧ Gx (fun q => (q < W.heap.size ∧ M q) ∨ (W.heap.size ≤ q ∧ O q)) W1 W' ∧ ((e = .returned (.bool true) ∧ J (pre ++ [x]) O' W') ∨ (e = .returned (.bool false) ∧ Jx (pre ++ [x]) O' W'))) →
    J [] (fun _ => False) W →
    CallsIn F n P g (#[.func (.yield l) #[] #[]] ++ lb) W fun e W' => (∃ v, e = .returned v) ∧ Z W' ∧ W.heap.size ≤ W'.heap.size ∧ ((∃ O, J xs O W') ∨ (∃ pre O, pre <+: xs ∧ Jx pre O W'))
/-- A loop's record. -/
def lrec (fn : FuncId) (tmps : Array Value) (ps : Array Tmp) (assign body : Code) (d : Nat) (st : LoopState) (pe : Option Code) : Obj := .loop { state := st, pending := pe, fn := fn, tmps := tmps, params := ps, assign := assign, body := body, defers := d }
/-- How a round may end. -/
def postO {α : Type} (I : List α → (Nat → Prop) → World → Prop) (Ix : Code → List α → (Nat → Prop) → World → Prop) (n0 : Nat) (M : Nat → Prop) (ys : List α) (O : Nat → Prop) (z : Nat) (W2 : World) : Exit → Act → World → Prop
  | .normal, _, W' => ∃ O', (∀ q, O' q → (O q ∨ z ≤ q) ∧ q < W'.heap.size) ∧ Gx (fun q => (q < n0 ∧ M q) ∨ O q ∨ z ≤ q) W2 W' ∧ I ys O' W'
  | .ret, _, W' => ∃ O', (∀ q, O' q → (O q ∨ z ≤ q) ∧ q < W'.heap.size) ∧ Gx (fun q => (q < n0 ∧ M q) ∨ O q ∨ z ≤ q) W2 W' ∧ Ix .ret ys O' W'
  | .exit id, _, W' => ∃ O', (∀ q, O' q → (O q ∨ z ≤ q) ∧ q < W'.heap.size) ∧ Gx (fun q => (q < n0 ∧ M q) ∨ O q ∨ z ≤ q) W2 W' ∧ Ix (.exit id) ys O' W'
  | .goto t, _, W' => ∃ O', (∀ q, O' q → (O q ∨ z ≤ q) ∧ q < W'.heap.size) ∧ Gx (fun q => (q < n0 ∧ M q) ∨ O q ∨ z ≤ q) W2 W' ∧ Ix (.goto t) ys O' W'
  | .panic _, _, _ => False
  | .outgrown, _, _ => False
theorem putObj_ko {W : World} {l : Nat} (o : Obj) {n0 : Nat} {Wr O : Nat → Prop} (h1 : n0 ≤ l) (h2 : ¬ O l) : Ko n0 Wr O W (W.putObj l o) :=
  ⟨rfl, rfl, rfl, by simp, fun q hq hs => World.putObj_heap_other (fun e => by
    rcases hs with ⟨x, _⟩ | x
    · omega
    · rw [e] at x; exact h2 x)⟩
theorem putObj_gx {W : World} {l : Nat} (o : Obj) {S : Nat → Prop} (h : S l) : Gx S W (W.putObj l o) := ⟨rfl, rfl, rfl, by simp, fun q _ hs => World.putObj_heap_other (fun e => hs (by rw [e]; exact h))⟩

section
variable {α : Type} {F : Fence} {n : Nat} {P : Program} {ps : Array Tmp} {assign body : Code} {gf : Nat} {lb : Array Value} {encs : α → Array Value} {xs : List α} {R Wr : Nat → Prop} {A Z : World → Prop}
/-- What a round is to do. -/
def RoundO (F : Fence) (m : Nat) (P : Program) (ps : Array Tmp) (assign body : Code) (encs : α → Array Value) (xs : List α) (tmps : Array Value) (n0 : Nat) (M : Nat → Prop) (I : List α → (Nat → Prop) → World → Prop) (Ix : Code → List α → (Nat → Prop) → World → Prop) (l n1 : Nat) : Prop :=
  ∀ (pre : List α) (x : α) (O : Nat → Prop) (W : World), I pre O W → n1 ≤ W.heap.size → (∃ r, W.heap[l]? = some (.loop r)) → (∀ q, O q → n1 ≤ q) → (pre ++ [x]) <+: xs →
    assign.wpIn (F.inRound l) m P (Exit.then (fun a' W' => Gw W W' ∧ ∀ W2, I pre O W2 → (∃ r, W2.heap[l]? = some (.loop r)) → (∀ q, q ≠ l → W2.heap[q]? = W'.heap[q]?) → W2.heap.size = W'.heap.size → body.wpIn (F.inRound l) m P (postO I Ix n0 M (pre ++ [x]) O W.heap.size W2) a' W2) (fun _ _ _ => False))
      { tmps := (ps.zip (encs x)).foldl (fun t (p, v) => t.setIfInBounds p v) tmps, defers := [] } W
theorem range_core {w0 W1 : World} {l d fn : Nat} {tmps : Array Value} (hfn : F.fn fn) (l0 : w0.heap.size ≤ l) (hW : Gw w0 W1)
    (hl : W1.heap[l]? = some (lrec fn tmps ps assign body d .ready none)) (hseq : SeqO F (n - 1) P gf lb encs xs R Wr A Z) (hA : A W1) (hps : ∀ x, (encs x).size = ps.size)
    {M : Nat → Prop} (hR : ∀ q, R q ∨ Wr q → q < w0.heap.size ∧ ¬ M q) (hM : ∀ q, M q → q < w0.heap.size)
    {I : List α → (Nat → Prop) → World → Prop} {Ix : Code → List α → (Nat → Prop) → World → Prop}
    (hI : ∀ pre O W1 W2, I pre O W1 → Ko w0.heap.size Wr O W1 W2 → I pre O W2) (hIx : ∀ c pre O W1 W2, Ix c pre O W1 → Ko w0.heap.size Wr O W1 W2 → Ix c pre O W2)
    (h0 : I [] (fun _ => False) W1) (hr : RoundO F (n - 1 - 1) P ps assign body encs xs tmps w0.heap.size M I Ix l W1.heap.size) :
    CallsIn F (n - 1) P gf (#[.func (.yield l) #[] #[]] ++ lb) W1 fun e W2 => (∃ v, e = .returned v) ∧ Z W2 ∧ W1.heap.size ≤ W2.heap.size ∧
      ((∃ O, I xs O W2 ∧ W2.heap[l]? = some (lrec fn tmps ps assign body d .ready none) ∧ ∀ q, O q → W1.heap.size ≤ q) ∨ (∃ pre O c, pre <+: xs ∧ Ix c pre O W2 ∧ W2.heap[l]? = some (lrec fn tmps ps assign body d .done (some c)) ∧ ∀ q, O q → W1.heap.size ≤ q)) := by
  have ll : l < W1.heap.size := blkl hl
  have s1 := hW.size
  have nw : ¬ Wr l := fun e => by have := (hR l (.inr e)).1; omega
  refine (hseq l (fun q => M q ∨ q = l)
    (fun pre O W => I pre O W ∧ W.heap[l]? = some (lrec fn tmps ps assign body d .ready none) ∧ (∀ q, O q → W1.heap.size ≤ q) ∧ W1.heap.size ≤ W.heap.size)
    (fun pre O W => ∃ c, Ix c pre O W ∧ W.heap[l]? = some (lrec fn tmps ps assign body d .done (some c)) ∧ (∀ q, O q → W1.heap.size ≤ q))
    W1 hA (fun q hq => ⟨by have := (hR q hq).1; omega, fun e => by
      rcases e with e | e
      · exact (hR q hq).2 e
      · have := (hR q hq).1; omega⟩)
    (fun pre O X Y h k => ⟨hI _ _ _ _ h.1 (k.less s1), (k.block l (blkl h.2.1) (.inl ⟨ll, nw⟩)).trans h.2.1, h.2.2.1, Nat.le_trans h.2.2.2 k.size⟩)
    (fun pre O X Y h k => by
      obtain ⟨c, h1, h2, h3⟩ := h
      exact ⟨c, hIx _ _ _ _ _ h1 (k.less s1), (k.block l (blkl h2) (.inl ⟨ll, nw⟩)).trans h2, h3⟩)
    ?_ ⟨h0, hl, fun _ e => e.elim, Nat.le_refl _⟩).mono ?_
  · rintro pre x O W ⟨i1, i2, i3, i4⟩ _ px
    have lw : l < W.heap.size := blkl i2
    have nO : ¬ O l := fun e => by have := i3 l e; omega
    have hy := run_yield (P := P) (args := encs x) i2 (hps x)
    refine ⟨fn, _, assign, body, hy, roundIn_of_wpIn hfn (wpIn_mono (hr pre x O W i1 i4 ⟨_, i2⟩ i3 px) ?_)⟩
    intro e a' W' hp
    cases e with
    | normal =>
      obtain ⟨gw, hb⟩ := hp
      have l' : W'.heap[l]? = some (lrec fn tmps ps assign body d .ready none) := (gw.below.block l lw).trans i2
      refine ⟨_, run_beginRound l' rfl, ?_⟩
      obtain ⟨W2, hW2⟩ : ∃ W2, W'.putObj l (lrec fn tmps ps assign body d .busy none) = W2 := ⟨_, rfl⟩
      have hW2' : W'.putObj l (.loop { state := .busy, pending := none, fn := fn, tmps := tmps, params := ps, assign := assign, body := body, defers := d }) = W2 := hW2
      rw [hW2']
      have b2 : W2.heap[l]? = some (lrec fn tmps ps assign body d .busy none) := by rw [← hW2]; exact World.putObj_heap_same (blkl l')
      have k2 : ∀ q, q ≠ l → W2.heap[q]? = W'.heap[q]? := fun q hq => by rw [← hW2]; exact World.putObj_heap_other hq
      have z2 : W2.heap.size = W'.heap.size := by rw [← hW2]; simp
      have i2' : I pre O W2 := by
        rw [← hW2]
        exact hI _ _ _ _ (hI _ _ _ _ i1 (Ko.gw gw)) (putObj_ko _ l0 nO)
      have G2 : ∀ S : Nat → Prop, S l → Gx S W W2 := fun S hS => by rw [← hW2]; exact (gw.gx S).trans (putObj_gx _ hS) (fun q hq => .inl hq)
      refine wpIn_mono (hb W2 i2' ⟨_, b2⟩ k2 z2) ?_
      have fin : ∀ (jump : Option Code) (W3 : World) (O' : Nat → Prop), (∀ q, O' q → (O q ∨ W.heap.size ≤ q) ∧ q < W3.heap.size) → Gx (fun q => (q < w0.heap.size ∧ M q) ∨ O q ∨ W.heap.size ≤ q) W2 W3 →
          ∃ W4, (Instr.endRound l jump).run P W3 = .ok (.bool jump.isNone) W4 ∧ Ko w0.heap.size Wr O' W3 W4 ∧ W4.heap[l]? = some (lrec fn tmps ps assign body d (if jump.isNone then .ready else .done) jump) ∧ (∀ q, O' q → W1.heap.size ≤ q) ∧ (∀ q, O' q → (O q ∨ W.heap.size ≤ q) ∧ q < W4.heap.size) ∧ W1.heap.size ≤ W4.heap.size ∧ Gx (fun q => (q < W1.heap.size ∧ (M q ∨ q = l)) ∨ (W1.heap.size ≤ q ∧ O q)) W W4 := fun jump W3 O' o1 g3 => by
        have l3 : W3.heap[l]? = some (lrec fn tmps ps assign body d .busy none) := (g3.block l (blkl b2) (fun e => by
          rcases e with ⟨x, _⟩ | x | x
          · omega
          · exact nO x
          · omega)).trans b2
        have o2 : ∀ q, O' q → W1.heap.size ≤ q := fun q hq => by
          rcases (o1 q hq).1 with x | x
          · exact i3 q x
          · omega
        refine ⟨_, run_endRound (P := P) jump l3, putObj_ko _ l0 (fun e => by have := o2 l e; omega), World.putObj_heap_same (blkl l3), o2, fun q hq => ⟨(o1 q hq).1, by have := (o1 q hq).2; simpa using this⟩, ?_, ?_⟩
        · have := g3.size; have := gw.size; simp; omega
        · refine ((G2 _ (Or.inl ⟨ll, Or.inr rfl⟩)).trans g3 (fun q hq => ?_)).trans (putObj_gx (S := fun q => q = l) _ rfl) (fun q hq => .inl (Or.inl ⟨by rw [hq]; exact ll, Or.inr hq⟩))
          rcases hq with ⟨x, y⟩ | x | x
          · exact .inl (Or.inl ⟨by omega, Or.inl y⟩)
          · exact .inl (Or.inr ⟨i3 q x, x⟩)
          · exact .inr x
      intro e a3 W3 hp
      cases e with
      | normal =>
        obtain ⟨O', o1, g3, i5⟩ := hp
        obtain ⟨W4, r1, k4, l4, o2, o3, z4, g4⟩ := fin none W3 O' o1 g3
        exact ⟨_, W4, r1, O', o3, g4, .inl ⟨rfl, hI _ _ _ _ i5 k4, l4, o2, z4⟩⟩
      | ret =>
        obtain ⟨O', o1, g3, i5⟩ := hp
        obtain ⟨W4, r1, k4, l4, o2, o3, z4, g4⟩ := fin (some .ret) W3 O' o1 g3
        exact ⟨_, W4, r1, O', o3, g4, .inr ⟨rfl, .ret, hIx _ _ _ _ _ i5 k4, l4, o2⟩⟩
      | exit id =>
        obtain ⟨O', o1, g3, i5⟩ := hp
        obtain ⟨W4, r1, k4, l4, o2, o3, z4, g4⟩ := fin (some (.exit id)) W3 O' o1 g3
        exact ⟨_, W4, r1, O', o3, g4, .inr ⟨rfl, .exit id, hIx _ _ _ _ _ i5 k4, l4, o2⟩⟩
      | goto t =>
        obtain ⟨O', o1, g3, i5⟩ := hp
        obtain ⟨W4, r1, k4, l4, o2, o3, z4, g4⟩ := fin (some (.goto t)) W3 O' o1 g3
        exact ⟨_, W4, r1, O', o3, g4, .inr ⟨rfl, .goto t, hIx _ _ _ _ _ i5 k4, l4, o2⟩⟩
      | panic ch => exact hp.elim
      | outgrown => exact hp.elim
    | ret => exact hp
    | exit id => exact hp
    | goto t => exact hp
    | panic ch => exact hp
    | outgrown => exact hp
  · rintro e W2 ⟨hv, hz, hs, (⟨O, h1, h2, h3, _⟩ | ⟨pre, O, hp, c, h1, h2, h3⟩)⟩
    · exact ⟨hv, hz, hs, .inl ⟨O, h1, h2, h3⟩⟩
    · exact ⟨hv, hz, hs, .inr ⟨pre, O, c, hp, h1, h2, h3⟩⟩
theorem RoundO.mono {m : Nat} {tmps : Array Value} {n0 n0' l n1 : Nat} {M : Nat → Prop} {I I' : List α → (Nat → Prop) → World → Prop} {Ix Ix' : Code → List α → (Nat → Prop) → World → Prop}
    (h : RoundO F m P ps assign body encs xs tmps n0 M I Ix l n1) (hM : ∀ q, M q → q < n0 ∧ q < n0') (D : World → Prop)
    (e : ∀ pre O W, I' pre O W → I pre O W ∧ D W)
    (k : ∀ (ys : List α) (O O' : Nat → Prop) (z : Nat) (W W' : World), D W → (∀ q, O q → n1 ≤ q) → n1 ≤ z → Gx (fun q => (q < n0 ∧ M q) ∨ O q ∨ z ≤ q) W W' → (I ys O' W' → I' ys O' W') ∧ (∀ c, Ix c ys O' W' → Ix' c ys O' W')) :
    RoundO F m P ps assign body encs xs tmps n0' M I' Ix' l n1 := by
  intro pre x O W i hn hr ho hx
  refine wpIn_mono (h pre x O W (e _ _ _ i).1 hn hr ho hx) ?_
  intro ex a' W' hp
  cases ex with
  | normal =>
    obtain ⟨gw, hb⟩ := hp
    refine ⟨gw, fun W2 i2 r2 k2 z2 => wpIn_mono (hb W2 (e _ _ _ i2).1 r2 k2 z2) ?_⟩
    have cv : ∀ W3, Gx (fun q => (q < n0 ∧ M q) ∨ O q ∨ W.heap.size ≤ q) W2 W3 → Gx (fun q => (q < n0' ∧ M q) ∨ O q ∨ W.heap.size ≤ q) W2 W3 := fun W3 g => g.mono fun q hq => .inl (by
      rcases hq with ⟨_, y⟩ | y
      · exact .inl ⟨(hM q y).2, y⟩
      · exact .inr y)
    intro ex3 a3 W3 hp3
    cases ex3 with
    | normal =>
      obtain ⟨O', o1, g3, i3⟩ := hp3
      exact ⟨O', o1, cv _ g3, (k _ _ _ _ _ _ (e _ _ _ i2).2 ho hn g3).1 i3⟩
    | ret =>
      obtain ⟨O', o1, g3, i3⟩ := hp3
      exact ⟨O', o1, cv _ g3, (k _ _ _ _ _ _ (e _ _ _ i2).2 ho hn g3).2 _ i3⟩
    | exit id =>
      obtain ⟨O', o1, g3, i3⟩ := hp3
      exact ⟨O', o1, cv _ g3, (k _ _ _ _ _ _ (e _ _ _ i2).2 ho hn g3).2 _ i3⟩
    | goto t =>
      obtain ⟨O', o1, g3, i3⟩ := hp3
      exact ⟨O', o1, cv _ g3, (k _ _ _ _ _ _ (e _ _ _ i2).2 ho hn g3).2 _ i3⟩
    | panic ch => exact hp3
    | outgrown => exact hp3
  | ret => exact hp
  | exit id => exact hp
  | goto t => exact hp
  | panic ch => exact hp
  | outgrown => exact hp
/-- The statement, at the outermost. -/
theorem range_out {g : Operand} {Q : Exit → Act → World → Prop} {a : Act} {w : World} (hro : F.round = none) (h1 : 1 ≤ n) (hg : a.eval g = .func (.func gf) #[] lb) (hFg : F.fn gf) (eg : ∀ args w, (callFunc gf args).run P w = .ok (.enter gf args) w)
    (hseq : SeqO F (n - 1) P gf lb encs xs R Wr A Z) (hA : ∀ W, Gw w W → A W) (hps : ∀ x, (encs x).size = ps.size)
    (M : Nat → Prop) (hR : ∀ q, R q ∨ Wr q → q < w.heap.size ∧ ¬ M q) (hM : ∀ q, M q → q < w.heap.size)
    (I : List α → (Nat → Prop) → World → Prop) (Ix : Code → List α → (Nat → Prop) → World → Prop)
    (hI : ∀ pre O W1 W2, I pre O W1 → Ko w.heap.size Wr O W1 W2 → I pre O W2) (hIx : ∀ c pre O W1 W2, Ix c pre O W1 → Ko w.heap.size Wr O W1 W2 → Ix c pre O W2) (hZ : ∀ W W', Z W → W.heap.size ≤ W'.heap.size → (∀ q, q < w.heap.size → W'.heap[q]? = W.heap[q]?) → Z W')
    (h0 : I [] (fun _ => False) w) (hr : ∀ l n1, w.heap.size ≤ l → l < n1 → RoundO F (n - 1 - 1) P ps assign body encs xs a.tmps w.heap.size M I Ix l n1)
    (hdone : ∀ (D : Nat) (O : Nat → Prop) (W : World), w.heap.size ≤ D → ¬ O D → (∀ q, O q → w.heap.size ≤ q) → I xs O W → Z W → W.heap[D]? = some (.deferred (some [])) → Q .normal { a with defers := { target := .collected D, args := #[] } :: a.defers } W)
    (hstop : ∀ (D : Nat) (c : Code) (pre : List α) (O : Nat → Prop) (W : World), w.heap.size ≤ D → ¬ O D → (∀ q, O q → w.heap.size ≤ q) → pre <+: xs → Ix c pre O W → Z W → W.heap[D]? = some (.deferred (some [])) → c.wpIn F n P Q { a with defers := { target := .collected D, args := #[] } :: a.defers } W) :
    (Code.rangeFunc g ps assign body).wpIn F n P Q a w := by
  refine wpIn_rangeFunc ?_
  intro fn hfn
  rw [hro]
  obtain ⟨D, hD⟩ : ∃ D, w.heap.size = D := ⟨_, rfl⟩
  obtain ⟨w0, hw0⟩ : ∃ w0, w.alloc (.deferred (some [])) = w0 := ⟨_, rfl⟩
  obtain ⟨W1, hW1⟩ : ∃ W1, w0.alloc (lrec fn a.tmps ps assign body D .ready none) = W1 := ⟨_, rfl⟩
  have z0 : w0.heap.size = D + 1 := by rw [← hw0]; simp [hD]
  have z1 : W1.heap.size = D + 1 + 1 := by rw [← hW1]; simp [z0]
  have g0 : Gw w w0 := by rw [← hw0]; exact ⟨(Below.refl _ _).alloc (Nat.le_refl _) _⟩
  have g1 : Gw w0 W1 := by rw [← hW1]; exact ⟨(Below.refl _ _).alloc (Nat.le_refl _) _⟩
  have bD : w0.heap[D]? = some (.deferred (some [])) := by rw [← hw0, ← hD]; exact World.alloc_heap_new w _
  have bl : W1.heap[D + 1]? = some (lrec fn a.tmps ps assign body D .ready none) := by
    rw [← hW1]; have := World.alloc_heap_new w0 (lrec fn a.tmps ps assign body D .ready none); rwa [z0] at this
  have bD1 : W1.heap[D]? = some (.deferred (some [])) := (g1.below.block D (by omega)).trans bD
  have mD : ∀ q, M q → q < D := fun q hq => by have := hM q hq; omega
  refine ⟨D + 1, [{ target := .collected D, args := #[] }], W1, { target := .fn (.func gf) lb, args := #[.func (.yield (D + 1)) #[] #[]] }, W1, gf, #[.func (.yield (D + 1)) #[] #[]] ++ lb, W1, ?_, ?_, ?_, ?_, fun _ => h1, ?_⟩
  · rw [← hW1, ← hw0, ← hD]; exact run_enterLoop_outer _ _ _ _ _
  · simp only [resolve, hg]
    simp [go_sem]
  · intro f' hf'; simp [Target.leads] at hf'; subst hf'; exact hFg
  · simp [invoke, go_sem, eg]
  · have RO := hr (D + 1) W1.heap.size (by omega) (by omega)
    rw [hD] at RO hI hIx hR hZ
    have core := range_core (n := n) (M := M) (I := fun pre O W => I pre O W ∧ W.heap[D]? = some (.deferred (some []))) (Ix := fun c pre O W => Ix c pre O W ∧ W.heap[D]? = some (.deferred (some []))) hfn (by omega : w0.heap.size ≤ D + 1) g1 bl hseq (hA W1 (g0.trans g1)) hps
      (fun q hq => ⟨by have := (hR q hq).1; omega, (hR q hq).2⟩) (fun q hq => by have := mD q hq; omega)
      (fun pre O X Y h k => ⟨hI _ _ _ _ h.1 (k.less (by omega)), (k.block D (blkl h.2) (.inl ⟨by omega, fun e => by have := (hR D (.inr e)).1; omega⟩)).trans h.2⟩)
      (fun c pre O X Y h k => ⟨hIx _ _ _ _ _ h.1 (k.less (by omega)), (k.block D (blkl h.2) (.inl ⟨by omega, fun e => by have := (hR D (.inr e)).1; omega⟩)).trans h.2⟩)
      ⟨hI _ _ _ _ h0 (Ko.gw (g0.trans g1)), bD1⟩
      (RoundO.mono RO (fun q hq => ⟨mD q hq, by have := mD q hq; omega⟩) (fun W => W.heap[D]? = some (.deferred (some []))) (fun _ _ _ h => h) (fun ys O O' z W W' hd ho hz g => by
        have bb : W'.heap[D]? = some (.deferred (some [])) := (g.block D (blkl hd) (fun e => by
          rcases e with ⟨x, y⟩ | x | x
          · omega
          · have := ho D x; omega
          · omega)).trans hd
        exact ⟨fun h => ⟨h, bb⟩, fun c h => ⟨h, bb⟩⟩))
    refine core.mono ?_
    rintro e W2 ⟨⟨v, rfl⟩, hz, hs, (⟨O, ⟨i1, i2⟩, l2, o2⟩ | ⟨pre, O, c, hp, ⟨i1, i2⟩, l2, o2⟩)⟩
    · refine ⟨none, _, run_endLoop (P := P) l2 (by simp), hdone D O _ (by omega) (fun e => by have := o2 D e; omega) (fun q hq => by have := o2 q hq; omega) (hI _ _ _ _ i1 (putObj_ko _ (by omega) (fun e => by have := o2 _ e; omega))) (hZ _ _ hz (by simp) fun q hq => World.putObj_heap_other (by omega)) ((World.putObj_heap_other (by omega)).trans i2)⟩
    · refine ⟨some c, _, run_endLoop (P := P) l2 (by simp), hstop D c pre O _ (by omega) (fun e => by have := o2 D e; omega) (fun q hq => by have := o2 q hq; omega) hp (hIx _ _ _ _ _ i1 (putObj_ko _ (by omega) (fun e => by have := o2 _ e; omega))) (hZ _ _ hz (by simp) fun q hq => World.putObj_heap_other (by omega)) ((World.putObj_heap_other (by omega)).trans i2)⟩
/-- The statement, within a round. -/
theorem range_in {g : Operand} {Q : Exit → Act → World → Prop} {a : Act} {w : World} {l0 : Nat} {r0 : Loop} (hro : F.round = some l0) (hl0 : w.heap[l0]? = some (.loop r0)) (h1 : 1 ≤ n) (hg : a.eval g = .func (.func gf) #[] lb) (hFg : F.fn gf) (eg : ∀ args w, (callFunc gf args).run P w = .ok (.enter gf args) w)
    (hseq : SeqO F (n - 1) P gf lb encs xs R Wr A Z) (hA : ∀ W, Gw w W → A W) (hps : ∀ x, (encs x).size = ps.size)
    (M : Nat → Prop) (hR : ∀ q, R q ∨ Wr q → q < w.heap.size ∧ ¬ M q) (hM : ∀ q, M q → q < w.heap.size)
    (I : List α → (Nat → Prop) → World → Prop) (Ix : Code → List α → (Nat → Prop) → World → Prop)
    (hI : ∀ pre O W1 W2, I pre O W1 → Ko w.heap.size Wr O W1 W2 → I pre O W2) (hIx : ∀ c pre O W1 W2, Ix c pre O W1 → Ko w.heap.size Wr O W1 W2 → Ix c pre O W2) (hZ : ∀ W W', Z W → W.heap.size ≤ W'.heap.size → (∀ q, q < w.heap.size → W'.heap[q]? = W.heap[q]?) → Z W')
    (h0 : I [] (fun _ => False) w) (hr : ∀ l n1, w.heap.size ≤ l → l < n1 → RoundO F (n - 1 - 1) P ps assign body encs xs a.tmps w.heap.size M I Ix l n1)
    (hdone : ∀ (O : Nat → Prop) (W : World), (∀ q, O q → w.heap.size ≤ q) → I xs O W → Z W → Q .normal a W)
    (hstop : ∀ (c : Code) (pre : List α) (O : Nat → Prop) (W : World), (∀ q, O q → w.heap.size ≤ q) → pre <+: xs → Ix c pre O W → Z W → c.wpIn F n P Q a W) :
    (Code.rangeFunc g ps assign body).wpIn F n P Q a w := by
  refine wpIn_rangeFunc ?_
  intro fn hfn
  rw [hro]
  obtain ⟨l, hl⟩ : ∃ l, w.heap.size = l := ⟨_, rfl⟩
  obtain ⟨W1, hW1⟩ : ∃ W1, w.alloc (lrec fn a.tmps ps assign body r0.defers .ready none) = W1 := ⟨_, rfl⟩
  have z1 : W1.heap.size = l + 1 := by rw [← hW1]; simp [hl]
  have g1 : Gw w W1 := by rw [← hW1]; exact ⟨(Below.refl _ _).alloc (Nat.le_refl _) _⟩
  have bl : W1.heap[l]? = some (lrec fn a.tmps ps assign body r0.defers .ready none) := by
    rw [← hW1, ← hl]; exact World.alloc_heap_new w _
  refine ⟨l, [], W1, { target := .fn (.func gf) lb, args := #[.func (.yield l) #[] #[]] }, W1, gf, #[.func (.yield l) #[] #[]] ++ lb, W1, ?_, ?_, ?_, ?_, fun _ => h1, ?_⟩
  · rw [← hW1, ← hl]; exact run_enterLoop_inner hl0 _ _ _ _ _
  · simp only [resolve, hg]
    simp [go_sem]
  · intro f' hf'; simp [Target.leads] at hf'; subst hf'; exact hFg
  · simp [invoke, go_sem, eg]
  · have core := range_core (n := n) (M := M) (I := I) (Ix := Ix) hfn (by omega : w.heap.size ≤ l) g1 bl hseq (hA W1 g1) hps hR hM hI hIx (hI _ _ _ _ h0 (Ko.gw g1)) (hr l W1.heap.size (by omega) (by omega))
    refine core.mono ?_
    rintro e W2 ⟨⟨v, rfl⟩, hz, hs, (⟨O, i1, l2, o2⟩ | ⟨pre, O, c, hp, i1, l2, o2⟩)⟩
    · exact ⟨none, _, run_endLoop (P := P) l2 (by simp), hdone O _ (fun q hq => by have := o2 q hq; omega) (hI _ _ _ _ i1 (putObj_ko _ (by omega) (fun e => by have := o2 _ e; omega))) (hZ _ _ hz (by simp) fun q hq => World.putObj_heap_other (by omega))⟩
    · exact ⟨some c, _, run_endLoop (P := P) l2 (by simp), hstop c pre O _ (fun q hq => by have := o2 q hq; omega) hp (hIx _ _ _ _ _ i1 (putObj_ko _ (by omega) (fun e => by have := o2 _ e; omega))) (hZ _ _ hz (by simp) fun q hq => World.putObj_heap_other (by omega))⟩
end
end Go.Proofs.YtocnmdabilaccaaDoor
