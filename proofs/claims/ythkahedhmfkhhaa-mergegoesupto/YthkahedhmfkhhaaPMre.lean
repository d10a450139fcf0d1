/- Package merge: what a range over Merge tells. -/
import Derived.Test.YthkahedhmfkhhaaPTye
import Derived.Test.YthkahedhmfkhhaaPGae
namespace Go.Proofs.Ythkahedhmfkhhaa
open Go.RowKit Go.Shelf
set_option linter.unusedVariables false

attribute [local go_sem] Oper.semAt_some

/-- What Merge answers, in memory. -/
structure MrAe (K bk bl : Nat) (ao : Option Addr) (n c : Nat) (fv : Nat → Nat × Array Value) (Wr : Nat → Prop) (W : World) : Prop where
  k : W.heap[bk]? = some (.cells #[.func (.func K) #[] #[]] 34 (0, 0))
  l : W.heap[bl]? = some (.cells #[.slice ao n c] 26 (0, 0))
  r : FRow fv W ao n Wr
def rdMe (R : Nat → Prop) (bk bl : Nat) (ao : Option Addr) (n : Nat) (q : Nat) : Prop := R q ∨ q = bk ∨ q = bl ∨ (0 < n ∧ ∃ a : Addr, ao = some a ∧ a.block = q)
theorem MrAe.keep {K bk bl : Nat} {ao : Option Addr} {n c : Nat} {fv : Nat → Nat × Array Value} {R Wr : Nat → Prop} {W W' : World} (h : MrAe K bk bl ao n c fv Wr W) (z : W.heap.size ≤ W'.heap.size) (k : ∀ q, rdMe R bk bl ao n q → W'.heap[q]? = W.heap[q]?) : MrAe K bk bl ao n c fv Wr W' :=
  ⟨(k bk (.inr (.inl rfl))).trans h.k, (k bl (.inr (.inr (.inl rfl)))).trans h.l, ⟨fun hn => by
    obtain ⟨b, off, e, h1, h2, h3⟩ := h.r.cells hn
    exact ⟨b, off, e, Nat.lt_of_lt_of_le h1 z, h2, fun i hi => (World.cell?_of_block (a := ⟨b, off + i, none⟩) (k b (.inr (.inr (.inr ⟨hn, _, e, rfl⟩))))).trans (h3 i hi)⟩⟩⟩
set_option maxRecDepth 100000 in
set_option maxHeartbeats 4000000 in
theorem merge1_e (K : Nat) (key : Ent → Int) (FK : FnK encE key Ent.ok K) (bk bl : Nat) (ao : Option Addr) (n c : Nat) (xs : List (List Ent)) (fv : Nat → Nat × Array Value) (R Wr : Nat → Prop) (St : Nat → World → Prop) (FM : Fam encE xs R Wr St fv) (hx : xs.length = n) (hn : n ≤ 2000000) (hs : sizes xs ≤ 2000000) (hok : ∀ l ∈ xs, ∀ x ∈ l, Ent.ok x) (nk : ¬ Wr bk ∧ ¬ Wr bl) (out : List Ent) (hM : Mg key xs out) :
    SeqO Fence.wide 2 Try.prog 25 #[.pointer (some ⟨bk, 0, none⟩), .pointer (some ⟨bl, 0, none⟩)] (fun x : Ent => #[encE x]) out (rdMe R bk bl ao n) Wr (fun W => MrAe K bk bl ao n c fv Wr W ∧ St 0 W) (fun W => MrAe K bk bl ao n c fv Wr W ∧ St n W) := by
  intro l M J Jx W hA hRM hJ hJx hY h0
  obtain ⟨mr, st⟩ := hA
  have hRR : ∀ q, R q ∨ Wr q → q < W.heap.size := fun q hq => (hRM q (hq.imp .inl id)).1
  have GA : Hid _ := gath_e xs fv R Wr St FM ao n c hx hn hs hok W.drew ⟨mr.r.cells⟩ (FM.keep 0 W W.drew st (Nat.le_refl _) (fun _ _ => rfl)) hRR
  have k0 : W.cell? ⟨bk, 0, none⟩ = some (.func (.func K) #[] #[]) := blkc mr.k rfl
  have l0 : W.cell? ⟨bl, 0, none⟩ = some (.slice ao n c) := blkc mr.l rfl
  have KEEP : Hid (∀ w1, Gx Wr W w1 → MrAe K bk bl ao n c fv Wr w1 ∧ w1.cell? ⟨bk, 0, none⟩ = some (.func (.func K) #[] #[]) ∧ w1.cell? ⟨bl, 0, none⟩ = some (.slice ao n c)) := fun w1 g => by
    have := mr.keep (R := fun _ => False) g.size (fun q hq => g.block q (by
      rcases hq with e | e | e | ⟨e, a, e1, e2⟩
      · exact e.elim
      · rw [e]; exact blkl mr.k
      · rw [e]; exact blkl mr.l
      · obtain ⟨b, off, e3, h1, _⟩ := mr.r.cells e
        rw [e3] at e1; cases e1; rw [← e2]; exact h1) (by
      rcases hq with e | e | e | ⟨e, a, e1, e2⟩
      · exact e.elim
      · rw [e]; exact nk.1
      · rw [e]; exact nk.2
      · obtain ⟨b, off, e3, _, h2, _⟩ := mr.r.cells e
        rw [e3] at e1; cases e1; rw [← e2]; exact h2))
    exact ⟨this, blkc this.k rfl, blkc this.l rfl⟩
  have TE : Hid (∀ (w1 : World) (bo : Option Addr) (L : List (Lst Ent)), L.map Lst.l = xs → LV w1 bo L → (∀ s ∈ L, LOk Ent.ok w1.heap.size s) → (∀ s ∈ L, s.l ≠ [] → ElE w1 s) → (∀ s ∈ L, s.l ≠ [] → W.heap.size ≤ s.b) → St n w1 → Gx Wr W w1 → CallsIn Fence.wide 2 Try.prog 26 #[.func (.func K) #[] #[], .slice bo n n, .func (.yield l) #[] #[]] w1 fun e W' => (∃ v, e = .returned v) ∧ (MrAe K bk bl ao n c fv Wr W' ∧ St n W') ∧ W.heap.size ≤ W'.heap.size ∧ ((∃ O, J out O W') ∨ (∃ pre O, pre <+: out ∧ Jx pre O W'))) := fun w1 bo L e1 e2 e3 e4 e5 e6 g1 => by
    have ll : L.length = n := by have := congrArg List.length e1; simp [hx] at this; exact this
    have := tellY_e K key FK l W.heap.size M (rdMe R bk bl ao n) Wr out J Jx (fun W => MrAe K bk bl ao n c fv Wr W ∧ St n W) hJ (fun pre x O W1 j z p k => YieldAt.anyW (m := 1) (hY pre x O W1 j z p)) (fun X Y z zz k => ⟨z.1.keep zz (fun q hq => k q (.inl hq)), FM.keep n X Y z.2 zz (fun q hq => k q (hq.imp .inl id))⟩) hRM L bo n (by omega) w1 e2 e3 e4 e5 g1.size (by rw [e1]; exact hM) (hJ _ _ _ _ h0 (Ko.gx g1 fun q hq => ⟨.inr hq, fun e => e⟩)) ⟨(KEEP.out w1 g1).1, e6⟩
    rw [ll] at this
    exact this.mono fun e W' ⟨q1, q2, q3, q4⟩ => ⟨q1, q2, Nat.le_trans g1.size q3, q4⟩
  have mo : Try.prog.follows .mixedOrders = true := by kernel_rfl
  clear mr st hY hJ hJx h0 hRM FM
  have hro : Fence.wide.round = none := rfl
  refine callsIn_of_wp Try.func25 rfl trivial ?_ hro
  simp only [Try.ntmps25, List.size_toArray, List.length_cons, List.length_nil, Nat.reduceAdd, Nat.reduceSub, Array.replicate_succ, Array.replicate_zero, List.push_toArray, List.append_toArray, List.nil_append, List.cons_append]
  gi_wp2
  gi_region_with_o (first
    | (refine ⟨trivial, ?_⟩; gi_at_call 27; refine CallsIn.mono (callsIn_wide.2 GA.out) ?_; rintro e w1 ⟨⟨bo, rfl, L, q1, q2, q3, q4, q5⟩, q6, q7⟩; have TT : Hid _ := TE.out w1 bo L q1 q2 q3 q4 q5 q6 ⟨q7.os, q7.tape, q7.output, q7.size, q7.block⟩; obtain ⟨_, k4, l4⟩ := KEEP.out w1 ⟨q7.os, q7.tape, q7.output, q7.size, q7.block⟩; clear q1 q2 q3 q4 q5 q6 q7)
    | (refine ⟨trivial, ?_⟩; gi_at_call 26; refine CallsIn.mono (callsIn_wide.2 (callsIn_wide.1 TT.out)) ?_; rintro e w5 ⟨⟨v, rfl⟩, q6⟩; have FF : Hid _ := q6; clear q6))
  all_goals gi_wp2
  all_goals go_end0
  all_goals exact ⟨⟨_, rfl⟩, FF.out⟩
end Go.Proofs.Ythkahedhmfkhhaa
