import Derived.Test.YthkahedhmfkhhaaPTyi
import Derived.Test.YthkahedhmfkhhaaPGai
import Derived.Test.YthkahedhmfkhhaaPRng
import Derived.Test.YthkahedhmfkhhaaPEl
/- Package merge: what a range over Merge tells. -/
namespace Go.Proofs.Ythkahedhmfkhhaa
open Go.RowKit Go.Shelf
set_option linter.unusedVariables false

attribute [local go_sem] Oper.semAt_some

/-- What Merge answers, in memory. -/
structure MrAi (K bk bl : Nat) (ao : Option Addr) (n c : Nat) (fv : Nat → Nat × Array Value) (Wr : Nat → Prop) (W : World) : Prop where
  k : W.heap[bk]? = some (.cells #[.func (.func K) #[] #[]] 60 (0, 0))
  l : W.heap[bl]? = some (.cells #[.slice ao n c] 69 (0, 0))
  r : FRow fv W ao n Wr
def rdMi (R : Nat → Prop) (bk bl : Nat) (ao : Option Addr) (n : Nat) (q : Nat) : Prop := R q ∨ q = bk ∨ q = bl ∨ (0 < n ∧ ∃ a : Addr, ao = some a ∧ a.block = q)
theorem MrAi.keep {K bk bl : Nat} {ao : Option Addr} {n c : Nat} {fv : Nat → Nat × Array Value} {R Wr : Nat → Prop} {W W' : World} (h : MrAi K bk bl ao n c fv Wr W) (z : W.heap.size ≤ W'.heap.size) (k : ∀ q, rdMi R bk bl ao n q → W'.heap[q]? = W.heap[q]?) : MrAi K bk bl ao n c fv Wr W' :=
  ⟨(k bk (.inr (.inl rfl))).trans h.k, (k bl (.inr (.inr (.inl rfl)))).trans h.l, ⟨fun hn => by
    obtain ⟨b, off, e, h1, h2, h3⟩ := h.r.cells hn
    exact ⟨b, off, e, Nat.lt_of_lt_of_le h1 z, h2, fun i hi => (World.cell?_of_block (a := ⟨b, off + i, none⟩) (k b (.inr (.inr (.inr ⟨hn, _, e, rfl⟩))))).trans (h3 i hi)⟩⟩⟩
set_option maxRecDepth 100000 in
set_option maxHeartbeats 4000000 in
theorem merge1_i (K : Nat) (key : Int → Int) (FK : FnK encI key okI K) (bk bl : Nat) (ao : Option Addr) (n c : Nat) (xs : List (List Int)) (fv : Nat → Nat × Array Value) (R Wr : Nat → Prop) (St : Nat → World → Prop) (FM : Fam encI xs R Wr St fv) (hx : xs.length = n) (hn : n ≤ 2000000) (hs : sizes xs ≤ 2000000) (hok : ∀ l ∈ xs, ∀ x ∈ l, okI x) (nk : ¬ Wr bk ∧ ¬ Wr bl) (out : List Int) (hM : Mg key xs out) :
    SeqO Fence.wide 2 Try.prog 36 #[.pointer (some ⟨bk, 0, none⟩), .pointer (some ⟨bl, 0, none⟩)] (fun x : Int => #[encI x]) out (rdMi R bk bl ao n) Wr (fun W => MrAi K bk bl ao n c fv Wr W ∧ St 0 W) (fun W => MrAi K bk bl ao n c fv Wr W ∧ St n W) := by
  intro l M J Jx W hA hRM hJ hJx hY h0
  obtain ⟨mr, st⟩ := hA
  have hRR : ∀ q, R q ∨ Wr q → q < W.heap.size := fun q hq => (hRM q (hq.imp .inl id)).1
  have GA : Hid _ := gath_i xs fv R Wr St FM ao n c hx hn hs hok W.drew ⟨mr.r.cells⟩ (FM.keep 0 W W.drew st (Nat.le_refl _) (fun _ _ => rfl)) hRR
  have k0 : W.cell? ⟨bk, 0, none⟩ = some (.func (.func K) #[] #[]) := blkc mr.k rfl
  have l0 : W.cell? ⟨bl, 0, none⟩ = some (.slice ao n c) := blkc mr.l rfl
  have KEEP : Hid (∀ w1, Gx Wr W w1 → MrAi K bk bl ao n c fv Wr w1 ∧ w1.cell? ⟨bk, 0, none⟩ = some (.func (.func K) #[] #[]) ∧ w1.cell? ⟨bl, 0, none⟩ = some (.slice ao n c)) := fun w1 g => by
    have := mr.keep (R := fun _ => False) g.size (fun q hq => g.block q (by
      rcases hq with e | e | e | ⟨e, a, e1, e2⟩
      · exact e.elim
      · rw [e]; exact blkl mr.k
      · rw [e]; exact blkl mr.l
      · obtain ⟨b, off, e3, h1, _⟩ := mr.r.cells e
        rw [e3] at e1; cases e1; rw [← e2]; exact h1) (by
      rcases hq with e | e | e | ⟨e, a, e1, e2⟩
      · exact e.elim
      · rw [e]; exact nk.1
      · rw [e]; exact nk.2
      · obtain ⟨b, off, e3, _, h2, _⟩ := mr.r.cells e
        rw [e3] at e1; cases e1; rw [← e2]; exact h2))
    exact ⟨this, blkc this.k rfl, blkc this.l rfl⟩
  have TE : Hid (∀ (w1 : World) (bo : Option Addr) (L : List (Lst Int)), L.map Lst.l = xs → LV w1 bo L → (∀ s ∈ L, LOk okI w1.heap.size s) → (∀ s ∈ L, s.l ≠ [] → El1 encI w1 s) → (∀ s ∈ L, s.l ≠ [] → W.heap.size ≤ s.b) → St n w1 → Gx Wr W w1 → CallsIn Fence.wide 2 Try.prog 37 #[.func (.func K) #[] #[], .slice bo n n, .func (.yield l) #[] #[]] w1 fun e W' => (∃ v, e = .returned v) ∧ (MrAi K bk bl ao n c fv Wr W' ∧ St n W') ∧ W.heap.size ≤ W'.heap.size ∧ ((∃ O, J out O W') ∨ (∃ pre O, pre <+: out ∧ Jx pre O W'))) := fun w1 bo L e1 e2 e3 e4 e5 e6 g1 => by
    have ll : L.length = n := by have := congrArg List.length e1; simp [hx] at this; exact this
    have := tellY_i K key FK l W.heap.size M (rdMi R bk bl ao n) Wr out J Jx (fun W => MrAi K bk bl ao n c fv Wr W ∧ St n W) hJ (fun pre x O W1 j z p k => YieldAt.anyW (m := 1) (hY pre x O W1 j z p)) (fun X Y z zz k => ⟨z.1.keep zz (fun q hq => k q (.inl hq)), FM.keep n X Y z.2 zz (fun q hq => k q (hq.imp .inl id))⟩) hRM L bo n (by omega) w1 e2 e3 e4 e5 g1.size (by rw [e1]; exact hM) (hJ _ _ _ _ h0 (Ko.gx g1 fun q hq => ⟨.inr hq, fun e => e⟩)) ⟨(KEEP.out w1 g1).1, e6⟩
    rw [ll] at this
    exact this.mono fun e W' ⟨q1, q2, q3, q4⟩ => ⟨q1, q2, Nat.le_trans g1.size q3, q4⟩
  have mo : Try.prog.follows .mixedOrders = true := by kernel_rfl
  clear mr st hY hJ hJx h0 hRM FM
  have hro : Fence.wide.round = none := rfl
  refine callsIn_of_wp Try.func36 rfl trivial ?_ hro
  simp only [Try.ntmps36, List.size_toArray, List.length_cons, List.length_nil, Nat.reduceAdd, Nat.reduceSub, Array.replicate_succ, Array.replicate_zero, List.push_toArray, List.append_toArray, List.nil_append, List.cons_append]
  gi_wp2
  gi_region_with_o (first
    | (refine ⟨trivial, ?_⟩; gi_at_call 38; refine CallsIn.mono (callsIn_wide.2 GA.out) ?_; rintro e w1 ⟨⟨bo, rfl, L, q1, q2, q3, q4, q5⟩, q6, q7⟩; have TT : Hid _ := TE.out w1 bo L q1 q2 q3 q4 q5 q6 ⟨q7.os, q7.tape, q7.output, q7.size, q7.block⟩; obtain ⟨_, k4, l4⟩ := KEEP.out w1 ⟨q7.os, q7.tape, q7.output, q7.size, q7.block⟩; clear q1 q2 q3 q4 q5 q6 q7)
    | (refine ⟨trivial, ?_⟩; gi_at_call 37; refine CallsIn.mono (callsIn_wide.2 (callsIn_wide.1 TT.out)) ?_; rintro e w5 ⟨⟨v, rfl⟩, q6⟩; have FF : Hid _ := q6; clear q6))
  all_goals gi_wp2
  all_goals go_end0
  all_goals exact ⟨⟨_, rfl⟩, FF.out⟩
end Go.Proofs.Ythkahedhmfkhhaa

/- The statements' lists that are gone through. -/
namespace Go.Proofs.Ythkahedhmfkhhaa
open Go.RowKit Go.Shelf
set_option linter.unusedVariables false

attribute [local go_sem] Oper.semAt_some

/-- A list that is gone through, in memory. -/
structure Lsdi (bl : Nat) (ao : Option Addr) (c : Nat) (s : Lst Int) (W : World) : Prop where
  blk : W.heap[bl]? = some (.cells #[.slice ao s.l.length c] 52 (0, 0))
  lies : s.l ≠ [] → ao = some ⟨s.b, s.off, none⟩ ∧ s.b < W.heap.size ∧ El1 encI W s
def rdLi (bl : Nat) (s : Lst Int) (q : Nat) : Prop := q = bl ∨ (s.l ≠ [] ∧ q = s.b)
theorem Lsdi.keep {bl : Nat} {ao : Option Addr} {c : Nat} {s : Lst Int} {W W' : World} (h : Lsdi bl ao c s W) (z : W.heap.size ≤ W'.heap.size) (k : ∀ q, rdLi bl s q → W'.heap[q]? = W.heap[q]?) : Lsdi bl ao c s W' :=
  ⟨(k _ (.inl rfl)).trans h.blk, fun ne => by
    obtain ⟨h1, h2, h3⟩ := h.lies ne
    exact ⟨h1, Nat.lt_of_lt_of_le h2 z, h3.keep (k _ (.inr ⟨ne, rfl⟩))⟩⟩
theorem Lsdi.lt {bl : Nat} {ao : Option Addr} {c : Nat} {s : Lst Int} {W : World} (h : Lsdi bl ao c s W) : ∀ q, rdLi bl s q → q < W.heap.size := fun q hq => by
  rcases hq with e | ⟨e1, e2⟩
  · rw [e]; exact blkl h.blk
  · rw [e2]; exact (h.lies e1).2.1
set_option maxRecDepth 100000 in
set_option maxHeartbeats 2000000 in
theorem listed_i (F : Fence) (n : Nat) (hf : F.fn 39) (hro : F.round = none) (hn : 1 ≤ n) (bl : Nat) (ao : Option Addr) (c : Nat) (s : Lst Int) (hl : s.l.length ≤ 4000000) :
    SeqO F n Try.prog 39 #[.pointer (some ⟨bl, 0, none⟩)] (fun x : Int => #[encI x]) s.l (rdLi bl s) (fun _ => False) (Lsdi bl ao c s) (Lsdi bl ao c s) := by
  intro l M J Jx W hA hRM hJ hJx hY h0
  have KP : Hid (∀ (O : Nat → Prop) (W1 W' : World), W.heap.size ≤ W1.heap.size → Lsdi bl ao c s W1 → Gx (fun q => (q < W.heap.size ∧ M q) ∨ (W.heap.size ≤ q ∧ O q)) W1 W' → Lsdi bl ao c s W') := fun O W1 W' hz h g => h.keep g.size fun q hq => g.block q (h.lt q hq) (fun e => by
    have := hRM q (.inl hq)
    rcases e with ⟨_, y⟩ | ⟨y, _⟩
    · exact this.2 y
    · omega)
  have HY : Hid _ := hY
  obtain ⟨m, hm⟩ : ∃ m, s.l.length = m := ⟨_, rfl⟩
  have LN : Aside (s.l.length = m) := hm
  rw [hm] at hl
  have A0 : Hid (Lsdi bl ao c s W) := hA
  have J0 : Hid (J [] (fun _ => False) W) := h0
  have CL : Hid (∀ W1, Lsdi bl ao c s W1 → W1.cell? ⟨bl, 0, none⟩ = some (.slice ao m c)) := fun W1 h => by rw [← LN.out]; exact blkc h.blk rfl
  have c00 := CL.out W hA
  clear hm hA h0 hY hJ hJx hRM
  refine callsIn_of_wp Try.func39 rfl hf ?_ hro
  simp only [Try.ntmps39, List.size_toArray, List.length_cons, List.length_nil, Nat.reduceAdd, Nat.reduceSub, Array.replicate_succ, Array.replicate_zero, List.push_toArray, List.append_toArray, List.nil_append, List.cons_append]
  gi_wp2
  gi_loopw [3] (fun i wr => ∃ k : Nat, k ≤ m ∧ i = .int .i64 k ∧ (∃ O, J (s.l.take k) O wr) ∧ Lsdi bl ao c s wr ∧ W.heap.size ≤ wr.heap.size)
    (fun i _ => m - (intOf i).toNat)
  case atStart => exact ⟨0, Nat.zero_le _, rfl, ⟨_, J0.out⟩, A0.out, Nat.le_refl _⟩
  case round =>
    obtain ⟨k, hk, rfl, ⟨O, hJ⟩, hL, hz⟩ := hrel
    have c1 := CL.out wr hL
    have HJ : Hid (J (s.l.take k) O wr) := hJ
    have HL : Hid (Lsdi bl ao c s wr) := hL
    by_cases hlt : k < m
    · have hlt' : (k : Int) < (m : Int) := by omega
      have kl : k < s.l.length := by rw [LN.out]; exact hlt
      have ne : s.l ≠ [] := fun e => by rw [e] at kl; simp at kl
      obtain ⟨e1, _, e3⟩ := hL.lies ne
      have TK : Hid (s.l.take (k + 1) = s.l.take k ++ [s.l[k]]) := by show _ = _; rw [List.take_add_one, List.getElem?_eq_getElem kl]; rfl
      have yy := HY.out (s.l.take k) s.l[k] O wr HJ.out hz (by rw [← TK.out]; exact List.take_prefix _ _)
      have rd := e3 k s.l[k] (List.getElem?_eq_getElem kl)
      obtain ⟨x, hx⟩ : ∃ x, s.l[k] = x := ⟨_, rfl⟩
      rw [hx] at yy rd TK
      subst e1
      clear e3 hJ hL ne kl hx
      have d0 := rd
      simp only [encI] at yy d0
      clear rd
      obtain ⟨fn, tmps, assign, body, hy, hR⟩ := yy
      have HRR : Hid _ := hR
      clear hR
      gi_wp2
      refine RoundIn.mono HRR.out ?_
      rintro e W3 ⟨O', o1, g3, (⟨rfl, hJ3⟩ | ⟨rfl, hJx3⟩)⟩
      · have L3 := KP.out O wr W3 hz HL.out g3
        have JJ : Hid _ := hJ3
        have z3 := g3.size
        clear hJ3 g3 o1
        gi_wp2
        go_roundw
        case rel => exact ⟨k + 1, by omega, by simp, ⟨O', by rw [TK.out]; exact JJ.out⟩, L3, Nat.le_trans hz z3⟩
        case measure => simp [intOf]; omega
      · have L3 : Hid _ := KP.out O wr W3 hz HL.out g3
        have JJ : Hid _ := hJx3
        have z3 := g3.size
        clear hJx3 g3 o1
        gi_wp2
        refine bodyPost_ret (results_none rfl _ _ _) rfl ?_
        exact ⟨⟨_, rfl⟩, L3.out, Nat.le_trans hz z3, .inr ⟨_, O', by rw [← TK.out]; exact List.take_prefix _ _, JJ.out⟩⟩
    · have ek : k = m := by omega
      have hlt' : ¬ ((k : Int) < (m : Int)) := by omega
      have JA : Hid (J s.l O wr) := by
        have := HJ.out
        rw [List.take_of_length_le (by rw [LN.out]; omega)] at this
        exact this
      clear hJ
      gi_wp2
      go_end0
      exact ⟨⟨_, rfl⟩, HL.out, hz, .inl ⟨O, JA.out⟩⟩
end Go.Proofs.Ythkahedhmfkhhaa

/- Package merge: Merge; the statements' listed. -/
namespace Go.Proofs.Ythkahedhmfkhhaa
open Go.RowKit Go.Shelf
set_option linter.unusedVariables false

theorem info_fi : (Try.prog.info? 58).map (fun i => (i.zero, i.size, i.bytes)) = some (some .nilFunc, 1, 8) := by kernel_rfl
set_option maxRecDepth 10000 in
set_option maxHeartbeats 2000000 in
theorem clone_fi {w : World} {ao : Option Addr} {n cp : Nat} {fv : Nat → Nat × Array Value} (h : FRow fv w ao n (fun _ => False)) (hn : n ≤ 2000000) :
    Calls Try.prog 35 #[.slice ao n cp] w fun e w' => (∃ bo c, e = .returned (.slice bo n c) ∧ FRow fv w' bo n (fun _ => False) ∧ ∀ a, bo = some a → w.heap.size ≤ a.block) ∧ Gw w w' := by
  cases ao with
  | none =>
    have n0 : n = 0 := by
      rcases Nat.eq_zero_or_pos n with e | e
      · exact e
      · obtain ⟨b, off, e', _⟩ := h.cells e; cases e'
    subst n0
    clear h
    have hq : ∀ W : World, (binOp .eql 69 (.slice none 0 cp) (.slice none 0 0)).run Try.prog W = .ok (.bool true) W := fun _ => by kernel_rfl
    go_enter Try.func35, Try.ntmps35
    go_wp2_with fail
    go_ret
    exact ⟨⟨none, 0, rfl, ⟨fun h0 => by omega⟩, fun a e => by cases e⟩, Gw.refl w⟩
  | some ad =>
    have OW : Hid (∀ x, (some ad : Option Addr) = some x → ∀ j u, ((List.range n).map fun j => Value.func (.func (fv j).1) #[] (fv j).2)[j]? = some u → (w.alloc (.cells #[] 58)).cell? (x.add j) = some u) := by
      intro x e j u hu
      cases e
      have hj : j < n := by
        have := (List.getElem?_eq_some_iff.1 hu).1
        simpa using this
      obtain ⟨b, off, e', hb, _, hc⟩ := h.cells (by omega)
      cases e'
      rw [Addr.add_lit]
      refine (((Gw.refl w).alloc _ _).cell _ _ hb).trans ((hc j hj).trans ?_)
      simpa [hj] using hu
    have O0 : Hid ((w.alloc (.cells #[] 58)).ownsRow w.heap.size 58 1 (.slice (some ⟨w.heap.size, 0, none⟩) 0 0) 0 []) := World.ownsRow_made w #[] 0 (Nat.le_refl _) (Nat.zero_le _) rfl
    obtain ⟨ii, hii, hz, hs, hby⟩ := info_parts info_fi
    have NL : Aside (((List.range n).map fun j => Value.func (.func (fv j).1) #[] (fv j).2).length = n * 1) := by show _ = _; simp
    have N1 : Aside (∀ u ∈ ((List.range n).map fun j => Value.func (.func (fv j).1) #[] (fv j).2), u.oneCell' = true) := by
      intro u hu
      obtain ⟨j, _, rfl⟩ := List.mem_map.1 hu
      rfl
    clear h
    have hq : ∀ W : World, (binOp .eql 69 (.slice (some ad) n cp) (.slice none 0 0)).run Try.prog W = .ok (.bool false) W := fun _ => by kernel_rfl
    go_enter Try.func35, Try.ntmps35
    go_wp2_with (at_builtin; refine wpList_append_src _ rfl _ _ 69 rfl w.heap.size 58 ii .nilFunc 1 8 Try.underlying69 hii hz hs hby rfl (by decide) _ 0 [] rfl O0.out (some ad) n cp ((List.range n).map fun j => Value.func (.func (fv j).1) #[] (fv j).2) rfl (fun q => by cases q) NL.out OW.out N1.out (by simp only [maxLen]; omega) (by omega) (by simp) ?_)
    intro v' w7 q1 q2 q3
    have G7 : Aside (Gw w w7) := ((Gw.refl w).alloc _ _).grown q2 (fun k hk => by cases hk; exact Nat.le_refl _)
    have FM : ∃ bo c, v' = .slice bo n c ∧ FRow fv w7 bo n (fun _ => False) ∧ ∀ a, bo = some a → w.heap.size ≤ a.block := by
      have q1' : w7.ownsRow w.heap.size 58 1 v' n ((List.range n).map fun j => Value.func (.func (fv j).1) #[] (fv j).2) := by simpa using q1
      rcases q1'.2 with ⟨e, z⟩ | ⟨g, cap, cur, e, hb, hh, hc, _⟩
      · subst z
        exact ⟨none, 0, e, ⟨fun h0 => by omega⟩, fun a q => by cases q⟩
      · subst e
        refine ⟨some ⟨g, 0, none⟩, cap, rfl, ⟨fun h0 => ⟨g, 0, rfl, blkl hh, fun e => e, fun i hi => ?_⟩⟩, fun a q => by cases q; exact hb⟩
        have := World.ownsRow.cellAt q1' i (by omega)
        rw [Nat.zero_add, this]
        simp [hi]
    obtain ⟨bo, c, rfl, r1, r3⟩ := FM
    have RES : Aside (FRow fv w7 bo n (fun _ => False) ∧ ∀ a, bo = some a → w.heap.size ≤ a.block) := ⟨r1, r3⟩
    clear q1 q2 q3 hii hz hs hby r1 r3
    go_wp2_with fail
    go_ret
    exact ⟨⟨bo, c, rfl, RES.out⟩, G7.out⟩
set_option maxRecDepth 10000 in
set_option maxHeartbeats 2000000 in
theorem merge_i {w : World} {ao : Option Addr} {n cp K : Nat} {fv : Nat → Nat × Array Value} (h : FRow fv w ao n (fun _ => False)) (hn : n ≤ 2000000) :
    Calls Try.prog 20 #[.func (.func K) #[] #[], .slice ao n cp] w fun e w' => (∃ bk bl bo c, e = .returned (.func (.func 36) #[] #[.pointer (some ⟨bk, 0, none⟩), .pointer (some ⟨bl, 0, none⟩)]) ∧ (∀ Wr : Nat → Prop, (∀ q, Wr q → q < w.heap.size) → MrAi K bk bl bo n c fv Wr w') ∧ w.heap.size ≤ bk ∧ w.heap.size ≤ bl ∧ ∀ a, bo = some a → w.heap.size ≤ a.block) ∧ Gw w w' := by
  obtain ⟨W1, E1⟩ : ∃ W1, w.alloc (.cells #[.func (.func K) #[] #[]] 60) = W1 := ⟨_, rfl⟩
  have G1 : Aside (Gw w W1) := by rw [← E1]; exact (Gw.refl w).alloc _ _
  have B1 : Aside (W1.heap[w.heap.size]? = some (.cells #[.func (.func K) #[] #[]] 60 (0, 0))) := by rw [← E1]; exact heap_alloc_new w _
  have CL : Hid _ := clone_fi (w := W1) (cp := cp) (⟨fun h0 => by
    obtain ⟨b, off, e, h1, h2, h3⟩ := h.cells h0
    exact ⟨b, off, e, Nat.lt_of_lt_of_le h1 G1.out.size, h2, fun i hi => (G1.out.cell _ _ h1).trans (h3 i hi)⟩⟩ : FRow fv W1 ao n (fun _ => False)) hn
  clear h
  go_enter Try.func20, Try.ntmps20
  go_wp2_with fail
  refine Calls.mono CL.out ?_
  rintro e w2 ⟨⟨bo, c, rfl, fr, ob⟩, g2⟩
  obtain ⟨W3, E3⟩ : ∃ W3, w2.alloc (.cells #[.slice bo n c] 69) = W3 := ⟨_, rfl⟩
  have g3 : Gw w2 W3 := by rw [← E3]; exact (Gw.refl w2).alloc _ _
  have FIN : Aside ((∀ Wr : Nat → Prop, (∀ q, Wr q → q < w.heap.size) → MrAi K w.heap.size w2.heap.size bo n c fv Wr W3) ∧ w.heap.size ≤ w2.heap.size ∧ (∀ a, bo = some a → w.heap.size ≤ a.block) ∧ Gw w W3) := by
    refine ⟨fun Wr hW => ⟨((g2.trans g3).below.block _ (blkl B1.out)).trans B1.out, by rw [← E3]; exact heap_alloc_new w2 _, ⟨fun h0 => ?_⟩⟩, Nat.le_trans G1.out.size g2.size, fun a ha => Nat.le_trans G1.out.size (ob a ha), (G1.out.trans g2).trans g3⟩
    obtain ⟨b, off, e, h1, _, h3⟩ := fr.cells h0
    have := ob _ e
    exact ⟨b, off, e, Nat.lt_of_lt_of_le h1 g3.size, fun x => by have := hW b x; have := G1.out.size; dsimp only at *; omega, fun i hi => (g3.cell _ _ h1).trans (h3 i hi)⟩
  clear fr ob g2 g3 CL
  go_wp2_with fail
  go_ret
  exact ⟨⟨w.heap.size, w2.heap.size, bo, c, rfl, FIN.out.1, Nat.le_refl _, FIN.out.2.1, FIN.out.2.2.1⟩, FIN.out.2.2.2⟩
theorem mlisted_i (ao : Option Addr) (n c : Nat) (w : World) : Calls Try.prog 22 #[.slice ao n c] w fun e w' => e = .returned (.func (.func 39) #[] #[.pointer (some ⟨w.heap.size, 0, none⟩)]) ∧ w' = w.alloc (.cells #[.slice ao n c] 52) := by
  go_enter Try.func22, Try.ntmps22
  go_wp2_with fail
  go_ret
  exact ⟨rfl, rfl⟩
end Go.Proofs.Ythkahedhmfkhhaa
