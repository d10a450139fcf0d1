/- Things told to a loop's body: the relation. -/
import Derived.Test.YthkahedhmfkhhaaPFam
namespace Go.Proofs.Ythkahedhmfkhhaa
open Go.RowKit Go.Shelf
set_option linter.unusedVariables false

theorem RoundIn.anyW {m m' : Nat} {P : Program} {l : Nat} {f : FuncId} {tmps : Array Value} {assign body : Code} {w : World} {R : Ending → World → Prop} (h : RoundIn Fence.wide m P l f tmps assign body w R) : RoundIn Fence.wide m' P l f tmps assign body w R := ⟨h.1, fun c cs _ => h.2 c cs (room_wide _)⟩
theorem YieldAt.anyW {m m' : Nat} {P : Program} {l : Nat} {args : Array Value} {W : World} {R : Ending → World → Prop} (h : YieldAt Fence.wide m P l args W R) : YieldAt Fence.wide m' P l args W R := by
  obtain ⟨fn, tmps, assign, body, h1, h2⟩ := h
  exact ⟨fn, tmps, assign, body, h1, RoundIn.anyW h2⟩
section
variable {α : Type}
/-- Told so far, to a body. -/
structure TlY (tp th : TypeId) (El : World → Lst α → Prop) (ok : α → Prop) (key : α → Int) (L : List (Lst α)) (hb K n0 : Nat) (J : List α → (Nat → Prop) → World → Prop) (Z : World → Prop) (told : List α) (O : Nat → Prop) (Lc : List (Lst α)) (hv pv : Value) (H P : List (Hd α)) (wr : World) : Prop where
  tl : Tl tp th El ok key L hb K told Lc hv pv H P wr
  ap : ∀ q, hpS hb hv pv q → ¬ O q
  nb : ∀ s ∈ Lc, s.l ≠ [] → n0 ≤ s.b
  lo : ∀ s ∈ Lc, s.l ≠ [] → ¬ O s.b
  ol : ∀ q, O q → q < wr.heap.size
  j : J told O wr
  z : Z wr
  n0h : n0 ≤ hb
  sz : hb ≤ wr.heap.size
theorem TlY.next {tp th : TypeId} {El : World → Lst α → Prop} {sz : Nat} (P' : ElP El sz) {ok : α → Prop} {key : α → Int} {L : List (Lst α)} {hb K n0 : Nat} {J : List α → (Nat → Prop) → World → Prop} {Z : World → Prop} {told : List α} {O : Nat → Prop} {Lc : List (Lst α)} {hv pv : Value} {H P : List (Hd α)} {wr w' : World} {enc : α → Value} {zero : Value} {e : Ending} {M R Wr : Nat → Prop} (hJ : ∀ pre O W1 W2, J pre O W1 → Ko n0 Wr O W1 W2 → J pre O W2) (hZ : ∀ W W', Z W → W.heap.size ≤ W'.heap.size → (∀ q, R q ∨ Wr q → W'.heap[q]? = W.heap[q]?) → Z W') (hRM : ∀ q, R q ∨ Wr q → q < n0 ∧ ¬ M q)
    (h : TlY tp th El ok key L hb K n0 J Z told O Lc hv pv H P wr) (ne : H ≠ []) (r : NextR tp th wr hb K sz hv pv H key enc zero e w') :
    ∃ x, e = .returned (.tuple #[enc x, .bool true]) ∧ J told O w' ∧ Z w' ∧ hb ≤ w'.heap.size ∧ (∀ out, Mg key (L.map Lst.l) out → (told ++ [x]) <+: out) ∧ wr.heap.size ≤ w'.heap.size ∧
      ∃ Lc' hv' pv' H' P', sizes (Lc'.map Lst.l) < sizes (Lc.map Lst.l) ∧ ∀ w4 w5 O', Gw w' w4 → J (told ++ [x]) O' w5 → (∀ q, O' q → (O q ∨ w4.heap.size ≤ q) ∧ q < w5.heap.size) → Gx (fun q => (q < n0 ∧ M q) ∨ (n0 ≤ q ∧ O q)) w4 w5 → TlY tp th El ok key L hb K n0 J Z (told ++ [x]) O' Lc' hv' pv' H' P' w5 := by
  have hbl : hb < wr.heap.size := blkl h.tl.st.hp.blk
  obtain ⟨x, Lc', hv', pv', H', P2, r1, r2, r3, r4, r5, r6, r7⟩ := h.tl.next P' hbl ne r
  have s1 := r5.size
  have n0h := h.n0h
  have ko : Ko n0 Wr O wr w' := Ko.gx r5 fun q hq => ⟨.inl (by have := (h.tl.st.lt hq).1; omega), h.ap q hq⟩
  have z' : Z w' := hZ _ _ h.z s1 fun q hq => r5.block q (by have := (hRM q hq).1; omega) (fun e => by have := (h.tl.st.lt e).1; have := (hRM q hq).1; omega)
  have ap' : ∀ q, hpS hb hv' pv' q → ¬ O q := fun q hq e => by
    rcases r4 q hq with y | y
    · exact h.ap q y e
    · have := h.ol q e; omega
  refine ⟨x, r1, hJ _ _ _ _ h.j ko, z', by omega, fun out ho => ?_, s1, Lc', hv', pv', H', P2, r6, fun w4 w5 O' g4 j5 o5 g5 => ?_⟩
  · obtain ⟨o2, ho2⟩ := Mg.ex key (sizes (Lc'.map Lst.l)) (Lc'.map Lst.l) (Nat.le_refl _)
    have := Mg.one ho (r3.mg o2 ho2)
    exact ⟨o2, this.symm⟩
  · have s4 := g4.size
    have lb : ∀ s' ∈ Lc', s'.l ≠ [] → n0 ≤ s'.b ∧ ¬ O s'.b := fun s' hs' ns => by
      obtain ⟨s0, q1, q2, q3⟩ := r7 s' hs' ns
      rw [q3]; exact ⟨h.nb s0 q1 q2, h.lo s0 q1 q2⟩
    have keep : ∀ q, n0 ≤ q → ¬ O q → q < w'.heap.size → w5.heap[q]? = w'.heap[q]? := fun q q1 q2 q3 => (g5.block q (by omega) (fun e => by
      rcases e with ⟨y, _⟩ | ⟨_, y⟩
      · omega
      · exact q2 y)).trans (g4.below.block q q3)
    refine ⟨r3.keep P' (fun q hq => keep q (by have := (r3.st.lt hq).1; omega) (ap' q hq) (r3.st.lt hq).2) (fun s' hs' ns => keep _ (lb s' hs' ns).1 (lb s' hs' ns).2 (by have := (r3.mem s' hs' ns).1; omega)), fun q hq e => ?_, fun s' hs' ns => (lb s' hs' ns).1, fun s' hs' ns e => ?_, fun q hq => (o5 q hq).2, j5, ?_, n0h, by have := g5.size; omega⟩
    · rcases (o5 q e).1 with y | y
      · exact ap' q hq y
      · have := (r3.st.lt hq).2; omega
    · rcases (o5 _ e).1 with y | y
      · exact (lb s' hs' ns).2 y
      · have := (r3.mem s' hs' ns).1; omega
    · refine hZ _ _ (hZ _ _ z' s4 fun q hq => g4.below.block q (by have := (hRM q hq).1; omega)) g5.size fun q hq => g5.block q (by have := (hRM q hq).1; omega) (fun e => by
        have := hRM q hq
        rcases e with ⟨_, y⟩ | ⟨y, _⟩
        · exact this.2 y
        · omega)
end
end Go.Proofs.Ythkahedhmfkhhaa
