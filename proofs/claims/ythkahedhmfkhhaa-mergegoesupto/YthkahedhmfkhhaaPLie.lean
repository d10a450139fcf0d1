/- The statements' lists that are gone through. -/
import Derived.Test.YthkahedhmfkhhaaPRng
import Derived.Test.YthkahedhmfkhhaaPEl
namespace Go.Proofs.Ythkahedhmfkhhaa
open Go.RowKit Go.Shelf
set_option linter.unusedVariables false

attribute [local go_sem] Oper.semAt_some

/-- A list that is gone through, in memory. -/
structure Lsde (bl : Nat) (ao : Option Addr) (c : Nat) (s : Lst Ent) (W : World) : Prop where
  blk : W.heap[bl]? = some (.cells #[.slice ao s.l.length c] 24 (0, 0))
  lies : s.l ≠ [] → ao = some ⟨s.b, s.off, none⟩ ∧ s.b < W.heap.size ∧ ElE W s
def rdLe (bl : Nat) (s : Lst Ent) (q : Nat) : Prop := q = bl ∨ (s.l ≠ [] ∧ q = s.b)
theorem Lsde.keep {bl : Nat} {ao : Option Addr} {c : Nat} {s : Lst Ent} {W W' : World} (h : Lsde bl ao c s W) (z : W.heap.size ≤ W'.heap.size) (k : ∀ q, rdLe bl s q → W'.heap[q]? = W.heap[q]?) : Lsde bl ao c s W' :=
  ⟨(k _ (.inl rfl)).trans h.blk, fun ne => by
    obtain ⟨h1, h2, h3⟩ := h.lies ne
    exact ⟨h1, Nat.lt_of_lt_of_le h2 z, h3.keep (k _ (.inr ⟨ne, rfl⟩))⟩⟩
theorem Lsde.lt {bl : Nat} {ao : Option Addr} {c : Nat} {s : Lst Ent} {W : World} (h : Lsde bl ao c s W) : ∀ q, rdLe bl s q → q < W.heap.size := fun q hq => by
  rcases hq with e | ⟨e1, e2⟩
  · rw [e]; exact blkl h.blk
  · rw [e2]; exact (h.lies e1).2.1
set_option maxRecDepth 100000 in
set_option maxHeartbeats 2000000 in
theorem listed_e (F : Fence) (n : Nat) (hf : F.fn 23) (hro : F.round = none) (hn : 1 ≤ n) (bl : Nat) (ao : Option Addr) (c : Nat) (s : Lst Ent) (hl : s.l.length ≤ 4000000) :
    SeqO F n Try.prog 23 #[.pointer (some ⟨bl, 0, none⟩)] (fun x : Ent => #[encE x]) s.l (rdLe bl s) (fun _ => False) (Lsde bl ao c s) (Lsde bl ao c s) := by
  intro l M J Jx W hA hRM hJ hJx hY h0
  have KP : Hid (∀ (O : Nat → Prop) (W1 W' : World), W.heap.size ≤ W1.heap.size → Lsde bl ao c s W1 → Gx (fun q => (q < W.heap.size ∧ M q) ∨ (W.heap.size ≤ q ∧ O q)) W1 W' → Lsde bl ao c s W') := fun O W1 W' hz h g => h.keep g.size fun q hq => g.block q (h.lt q hq) (fun e => by
    have := hRM q (.inl hq)
    rcases e with ⟨_, y⟩ | ⟨y, _⟩
    · exact this.2 y
    · omega)
  have HY : Hid _ := hY
  obtain ⟨m, hm⟩ : ∃ m, s.l.length = m := ⟨_, rfl⟩
  have LN : Aside (s.l.length = m) := hm
  rw [hm] at hl
  have A0 : Hid (Lsde bl ao c s W) := hA
  have J0 : Hid (J [] (fun _ => False) W) := h0
  have CL : Hid (∀ W1, Lsde bl ao c s W1 → W1.cell? ⟨bl, 0, none⟩ = some (.slice ao m c)) := fun W1 h => by rw [← LN.out]; exact blkc h.blk rfl
  have c00 := CL.out W hA
  clear hm hA h0 hY hJ hJx hRM
  refine callsIn_of_wp Try.func23 rfl hf ?_ hro
  simp only [Try.ntmps23, List.size_toArray, List.length_cons, List.length_nil, Nat.reduceAdd, Nat.reduceSub, Array.replicate_succ, Array.replicate_zero, List.push_toArray, List.append_toArray, List.nil_append, List.cons_append]
  gi_wp2
  gi_loopw [3] (fun i wr => ∃ k : Nat, k ≤ m ∧ i = .int .i64 k ∧ (∃ O, J (s.l.take k) O wr) ∧ Lsde bl ao c s wr ∧ W.heap.size ≤ wr.heap.size)
    (fun i _ => m - (intOf i).toNat)
  case atStart => exact ⟨0, Nat.zero_le _, rfl, ⟨_, J0.out⟩, A0.out, Nat.le_refl _⟩
  case round =>
    obtain ⟨k, hk, rfl, ⟨O, hJ⟩, hL, hz⟩ := hrel
    have c1 := CL.out wr hL
    have HJ : Hid (J (s.l.take k) O wr) := hJ
    have HL : Hid (Lsde bl ao c s wr) := hL
    by_cases hlt : k < m
    · have hlt' : (k : Int) < (m : Int) := by omega
      have kl : k < s.l.length := by rw [LN.out]; exact hlt
      have ne : s.l ≠ [] := fun e => by rw [e] at kl; simp at kl
      obtain ⟨e1, _, e3⟩ := hL.lies ne
      have TK : Hid (s.l.take (k + 1) = s.l.take k ++ [s.l[k]]) := by show _ = _; rw [List.take_add_one, List.getElem?_eq_getElem kl]; rfl
      have yy := HY.out (s.l.take k) s.l[k] O wr HJ.out hz (by rw [← TK.out]; exact List.take_prefix _ _)
      have rd := e3 k s.l[k] (List.getElem?_eq_getElem kl)
      obtain ⟨x, hx⟩ : ∃ x, s.l[k] = x := ⟨_, rfl⟩
      rw [hx] at yy rd TK
      subst e1
      clear e3 hJ hL ne kl hx
      obtain ⟨xk, xv, xg⟩ := x
      obtain ⟨d0, d1, d2⟩ := rd
      simp only [encE] at yy
      dsimp only at d0 d1 d2
      obtain ⟨fn, tmps, assign, body, hy, hR⟩ := yy
      have HRR : Hid _ := hR
      clear hR
      gi_wp2
      refine RoundIn.mono HRR.out ?_
      rintro e W3 ⟨O', o1, g3, (⟨rfl, hJ3⟩ | ⟨rfl, hJx3⟩)⟩
      · have L3 := KP.out O wr W3 hz HL.out g3
        have JJ : Hid _ := hJ3
        have z3 := g3.size
        clear hJ3 g3 o1
        gi_wp2
        go_roundw
        case rel => exact ⟨k + 1, by omega, by simp, ⟨O', by rw [TK.out]; exact JJ.out⟩, L3, Nat.le_trans hz z3⟩
        case measure => simp [intOf]; omega
      · have L3 : Hid _ := KP.out O wr W3 hz HL.out g3
        have JJ : Hid _ := hJx3
        have z3 := g3.size
        clear hJx3 g3 o1
        gi_wp2
        refine bodyPost_ret (results_none rfl _ _ _) rfl ?_
        exact ⟨⟨_, rfl⟩, L3.out, Nat.le_trans hz z3, .inr ⟨_, O', by rw [← TK.out]; exact List.take_prefix _ _, JJ.out⟩⟩
    · have ek : k = m := by omega
      have hlt' : ¬ ((k : Int) < (m : Int)) := by omega
      have JA : Hid (J s.l O wr) := by
        have := HJ.out
        rw [List.take_of_length_le (by rw [LN.out]; omega)] at this
        exact this
      clear hJ
      gi_wp2
      go_end0
      exact ⟨⟨_, rfl⟩, HL.out, hz, .inl ⟨O, JA.out⟩⟩
end Go.Proofs.Ythkahedhmfkhhaa
