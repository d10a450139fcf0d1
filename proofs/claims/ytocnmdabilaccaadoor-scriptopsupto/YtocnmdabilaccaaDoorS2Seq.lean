/- strings.SplitSeq at a byte: it gives the pieces. -/
import Derived.Test.YtocnmdabilaccaaDoorShelf
import Derived.Test.YtocnmdabilaccaaDoorPRng
import Derived.Test.YtocnmdabilaccaaDoorS1Ref1
import Derived.Sort.LoopGhostIn
namespace Go.Proofs.YtocnmdabilaccaaDoor
open Go.RowKit Go.Shelf
set_option linter.unusedVariables false

attribute [local go_sem] Oper.semAt_some

theorem blk_put {w : World} {b o : Nat} {vs : Array Value} {t : TypeId} (h : w.heap[b]? = some (.cells vs t (0, 0))) (u : Value) : (w.setCell ⟨b, o, none⟩ u).heap[b]? = some (.cells (vs.setIfInBounds o u) t (0, 0)) := by simp [World.setCell, Array.getElem?_modify, h]
theorem index_parts (c : UInt8) : ∀ l : List UInt8, (Lib.indexByte l c = -1 ∧ ∀ b ∈ l, b ≠ c) ∨ ∃ p r, l = p ++ c :: r ∧ (∀ b ∈ p, b ≠ c) ∧ Lib.indexByte l c = (p.length : Int) := by
  intro l
  induction l with
  | nil => left; exact ⟨rfl, fun b h => by cases h⟩
  | cons x l ih =>
    by_cases e : x = c
    · right
      exact ⟨[], l, by rw [e]; rfl, (fun b h => by cases h), by simp [Lib.indexByte, e]⟩
    · have e' : (x == c) = false := by simpa using e
      rcases ih with ⟨h1, h2⟩ | ⟨p, r, h1, h2, h3⟩
      · left
        refine ⟨by simp [Lib.indexByte, e', h1], fun b hb => ?_⟩
        rcases List.mem_cons.1 hb with q | q
        · rw [q]; exact e
        · exact h2 b q
      · right
        refine ⟨x :: p, r, by rw [h1]; rfl, fun b hb => ?_, ?_⟩
        · rcases List.mem_cons.1 hb with q | q
          · rw [q]; exact e
          · exact h2 b q
        · have n : (Lib.indexByte l c == -1) = false := by rw [h3]; simp only [beq_eq_false_iff_ne, ne_eq]; omega
          simp only [Lib.indexByte, e', n]
          rw [h3]
          rfl
theorem spl_one (c : UInt8) (l : List UInt8) (h : ∀ b ∈ l, b ≠ c) : spl c [] l = [l] := by
  have := spl_plain c l [] [] h
  rw [List.append_nil] at this
  rw [this]
  rfl
theorem spl_first (c : UInt8) (p r : List UInt8) (h : ∀ b ∈ p, b ≠ c) : spl c [] (p ++ c :: r) = p :: spl c [] r := by
  rw [spl_plain c p [] _ h, spl_at]
  rfl
/-- The variables of the iterator: what is left of the text. -/
structure SpA (sb ss sn : Nat) (u : List UInt8) (W : World) : Prop where
  sep : W.heap[sb]? = some (.cells #[.string (Bs [10])] 9 (0, 0))
  txt : W.heap[ss]? = some (.cells #[.string (Bs u)] 9 (0, 0))
  add : W.heap[sn]? = some (.cells #[.int .i64 0] 3 (0, 0))
theorem SpA.keep {sb ss sn : Nat} {u : List UInt8} {W W' : World} (h : SpA sb ss sn u W) (k : ∀ q, q = sb ∨ q = ss ∨ q = sn → W'.heap[q]? = W.heap[q]?) : SpA sb ss sn u W' :=
  ⟨(k _ (.inl rfl)).trans h.sep, (k _ (.inr (.inl rfl))).trans h.txt, (k _ (.inr (.inr rfl))).trans h.add⟩
set_option maxRecDepth 100000 in
set_option maxHeartbeats 8000000 in
theorem split_seq (sb ss sn : Nat) (t : List UInt8) (ht : t.length ≤ 2000000) (n1 : sb ≠ ss) (n2 : sn ≠ ss) :
    SeqO Fence.wide 2 Tryd.prog 53 #[.pointer (some ⟨sb, 0, none⟩), .pointer (some ⟨ss, 0, none⟩), .pointer (some ⟨sn, 0, none⟩)] (fun x : List UInt8 => #[.string (Bs x)]) (spl 10 [] t) (fun q => q = sb ∨ q = sn) (fun q => q = ss) (SpA sb ss sn t) (fun _ => True) := by
  intro l M J Jx W hA hRM hJ hJx hY h0
  have KP : Hid (∀ (O : Nat → Prop) (u : List UInt8) (W1 W' : World), W.heap.size ≤ W1.heap.size → SpA sb ss sn u W1 → Gx (fun q => (q < W.heap.size ∧ M q) ∨ (W.heap.size ≤ q ∧ O q)) W1 W' → SpA sb ss sn u W') := fun O u W1 W' hz h g => h.keep fun q hq => g.block q (by
      rcases hq with e | e | e
      · rw [e]; exact blkl h.sep
      · rw [e]; exact blkl h.txt
      · rw [e]; exact blkl h.add) (fun e => by
    have hr : (q = sb ∨ q = sn) ∨ q = ss := by
      rcases hq with e | e | e
      · exact .inl (.inl e)
      · exact .inr e
      · exact .inl (.inr e)
    have := hRM q hr
    rcases e with ⟨_, y⟩ | ⟨y, _⟩
    · exact this.2 y
    · omega)
  have HY : Hid _ := hY
  have SET : Hid (∀ (W1 : World) (pre : List (List UInt8)) (O : Nat → Prop) (u r : List UInt8), (∀ q, O q → W.heap.size ≤ q) → SpA sb ss sn u W1 → SpA sb ss sn r (W1.setCell ⟨ss, 0, none⟩ (.string (Bs r))) ∧ (J pre O W1 → J pre O (W1.setCell ⟨ss, 0, none⟩ (.string (Bs r))))) := fun W1 pre O u r hO h => by
    have ko : Ko W.heap.size (fun q => q = ss) O W1 (W1.setCell ⟨ss, 0, none⟩ (.string (Bs r))) := Ko.gx (S := fun q => q = ss) (Gx.set (S := fun q => q = ss) (q := ss) (Gx.refl _ W1) (.inl rfl) _ _) (fun q hq => ⟨.inr hq, fun e => by
      have := hO q e
      have := (hRM q (.inr hq)).1
      omega⟩)
    refine ⟨⟨?_, blk_put (o := 0) h.txt _, ?_⟩, fun j => hJ _ _ _ _ j ko⟩
    · exact (Go.Deep.blk_setCell_other _ _ _ _ n1).trans h.sep
    · exact (Go.Deep.blk_setCell_other _ _ _ _ n2).trans h.add
  have J0 : Hid (J [] (fun _ => False) W) := h0
  have A0 : Hid (SpA sb ss sn t W) := hA
  have IX : Hid (∀ (u : List UInt8) (W1 : World), Calls Tryd.prog 55 #[.string (Bs u), .string (Bs [10])] W1 fun e w' => e = .returned (.int .i64 (Lib.indexByte u 10)) ∧ w' = W1) := fun u W1 => by
    have := Tryd.strings_Index_one (Bs u) 10 W1
    exact this
  have s0 := blkc (o := 0) hA.sep rfl
  clear hA hY hJ hJx h0
  have hro : Fence.wide.round = none := rfl
  refine callsIn_of_wp Tryd.func53 rfl trivial ?_ hro
  simp only [Tryd.ntmps53, List.size_toArray, List.length_cons, List.length_nil, Nat.reduceAdd, Nat.reduceSub, Array.replicate_succ, Array.replicate_zero, List.push_toArray, List.append_toArray, List.nil_append, List.cons_append]
  gi_wp2
  gi_loopg [] t.length (fun gg wr => ∃ (pre : List (List UInt8)) (O : Nat → Prop) (u : List UInt8), u.length ≤ gg ∧ u.length ≤ 2000000 ∧ Hid (J pre O wr) ∧ Hid (∀ q, O q → W.heap.size ≤ q) ∧ Hid (pre ++ spl 10 [] u = spl 10 [] t) ∧ Hid (SpA sb ss sn u wr) ∧ W.heap.size ≤ wr.heap.size)
  case atStart => exact ⟨[], _, t, Nat.le_refl _, ht, J0, fun q e => e.elim, rfl, A0, Nat.le_refl _⟩
  case round =>
    clear J0 A0 s0
    obtain ⟨pre, O, u, ug, ul, JH, OH, EQ, SA, hz⟩ := hrel
    have c0 := blkc (o := 0) SA.out.sep rfl
    have c1 := blkc (o := 0) SA.out.txt rfl
    have c2 := blkc (o := 0) SA.out.add rfl
    have f1 := blkf (o := 0) SA.out.txt
    have l1 := blkl SA.out.txt
    have hsl : ∀ (p r : List UInt8), u = p ++ 10 :: r → ∀ W, (Instr.slice 9 (.string (Bs u)) none (some (.int .i64 (p.length : Int))) none).run Tryd.prog W = .ok (.string (Bs p)) W ∧ (Instr.slice 9 (.string (Bs u)) (some (.int .i64 ((p.length : Int) + 1))) none none).run Tryd.prog W = .ok (.string (Bs r)) W := by
      intro p r e W
      have l : (Bs u).size = p.length + 1 + r.length := by rw [Bs_size, e]; simp; omega
      have h1 : (Bs u).extract 0 p.length = Bs p := by rw [Bs_cut, e]; simp
      have h2 : (Bs u).extract (p.length + 1) (Bs u).size = Bs r := by
        rw [Bs_cut, l, e]
        congr 1
        rw [show p ++ 10 :: r = (p ++ [10]) ++ r by simp, List.drop_left' (by simp)]
        exact List.take_of_length_le (by omega)
      constructor
      · rw [run_slice_string_h (ht := under_text) (h0 := by omega) (h2 := by rw [l]; omega), Int.toNat_natCast, h1]
      · rw [run_slice_string_l (ht := under_text) (h0 := by omega) (h1 := by rw [l]; omega)]
        have e2 : ((p.length : Int) + 1).toNat = p.length + 1 := by omega
        rw [e2, h2]
    rcases index_parts 10 u with ⟨hi, nb⟩ | ⟨p, r, hu, np, hi⟩
    · have PX : Hid (pre ++ [u] = spl 10 [] t) := by have := EQ.out; rw [spl_one 10 u nb] at this; exact this
      have yy := HY.out pre u O wr JH.out hz (by rw [PX.out]; exact List.prefix_refl _)
      obtain ⟨fn, tmps, assign, body, hy, hR⟩ := yy
      have HRR : Hid _ := hR
      clear hR nb hsl
      gi_wp2
      refine ⟨trivial, ?_⟩
      refine CallsIn.mono (callsIn_wide.2 (IX.out u wr)) ?_
      rintro e w' ⟨rfl, hw⟩
      obtain rfl := hw.symm
      clear hw
      rw [hi]
      gi_wp2
      refine RoundIn.mono HRR.out ?_
      rintro e W3 ⟨O', o1, g3, (⟨rfl, hJ3⟩ | ⟨rfl, hJx3⟩)⟩
      · have z3 := g3.size
        have JJ : Hid (J (spl 10 [] t) O' W3) := by rw [← PX.out]; exact hJ3
        clear hJ3 g3 o1
        gi_wp2
        go_end0
        exact ⟨⟨_, rfl⟩, trivial, Nat.le_trans hz z3, .inl ⟨O', JJ.out⟩⟩
      · have z3 := g3.size
        have JJ : Hid (Jx (pre ++ [u]) O' W3) := hJx3
        clear hJx3 g3 o1
        gi_wp2
        go_end0
        exact ⟨⟨_, rfl⟩, trivial, Nat.le_trans hz z3, .inr ⟨pre ++ [u], O', by rw [PX.out]; exact List.prefix_refl _, JJ.out⟩⟩
    · have PX : Hid ((pre ++ [p]) ++ spl 10 [] r = spl 10 [] t) := by show _ = _; have := EQ.out; rw [hu, spl_first 10 p r np] at this; rw [← this]; simp
      have yy := HY.out pre p O wr JH.out hz (by rw [← PX.out]; exact List.prefix_append _ _)
      obtain ⟨fn, tmps, assign, body, hy, hR⟩ := yy
      have HRR : Hid _ := hR
      have s1 := fun W => (hsl p r hu W).1
      have s2 := fun W => (hsl p r hu W).2
      have rl : r.length < u.length := by rw [hu]; simp; omega
      have pl0 : p.length ≤ u.length := by rw [hu]; simp
      have pl : p.length ≤ 2000000 := by omega
      obtain ⟨pn, hpn⟩ : ∃ pn, p.length = pn := ⟨_, rfl⟩
      rw [hpn] at hi pl
      simp only [hpn] at s1 s2
      clear hR np hsl hu
      gi_wp2
      refine ⟨trivial, ?_⟩
      refine CallsIn.mono (callsIn_wide.2 (IX.out u wr)) ?_
      rintro e w' ⟨rfl, hw⟩
      obtain rfl := hw.symm
      clear hw
      rw [hi]
      have pneg : ¬ (pn : Int) < 0 := by omega
      gi_wp2
      refine RoundIn.mono HRR.out ?_
      rintro e W3 ⟨O', o1, g3, (⟨rfl, hJ3⟩ | ⟨rfl, hJx3⟩)⟩
      · have S3 := KP.out O u wr W3 hz SA.out g3
        have z3 := g3.size
        have O3 : ∀ q, O' q → W.heap.size ≤ q := fun q hq => ((o1 q hq).1).elim (OH.out q) (fun x => Nat.le_trans hz x)
        obtain ⟨A4, J4⟩ := SET.out W3 (pre ++ [p]) O' u r O3 S3
        have FIN : Hid (SpA sb ss sn r (W3.setCell ⟨ss, 0, none⟩ (.string (Bs r))) ∧ J (pre ++ [p]) O' (W3.setCell ⟨ss, 0, none⟩ (.string (Bs r))) ∧ W.heap.size ≤ (W3.setCell ⟨ss, 0, none⟩ (.string (Bs r))).heap.size) := ⟨A4, J4 hJ3, by have : W.heap.size ≤ W3.heap.size := Nat.le_trans hz z3; simpa [World.setCell] using this⟩
        have O3H : Hid (∀ q, O' q → W.heap.size ≤ q) := O3
        have d0 := blkc (o := 0) S3.sep rfl
        have d1 := blkc (o := 0) S3.txt rfl
        have e1 := blkf (o := 0) S3.txt
        have k1 := blkl S3.txt
        clear hJ3 g3 o1 A4 J4 S3 O3 c0 c1 c2 f1 l1 hy
        gi_wp2
        gi_roundg r.length
        case measure => omega
        case rel => exact ⟨pre ++ [p], O', r, Nat.le_refl _, by omega, FIN.out.2.1, O3H.out, PX.out, FIN.out.1, FIN.out.2.2⟩
      · have z3 := g3.size
        have JJ : Hid (Jx (pre ++ [p]) O' W3) := hJx3
        clear hJx3 g3 o1
        gi_wp2
        exact bodyPost_ret (results_none rfl _ _ _) rfl ⟨⟨_, rfl⟩, trivial, Nat.le_trans hz z3, .inr ⟨pre ++ [p], O', by rw [← PX.out]; exact List.prefix_append _ _, JJ.out⟩⟩
end Go.Proofs.YtocnmdabilaccaaDoor
