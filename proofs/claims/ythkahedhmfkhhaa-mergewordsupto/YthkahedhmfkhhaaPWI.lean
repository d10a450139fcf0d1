/- MergeWords: rows of functions and of keys that grow in turn. -/
import Derived.Test.YthkahedhmfkhhaaPWd
import Derived.Test.YthkahedhmfkhhaaPFls
namespace Go.Proofs.Ythkahedhmfkhhaa
open Go.RowKit Go.Shelf
set_option linter.unusedVariables false

theorem KS.stay {w w' : World} {rb n : Nat} {f : Nat → Int} (h : KS w (some ⟨rb, 0, none⟩) n f) (hb : rb < w'.heap.size) (k : w'.heap[rb]? = w.heap[rb]?) : KS w' (some ⟨rb, 0, none⟩) n f :=
  ⟨fun h0 => by
    obtain ⟨b, off, e, _, hc⟩ := h.cells h0
    cases e
    exact ⟨rb, 0, rfl, hb, fun i hi => (World.cell?_of_block (a := ⟨rb, 0 + i, none⟩) k).trans (hc i hi)⟩, h.bd⟩
/-- A row is kept while another one grows. -/
theorem KI.skip {w w8 : World} {ob og ob' : Nat} {vals : List Value} {K : List (List Int)} (h : KI w ob vals K) (h' : KI w og vals K) (z : w.heap.size ≤ w8.heap.size) (k : ∀ q, q < w.heap.size → q ≠ og → w8.heap[q]? = w.heap[q]?) (e : ob' = ob ∨ w.heap.size ≤ ob') : KI w8 ob' vals K :=
  ⟨h.len, fun i hi => by
    obtain ⟨rb, rc, h1, h2, h3, h4⟩ := h.row i hi
    obtain ⟨rb', rc', g1, g2, _, _⟩ := h'.row i hi
    rw [h1] at g1
    cases g1
    refine ⟨rb, rc, h1, ?_, Nat.lt_of_lt_of_le h3 z, h4.stay (Nat.lt_of_lt_of_le h3 z) (k rb h3 g2)⟩
    rcases e with q | q
    · rw [q]; exact h2
    · omega⟩
theorem own_stay {w w' : World} {base e size n g c : Nat} {xs : List Value} (h : w.ownsRow base e size (.slice (some ⟨g, 0, none⟩) n c) n xs) (k : w'.heap[g]? = w.heap[g]?) : w'.ownsRow base e size (.slice (some ⟨g, 0, none⟩) n c) n xs := by
  refine ⟨h.1, ?_⟩
  rcases h.2 with ⟨q, _⟩ | ⟨b, cap, cur, q, hb, hh, r⟩
  · cases q
  · injection q with q1 q2 q3
    injection q1 with q1
    injection q1 with q1
    subst q1 q3
    exact .inr ⟨g, c, cur, rfl, hb, k.trans hh, r⟩
/-- nf functions and nk rows of keys so far. -/
structure WI (base : Nat) (L : List (Lst ByteArray)) (nf nk fb fc kb kc : Nat) (B : List Bxs) (vals : List Value) (w : World) : Prop where
  rf : w.ownsRow base 42 1 (.slice (some ⟨fb, 0, none⟩) nf fc) nf (fnFs B)
  fl : Fls (L.take nf) B w
  rk : w.ownsRow base 45 1 (.slice (some ⟨kb, 0, none⟩) nk kc) nk vals
  ki : KI w kb vals ((keysS (L.map Lst.l)).take nk)
  kf : KI w fb vals ((keysS (L.map Lst.l)).take nk)
  ne : fb ≠ kb
  nd : ∀ q, rdFs (L.take nf) B q → q ≠ fb ∧ q ≠ kb
section
variable {base : Nat} {L : List (Lst ByteArray)} {nf nk fb fc kb kc : Nat} {B : List Bxs} {vals : List Value} {w w' : World}
theorem WI.gw (h : WI base L nf nk fb fc kb kc B vals w) (g : Gw w w') : WI base L nf nk fb fc kb kc B vals w' :=
  ⟨orow13 h.rf g, h.fl.gw g, orow13 h.rk g, h.ki.gw g, h.kf.gw g, h.ne, h.nd⟩
theorem WI.fn (h : WI base L nf nk fb fc kb kc B vals w) (hn : nf < L.length) {w5 w7 : World} {bo : Option Addr} {bc fb' fc' : Nat} (z5 : w.heap.size < w5.heap.size) (g5 : Gw w w5) (b5 : w5.heap[w.heap.size]? = some (.cells #[.slice bo L[nf].l.length bc] 44 (0, 0))) (ls : L[nf].l ≠ [] → bo = some ⟨L[nf].b, L[nf].off, none⟩ ∧ L[nf].b < base ∧ El1 encS w L[nf]) (hb : base ≤ w.heap.size)
    (r1 : w7.ownsRow base 42 1 (.slice (some ⟨fb', 0, none⟩) (nf + 1) fc') (nf + 1) (fnFs B ++ [.func (.func 28) #[] #[.pointer (some ⟨w.heap.size, 0, none⟩)]])) (r2 : w5.grownBy w7 (some fb)) (r4 : fb' = fb ∨ fb' = w5.heap.size) : WI base L (nf + 1) nk fb' fc' kb kc (B ++ [⟨w.heap.size, bo, bc⟩]) vals w7 := by
  have fbl : base ≤ fb ∧ fb < w.heap.size := World.ownsRow.lt h.rf fb rfl
  have kbl : base ≤ kb ∧ kb < w.heap.size := World.ownsRow.lt h.rk kb rfl
  have n7 : ∀ q, q < w5.heap.size → q ≠ fb → w7.heap[q]? = w5.heap[q]? := fun q hq hn => r2.block q hq (fun e => hn (by cases e; rfl))
  have n7' : ∀ q, q < w.heap.size → q ≠ fb → w7.heap[q]? = w.heap[q]? := fun q hq hn => (n7 q (by omega) hn).trans (g5.below.block q hq)
  have z7 : w.heap.size ≤ w7.heap.size := by have := r2.size; omega
  have ne' : fb' ≠ kb := by
    rcases r4 with e | e
    · rw [e]; exact h.ne
    · omega
  have TK : L.take (nf + 1) = L.take nf ++ [L[nf]] := by rw [List.take_add_one, List.getElem?_eq_getElem hn]; rfl
  have F7 : Fls (L.take nf) B w7 := h.fl.keep z7 fun q hq => n7' q (h.fl.lt q hq) (h.nd q hq).1
  have LS : Lsds w.heap.size bo bc L[nf] w7 := ⟨(n7 _ z5 (by omega)).trans b5, fun ne => by
    obtain ⟨l1, l2, l3⟩ := ls ne
    exact ⟨l1, by omega, l3.keep (n7' _ (by omega) (by omega))⟩⟩
  refine ⟨?_, by rw [TK]; exact F7.step (b := ⟨w.heap.size, bo, bc⟩) LS, own_stay h.rk (n7' kb kbl.2 (fun e => h.ne e.symm)), h.ki.skip h.kf z7 n7' (.inl rfl), h.kf.skip h.kf z7 n7' ?_, ne', ?_⟩
  · have : fnFs (B ++ [⟨w.heap.size, bo, bc⟩]) = fnFs B ++ [.func (.func 28) #[] #[.pointer (some ⟨w.heap.size, 0, none⟩)]] := by simp [fnFs]
    rw [this]; exact r1
  · rcases r4 with e | e
    · exact .inl e
    · exact .inr (by omega)
  · rintro q ⟨i, hi, hq⟩
    have il : i < nf + 1 := by simp at hi; omega
    have hlen : B.length = nf := by rw [h.fl.len]; simp; omega
    by_cases c : i < nf
    · have e1 : (B ++ [(⟨w.heap.size, bo, bc⟩ : Bxs)]).getD i bx0s = B.getD i bx0s := by
        rw [List.getD_eq_getElem?_getD, List.getD_eq_getElem?_getD, List.getElem?_append_left (by omega)]
      have e2 : (L.take (nf + 1))[i] = (L.take nf)[i]'(by simp; omega) := by simp
      rw [e1, e2] at hq
      have := h.nd q ⟨i, by simp; omega, hq⟩
      have ql := h.fl.lt q ⟨i, by simp; omega, hq⟩
      refine ⟨?_, this.2⟩
      rcases r4 with e | e
      · rw [e]; exact this.1
      · omega
    · have ei : i = nf := by omega
      subst ei
      have e1 : (B ++ [(⟨w.heap.size, bo, bc⟩ : Bxs)]).getD i bx0s = ⟨w.heap.size, bo, bc⟩ := by
        rw [List.getD_eq_getElem?_getD, List.getElem?_append_right (by omega), hlen]; simp
      have e2 : (L.take (i + 1))[i] = L[i] := by simp
      rw [e1, e2] at hq
      rcases hq with e | ⟨ne, e⟩
      · have e' : q = w.heap.size := e
        refine ⟨?_, by omega⟩
        rcases r4 with x | x <;> omega
      · have := (ls ne).2.1
        refine ⟨?_, by omega⟩
        rcases r4 with x | x <;> omega
theorem WI.ky (h : WI base L nf nk fb fc kb kc B vals w) {o : Obj} {w8 : World} {row : List Int} {rb rc kb' kc' : Nat} (hk : (keysS (L.map Lst.l)).take (nk + 1) = (keysS (L.map Lst.l)).take nk ++ [row]) (rn : rb ≠ kb ∧ rb ≠ fb) (rl : rb < w.heap.size) (ks : KS w (some ⟨rb, 0, none⟩) row.length (fun j => row.getD j 0))
    (r1 : w8.ownsRow base 45 1 (.slice (some ⟨kb', 0, none⟩) (nk + 1) kc') (nk + 1) (vals ++ [.slice (some ⟨rb, 0, none⟩) row.length rc])) (r2 : (w.alloc o).grownBy w8 (some kb)) (r4 : kb' = kb ∨ w.heap.size ≤ kb') : WI base L nf (nk + 1) fb fc kb' kc' B (vals ++ [.slice (some ⟨rb, 0, none⟩) row.length rc]) w8 := by
  have fbl : base ≤ fb ∧ fb < w.heap.size := World.ownsRow.lt h.rf fb rfl
  have k8 : ∀ q, q < w.heap.size → q ≠ kb → w8.heap[q]? = w.heap[q]? := fun q hq hn => (r2.block q (by simp; omega) (fun e => hn (by cases e; rfl))).trans (heap_alloc_old w _ hq)
  have z8 : w.heap.size ≤ w8.heap.size := by have := r2.size; simp at this; omega
  have ki := h.ki.more (rc := rc) r2 r4 rn.1 rl ks
  refine ⟨own_stay h.rf (k8 fb fbl.2 h.ne), h.fl.keep z8 fun q hq => k8 q (h.fl.lt q hq) (h.nd q hq).2, r1, by rw [hk]; exact ki, ?_, ?_, fun q hq => ?_⟩
  · rw [hk]
    refine ⟨ki.len, fun i hi => ?_⟩
    obtain ⟨b, c, h1, h2, h3, h4⟩ := ki.row i hi
    refine ⟨b, c, h1, ?_, h3, h4⟩
    by_cases e : i < ((keysS (L.map Lst.l)).take nk).length
    · obtain ⟨b', c', g1, g2, _⟩ := h.kf.row i e
      rw [List.getElem?_append_left (by rw [h.kf.len]; exact e), g1] at h1
      injection h1 with h1
      injection h1 with e1
      injection e1 with e1
      injection e1 with e1
      rw [← e1]; exact g2
    · have ei : i = ((keysS (L.map Lst.l)).take nk).length := by rw [List.length_append] at hi; simp only [List.length_singleton] at hi; omega
      subst ei
      rw [← h.kf.len] at h1
      simp at h1
      obtain ⟨e1, _⟩ := h1
      rw [← e1]; exact rn.2
  · rcases r4 with e | e
    · rw [e]; exact h.ne
    · omega
  · refine ⟨(h.nd q hq).1, ?_⟩
    rcases r4 with e | e
    · rw [e]; exact (h.nd q hq).2
    · have := h.fl.lt q hq; omega
end
end Go.Proofs.Ythkahedhmfkhhaa
