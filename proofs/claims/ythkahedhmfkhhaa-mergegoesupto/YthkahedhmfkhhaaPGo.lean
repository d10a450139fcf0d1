/- MergeGoes: a row of functions that grows; a row of entries that a round grows; ranges that may be left. -/
import Derived.Test.YthkahedhmfkhhaaPFle
import Derived.Test.YthkahedhmfkhhaaPTyC
import Derived.Test.YthkahedhmfkhhaaPCom
namespace Go.Proofs.Ythkahedhmfkhhaa
open Go.RowKit Go.Shelf
set_option linter.unusedVariables false

theorem mem_sizes13 {α : Type} : ∀ {Ls : List (List α)} {l : List α}, l ∈ Ls → l.length ≤ sizes Ls
  | [], _, h => by cases h
  | a :: Ls, l, h => by
    rw [sizes_cons]
    rcases List.mem_cons.1 h with e | e
    · rw [e]; omega
    · have := mem_sizes13 e; omega
theorem SeqO.round {α : Type} {n m : Nat} {P : Program} {g : Nat} {lb : Array Value} {encs : α → Array Value} {xs : List α} {R Wr : Nat → Prop} {A Z : World → Prop} (l : Nat) (h : SeqO Fence.wide n P g lb encs xs R Wr A Z) : SeqO (Fence.wide.inRound l) m P g lb encs xs R Wr A Z :=
  fun l' M J Jx W a hR hJ hJx hY h0 => CallsIn.inRound l (callsIn_wide.2 (callsIn_wide.1 (h l' M J Jx W a hR hJ hJx (fun pre x O W1 j z p => YieldAt.anyW (m := m - 1) (hY pre x O W1 j z p)) h0)))
theorem EL.cut {w : World} {ao : Option Addr} {l : List Ent} (h : EL w ao l) (k : Nat) : EL w ao (l.take k) := by
  have e : ∀ i, i < (l.take k).length → (l.take k).getD i ent0 = l.getD i ent0 ∧ i < l.length := fun i hi => by
    rw [List.length_take] at hi
    rw [List.getD_eq_getElem?_getD, List.getD_eq_getElem?_getD, List.getElem?_take_of_lt (by omega)]
    exact ⟨rfl, by omega⟩
  refine ⟨fun h0 => ?_, fun i hi => ?_⟩
  · obtain ⟨b, off, e1, e2, e3⟩ := h.cells (by have := (e 0 h0).2; omega)
    refine ⟨b, off, e1, e2, fun i hi => ?_⟩
    obtain ⟨q1, q2⟩ := e i hi
    rw [q1]; exact e3 i q2
  · obtain ⟨q1, q2⟩ := e i hi
    rw [q1]; exact h.bd i q2
theorem set_self13 {w : World} {b : Nat} {v : Value} {t : TypeId} (h : w.heap[b]? = some (.cells #[v] t (0, 0))) : w.setCell ⟨b, 0, none⟩ v = w := by
  have e : (w.setCell ⟨b, 0, none⟩ v).heap = w.heap := by
    apply Array.ext_getElem?
    intro i
    by_cases q : i = b
    · subst q
      rw [blk_set (o := 0) h v, h]
      rfl
    · exact Go.Deep.blk_setCell_other _ _ _ _ q
  show { w with heap := (w.setCell ⟨b, 0, none⟩ v).heap } = w
  rw [e]
section
variable {α : Type} {F : Fence} {n : Nat} {P : Program} {ps : Array Tmp} {assign body : Code} {gf : Nat} {lb : Array Value} {encs : α → Array Value} {xs : List α} {R Wr : Nat → Prop} {A Z : World → Prop}
/-- A range that a break may leave: both ways go on alike. -/
theorem range_brk {g : Operand} {Q : Exit → Act → World → Prop} {a : Act} {w : World} (k : Nat) (hro : F.round = none) (h1 : 1 ≤ n) (hg : a.eval g = .func (.func gf) #[] lb) (hFg : F.fn gf) (eg : ∀ args w, (callFunc gf args).run P w = .ok (.enter gf args) w)
    (hseq : SeqO F (n - 1) P gf lb encs xs R Wr A Z) (hA : ∀ W, Gw w W → A W) (hps : ∀ x, (encs x).size = ps.size)
    (M : Nat → Prop) (hR : ∀ q, R q ∨ Wr q → q < w.heap.size ∧ ¬ M q) (hM : ∀ q, M q → q < w.heap.size)
    (I : List α → (Nat → Prop) → World → Prop) (Ix : List α → (Nat → Prop) → World → Prop)
    (hI : ∀ pre O W1 W2, I pre O W1 → Ko w.heap.size Wr O W1 W2 → I pre O W2) (hIx : ∀ pre O W1 W2, Ix pre O W1 → Ko w.heap.size Wr O W1 W2 → Ix pre O W2) (hZ : ∀ W W', Z W → W.heap.size ≤ W'.heap.size → (∀ q, q < w.heap.size → W'.heap[q]? = W.heap[q]?) → Z W')
    (h0 : I [] (fun _ => False) w) (hr : ∀ l n1, w.heap.size ≤ l → l < n1 → RoundO F (n - 1 - 1) P ps assign body encs xs a.tmps w.heap.size M I (fun c pre O W => c = .exit k ∧ Ix pre O W) l n1)
    (hq : ∀ a W, Q .normal a W → Q (.exit k) a W)
    (hfin : ∀ (D : Nat) (O : Nat → Prop) (W : World), w.heap.size ≤ D → ¬ O D → (∀ q, O q → w.heap.size ≤ q) → (I xs O W ∨ ∃ pre, pre <+: xs ∧ Ix pre O W) → Z W → W.heap[D]? = some (.deferred (some [])) → Q .normal { a with defers := { target := .collected D, args := #[] } :: a.defers } W) :
    (Code.rangeFunc g ps assign body).wpIn F n P Q a w := by
  refine range_out hro h1 hg hFg eg hseq hA hps M hR hM I (fun c pre O W => c = .exit k ∧ Ix pre O W) hI (fun c pre O W1 W2 h kk => ⟨h.1, hIx _ _ _ _ h.2 kk⟩) hZ h0 hr (fun D O W d1 d2 d3 i z b => hfin D O W d1 d2 d3 (.inl i) z b) ?_
  rintro D c pre O W d1 d2 d3 hp ⟨rfl, i⟩ z b
  exact wpIn_exit (hq _ _ (hfin D O W d1 d2 d3 (.inr ⟨pre, hp, i⟩) z b))
end
/-- nf functions so far. -/
structure GoI (base : Nat) (L : List (Lst Ent)) (nf fb fc : Nat) (B : List Bxe) (w : World) : Prop where
  rf : w.ownsRow base 28 1 (.slice (some ⟨fb, 0, none⟩) nf fc) nf (fnFe B)
  fl : Fle (L.take nf) B w
  nd : ∀ q, rdFe (L.take nf) B q → q ≠ fb
  hb : ∀ i, i < nf → base ≤ (B.getD i bx0e).b
theorem GoI.fn {base : Nat} {L : List (Lst Ent)} {nf fb fc : Nat} {B : List Bxe} {w : World} (h : GoI base L nf fb fc B w) (hn : nf < L.length) {w5 w7 : World} {bo : Option Addr} {bc fb' fc' : Nat} (z5 : w.heap.size < w5.heap.size) (g5 : Gw w w5) (b5 : w5.heap[w.heap.size]? = some (.cells #[.slice bo L[nf].l.length bc] 24 (0, 0))) (ls : L[nf].l ≠ [] → bo = some ⟨L[nf].b, L[nf].off, none⟩ ∧ L[nf].b < base ∧ ElE w L[nf]) (hb : base ≤ w.heap.size)
    (r1 : w7.ownsRow base 28 1 (.slice (some ⟨fb', 0, none⟩) (nf + 1) fc') (nf + 1) (fnFe B ++ [.func (.func 23) #[] #[.pointer (some ⟨w.heap.size, 0, none⟩)]])) (r2 : w5.grownBy w7 (some fb)) (r4 : fb' = fb ∨ fb' = w5.heap.size) : GoI base L (nf + 1) fb' fc' (B ++ [⟨w.heap.size, bo, bc⟩]) w7 := by
  have fbl : base ≤ fb ∧ fb < w.heap.size := World.ownsRow.lt h.rf fb rfl
  have n7 : ∀ q, q < w5.heap.size → q ≠ fb → w7.heap[q]? = w5.heap[q]? := fun q hq hn => r2.block q hq (fun e => hn (by cases e; rfl))
  have n7' : ∀ q, q < w.heap.size → q ≠ fb → w7.heap[q]? = w.heap[q]? := fun q hq hn => (n7 q (by omega) hn).trans (g5.below.block q hq)
  have z7 : w.heap.size ≤ w7.heap.size := by have := r2.size; omega
  have TK : L.take (nf + 1) = L.take nf ++ [L[nf]] := by rw [List.take_add_one, List.getElem?_eq_getElem hn]; rfl
  have F7 : Fle (L.take nf) B w7 := h.fl.keep z7 fun q hq => n7' q (h.fl.lt q hq) (h.nd q hq)
  have LS : Lsde w.heap.size bo bc L[nf] w7 := ⟨(n7 _ z5 (by omega)).trans b5, fun ne => by
    obtain ⟨l1, l2, l3⟩ := ls ne
    exact ⟨l1, by omega, l3.keep (n7' _ (by omega) (by omega))⟩⟩
  have hlen : B.length = nf := by rw [h.fl.len]; simp; omega
  refine ⟨?_, by rw [TK]; exact F7.step (b := ⟨w.heap.size, bo, bc⟩) LS, ?_, fun i hi => ?_⟩
  · have : fnFe (B ++ [⟨w.heap.size, bo, bc⟩]) = fnFe B ++ [.func (.func 23) #[] #[.pointer (some ⟨w.heap.size, 0, none⟩)]] := by simp [fnFe]
    rw [this]; exact r1
  · rintro q ⟨i, hi, hq⟩
    have il : i < nf + 1 := by simp at hi; omega
    by_cases c : i < nf
    · have e1 : (B ++ [(⟨w.heap.size, bo, bc⟩ : Bxe)]).getD i bx0e = B.getD i bx0e := by
        rw [List.getD_eq_getElem?_getD, List.getD_eq_getElem?_getD, List.getElem?_append_left (by omega)]
      have e2 : (L.take (nf + 1))[i] = (L.take nf)[i]'(by simp; omega) := by simp
      rw [e1, e2] at hq
      have := h.nd q ⟨i, by simp; omega, hq⟩
      have ql := h.fl.lt q ⟨i, by simp; omega, hq⟩
      rcases r4 with e | e
      · rw [e]; exact this
      · omega
    · have ei : i = nf := by omega
      subst ei
      have e1 : (B ++ [(⟨w.heap.size, bo, bc⟩ : Bxe)]).getD i bx0e = ⟨w.heap.size, bo, bc⟩ := by
        rw [List.getD_eq_getElem?_getD, List.getElem?_append_right (by omega), hlen]; simp
      have e2 : (L.take (i + 1))[i] = L[i] := by simp
      rw [e1, e2] at hq
      rcases hq with e | ⟨ne, e⟩
      · have e' : q = w.heap.size := e
        rcases r4 with x | x <;> omega
      · have := (ls ne).2.1
        rcases r4 with x | x <;> omega
  · by_cases c : i < nf
    · rw [List.getD_eq_getElem?_getD, List.getElem?_append_left (by omega), ← List.getD_eq_getElem?_getD]
      exact h.hb i c
    · have ei : i = nf := by omega
      subst ei
      rw [List.getD_eq_getElem?_getD, List.getElem?_append_right (by omega), hlen]
      simpa using hb
/-- A row of entries, and the box of its slice: the row is the first one, or one's own. -/
structure AccI (X : World) (bx r0 : Nat) (M : Nat → Prop) (pre : List Ent) (O : Nat → Prop) (W : World) : Prop where
  ex : ∃ rb rc, W.heap[bx]? = some (.cells #[.slice (some ⟨rb, 0, none⟩) pre.length rc] 24 (0, 0)) ∧ (rb = r0 ∨ O rb) ∧ EO W r0 (.slice (some ⟨rb, 0, none⟩) pre.length rc) pre
  gx : Gx M X W
theorem AccI.ko {X : World} {bx r0 : Nat} {M : Nat → Prop} {pre : List Ent} {O : Nat → Prop} {W W' : World} (h : AccI X bx r0 M pre O W) (hb : bx < X.heap.size) (hr : r0 < X.heap.size) (k : Ko X.heap.size (fun _ => False) O W W') : AccI X bx r0 M pre O W' := by
  obtain ⟨rb, rc, h1, h2, h3⟩ := h.ex
  have rl := (World.ownsRow.lt h3 rb rfl).2
  refine ⟨⟨rb, rc, (k.block bx (blkl h1) (.inl ⟨hb, fun e => e⟩)).trans h1, h2, eo_keep h3 fun q hq => ?_⟩, ⟨k.os.trans h.gx.os, k.tape.trans h.gx.tape, k.output.trans h.gx.output, Nat.le_trans h.gx.size k.size, fun q hq hs => (k.block q (Nat.lt_of_lt_of_le hq h.gx.size) (.inl ⟨hq, fun e => e⟩)).trans (h.gx.block q hq hs)⟩⟩
  have eq : rb = q := by simpa [Value.ownBlock] using hq
  subst eq
  refine k.block rb rl ?_
  rcases h2 with e | e
  · exact .inl ⟨by omega, fun e => e⟩
  · exact .inr e
theorem AccI.step {X : World} {bx r0 rb rc : Nat} {M : Nat → Prop} {pre : List Ent} {x : Ent} {O : Nat → Prop} {z n1 : Nat} {W2 W3 W4 : World} (h : AccI X bx r0 M pre O W2) (h1 : W2.heap[bx]? = some (.cells #[.slice (some ⟨rb, 0, none⟩) pre.length rc] 24 (0, 0))) (h2 : rb = r0 ∨ O rb) (hb : bx < X.heap.size) (hr : r0 < X.heap.size) (ne : bx ≠ r0) (mb : M bx) (mr : M r0) (ho : ∀ q, O q → n1 ≤ q) (hn : X.heap.size ≤ n1) (hz : z ≤ W2.heap.size) (zn : X.heap.size ≤ z)
    (g3 : Gw W2 W3) {b8 c8 : Nat} (q1 : W4.ownsRow r0 32 3 (.slice (some ⟨b8, 0, none⟩) (pre.length + 1) c8) (pre.length + 1) (pre.flatMap ent3 ++ ent3 x)) (q2 : W3.grownBy W4 (some rb)) (q4 : b8 = rb ∨ b8 = W3.heap.size) :
    ∃ O' : Nat → Prop, (∀ q, O' q → (O q ∨ z ≤ q) ∧ q < (W4.setCell ⟨bx, 0, none⟩ (.slice (some ⟨b8, 0, none⟩) (pre.length + 1) c8)).heap.size) ∧ Gx (fun q => (q < X.heap.size ∧ M q) ∨ O q ∨ z ≤ q) W2 (W4.setCell ⟨bx, 0, none⟩ (.slice (some ⟨b8, 0, none⟩) (pre.length + 1) c8)) ∧ AccI X bx r0 M (pre ++ [x]) O' (W4.setCell ⟨bx, 0, none⟩ (.slice (some ⟨b8, 0, none⟩) (pre.length + 1) c8)) := by
  have s3 := g3.size
  have s4 := q2.size
  have xs := h.gx.size
  have bl := blkl h1
  have b8l := (World.ownsRow.lt q1 b8 rfl)
  have nO : ¬ O bx := fun e => by have := ho bx e; omega
  have bxr : bx ≠ rb := by
    rcases h2 with e | e
    · omega
    · intro e2; rw [← e2] at e; exact nO e
  have k4 : ∀ q, q < W2.heap.size → q ≠ rb → W4.heap[q]? = W2.heap[q]? := fun q hq hn => (q2.block q (by omega) (fun e => hn (by cases e; rfl))).trans (g3.below.block q hq)
  have b4 := (k4 bx bl bxr).trans h1
  have b8n : b8 ≠ bx := by rcases q4 with e | e <;> omega
  have e24 : Gx (fun q => q = rb) W2 W4 := ⟨q2.os.trans g3.below.os, q2.tape.trans g3.below.tape, q2.output.trans g3.below.output, by omega, fun q hq hs => k4 q hq hs⟩
  have len : (pre ++ [x]).length = pre.length + 1 := by simp
  refine ⟨fun q => q = b8 ∧ b8 ≠ r0, fun q ⟨e, ne8⟩ => ⟨?_, by subst e; simpa using b8l.2⟩, ?_, ⟨⟨b8, c8, ?_, ?_, ?_⟩, ?_⟩⟩
  · subst e
    rcases q4 with e | e
    · rw [e]
      rcases h2 with e2 | e2
      · exact absurd (e.trans e2) ne8
      · exact .inl e2
    · exact .inr (by omega)
  · refine (e24.mono fun q hq => .inl ?_).set (.inl (.inl ⟨hb, mb⟩)) _ _
    have hq' : q = rb := hq
    subst hq'
    rcases h2 with e | e
    · exact .inl ⟨by omega, by rw [e]; exact mr⟩
    · exact .inr (.inl e)
  · rw [len]
    exact blk_set (o := 0) b4 _
  · by_cases e : b8 = r0
    · exact .inl e
    · exact .inr ⟨rfl, e⟩
  · rw [len]
    refine eo_keep (eo_more q1) fun q hq => ?_
    have eq : b8 = q := by simpa [Value.ownBlock] using hq
    subst eq
    exact Go.Deep.blk_setCell_other _ _ _ _ b8n
  · refine (h.gx.trans e24 fun q hq => ?_).set (.inl mb) _ _
    have hq' : q = rb := hq
    subst hq'
    rcases h2 with e | e
    · exact .inl (by rw [e]; exact mr)
    · exact .inr (by have := ho q e; omega)
theorem AccI.side {X : World} {bx r0 : Nat} {M S : Nat → Prop} {pre : List Ent} {O : Nat → Prop} {W W' : World} (h : AccI X bx r0 M pre O W) (g : Gx S W W') (hs : ∀ q, S q → M q ∧ q < X.heap.size ∧ q ≠ bx ∧ q ≠ r0) (ho : ∀ q, O q → X.heap.size ≤ q) : AccI X bx r0 M pre O W' := by
  obtain ⟨rb, rc, h1, h2, h3⟩ := h.ex
  refine ⟨⟨rb, rc, (g.block bx (blkl h1) (fun e => (hs bx e).2.2.1 rfl)).trans h1, h2, eo_keep h3 fun q hq => ?_⟩, h.gx.trans g (fun q hq => .inl (hs q hq).1)⟩
  have eq : rb = q := by simpa [Value.ownBlock] using hq
  subst eq
  refine g.block rb (World.ownsRow.lt h3 rb rfl).2 (fun e => ?_)
  obtain ⟨_, s2, _, s4⟩ := hs rb e
  rcases h2 with x | x
  · exact s4 x
  · have := ho rb x; omega
theorem AccI.own {X : World} {bx r0 : Nat} {M : Nat → Prop} {pre : List Ent} {O : Nat → Prop} {W : World} (h : AccI X bx r0 M pre O W) : ∃ O' : Nat → Prop, (∀ q, O' q → O q ∧ q < W.heap.size) ∧ AccI X bx r0 M pre O' W := by
  obtain ⟨rb, rc, h1, h2, h3⟩ := h.ex
  refine ⟨fun q => q = rb ∧ rb ≠ r0, fun q ⟨e, ne⟩ => ⟨by rw [e]; exact h2.resolve_left ne, by rw [e]; exact (World.ownsRow.lt h3 rb rfl).2⟩, ⟨rb, rc, h1, ?_, h3⟩, h.gx⟩
  by_cases e : rb = r0
  · exact .inl e
  · exact .inr ⟨rfl, e⟩
theorem AccI.el {X : World} {bx r0 : Nat} {M : Nat → Prop} {pre : List Ent} {O : Nat → Prop} {W : World} (h : AccI X bx r0 M pre O W) (ok : ∀ e ∈ pre, e.ok) : ∃ rb rc, W.cell? ⟨bx, 0, none⟩ = some (.slice (some ⟨rb, 0, none⟩) pre.length rc) ∧ EL W (some ⟨rb, 0, none⟩) pre := by
  obtain ⟨rb, rc, h1, h2, h3⟩ := h.ex
  exact ⟨rb, rc, blkc h1 rfl, eo_el h3 ok⟩
end Go.Proofs.Ythkahedhmfkhhaa
