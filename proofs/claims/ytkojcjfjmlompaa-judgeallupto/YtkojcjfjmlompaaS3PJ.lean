/- A judge and the document's plain map beside it. -/
import Derived.Test.YtkojcjfjmlompaaS3Shown
import Derived.Test.YtkojcjfjmlompaaS3New
namespace Go.Proofs.Ytkojcjfjmlompaa
open Go.RowKit
set_option linter.unusedVariables false
/-- Both in memory, apart. -/
structure PJ (HJ : World → Nat → (Nat → Prop) → Int → Ps → Prop) (w wr : World) (p j : Nat) (Sp Sj : Nat → Prop) (most : Int) (lp lj : Ps) : Prop where
  hp : HPl wr p Sp most lp
  hj : HJ wr j Sj most lj
  ap : ∀ q, Sp q → ¬ Sj q
  lo : ∀ q, Sp q ∨ Sj q → w.heap.size ≤ q
  lt : ∀ q, Sp q ∨ Sj q → q < wr.heap.size
  gw : Gw w wr
theorem PJ.same {HJ : World → Nat → (Nat → Prop) → Int → Ps → Prop} (C : JudgeC HJ) {w wr w' : World} {p j : Nat} {Sp Sj : Nat → Prop} {most : Int} {lp lj : Ps} (h : PJ HJ w wr p j Sp Sj most lp lj) (g : Gw wr w') : ∃ Sj', PJ HJ w w' p j Sp Sj' most lp lj ∧ ∀ q, Sj' q → Sj q :=
  ⟨_, ⟨h.hp.gw g, C.keep h.hj (fun q _ hl => g.below.block q hl), fun q a b => h.ap q a b.1, fun q a => h.lo q (a.imp id fun b => b.1), fun q a => Nat.lt_of_lt_of_le (h.lt q (a.imp id fun b => b.1)) g.size, h.gw.trans g⟩, fun q a => a.1⟩
/-- The plain map goes on. -/
theorem PJ.doc {HJ : World → Nat → (Nat → Prop) → Int → Ps → Prop} (C : JudgeC HJ) {w wr w' : World} {p j : Nat} {Sp Sj Sp' : Nat → Prop} {most : Int} {lp lj lp' : Ps} (h : PJ HJ w wr p j Sp Sj most lp lj) (h1 : HPl w' p Sp' most lp') (h2 : Gx Sp wr w') (h3 : ∀ q, Sp' q → Sp q ∨ wr.heap.size ≤ q) : ∃ Sj', PJ HJ w w' p j (fun q => Sp' q ∧ q < w'.heap.size) Sj' most lp' lj ∧ ∀ q, Sj' q → Sj q := by
  refine ⟨_, ⟨h1.trim, C.keep h.hj (fun q hq hl => h2.block q hl (fun k => h.ap q k hq)), fun q a b => ?_, fun q a => ?_, fun q a => ?_, Gx.gw h.gw h2 (fun q hq => h.lo q (.inl hq))⟩, fun q a => a.1⟩
  · rcases h3 q a.1 with k | k
    · exact h.ap q k b.1
    · have := b.2; omega
  · rcases a with a | a
    · rcases h3 q a.1 with k | k
      · exact h.lo q (.inl k)
      · have := h.gw.size; omega
    · exact h.lo q (.inr a.1)
  · rcases a with a | a
    · exact a.2
    · exact Nat.lt_of_lt_of_le a.2 h2.size
/-- The judge goes on. -/
theorem PJ.jud {HJ : World → Nat → (Nat → Prop) → Int → Ps → Prop} (C : JudgeC HJ) {w wr w' : World} {p j : Nat} {Sp Sj Sj' : Nat → Prop} {most : Int} {lp lj lj' : Ps} (h : PJ HJ w wr p j Sp Sj most lp lj) (h1 : HJ w' j Sj' most lj') (h2 : Gx Sj wr w') (h3 : ∀ q, Sj' q → Sj q ∨ wr.heap.size ≤ q) : ∃ Sp' Sj'', PJ HJ w w' p j Sp' Sj'' most lp lj' ∧ (∀ q, Sp' q → Sp q) ∧ ∀ q, Sj'' q → Sj' q := by
  have k1 : HPl w' p (fun q => Sp q ∧ q < wr.heap.size) most lp := h.hp.trim.keep (fun q hq hl => h2.block q hl (h.ap q hq.1))
  have k2 := C.keep h1 (w' := w') (fun q _ _ => rfl)
  refine ⟨_, _, ⟨k1, k2, fun q a b => ?_, fun q a => ?_, fun q a => ?_, Gx.gw h.gw h2 (fun q hq => h.lo q (.inr hq))⟩, fun q a => a.1, fun q a => a.1⟩
  · rcases h3 q b.1 with k | k
    · exact h.ap q a.1 k
    · have := a.2; omega
  · rcases a with a | a
    · exact h.lo q (.inl a.1)
    · rcases h3 q a.1 with k | k
      · exact h.lo q (.inr k)
      · have := h.gw.size; omega
  · rcases a with a | a
    · exact Nat.lt_of_lt_of_le a.2 h2.size
    · exact a.2
/-- Both, from nothing on. -/
theorem PJ.new {HJ : World → Nat → (Nat → Prop) → Int → Ps → Prop} (C : JudgeC HJ) {w w1 w2 w3 : World} {j : Nat} {Sj : Nat → Prop} {most : Int} (h0 : Gw w w1) (h1 : HJ w2 j Sj most []) (h2 : ∀ q, Sj q → w1.heap.size ≤ q) (h3 : Gw w1 w2) (h4 : HPl w3 w2.heap.size (fun q => q = w2.heap.size) most []) (h5 : Gw w2 w3) : ∃ Sp Sj', PJ HJ w w3 w2.heap.size j Sp Sj' most [] [] := by
  refine ⟨_, _, h4, C.keep h1 (fun q _ hl => h5.below.block q hl), fun q a b => ?_, fun q a => ?_, fun q a => ?_, (h0.trans h3).trans h5⟩
  · have := b.2; omega
  · have z1 := h0.size
    have z2 := h3.size
    rcases a with a | a
    · omega
    · have := h2 q a.1; omega
  · have z2 := h5.size
    rcases a with a | a
    · rw [a]; exact blkl h4.lies.choose_spec.1
    · have := a.2; omega
/-- What the plain map answers, in memory. -/
def DoJ (HJ : World → Nat → (Nat → Prop) → Int → Ps → Prop) (w w' : World) (e : Ending) (p j : Nat) (most : Int) (lp lj : Ps) (A : Aw) : Prop :=
  ∃ (bo : Option Addr) (c : Nat) (Sp Sj : Nat → Prop), e = .returned (awV A bo c) ∧ PJ HJ w w' p j Sp Sj most lp lj ∧ PLr w' bo A.L ∧ (∀ a, bo = some a → 0 < A.L.length → ¬ Sj a.block) ∧ (bo = none → c = 0)
theorem PJ.doo {HJ : World → Nat → (Nat → Prop) → Int → Ps → Prop} (C : JudgeC HJ) {w wr : World} {p j : Nat} {Sp Sj : Nat → Prop} {most : Int} {lp lj : Ps} (h : PJ HJ w wr p j Sp Sj most lp lj) (o : Ot) (bo : BdO o) (hn : lp.length ≤ 4000000) : ∀ W, Gw wr W →
    Calls Try.prog 18 #[.pointer (some ⟨p, 0, none⟩), .agg #[.int .i64 o.1, .int .u64 o.2.1, .int .u64 o.2.2]] W fun e w' => DoJ HJ w w' e p j most (nxtP most lp o.1 o.2.1 o.2.2) lj (ansP most lp o.1 o.2.1 o.2.2) := fun W g => by
  obtain ⟨Sj1, h1, s1⟩ := h.same C g
  refine (do23 p Sp most lp o.1 o.2.1 o.2.2 bo.1 bo.2 hn W h1.hp).mono ?_
  rintro e w' ⟨b, c, S', rfl, HP, GX, SS, PB, BS, BN⟩
  obtain ⟨Sj2, h2, s2⟩ := h1.doc C HP GX SS
  refine ⟨b, c, _, Sj2, rfl, h2, PB, fun a e h0 hs => ?_, BN⟩
  have k1 := (BS a e).2
  have k2 := h1.lt _ (.inr (s2 _ hs))
  omega
def SeK (HJ : World → Nat → (Nat → Prop) → Int → Ps → Prop) (w W w' : World) (e : Ending) (p j : Nat) (Sp0 Sj0 : Nat → Prop) (most : Int) (lp lj : Ps) (L : List Int) : Prop :=
  ∃ Sp Sj : Nat → Prop, NumJ w' e (fun q => Sp q ∨ Sj q ∨ q < W.heap.size) L ∧ PJ HJ w w' p j Sp Sj most lp lj ∧ Gx Sj0 W w' ∧ (∀ q, Sp q → Sp0 q) ∧ (∀ q, Sj q → Sj0 q ∨ W.heap.size ≤ q)
theorem PJ.see {HJ : World → Nat → (Nat → Prop) → Int → Ps → Prop} (C : JudgeC HJ) {w wr : World} {p j : Nat} {Sp Sj : Nat → Prop} {most : Int} {lp lj : Ps} (h : PJ HJ w wr p j Sp Sj most lp lj) (o : Ot) (bo : BdO o) (hn : lj.length ≤ 3999999) (A : Aw) (ao : Option Addr) (ca : Nat) (hA : A.L.length ≤ 4000000) (hl : PLr wr ao A.L) (hs : ∀ a, ao = some a → 0 < A.L.length → ¬ Sj a.block) : ∀ W, Gw wr W →
    Calls Try.prog 10 #[.pointer (some ⟨j, 0, none⟩), .agg #[.int .i64 o.1, .int .u64 o.2.1, .int .u64 o.2.2], awV A ao ca] W fun e w' => SeK HJ w W w' e p j Sp Sj most lp (nxtP most lj o.1 o.2.1 o.2.2) (seeP (ansP most lj o.1 o.2.1 o.2.2) A) := fun W g => by
  obtain ⟨Sj1, h1, s1⟩ := h.same C g
  refine (C.see j Sj1 most lj o A ao ca W bo hn hA h1.hj (hl.gw g) (fun a e h0 k => hs a e h0 (s1 _ k))).mono ?_
  rintro e w' ⟨S', ⟨b, c, rfl, n1, n2⟩, j1, x1, y1⟩
  obtain ⟨Sp2, Sj2, h2, s2, s3⟩ := h1.jud C j1 x1 y1
  refine ⟨Sp2, Sj2, ⟨b, c, rfl, n1, fun a e h0 k => ?_⟩, h2, x1.mono (fun q hq => .inl (s1 q hq)), s2, fun q hq => (y1 q (s3 q hq)).imp (s1 q) id⟩
  rcases k with k | k | k
  · exact n2 a e h0 (.inr (h1.lt _ (.inl (s2 _ k))))
  · exact n2 a e h0 (.inl (s3 _ k))
  · exact n2 a e h0 (.inr k)
/-- Blocks that are neither's turned. -/
theorem PJ.gx {HJ : World → Nat → (Nat → Prop) → Int → Ps → Prop} (C : JudgeC HJ) {w wr w' : World} {p j : Nat} {Sp Sj F : Nat → Prop} {most : Int} {lp lj : Ps} (h : PJ HJ w wr p j Sp Sj most lp lj) (g : Gx F wr w') (no : ∀ q, F q → ¬ Sp q ∧ ¬ Sj q ∧ w.heap.size ≤ q) : ∃ Sj', PJ HJ w w' p j Sp Sj' most lp lj ∧ ∀ q, Sj' q → Sj q :=
  ⟨_, ⟨h.hp.gx g (fun q hq k => (no q k).1 hq), C.keep h.hj (fun q hq hl => g.block q hl (fun k => (no q k).2.1 hq)), fun q a b => h.ap q a b.1, fun q a => h.lo q (a.imp id fun b => b.1), fun q a => Nat.lt_of_lt_of_le (h.lt q (a.imp id fun b => b.1)) g.size, Gx.gw h.gw g (fun q hq => (no q hq).2.2)⟩, fun q a => a.1⟩
/-- The plain map's list, read. -/
theorem PJ.docL {HJ : World → Nat → (Nat → Prop) → Int → Ps → Prop} {w wr : World} {p j : Nat} {Sp Sj : Nat → Prop} {most : Int} {lp lj : Ps} (h : PJ HJ w wr p j Sp Sj most lp lj) : ∃ (bo : Option Addr) (c : Nat), ∀ W, Gw wr W → W.cell? ⟨p, 1, none⟩ = some (.slice bo lp.length c) ∧ PLr W bo lp := by
  obtain ⟨v, h1, h2, _⟩ := h.hp.lies
  obtain ⟨bo, c, rfl, _⟩ := row_shape h2
  exact ⟨bo, c, fun W g => ⟨(g.cell _ _ (blkl h1)).trans (blkc (o := 1) h1 rfl), (row_ls h2).gw g⟩⟩
theorem nc1_len (x : Int) : (nc1 x).length = 1 := rfl
theorem NR.ls {w : World} {base : Nat} {v : Value} {L : List Int} (h : NR w base v L) : ∃ g c, v = .slice (some ⟨g, 0, none⟩) L.length c ∧ NLr w (some ⟨g, 0, none⟩) L ∧ base ≤ g := by
  obtain ⟨g, c, rfl⟩ := h.sh
  have e : L.flatMap nc1 = nis L := by
    clear h
    induction L with
    | nil => rfl
    | cons x l ih => rw [List.flatMap_cons, ih]; rfl
  have r : RowG 3 1 nc1 w base g L.length c L := ⟨rfl, by rw [e]; exact h.row⟩
  exact ⟨g, c, rfl, r.ls nc1_len, r.lt.1⟩
def SeD (HJ : World → Nat → (Nat → Prop) → Int → Ps → Prop) (w W w' : World) (e : Ending) (p j : Nat) (Sp Sj : Nat → Prop) (most : Int) (lp lj : Ps) (L : List Int) : Prop :=
  ∃ (bo : Option Addr) (c : Nat) (Sp' Sj' : Nat → Prop), e = .returned (.slice bo L.length c) ∧ NLr w' bo L ∧ PJ HJ w w' p j Sp' Sj' most lp lj ∧ Gx Sp W w' ∧ (∀ q, Sp' q → Sp q ∨ W.heap.size ≤ q) ∧ (∀ q, Sj' q → Sj q)
theorem PJ.seeD {HJ : World → Nat → (Nat → Prop) → Int → Ps → Prop} (C : JudgeC HJ) {w wr : World} {p j : Nat} {Sp Sj : Nat → Prop} {most : Int} {lp lj : Ps} (h : PJ HJ w wr p j Sp Sj most lp lj) (o : Ot) (bo : BdO o) (hn : lp.length ≤ 3999999) (A : Aw) (ao : Option Addr) (ca : Nat) (hA : A.L.length ≤ 4000000) (hl : PLr wr ao A.L) (hs : ∀ a, ao = some a → 0 < A.L.length → ¬ Sp a.block) : ∀ W, Gw wr W →
    Calls Try.prog 11 #[.pointer (some ⟨p, 0, none⟩), .agg #[.int .i64 o.1, .int .u64 o.2.1, .int .u64 o.2.2], awV A ao ca] W fun e w' => SeD HJ w W w' e p j Sp Sj most (nxtP most lp o.1 o.2.1 o.2.2) lj (seeP (ansP most lp o.1 o.2.1 o.2.2) A) := fun W g => by
  obtain ⟨Sj1, h1, s1⟩ := h.same C g
  refine (see23 p Sp most lp o.1 o.2.1 o.2.2 bo.1 bo.2 hn A ao ca hA W h1.hp (hl.gw g) hs).mono ?_
  rintro e w' ⟨v, S', rfl, nr, HP, GX, SS, VS⟩
  obtain ⟨gn, cn, rfl, nl, _⟩ := nr.ls
  obtain ⟨Sj2, h2, s2⟩ := h1.doc C HP GX SS
  exact ⟨_, cn, _, Sj2, rfl, nl, h2, GX, fun q hq => SS q hq.1, fun q hq => s1 q (s2 q hq)⟩
end Go.Proofs.Ytkojcjfjmlompaa
