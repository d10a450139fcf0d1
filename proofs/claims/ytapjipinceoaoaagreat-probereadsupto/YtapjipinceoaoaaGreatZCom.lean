/- What the walks of layer 9 have in common. -/
import Derived.Test.YtapjipinceoaoaaGreatZShown
import Derived.Test.YtapjipinceoaoaaGreatZMade
import Derived.Test.YtapjipinceoaoaaGreatZFind
import Derived.Test.YtapjipinceoaoaaGreatZSame
import Derived.Test.YtapjipinceoaoaaGreatPBs
namespace Go.Proofs.YtapjipinceoaoaaGreat
open Go.RowKit
set_option linter.unusedVariables false

theorem gs_gw9 {S : Nat → Prop} {W w w' : World} (h : Gw W w) (g : Gs S w w') (hS : ∀ q, S q → W.heap.size ≤ q) : Gw W w' :=
  ⟨⟨g.os.trans h.below.os, g.tape.trans h.below.tape, g.output.trans h.below.output, Nat.le_trans h.below.size g.size, fun q hq => (g.block q (Nat.lt_of_lt_of_le hq h.below.size) (fun s => by have := hS q s; omega)).trans (h.below.block q hq)⟩⟩
theorem PV.keep {w w' : World} {ao : Option Addr} {l : List Vis} (h : PV w ao l) (k : ∀ a, ao = some a → a.block < w.heap.size → w'.heap[a.block]? = w.heap[a.block]?) (hs : w.heap.size ≤ w'.heap.size) : PV w' ao l :=
  ⟨fun h0 => by
    obtain ⟨b, off, e, hb, hc⟩ := h.cells h0
    have kb := k _ e hb
    have cc : ∀ o, w'.cell? ⟨b, o, none⟩ = w.cell? ⟨b, o, none⟩ := fun o => World.cell?_of_block (a := ⟨b, o, none⟩) kb
    exact ⟨b, off, e, by omega, fun i hi => ⟨(cc _).trans (hc i hi).c0, (cc _).trans (hc i hi).c1, (cc _).trans (hc i hi).c2, (cc _).trans (hc i hi).c3, (cc _).trans (hc i hi).c4, (cc _).trans (hc i hi).c5⟩⟩⟩
theorem SL.wrong {w : World} {p : Nat} {S : Nat → Prop} {ko : Option Addr} {n kc : Nat} {eps : Int} {lo : Option Addr} {ln lc : Nat} {A B : List (Int × Int)} {wr : Bool} (h : SL w p S ko n kc eps lo ln lc A B wr) : w.cell? ⟨p, 5, none⟩ = some (.bool wr) := by
  obtain ⟨va, vb, h1, _⟩ := h.blk
  exact (slv_cells h1).2.2.2.2.2


/-- Keys and levels in memory that may be descended. -/
structure Sit (w : World) (ao : Option Addr) (n cp : Nat) (f : Nat → Int) (eps : Int) (lo : Option Addr) (lc : Nat) (L : List (List Sg)) (ln : Nat) : Prop where
  ks : KS w ao n f
  cap : n ≤ cp
  vs : VS w lo L
  len : L.length = ln
  lcl : ln ≤ lc
  rd : Ready eps f n L
theorem Sit.gw {w w' : World} {ao : Option Addr} {n cp : Nat} {f : Nat → Int} {eps : Int} {lo : Option Addr} {lc : Nat} {L : List (List Sg)} {ln : Nat} (h : Sit w ao n cp f eps lo lc L ln) (g : Gw w w') : Sit w' ao n cp f eps lo lc L ln := ⟨h.ks.gw g, h.cap, h.vs.gw g, h.len, h.lcl, h.rd⟩
theorem Sit.spath {HP : World → Nat → (Nat → Prop) → Int → (Nat → Int) → Nat → List (List Sg) → Prop} (PC : ProbeC HP) {W : World} {ao : Option Addr} {n cp : Nat} {f : Nat → Int} {eps : Int} {lo : Option Addr} {lc : Nat} {L : List (List Sg)} {ln : Nat} (h : Sit W ao n cp f eps lo lc L ln) (q : Int) (q0 : 0 ≤ q) (q1 : q < 18446744073709551616) :
    Calls Tryz.prog 8 #[.pointer (some ⟨W.heap.size, 0, none⟩), .int .u64 q] (W.alloc (slV ao n cp eps lo ln lc (.slice none 0 0) (.slice none 0 0) false)) fun ex w' => (∃ bo c S' A' B', ex = .returned (.slice bo ln c) ∧ PV w' bo (pathL eps q f n L) ∧ SL w' W.heap.size S' ao n cp eps lo ln lc A' B' false ∧ AskR eps q f n L A' B' ∧ (∀ q, S' q → W.heap.size ≤ q) ∧ (∀ a, bo = some a → W.heap.size ≤ a.block ∧ ¬ S' a.block)) ∧ Gw W w' := by
  have sl := sl_new W ao n cp eps lo ln lc
  have := PC.spath (w0 := W) (L := L) (lo := lo) (lc := lc) (f := f) h.ks h.cap h.vs (by rw [h.len]; exact h.lcl) ((Gw.refl W).alloc _ _) (S := fun q => q = W.heap.size) (fun q e => Nat.le_of_eq e.symm) (by rw [h.len]; exact sl) (by simp) (by simp) h.rd q q0 q1
  refine this.mono ?_
  rintro ex w' ⟨⟨bo, c, S', A', B', rfl, hp, ha, hs, hk, hS⟩, gs⟩
  rw [h.len] at hs ⊢
  have hS' : ∀ q, S' q → W.heap.size ≤ q := fun q hq => by
    rcases hS q hq with e | e
    · exact Nat.le_of_eq e.symm
    · simp at e; omega
  exact ⟨⟨bo, c, S', A', B', rfl, hp, hs, hk, hS', fun a e => ⟨by have := (ha a e).1; simp at this; omega, (ha a e).2⟩⟩, gs_gw9 ((Gw.refl W).alloc _ _) gs (fun q e => Nat.le_of_eq e.symm)⟩
/-- Path over slots that have been asked before. -/
theorem Sit.spath1 {HP : World → Nat → (Nat → Prop) → Int → (Nat → Int) → Nat → List (List Sg) → Prop} (PC : ProbeC HP) {W0 : World} {ao : Option Addr} {n cp : Nat} {f : Nat → Int} {eps : Int} {lo : Option Addr} {lc : Nat} {L : List (List Sg)} {ln : Nat} (h : Sit W0 ao n cp f eps lo lc L ln) {W : World} {p : Nat} {S : Nat → Prop} {A B : List (Int × Int)} (gW : Gw W0 W) (hS : ∀ q, S q → W0.heap.size ≤ q) (sl : SL W p S ao n cp eps lo ln lc A B false) (la : A.length ≤ 1000000000) (lb : B.length ≤ 1000000000) (q : Int) (q0 : 0 ≤ q) (q1 : q < 18446744073709551616) :
    Calls Tryz.prog 8 #[.pointer (some ⟨p, 0, none⟩), .int .u64 q] W fun ex w' => (∃ bo c, ex = .returned (.slice bo ln c) ∧ PV w' bo (pathL eps q f n L)) ∧ Gs S W w' ∧ Gw W0 w' := by
  have := PC.spath (w0 := W0) (L := L) (lo := lo) (lc := lc) (f := f) h.ks h.cap h.vs (by rw [h.len]; exact h.lcl) gW hS (by rw [h.len]; exact sl) la lb h.rd q q0 q1
  refine this.mono ?_
  rintro ex w' ⟨⟨bo, c, S', A', B', rfl, hp, _⟩, gs⟩
  rw [h.len]
  exact ⟨⟨bo, c, rfl, hp⟩, gs, gs_gw9 gW gs hS⟩
theorem Sit.sfind {HP : World → Nat → (Nat → Prop) → Int → (Nat → Int) → Nat → List (List Sg) → Prop} (PC : ProbeC HP) {W0 : World} {ao : Option Addr} {n cp : Nat} {f : Nat → Int} {eps : Int} {lo : Option Addr} {lc : Nat} {L : List (List Sg)} {ln : Nat} (h : Sit W0 ao n cp f eps lo lc L ln) {W : World} {p : Nat} {S : Nat → Prop} {A B : List (Int × Int)} (gW : Gw W0 W) (hS : ∀ q, S q → W0.heap.size ≤ q) (sl : SL W p S ao n cp eps lo ln lc A B false) (la : A.length ≤ 1000000000) (lb : B.length ≤ 1000000000) (q : Int) (q0 : 0 ≤ q) (q1 : q < 18446744073709551616) :
    Calls Tryz.prog 11 #[.pointer (some ⟨p, 0, none⟩), .int .u64 q] W fun ex w' => (∃ S' A' B', ex = .returned (foundV f n q) ∧ SL w' p S' ao n cp eps lo ln lc (A ++ A') (B ++ B') false ∧ AskR eps q f n L A' B' ∧ (∀ q, S' q → S q ∨ W.heap.size ≤ q) ∧ ∀ q, S' q → W0.heap.size ≤ q) ∧ Gs S W w' ∧ Gw W0 w' := by
  have := PC.sfind (w0 := W0) (L := L) (lo := lo) (lc := lc) (f := f) h.ks h.cap h.vs (by rw [h.len]; exact h.lcl) gW hS (by rw [h.len]; exact sl) la lb h.rd q q0 q1
  refine this.mono ?_
  rintro ex w' ⟨⟨S', A', B', rfl, hs, hk, hS2⟩, gs⟩
  rw [h.len] at hs
  have hS' : ∀ q, S' q → W0.heap.size ≤ q := fun q hq => by
    rcases hS2 q hq with e | e
    · exact hS q e
    · exact Nat.le_trans gW.size e
  exact ⟨⟨S', A', B', rfl, hs, hk, hS2, hS'⟩, gs, gs_gw9 gW gs hS⟩
/-- Find over new slots. -/
theorem Sit.sfind0 {HP : World → Nat → (Nat → Prop) → Int → (Nat → Int) → Nat → List (List Sg) → Prop} (PC : ProbeC HP) {W : World} {ao : Option Addr} {n cp : Nat} {f : Nat → Int} {eps : Int} {lo : Option Addr} {lc : Nat} {L : List (List Sg)} {ln : Nat} (h : Sit W ao n cp f eps lo lc L ln) (q : Int) (q0 : 0 ≤ q) (q1 : q < 18446744073709551616) :
    Calls Tryz.prog 11 #[.pointer (some ⟨W.heap.size, 0, none⟩), .int .u64 q] (W.alloc (slV ao n cp eps lo ln lc (.slice none 0 0) (.slice none 0 0) false)) fun ex w' => (∃ S' A' B', ex = .returned (foundV f n q) ∧ SL w' W.heap.size S' ao n cp eps lo ln lc A' B' false ∧ AskR eps q f n L A' B' ∧ ∀ q, S' q → W.heap.size ≤ q) ∧ Gw W w' := by
  refine (h.sfind PC (A := []) (B := []) ((Gw.refl W).alloc _ _) (S := fun q => q = W.heap.size) (fun q e => Nat.le_of_eq e.symm) (sl_new W ao n cp eps lo ln lc) (by simp) (by simp) q q0 q1).mono ?_
  rintro ex w' ⟨⟨S', A', B', rfl, hs, hk, _, hS⟩, _, g⟩
  exact ⟨⟨S', A', B', rfl, hs, hk, hS⟩, g⟩
theorem Sit.rpath {W : World} {ao : Option Addr} {n cp : Nat} {f : Nat → Int} {eps : Int} {lo : Option Addr} {lc : Nat} {L : List (List Sg)} {ln : Nat} (h : Sit W ao n cp f eps lo lc L ln) (q : Int) (q0 : 0 ≤ q) (q1 : q < 18446744073709551616) :
    Calls Tryz.prog 9 #[.slice ao n cp, .int .i64 eps, .slice lo ln lc, .int .u64 q] W fun e w' => (∃ bo c, e = .returned (.slice bo ln c) ∧ PV w' bo (pathL eps q f n L)) ∧ Gw W w' := by
  have := rpath_any ao n cp f eps lo lc L q h.rd.e0 h.rd.e1 q0 q1 h.cap h.rd.sh.1 h.rd.sh.2 h.rd.lv W h.ks h.vs
  rw [h.len] at this
  exact this
theorem Sit.same {W : World} {eps : Int} {f : Nat → Int} {n : Nat} {L : List (List Sg)} {ln : Nat} (hl : L.length = ln) (rd : Ready eps f n L) (a b : Option Addr) (ca cb : Nat) (q : Int) (ha : PV W a (pathL eps q f n L)) (hb : PV W b (pathL eps q f n L)) :
    Calls Tryz.prog 10 #[.slice a ln ca, .slice b ln cb] W fun e w' => e = .returned (.bool true) ∧ Gw W w' := by
  have := samev_any a b ca cb (pathL eps q f n L) (by rw [pathL_len]; have := rd.sh.1; omega) W ha hb
  rw [pathL_len, hl] at this
  exact this
theorem AskR.small {eps q : Int} {f : Nat → Int} {n : Nat} {L : List (List Sg)} {A B : List (Int × Int)} (h : AskR eps q f n L A B) (rd : Ready eps f n L) : A.length ≤ 300000000 ∧ B.length ≤ 300000000 := by
  have a := h.few (by have := rd.e0; omega)
  have b := h.bl
  have c := rd.sh.1
  have d := rd.e0
  have e := rd.e1
  have m1 : (L.length : Int) * (2 * eps + 3) ≤ 2000000 * 131 := Int.mul_le_mul (by omega) (by omega) (by omega) (by omega)
  exact ⟨by omega, by omega⟩
/-- What is found one number further on. -/
theorem found_next {f : Nat → Int} {n : Nat} (u : Up f n) (q : Int) : cntb f (q + 1) n = if cntb f q n < n ∧ f (cntb f q n) = q then cntb f q n + 1 else cntb f q n := by
  obtain ⟨a, b⟩ := cntb_up u q n (Nat.le_refl _)
  have le := cntb_le f q n
  by_cases h : cntb f q n < n ∧ f (cntb f q n) = q
  · rw [if_pos h]
    refine cntb_is u _ _ (by omega) (fun i hi => ?_) (fun i h1 h2 => ?_)
    · by_cases e : i < cntb f q n
      · have := a i e; omega
      · have : i = cntb f q n := by omega
        rw [this]; omega
    · have := u.lt (show cntb f q n < i by omega) h2
      omega
  · rw [if_neg h]
    refine cntb_is u _ _ le (fun i hi => by have := a i hi; omega) (fun i h1 h2 => ?_)
    have := b i h1 h2
    by_cases e : i = cntb f q n
    · have : f i ≠ q := fun q' => h ⟨by omega, by rw [← e]; exact q'⟩
      omega
    · have l1 := u.lt (show cntb f q n < i by omega) h2
      have l2 := b (cntb f q n) (Nat.le_refl _) (by omega)
      omega
theorem found_mono {f : Nat → Int} {n : Nat} (u : Up f n) {q q' : Int} (h : q ≤ q') : cntb f q n ≤ cntb f q' n := by
  obtain ⟨a, b⟩ := cntb_up u q n (Nat.le_refl _)
  obtain ⟨a', b'⟩ := cntb_up u q' n (Nat.le_refl _)
  have le := cntb_le f q n
  rcases Nat.lt_or_ge (cntb f q' n) (cntb f q n) with l | l
  · have := a (cntb f q' n) l
    have := b' (cntb f q' n) (Nat.le_refl _) (by omega)
    omega
  · exact l

end Go.Proofs.YtapjipinceoaoaaGreat
