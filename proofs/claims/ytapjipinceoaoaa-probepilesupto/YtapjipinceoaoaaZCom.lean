/- What the walks of layer 9 have in common. -/
import Derived.Test.YtapjipinceoaoaaZShown
import Derived.Test.YtapjipinceoaoaaZMade
import Derived.Test.YtapjipinceoaoaaZFind
import Derived.Test.YtapjipinceoaoaaZSame
import Derived.Test.YtapjipinceoaoaaPBs
namespace Go.Proofs.Ytapjipinceoaoaa
open Go.RowKit
set_option linter.unusedVariables false

theorem gs_gw9 {S : Nat → Prop} {W w w' : World} (h : Gw W w) (g : Gs S w w') (hS : ∀ q, S q → W.heap.size ≤ q) : Gw W w' :=
  ⟨⟨g.os.trans h.below.os, g.tape.trans h.below.tape, g.output.trans h.below.output, Nat.le_trans h.below.size g.size, fun q hq => (g.block q (Nat.lt_of_lt_of_le hq h.below.size) (fun s => by have := hS q s; omega)).trans (h.below.block q hq)⟩⟩
theorem PV.keep {w w' : World} {ao : Option Addr} {l : List Vis} (h : PV w ao l) (k : ∀ a, ao = some a → a.block < w.heap.size → w'.heap[a.block]? = w.heap[a.block]?) (hs : w.heap.size ≤ w'.heap.size) : PV w' ao l :=
  ⟨fun h0 => by
    obtain ⟨b, off, e, hb, hc⟩ := h.cells h0
    have kb := k _ e hb
    have cc : ∀ o, w'.cell? ⟨b, o, none⟩ = w.cell? ⟨b, o, none⟩ := fun o => World.cell?_of_block (a := ⟨b, o, none⟩) kb
    exact ⟨b, off, e, by omega, fun i hi => ⟨(cc _).trans (hc i hi).c0, (cc _).trans (hc i hi).c1, (cc _).trans (hc i hi).c2, (cc _).trans (hc i hi).c3, (cc _).trans (hc i hi).c4, (cc _).trans (hc i hi).c5⟩⟩⟩
theorem SL.wrong {w : World} {p : Nat} {S : Nat → Prop} {ko : Option Addr} {n kc : Nat} {eps : Int} {lo : Option Addr} {ln lc : Nat} {A B : List (Int × Int)} {wr : Bool} (h : SL w p S ko n kc eps lo ln lc A B wr) : w.cell? ⟨p, 5, none⟩ = some (.bool wr) := by
  obtain ⟨va, vb, h1, _⟩ := h.blk
  exact (slv_cells h1).2.2.2.2.2


/-- Keys and levels in memory that may be descended. -/
structure Sit (w : World) (ao : Option Addr) (n cp : Nat) (f : Nat → Int) (eps : Int) (lo : Option Addr) (lc : Nat) (L : List (List Sg)) (ln : Nat) : Prop where
  ks : KS w ao n f
  cap : n ≤ cp
  vs : VS w lo L
  len : L.length = ln
  lcl : ln ≤ lc
  rd : Ready eps f n L
theorem Sit.gw {w w' : World} {ao : Option Addr} {n cp : Nat} {f : Nat → Int} {eps : Int} {lo : Option Addr} {lc : Nat} {L : List (List Sg)} {ln : Nat} (h : Sit w ao n cp f eps lo lc L ln) (g : Gw w w') : Sit w' ao n cp f eps lo lc L ln := ⟨h.ks.gw g, h.cap, h.vs.gw g, h.len, h.lcl, h.rd⟩
theorem AskR.small {eps q : Int} {f : Nat → Int} {n : Nat} {L : List (List Sg)} {A B : List (Int × Int)} (h : AskR eps q f n L A B) (rd : Ready eps f n L) : A.length ≤ 300000000 ∧ B.length ≤ 300000000 := by
  have a := h.few (by have := rd.e0; omega)
  have b := h.bl
  have c := rd.sh.1
  have d := rd.e0
  have e := rd.e1
  have m1 : (L.length : Int) * (2 * eps + 3) ≤ 2000000 * 131 := Int.mul_le_mul (by omega) (by omega) (by omega) (by omega)
  exact ⟨by omega, by omega⟩
/-- What is found one number further on. -/
theorem found_next {f : Nat → Int} {n : Nat} (u : Up f n) (q : Int) : cntb f (q + 1) n = if cntb f q n < n ∧ f (cntb f q n) = q then cntb f q n + 1 else cntb f q n := by
  obtain ⟨a, b⟩ := cntb_up u q n (Nat.le_refl _)
  have le := cntb_le f q n
  by_cases h : cntb f q n < n ∧ f (cntb f q n) = q
  · rw [if_pos h]
    refine cntb_is u _ _ (by omega) (fun i hi => ?_) (fun i h1 h2 => ?_)
    · by_cases e : i < cntb f q n
      · have := a i e; omega
      · have : i = cntb f q n := by omega
        rw [this]; omega
    · have := u.lt (show cntb f q n < i by omega) h2
      omega
  · rw [if_neg h]
    refine cntb_is u _ _ le (fun i hi => by have := a i hi; omega) (fun i h1 h2 => ?_)
    have := b i h1 h2
    by_cases e : i = cntb f q n
    · have : f i ≠ q := fun q' => h ⟨by omega, by rw [← e]; exact q'⟩
      omega
    · have l1 := u.lt (show cntb f q n < i by omega) h2
      have l2 := b (cntb f q n) (Nat.le_refl _) (by omega)
      omega
theorem found_mono {f : Nat → Int} {n : Nat} (u : Up f n) {q q' : Int} (h : q ≤ q') : cntb f q n ≤ cntb f q' n := by
  obtain ⟨a, b⟩ := cntb_up u q n (Nat.le_refl _)
  obtain ⟨a', b'⟩ := cntb_up u q' n (Nat.le_refl _)
  have le := cntb_le f q n
  rcases Nat.lt_or_ge (cntb f q' n) (cntb f q n) with l | l
  · have := a (cntb f q' n) l
    have := b' (cntb f q' n) (Nat.le_refl _) (by omega)
    omega
  · exact l

end Go.Proofs.Ytapjipinceoaoaa
