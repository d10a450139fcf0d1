import Derived.Test.YtkojcjfjmlompaaS4Do
import Derived.Test.YtkojcjfjmlompaaPMc
import Derived.Deep.RegionHeld3
import Derived.Test.YtkojcjfjmlompaaS3All
import Derived.Maps.AppendAt
import Derived.StillTailTactics
/- Package judge: a judge, what it sees, its pairs. -/
namespace Go.Proofs.Ytkojcjfjmlompaa
open Go.RowKit
set_option linter.unusedVariables false

/-- A judge at block p, its map in block B. -/
def JW (w : World) (p B : Nat) (most : Int) (l : Ps) : Prop := w.heap[p]? = some (.cells #[.map (some B), .int .i64 most] 67 (0, 0)) ∧ (∃ D, MpW w B l D) ∧ p ≠ B
theorem JW.keep {w w' : World} {p B : Nat} {most : Int} {l : Ps} (h : JW w p B most l) (k : ∀ q, q = p ∨ q = B → w'.heap[q]? = w.heap[q]?) : JW w' p B most l := by
  obtain ⟨h1, ⟨D, h2⟩, h3⟩ := h
  exact ⟨(k p (.inl rfl)).trans h1, ⟨D, h2.keep (k B (.inr rfl))⟩, h3⟩
theorem JW.lt {w : World} {p B : Nat} {most : Int} {l : Ps} (h : JW w p B most l) : p < w.heap.size ∧ B < w.heap.size := by
  obtain ⟨h1, ⟨D, h2⟩, h3⟩ := h
  exact ⟨blkl h1, h2.lt⟩
theorem JW.gw {w w' : World} {p B : Nat} {most : Int} {l : Ps} (h : JW w p B most l) (g : Gw w w') : JW w' p B most l := h.keep fun q hq => g.below.block q (by rcases hq with e | e; (rw [e]; exact h.lt.1); (rw [e]; exact h.lt.2))
def HJ (w : World) (p : Nat) (S : Nat → Prop) (most : Int) (l : Ps) : Prop := ∃ B, JW w p B most l ∧ S p ∧ S B
set_option maxRecDepth 100000 in
theorem jnew_no (most : Int) (h : most < 1 ∨ 4294967296 < most) (w : World) :
    Calls Try.prog 8 #[.int .i64 most] w fun e w' => e = .returned (.tuple #[.pointer none, .int .i64 1]) ∧ w' = w := by
  by_cases q : most < 1
  · clear h
    go_enter Try.func8, Try.ntmps8
    go_wp2_with fail
    exact bodyPost_ret (v := .tuple #[.pointer none, .int .i64 1]) (by simp [results, Try.results8, go_sem]) rfl ⟨rfl, rfl⟩
  · have q2 : (4294967296 : Int) < most := by omega
    clear h
    go_enter Try.func8, Try.ntmps8
    go_wp2_with fail
    exact bodyPost_ret (v := .tuple #[.pointer none, .int .i64 1]) (by simp [results, Try.results8, go_sem]) rfl ⟨rfl, rfl⟩
set_option maxRecDepth 100000 in
theorem jnew23 (most : Int) (h1 : 1 ≤ most) (h2 : most ≤ 4294967296) (w : World) :
    Calls Try.prog 8 #[.int .i64 most] w fun e w' => e = .returned (.tuple #[.pointer (some ⟨w.heap.size + 1, 0, none⟩), .int .i64 0]) ∧ JW w' (w.heap.size + 1) w.heap.size most [] ∧ Gw w w' := by
  have q1 : ¬ most < 1 := by omega
  have q2 : ¬ (4294967296 : Int) < most := by omega
  have hmm := @run_makeMap Try.prog
  have GA : Aside (Gw w ((w.alloc (.map #[] 0)).alloc (.cells #[.map (some w.heap.size), .int .i64 most] 67))) := by
    have g1 : Gw w (w.alloc (.map #[] 0)) := (Gw.refl w).grown (World.grownBy_alloc w _ none) (fun k e => by cases e)
    exact g1.alloc _ _
  have RES : Aside (JW ((w.alloc (.map #[] 0)).alloc (.cells #[.map (some w.heap.size), .int .i64 most] 67)) (w.heap.size + 1) w.heap.size most []) := by
    refine ⟨?_, ⟨.map [], ((World.ownsMap_made w _ _ _).alloc _), MpI.empty, List.Pairwise.nil, fun p hp => by cases hp⟩, by omega⟩
    have := heap_alloc_new (w.alloc (.map #[] 0)) (.cells #[.map (some w.heap.size), .int .i64 most] 67)
    simpa using this
  go_enter Try.func8, Try.ntmps8
  go_wp2_with fail
  exact bodyPost_ret (v := .tuple #[.pointer (some ⟨w.heap.size + 1, 0, none⟩), .int .i64 0]) (by simp [results, Try.results8, go_sem]) rfl ⟨rfl, RES.out, GA.out⟩
set_option maxRecDepth 100000 in
theorem jpairs23 (p B : Nat) (most : Int) (l : Ps) (hl : l.length ≤ 4000000) (w : World) (h : JW w p B most l) :
    Calls Try.prog 14 #[.pointer (some ⟨p, 0, none⟩)] w fun e w' => (∃ g n, e = .returned (.slice (some ⟨g, 0, none⟩) n n) ∧ RowG 44 2 pc2 w' w.heap.size g n n l) ∧ Gw w w' := by
  obtain ⟨h1, ⟨D, h2⟩, h3⟩ := h
  have c0 : w.cell? ⟨p, 0, none⟩ = some (.map (some B)) := blkc h1 rfl
  have c1 : w.cell? ⟨p, 1, none⟩ = some (.int .i64 most) := blkc h1 rfl
  have BT : Hid (∀ W, W = w → Calls Try.prog 23 #[.agg #[.map (some B), .int .i64 most], .int .u64 0, .int .u64 18446744073709551615] W fun e w' => (∃ g n, e = .returned (.slice (some ⟨g, 0, none⟩) n n) ∧ RowG 44 2 pc2 w' W.heap.size g n n l) ∧ Gw W w') := fun W e => by
    rw [e]
    have := jbtw23 B most 0 18446744073709551615 l D hl w h2
    rw [all_btw h2.2.2.2] at this
    exact this
  clear h1 h2 h3
  go_enter Try.func14, Try.ntmps14
  go_wp2_with fail
  refine (BT.out _ rfl).mono ?_
  rintro e w2 ⟨⟨g, n, rfl, rg⟩, gw⟩
  have RG : Aside (RowG 44 2 pc2 w2 w.heap.size g n n l) := rg
  have G : Aside (Gw w w2) := gw
  clear rg gw
  go_wp2_with fail
  refine bodyPost_ret (v := .slice (some ⟨g, 0, none⟩) n n) (by simp [results, Try.results14, go_sem]) rfl ⟨⟨g, n, rfl, RG.out⟩, G.out⟩
end Go.Proofs.Ytkojcjfjmlompaa

/- Package judge: an answer is held against the plain map. -/
namespace Go.Proofs.Ytkojcjfjmlompaa
open Go.RowKit
set_option linter.unusedVariables false

/-- What See answers and leaves. -/
def SeeK (w w' : World) (e : Ending) (p B : Nat) (most : Int) (l' : Ps) (L : List Int) : Prop := (∃ v, e = .returned v ∧ RuI w' w.heap.size v L) ∧ JW w' p B most l' ∧ Gx (fun q => q = B) w w'
set_option maxRecDepth 100000 in
set_option maxHeartbeats 8000000 in
theorem jsee23 (p B : Nat) (most kd k v : Int) (l : Ps) (hl : l.length ≤ 3999999) (hk : 0 ≤ k ∧ k < 18446744073709551616) (hv : 0 ≤ v ∧ v < 18446744073709551616) (Ac Ak Av An : Int) (Ai : Bool) (ao : Option Addr) (ca : Nat) (AL : Ps) (hal : AL.length ≤ 4000000) (w : World) (h : JW w p B most l) (ha : PLr w ao AL) (hb : ∀ a, ao = some a → 0 < AL.length → a.block ≠ B) :
    Calls Try.prog 10 #[.pointer (some ⟨p, 0, none⟩), .agg #[.int .i64 kd, .int .u64 k, .int .u64 v], .agg #[.int .i64 Ac, .bool Ai, .int .u64 Ak, .int .u64 Av, .int .i64 An, .slice ao AL.length ca]] w fun e w' => SeeK w w' e p B most (nxtP most l kd k v) (seeP (ansP most l kd k v) ⟨Ac, Ai, Ak, Av, An, AL⟩) := by
  have JH : Aside (JW w p B most l) := h
  have lt1 := h.lt
  obtain ⟨h1, ⟨D, h2⟩, h3⟩ := h
  have ABD := ans_bd h2.2.2.2 most kd k v
  have ALN : (ansP most l kd k v).L.length ≤ 4000000 := by have := ABD.2.2.2.1; omega
  obtain ⟨A, hA⟩ : ∃ A, ansP most l kd k v = A := ⟨_, rfl⟩
  obtain ⟨l', hl'⟩ : ∃ l', nxtP most l kd k v = l' := ⟨_, rfl⟩
  rw [hA] at ALN
  obtain ⟨al, hal'⟩ : ∃ al, AL.length = al := ⟨_, rfl⟩
  obtain ⟨b0, hb0⟩ : ∃ b0, w.heap.size = b0 := ⟨_, rfl⟩
  obtain ⟨V, hV⟩ : ∃ V, (w.alloc (.cells #[.int .i64 kd, .int .u64 k, .int .u64 v] 33)).alloc (.cells #[.int .i64 Ac, .bool Ai, .int .u64 Ak, .int .u64 Av, .int .i64 An, .slice ao AL.length ca] 36) = V := ⟨_, rfl⟩
  have GV : Aside (Gw w V) := by rw [← hV]; exact ((Gw.refl w).alloc _ _).alloc _ _
  have X1 : V.heap[p]? = some (.cells #[.map (some B), .int .i64 most] 67 (0, 0)) := (GV.out.below.block p lt1.1).trans h1
  have X2 : V.heap[b0]? = some (.cells #[.int .i64 kd, .int .u64 k, .int .u64 v] 33 (0, 0)) := by
    rw [← hV, ← hb0, heap_alloc_old _ _ (by simp)]
    exact heap_alloc_new w _
  have X3 : V.heap[b0 + 1]? = some (.cells #[.int .i64 Ac, .bool Ai, .int .u64 Ak, .int .u64 Av, .int .i64 An, .slice ao AL.length ca] 36 (0, 0)) := by
    rw [← hV, ← hb0]
    have := heap_alloc_new (w.alloc (.cells #[.int .i64 kd, .int .u64 k, .int .u64 v] 33)) (.cells #[.int .i64 Ac, .bool Ai, .int .u64 Ak, .int .u64 Av, .int .i64 An, .slice ao AL.length ca] 36)
    simpa using this
  have HW : Hid (∀ w' : World, Gx (fun q => q = B) V w' → Gx (fun q => q = B) V w' ∧ w'.cell? ⟨p, 0, none⟩ = some (.map (some B)) ∧ w'.cell? ⟨p, 1, none⟩ = some (.int .i64 most) ∧ w'.cell? ⟨b0, 0, none⟩ = some (.int .i64 kd) ∧ w'.cell? ⟨b0, 1, none⟩ = some (.int .u64 k) ∧ w'.cell? ⟨b0, 2, none⟩ = some (.int .u64 v) ∧ w'.cell? ⟨b0 + 1, 0, none⟩ = some (.int .i64 Ac) ∧ w'.cell? ⟨b0 + 1, 1, none⟩ = some (.bool Ai) ∧ w'.cell? ⟨b0 + 1, 2, none⟩ = some (.int .u64 Ak) ∧ w'.cell? ⟨b0 + 1, 3, none⟩ = some (.int .u64 Av) ∧ w'.cell? ⟨b0 + 1, 4, none⟩ = some (.int .i64 An) ∧ w'.cell? ⟨b0 + 1, 5, none⟩ = some (.slice ao al ca)) := fun w' g => by
    have e1 := (g.block p (blkl X1) h3).trans X1
    have e2 := (g.block b0 (blkl X2) (by omega)).trans X2
    have e3 := (g.block (b0 + 1) (blkl X3) (by omega)).trans X3
    rw [hal'] at e3
    exact ⟨g, blkc e1 rfl, blkc e1 rfl, blkc e2 rfl, blkc e2 rfl, blkc e2 rfl, blkc e3 rfl, blkc e3 rfl, blkc e3 rfl, blkc e3 rfl, blkc e3 rfl, blkc e3 rfl⟩
  have DO : Hid (∀ W, W = V.drew → Calls Try.prog 21 #[.agg #[.map (some B), .int .i64 most], .agg #[.int .i64 kd, .int .u64 k, .int .u64 v]] W fun e w' => DoK W w' e B l' A) := fun W e => by
    rw [e, ← hA, ← hl']
    exact jdo23 B most kd k v l D hl hk hv V.drew (h2.gw GV.out.drew)
  have BR : Hid (∀ (bo : Option Addr) (c : Nat) (W : World), PLr W bo A.L → Gx (fun q => q = B) V W → Calls Try.prog 20 #[awV A bo c, .agg #[.int .i64 Ac, .bool Ai, .int .u64 Ak, .int .u64 Av, .int .i64 An, .slice ao al ca]] W fun e w' => (∃ v, e = .returned v ∧ RuI w' W.heap.size v (seeP A ⟨Ac, Ai, Ak, Av, An, AL⟩)) ∧ Gw W w') := fun bo c W hp g => by
    have hq : PLr W ao AL := LsR.gx (ha.gw GV.out) g (fun a e h0 => hb a e h0)
    have := broken23 A.c A.k A.v A.n Ac Ak Av An A.is Ai bo ao c ca A.L AL ALN hal W hp hq
    rw [hal'] at this
    exact this
  have FIN : Hid (∀ (w2 w3 : World) (u : Value) (D' : DU), MpW w2 B l' D' → Gx (fun q => q = B) V w2 → Gw w2 w3 → RuI w3 w2.heap.size u (seeP A ⟨Ac, Ai, Ak, Av, An, AL⟩) → SeeK w w3 (.returned u) p B most l' (seeP A ⟨Ac, Ai, Ak, Av, An, AL⟩)) := fun w2 w3 u D' hm gx gw ru => by
    have g3 := gx.tw gw
    have gg : Gx (fun q => q = B) w w3 := (GV.out.gx _).trans g3 (fun q hq => .inl hq)
    refine ⟨⟨u, rfl, own_keep3 ru (Nat.le_trans GV.out.size gx.size) (fun q hq => rfl)⟩, ⟨(gg.block p lt1.1 h3).trans h1, ⟨D', hm.gw gw⟩, h3⟩, gg⟩
  have HV : Aside ((w.alloc (.cells #[.int .i64 kd, .int .u64 k, .int .u64 v] 33)).alloc (.cells #[.int .i64 Ac, .bool Ai, .int .u64 Ak, .int .u64 Av, .int .i64 An, .slice ao al ca] 36) = V) := by rw [← hal']; exact hV
  have HB : Aside (w.heap.size = b0) := hb0
  rw [hA, hl', hal']
  clear h1 h2 h3 lt1 ABD ALN hA hl' hal' hb0 hV X1 X2 X3 ha hb hal
  go_enter Try.func10, Try.ntmps10
  go_upto_region 1 with fail
  rw [HV.out, HB.out]
  go_region_held3 (fun w' => Gx (fun q => q = B) V w' ∧ w'.cell? ⟨p, 0, none⟩ = some (.map (some B)) ∧ w'.cell? ⟨p, 1, none⟩ = some (.int .i64 most) ∧ w'.cell? ⟨b0, 0, none⟩ = some (.int .i64 kd) ∧ w'.cell? ⟨b0, 1, none⟩ = some (.int .u64 k) ∧ w'.cell? ⟨b0, 2, none⟩ = some (.int .u64 v) ∧ w'.cell? ⟨b0 + 1, 0, none⟩ = some (.int .i64 Ac) ∧ w'.cell? ⟨b0 + 1, 1, none⟩ = some (.bool Ai) ∧ w'.cell? ⟨b0 + 1, 2, none⟩ = some (.int .u64 Ak) ∧ w'.cell? ⟨b0 + 1, 3, none⟩ = some (.int .u64 Av) ∧ w'.cell? ⟨b0 + 1, 4, none⟩ = some (.int .i64 An) ∧ w'.cell? ⟨b0 + 1, 5, none⟩ = some (.slice ao al ca))
    (((refine HW.out _ ?_; repeat (first | exact Gx.refl _ _ | exact And.left (by assumption) | exact Hid.out (by assumption) | refine Gx.drew ?_)); done))
    ((first
      | (go_at_call 21; refine (DO.out _ rfl).mono ?_; rintro e w2 ⟨bo, c, rfl, ⟨D', hm⟩, pl, pb, pn, gx⟩; have G2 : Hid (Gx (fun q => q = B) V w2) := (Gx.drew (Gx.refl _ V)).trans gx (fun q hq => .inl hq); have M2 : Hid (MpW w2 B l' D') := hm; have P2 : Hid (PLr w2 bo A.L) := pl; clear gx hm pl pb pn)
      | (go_at_call 20; refine (BR.out _ _ _ P2.out G2.out).mono ?_; rintro e w3 ⟨⟨u, rfl, ru⟩, g3⟩; have G3 : Hid (Gx (fun q => q = B) V w3) := G2.out.tw g3; have F3 : Hid (SeeK w w3 (.returned u) p B most l' (seeP A ⟨Ac, Ai, Ak, Av, An, AL⟩)) := FIN.out _ _ _ _ M2.out G2.out g3 ru; clear ru g3)))
  go_wp2_with fail
  refine bodyPost_ret (v := u) (by simp [results, Try.results10, go_sem]) rfl F3.out
end Go.Proofs.Ytkojcjfjmlompaa

/- Package judge: all answers held against all operations. -/
namespace Go.Proofs.Ytkojcjfjmlompaa
open Go.RowKit
set_option linter.unusedVariables false

/-- A judge beside the faults that were told so far. -/
structure BJ (w wr : World) (p B : Nat) (most : Int) (l : Ps) (base : Nat) (v : Value) (m : Nat) (Lf : List (Int × Int)) : Prop where
  jw : JW wr p B most l
  len : Lf.length = m
  row : wr.ownsRow base 61 2 v m (Lf.flatMap fc2)
  lo : p < base ∧ B < base
  bs : w.heap.size ≤ base ∧ base ≤ wr.heap.size
  low : w.heap.size ≤ B
  gw : Gw w wr
theorem BJ.tw {w wr w' : World} {p B : Nat} {most : Int} {l : Ps} {base m : Nat} {v : Value} {Lf : List (Int × Int)} (h : BJ w wr p B most l base v m Lf) (g : Gw wr w') : BJ w w' p B most l base v m Lf :=
  ⟨h.jw.gw g, h.len, own_keep3 h.row (Nat.le_refl _) (fun q hq => g.below.block q (World.ownsRow.lt h.row q hq).2), h.lo, ⟨h.bs.1, Nat.le_trans h.bs.2 g.size⟩, h.low, h.gw.trans g⟩
theorem BJ.see {w wr w' : World} {p B : Nat} {most : Int} {l l' : Ps} {base m : Nat} {v : Value} {Lf : List (Int × Int)} (h : BJ w wr p B most l base v m Lf) (j : JW w' p B most l') (g : Gx (fun q => q = B) wr w') : BJ w w' p B most l' base v m Lf :=
  ⟨j, h.len, own_keep3 h.row (Nat.le_refl _) (fun q hq => g.block q (World.ownsRow.lt h.row q hq).2 (by have := (World.ownsRow.lt h.row q hq).1; have := h.lo.2; omega)), h.lo, ⟨h.bs.1, Nat.le_trans h.bs.2 g.size⟩, h.low, Gx.gw h.gw g (fun q hq => by rw [hq]; exact h.low)⟩
theorem BJ.more {w wr wa w' : World} {p B : Nat} {most : Int} {l : Ps} {base m : Nat} {v v' : Value} {Lf : List (Int × Int)} {x : Int × Int} (h : BJ w wr p B most l base v m Lf) (ga : Gw wr wa) (r1 : w'.ownsRow base 61 2 v' (m + 1) (Lf.flatMap fc2 ++ fc2 x)) (r2 : wa.grownBy w' v.ownBlock) : BJ w w' p B most l base v' (m + 1) (Lf ++ [x]) := by
  have hb : ∀ k, v.ownBlock = some k → base ≤ k := fun k e => (World.ownsRow.lt h.row k e).1
  have hj := (h.jw.gw ga)
  refine ⟨hj.keep (fun q hq => r2.block q (by rcases hq with e | e; (rw [e]; exact hj.lt.1); (rw [e]; exact hj.lt.2)) (fun e => by have := hb q e.symm; have := h.lo; rcases hq with e | e <;> omega)), by rw [List.length_append, h.len]; rfl, ?_, h.lo, ⟨h.bs.1, Nat.le_trans h.bs.2 (Nat.le_trans ga.size r2.size)⟩, h.low, (h.gw.trans ga).grown r2 (fun k e => Nat.le_trans h.bs.1 (hb k e))⟩
  rw [List.flatMap_append]
  simpa using r1
/-- The rules that are told of an answer, as they are read. -/
def NumF (w2 : World) (no : Option Addr) (L : List Int) : Prop := ∀ (k : Nat) (x : Int), L[k]? = some x → ∃ gn, no = some ⟨gn, 0, none⟩ ∧ gn < w2.heap.size ∧ w2.cell? ⟨gn, k, none⟩ = some (.int .i64 x)
/-- They lie apart from the faults. -/
def FarN (w2 wr : World) (no : Option Addr) (v : Value) : Prop := (∀ gn, no = some ⟨gn, 0, none⟩ → gn < w2.heap.size → v.ownBlock ≠ some gn ∧ wr.heap[gn]? = w2.heap[gn]?) ∧ w2.heap.size ≤ wr.heap.size
theorem FarN.more {w2 wr wa w' : World} {no : Option Addr} {v v' : Value} (h : FarN w2 wr no v) (ga : Gw wr wa) (r2 : wa.grownBy w' v.ownBlock) (r3 : v'.ownBlock = v.ownBlock ∨ v'.ownBlock = some wa.heap.size) : FarN w2 w' no v' :=
  ⟨fun gn e l => by
    obtain ⟨h1, h2⟩ := h.1 gn e l
    have s := h.2
    have s2 := ga.size
    refine ⟨?_, (r2.block gn (by omega) (fun e => h1 e.symm)).trans ((ga.below.block gn (by omega)).trans h2)⟩
    rcases r3 with z | z
    · rw [z]; exact h1
    · rw [z]; intro q; injection q with q; omega, Nat.le_trans h.2 (Nat.le_trans ga.size r2.size)⟩
theorem num_form {w2 : World} {base : Nat} {u : Value} {L : List Int} (h : RuI w2 base u L) : ∃ no cn, u = .slice no L.length cn ∧ NumF w2 no L ∧ ∀ gn, no = some ⟨gn, 0, none⟩ → base ≤ gn := by
  rcases h.2 with ⟨q, z⟩ | ⟨g, cap, cur, q, hb, hh, _⟩
  · refine ⟨none, 0, by rw [q, z], fun k x hx => ?_, fun gn e => by cases e⟩
    have := (List.getElem?_eq_some_iff.1 hx).1
    omega
  · refine ⟨some ⟨g, 0, none⟩, cap, q, fun k x hx => ⟨g, rfl, blkl hh, ?_⟩, fun gn e => by cases e; exact hb⟩
    subst q
    have kl := (List.getElem?_eq_some_iff.1 hx).1
    have := World.ownsRow.cellAt h k (by omega)
    rw [this]
    simp [hx]
theorem fault_form {wr : World} {base m : Nat} {v : Value} {L : List (Int × Int)} (h : wr.ownsRow base 61 2 v m (L.flatMap fc2)) (hl : L.length = m) : ∃ bo c, v = .slice bo m c ∧ FLr wr bo L ∧ m ≤ c ∧ (bo = none → c = 0) := by
  rcases h.2 with ⟨q, z⟩ | ⟨g, cap, cur, q, hb, hh, hc, _⟩
  · refine ⟨none, 0, by rw [q, z], ⟨fun h0 => by omega⟩, by omega, fun _ => rfl⟩
  · subst q
    have R : RowG 61 2 fc2 wr base g m cap L := ⟨hl, h⟩
    exact ⟨_, cap, rfl, R.ls fc2_len, hc, fun e => by cases e⟩
set_option maxRecDepth 100000 in
set_option maxHeartbeats 8000000 in
theorem jall_no (most : Int) (h : most < 1 ∨ 4294967296 < most) (a b : Value) (w : World) :
    Calls Try.prog 15 #[.int .i64 most, a, b] w fun e w' => e = .returned (.tuple #[.slice none 0 0, .int .i64 1]) ∧ Gw w w' := by
  have NW : Hid (∀ W, Calls Try.prog 8 #[.int .i64 most] W fun e w' => e = .returned (.tuple #[.pointer none, .int .i64 1]) ∧ w' = W) := fun W => jnew_no most h W
  clear h
  go_enter Try.func15, Try.ntmps15
  go_wp2_with fail
  refine (NW.out _).mono ?_
  rintro e w1 ⟨rfl, hw1⟩
  have G1 : Hid (Gw w w1) := by rw [hw1]; exact Gw.refl w
  clear hw1
  dsimp only
  go_wp2_with fail
  exact bodyPost_ret (v := .tuple #[.slice none 0 0, .int .i64 1]) (by simp [results, Try.results15, go_sem]) rfl ⟨rfl, G1.out⟩
end Go.Proofs.Ytkojcjfjmlompaa

/- Package judge: All, walked; what is asked of package judge is shown. -/
namespace Go.Proofs.Ytkojcjfjmlompaa
open Go.RowKit
set_option linter.unusedVariables false

set_option maxRecDepth 100000 in
set_option maxHeartbeats 8000000 in
theorem jall23 (most : Int) (lo ao : Option Addr) (lc ac : Nat) (os : List Ot) (aa : List Aw) (w : World) (m1 : 1 ≤ most) (m2 : most ≤ 4294967296) (hos : os.length ≤ 1048576) (haa : aa.length ≤ 1048576) (bo : ∀ o ∈ os, BdO o) (ba : ∀ A ∈ aa, A.L.length ≤ 4000000) (ho : OLr w lo os) (ha : ALr w ao aa) :
    Calls Try.prog 15 #[.int .i64 most, .slice lo os.length lc, .slice ao aa.length ac] w fun e w' => AllJ w w' e (tellsP most os aa) := by
  obtain ⟨ii, hii, hz, hsz, hby⟩ := info_parts info_fault
  have NW : Hid (∀ W, Calls Try.prog 8 #[.int .i64 most] W fun e w' => e = .returned (.tuple #[.pointer (some ⟨W.heap.size + 1, 0, none⟩), .int .i64 0]) ∧ JW w' (W.heap.size + 1) W.heap.size most [] ∧ Gw W w') := fun W => jnew23 most m1 m2 W
  have OH : Hid (OLr w lo os) := ho
  have AH : Hid (ALr w ao aa) := ha
  have BO : Hid (∀ o ∈ os, BdO o) := bo
  have BA : Hid (∀ A ∈ aa, A.L.length ≤ 4000000) := ba
  obtain ⟨n, hn⟩ : ∃ n : Nat, min os.length aa.length = n := ⟨_, rfl⟩
  have hmin : min (os.length : Int) (aa.length : Int) = (n : Int) := by rw [← hn]; omega
  have NB : Hid (n ≤ os.length ∧ n ≤ aa.length ∧ n ≤ 1048576) := ⟨by omega, by omega, by omega⟩
  obtain ⟨z, hzz⟩ : ∃ z, os.zip aa = z := ⟨_, rfl⟩
  have ZL : Hid (z.length = n) := by show _ = _; rw [← hzz, List.length_zip]; exact hn
  have ZI : Hid (∀ i, i < n → ∃ o A, os[i]? = some o ∧ aa[i]? = some A ∧ z[i]? = some (o, A)) := fun i hi => by
    have i1 : i < os.length := by omega
    have i2 : i < aa.length := by omega
    refine ⟨os[i], aa[i], List.getElem?_eq_getElem i1, List.getElem?_eq_getElem i2, ?_⟩
    rw [← hzz]
    simp [List.getElem?_zip_eq_some, i1, i2]
  have TE : Hid (tellsP most os aa = allP most [] 0 z ++ if os.length = aa.length then [] else [((n : Int), 6)]) := by
    show _ = _
    unfold tellsP
    rw [hzz, hn]
  rw [TE.out]
  obtain ⟨ol, hol⟩ : ∃ ol, os.length = ol := ⟨_, rfl⟩
  obtain ⟨al, hal⟩ : ∃ al, aa.length = al := ⟨_, rfl⟩
  rw [hol, hal] at hmin
  rw [hol] at hos
  rw [hal] at haa
  rw [hol, hal]
  have LN : Hid (os.length = ol ∧ aa.length = al) := ⟨hol, hal⟩
  obtain ⟨TL, hTL⟩ : ∃ TL, (if ol = al then [] else [((n : Int), (6 : Int))]) = TL := ⟨_, rfl⟩
  have TH : Hid ((ol = al → TL = []) ∧ (¬ ol = al → TL = [((n : Int), 6)])) := ⟨fun q => by rw [← hTL, if_pos q], fun q => by rw [← hTL, if_neg q]⟩
  rw [hTL]
  have SEE : Hid (∀ (p B : Nat) (l : Ps) (o : Ot) (A : Aw) (bo : Option Addr) (bc : Nat) (W : World), BdO o → l.length ≤ 3999999 → A.L.length ≤ 4000000 → JW W p B most l → PLr W bo A.L → (∀ a, bo = some a → 0 < A.L.length → a.block ≠ B) → Calls Try.prog 10 #[.pointer (some ⟨p, 0, none⟩), .agg #[.int .i64 o.1, .int .u64 o.2.1, .int .u64 o.2.2], .agg #[.int .i64 A.c, .bool A.is, .int .u64 A.k, .int .u64 A.v, .int .i64 A.n, .slice bo A.L.length bc]] W fun e w' => (∃ no cn, e = .returned (.slice no (seeP (ansP most l o.1 o.2.1 o.2.2) A).length cn) ∧ NumF w' no (seeP (ansP most l o.1 o.2.1 o.2.2) A) ∧ ∀ gn, no = some ⟨gn, 0, none⟩ → W.heap.size ≤ gn) ∧ JW w' p B most (nxtP most l o.1 o.2.1 o.2.2) ∧ Gx (fun q => q = B) W w') := fun p B l o A bo bc W h1 h2 h3 h4 h5 h6 => by
    refine (jsee23 p B most o.1 o.2.1 o.2.2 l h2 h1.1 h1.2 A.c A.k A.v A.n A.is bo bc A.L h3 W h4 h5 h6).mono ?_
    rintro e w' ⟨⟨u, rfl, ru⟩, j, gx⟩
    obtain ⟨no, cn, e1, e2, e3⟩ := num_form ru
    exact ⟨⟨no, cn, by rw [e1], e2, e3⟩, j, gx⟩
  clear hTL
  have MN : Hid (min (ol : Int) (al : Int) = (n : Int)) := hmin
  clear m1 m2 ho ha bo ba hn hzz hol hal TE
  go_enter Try.func15, Try.ntmps15
  go_wp2_with fail
  refine (NW.out _).mono ?_
  rintro e w1 ⟨rfl, h1, g1⟩
  obtain ⟨p, hp⟩ : ∃ p, w.heap.size + 1 = p := ⟨_, rfl⟩
  obtain ⟨B, hB⟩ : ∃ B, w.heap.size = B := ⟨_, rfl⟩
  have PB0 : Hid (w.heap.size = B) := hB
  rw [hp, hB] at h1
  have HIT : Hid (BJ w w1 p B most (endP most [] ((z.take 0).map Prod.fst)) w1.heap.size (.slice none 0 0) 0 (allP most [] 0 (z.take 0))) := ⟨h1, rfl, World.ownsRow_nil _ _ _ _, h1.lt, ⟨g1.size, Nat.le_refl _⟩, by omega, g1⟩
  obtain ⟨base, hbase⟩ : ∃ base, w1.heap.size = base := ⟨_, rfl⟩
  rw [hbase] at HIT
  dsimp only
  rw [hp]
  clear h1 g1 hp hB hbase
  go_wp2_with fail
  clear hmin MN
  go_loopg [10, 12, 14, 29] n (fun gg s10 s12 s14 s29 wr => ∃ (i m : Nat) (v : Value), s29 = .int .i64 (i : Int) ∧ v = s10 ∧ i ≤ n ∧ n - i ≤ gg ∧ Hid (BJ w wr p B most (endP most [] ((z.take i).map Prod.fst)) base v m (allP most [] 0 (z.take i))))
  case atStart => exact ⟨0, 0, _, rfl, rfl, Nat.zero_le _, by omega, HIT⟩
  case round =>
    clear HIT
    obtain ⟨i, m, v, rfl, rfl, a1, a2, AI⟩ := hrel
    by_cases ilt : i < n
    · have ilt' : (i : Int) < (n : Int) := by omega
      obtain ⟨o, A, hoi, hai, hzi⟩ := ZI.out i ilt
      have ol1 : i < ol := by have := LN.out.1; have := NB.out.1; omega
      have al1 : i < al := by have := LN.out.2; have := NB.out.2.1; omega
      have ol1' : (i : Int) < (ol : Int) := by omega
      have al1' : (i : Int) < (al : Int) := by omega
      obtain ⟨lb, lf, rfl, hlb, hlc⟩ := OH.out.cells (by have := LN.out.1; omega)
      obtain ⟨ab, af, rfl, hab, hac⟩ := AH.out.cells (by have := LN.out.2; omega)
      obtain ⟨bo, bc, pl, bn, d0, d1, d2, d3, d4, d5⟩ := hac i A hai
      have c0 := hlc i o hoi 0 _ rfl
      have c1 := hlc i o hoi 1 _ rfl
      have c2 := hlc i o hoi 2 _ rfl
      rw [Nat.add_zero] at c0
      have BDO : Hid (BdO o) := BO.out o (List.mem_of_getElem? hoi)
      have BAL : Hid (A.L.length ≤ 4000000) := BA.out A (List.mem_of_getElem? hai)
      have ST : Hid (allP most [] 0 (z.take (i + 1)) = allP most [] 0 (z.take i) ++ (seeP (ansP most (endP most [] ((z.take i).map Prod.fst)) o.1 o.2.1 o.2.2) A).map (fun x => ((i : Int), x)) ∧ endP most [] ((z.take (i + 1)).map Prod.fst) = nxtP most (endP most [] ((z.take i).map Prod.fst)) o.1 o.2.1 o.2.2) := ⟨all_step most z i o A hzi, end_step most z i o A hzi⟩
      have ML : Hid (m ≤ 5 * i) := by
        have h1 := AI.out.len
        have h2 := all_len most (z.take i) [] 0
        rw [List.length_take] at h2
        show m ≤ 5 * i
        omega
      have EL : Hid ((endP most [] ((z.take i).map Prod.fst)).length ≤ 3999999) := by
        have h1 := end_len most ((z.take i).map Prod.fst) []
        rw [List.length_map, List.length_take] at h1
        have h2 := NB.out.2.2
        show _ ≤ _
        simp only [List.length_nil] at h1
        omega
      obtain ⟨wD, hwD⟩ : ∃ wD, World.drew wr = wD := ⟨_, rfl⟩
      have AID : Hid (BJ w wD p B most (endP most [] ((z.take i).map Prod.fst)) base v m (allP most [] 0 (z.take i))) := by rw [← hwD]; exact AI.out.tw (Gw.refl wr).drew
      generalize endP most [] ((z.take i).map Prod.fst) = l at ST EL AID
      generalize allP most [] 0 (z.take i) = Lf at ST AID
      clear AI
      have gD := AID.out.gw
      have kl := fun j => gD.cell lb j hlb
      have ka := fun j => gD.cell ab j hab
      replace c0 := (kl _).trans c0
      replace c1 := (kl _).trans c1
      replace c2 := (kl _).trans c2
      replace d0 := (ka _).trans d0
      replace d1 := (ka _).trans d1
      replace d2 := (ka _).trans d2
      replace d3 := (ka _).trans d3
      replace d4 := (ka _).trans d4
      replace d5 := (ka _).trans d5
      have PB : Hid (PLr wD bo A.L ∧ ∀ a, bo = some a → 0 < A.L.length → a.block ≠ B) := ⟨pl.gw gD, fun a e h0 hs => by
        obtain ⟨b, off, e', hb, _⟩ := pl.cells h0
        rw [e] at e'
        cases e'
        have := PB0.out
        dsimp only at hs
        omega⟩
      clear kl ka hlc hac pl hoi hai hzi gD
      obtain ⟨Ac, Ai, Ak, Av, An, AL⟩ := A
      obtain ⟨o1, o2, o3⟩ := o
      dsimp only at c0 c1 c2 d0 d1 d2 d3 d4 d5
      obtain ⟨am, ham⟩ : ∃ am, AL.length = am := ⟨_, rfl⟩
      have AM : Hid (AL.length = am) := ham
      rw [ham] at d5
      clear ham
      obtain ⟨Ln, hLn⟩ : ∃ Ln, seeP (ansP most l o1 o2 o3) ⟨Ac, Ai, Ak, Av, An, AL⟩ = Ln := ⟨_, rfl⟩
      obtain ⟨l', hl'⟩ : ∃ l', nxtP most l o1 o2 o3 = l' := ⟨_, rfl⟩
      have L5 := see_len (ansP most l o1 o2 o3) ⟨Ac, Ai, Ak, Av, An, AL⟩
      rw [hLn] at ST L5
      rw [hl'] at ST
      obtain ⟨N, hN⟩ : ∃ N, Ln.length = N := ⟨_, rfl⟩
      have LNN : Hid (Ln.length = N) := hN
      rw [hN] at L5
      have SEX : Hid (∀ W, W = wr.drew → Calls Try.prog 10 #[.pointer (some ⟨p, 0, none⟩), .agg #[.int .i64 o1, .int .u64 o2, .int .u64 o3], .agg #[.int .i64 Ac, .bool Ai, .int .u64 Ak, .int .u64 Av, .int .i64 An, .slice bo am bc]] W fun e w' => (∃ no cn, e = .returned (.slice no N cn) ∧ NumF w' no Ln ∧ ∀ gn, no = some ⟨gn, 0, none⟩ → W.heap.size ≤ gn) ∧ JW w' p B most l' ∧ Gx (fun q => q = B) W w') := fun W e => by
        have SE := SEE.out p B l (o1, o2, o3) ⟨Ac, Ai, Ak, Av, An, AL⟩ bo bc wD BDO.out EL.out BAL.out AID.out.jw PB.out.1 PB.out.2
        dsimp only at SE
        rw [AM.out, hLn, hl', hN] at SE
        rw [e, hwD]
        exact SE
      have LB : Hid (lb ≠ B ∧ ab ≠ B ∧ lb < wD.heap.size ∧ ab < wD.heap.size) := by
        have h1 := PB0.out
        have h2 := AID.out.gw.size
        exact ⟨by omega, by omega, by omega, by omega⟩
      have HW : Hid (∀ w' : World, Gx (fun q => q = B) wD w' → Gx (fun q => q = B) wD w' ∧ w'.cell? ⟨lb, lf + i * 3, none⟩ = some (.int .i64 o1) ∧ w'.cell? ⟨lb, lf + i * 3 + 1, none⟩ = some (.int .u64 o2) ∧ w'.cell? ⟨lb, lf + i * 3 + 2, none⟩ = some (.int .u64 o3) ∧ w'.cell? ⟨ab, af + i * 6, none⟩ = some (.int .i64 Ac) ∧ w'.cell? ⟨ab, af + i * 6 + 1, none⟩ = some (.bool Ai) ∧ w'.cell? ⟨ab, af + i * 6 + 2, none⟩ = some (.int .u64 Ak) ∧ w'.cell? ⟨ab, af + i * 6 + 3, none⟩ = some (.int .u64 Av) ∧ w'.cell? ⟨ab, af + i * 6 + 4, none⟩ = some (.int .i64 An) ∧ w'.cell? ⟨ab, af + i * 6 + 5, none⟩ = some (.slice bo am bc)) := fun w' g => by
        have k1 := fun j => World.cell?_of_block (a := ⟨lb, j, none⟩) (g.block lb LB.out.2.2.1 LB.out.1)
        have k2 := fun j => World.cell?_of_block (a := ⟨ab, j, none⟩) (g.block ab LB.out.2.2.2 LB.out.2.1)
        exact ⟨g, (k1 _).trans c0, (k1 _).trans c1, (k1 _).trans c2, (k2 _).trans d0, (k2 _).trans d1, (k2 _).trans d2, (k2 _).trans d3, (k2 _).trans d4, (k2 _).trans d5⟩
      have WD : Hid (wr.drew = wD) := hwD
      clear hLn hl' hN hwD PB d0 d1 d2 d3 d4 d5 c0 c1 c2
      go_upto_region 9 with fail
      go_region_held3 (fun w' => Gx (fun q => q = B) wD w' ∧ w'.cell? ⟨lb, lf + i * 3, none⟩ = some (.int .i64 o1) ∧ w'.cell? ⟨lb, lf + i * 3 + 1, none⟩ = some (.int .u64 o2) ∧ w'.cell? ⟨lb, lf + i * 3 + 2, none⟩ = some (.int .u64 o3) ∧ w'.cell? ⟨ab, af + i * 6, none⟩ = some (.int .i64 Ac) ∧ w'.cell? ⟨ab, af + i * 6 + 1, none⟩ = some (.bool Ai) ∧ w'.cell? ⟨ab, af + i * 6 + 2, none⟩ = some (.int .u64 Ak) ∧ w'.cell? ⟨ab, af + i * 6 + 3, none⟩ = some (.int .u64 Av) ∧ w'.cell? ⟨ab, af + i * 6 + 4, none⟩ = some (.int .i64 An) ∧ w'.cell? ⟨ab, af + i * 6 + 5, none⟩ = some (.slice bo am bc))
        (((refine HW.out _ ?_; first | (rw [WD.out]; exact Gx.refl _ _) | exact And.left (by assumption) | exact Hid.out (by assumption)); done))
        ((first
          | (go_at_call 10; refine (SEX.out _ rfl).mono ?_; rintro e w2 ⟨⟨no, cn, rfl, hnum, hfar⟩, jw, gx⟩; have GX2 : Hid (Gx (fun q => q = B) wD w2) := (by rw [← WD.out]; exact gx); have JW2 : Hid (JW w2 p B most l') := jw; have NUM : Hid (NumF w2 no Ln) := hnum; have HFAR : Hid (∀ gn, no = some ⟨gn, 0, none⟩ → wD.heap.size ≤ gn) := (by rw [← WD.out]; exact hfar); clear hnum hfar jw gx)))
      have FAR : Hid (FarN w2 w2 no v) := ⟨fun gn e hl => ⟨fun q => by have := (World.ownsRow.lt AID.out.row gn q).2; have := HFAR.out gn e; omega, rfl⟩, Nat.le_refl _⟩
      have A3 : Hid (BJ w w2 p B most l' base v m (Lf ++ (Ln.take 0).map (fun x => ((i : Int), x)))) := by
        have := AID.out.see JW2.out GX2.out
        show BJ _ _ _ _ _ _ _ _ _ _
        simpa using this
      clear AID JW2 GX2 HFAR SEX HW
      go_wp2_with fail
      go_loopg [10, 14, 43] N (fun gg s10 s14 s43 wr => ∃ (k m' : Nat) (v' : Value), s43 = .int .i64 (k : Int) ∧ v' = s10 ∧ k ≤ N ∧ N - k ≤ gg ∧ m' = m + k ∧ Hid (BJ w wr p B most l' base v' m' (Lf ++ (Ln.take k).map (fun x => ((i : Int), x)))) ∧ Hid (FarN w2 wr no v'))
      case atStart => exact ⟨0, m, _, rfl, rfl, Nat.zero_le _, by omega, rfl, A3, FAR⟩
      case round =>
        obtain ⟨k, m', v', rfl, rfl, b1, b2, hm', AI, GK⟩ := hrel
        by_cases klt : k < N
        · have klt' : (k : Int) < (N : Int) := by omega
          obtain ⟨x, hx⟩ : ∃ x, Ln[k]? = some x := ⟨Ln[k]'(by rw [LNN.out]; exact klt), List.getElem?_eq_getElem _⟩
          obtain ⟨gn, rfl, gl, gc⟩ := NUM.out k x hx
          have cx : wr.cell? ⟨gn, k, none⟩ = some (.int .i64 x) := (World.cell?_of_block (a := ⟨gn, k, none⟩) (GK.out.1 gn rfl gl).2).trans gc
          have TK : Hid ((Ln.take (k + 1)).map (fun x => ((i : Int), x)) = (Ln.take k).map (fun x => ((i : Int), x)) ++ [((i : Int), x)]) := by
            show _ = _
            rw [List.take_add_one, hx, List.map_append]
            rfl
          have mb : m' + 1 ≤ 5300000 := by have := ML.out; have := NB.out.2.2; omega
          have MM : Hid (m' = m + k) := hm'
          have BS : base ≤ wr.heap.size := AI.out.bs.2
          clear hx hm' gc gl
          go_wp2_with (at_builtin; refine wpList_append_own_at _ rfl _ _ 51 rfl base 61 ii _ 2 16 Try.underlying51 hii hz hsz hby rfl (by decide) v' m' _ rfl (World.ownsRow.alloc AI.out.row _) ⟨wr.heap.size, 0, none⟩ 1 1 (fc2 ((i : Int), x)) rfl rfl (newc wr #[.int .i64 (i : Int), .int .i64 x] _) (by intro u hu; simp only [fc2, List.mem_cons, List.not_mem_nil, or_false] at hu; rcases hu with rfl | rfl <;> rfl) (by simp only [maxLen]; omega) (by omega) (by simp; omega) ?_)
          intro v9 w9 r1 r2 r3 r4
          have A9 : Hid (BJ w w9 p B most l' base v9 (m' + 1) (Lf ++ (Ln.take (k + 1)).map (fun x => ((i : Int), x)))) := by
            rw [TK.out, ← List.append_assoc]
            exact AI.out.more ((Gw.refl _).alloc _ _) (by simpa using r1) r2
          have G9 : Hid (FarN w2 w9 (some ⟨gn, 0, none⟩) v9) := GK.out.more ((Gw.refl _).alloc _ _) r2 (by simpa using r4)
          clear r1 r2 r3 r4
          go_wp2_with fail
          go_roundg (N - (k + 1))
          case measure => omega
          case rel => exact ⟨k + 1, m' + 1, _, by go_num, rfl, by omega, Nat.le_refl _, by have := MM.out; omega, A9, G9⟩
        · have ek : k = N := by omega
          have AE : Hid (BJ w wr p B most (endP most [] ((z.take (i + 1)).map Prod.fst)) base v' m' (allP most [] 0 (z.take (i + 1)))) := by
            rw [ST.out.1, ST.out.2]
            have := AI.out
            rw [List.take_of_length_le (by rw [LNN.out]; omega)] at this
            exact this
          clear AI ek
          go_wp2_with fail
          go_roundg (n - (i + 1))
          case measure => omega
          case rel => exact ⟨i + 1, m', _, by go_num, rfl, by omega, Nat.le_refl _, AE⟩
    · have AE : Hid (BJ w wr p B most (endP most [] ((z.take i).map Prod.fst)) base v m (allP most [] 0 z)) := by
        have := AI.out
        have e : allP most [] 0 (z.take i) = allP most [] 0 z := by rw [List.take_of_length_le (by rw [ZL.out]; omega)]
        rw [e] at this
        exact this
      have mb : m + 1 ≤ 5300000 := by
        have h1 := AE.out.len
        have h2 := all_len most z [] 0
        have h3 := ZL.out
        have h4 := NB.out.2.2
        omega
      have BS : base ≤ wr.heap.size := AE.out.bs.2
      clear AI
      by_cases q : ol = al
      · have q1 : ((ol : Int) != (al : Int)) = false := by rw [q]; simp
        have q2 : ((ol : Int) == (al : Int)) = true := by rw [q]; simp
        have QT : Hid (TL = []) := TH.out.1 q
        clear q
        obtain ⟨bo, c, hv, fl, mc, bn⟩ := fault_form AE.out.row AE.out.len
        have FF : Hid (FLr wr bo (allP most [] 0 z) ∧ m ≤ c ∧ (bo = none → c = 0)) := ⟨fl, mc, bn⟩
        subst hv
        clear fl mc bn
        go_wp2_with fail
        refine bodyPost_ret (v := .tuple #[.slice bo m c, .int .i64 0]) (by simp [results, Try.results15, go_sem]) rfl ?_
        rw [QT.out, List.append_nil]
        exact ⟨bo, c, by rw [AE.out.len], FF.out.1, by rw [AE.out.len]; exact FF.out.2.1, FF.out.2.2, AE.out.gw⟩
      · have q1 : ((ol : Int) != (al : Int)) = true := by simp; omega
        have q2 : ((ol : Int) == (al : Int)) = false := by simp; omega
        have QT : Hid (TL = [((n : Int), 6)]) := TH.out.2 q
        clear q
        go_wp2_with (at_builtin; refine wpList_append_own_at _ rfl _ _ 51 rfl base 61 ii _ 2 16 Try.underlying51 hii hz hsz hby rfl (by decide) v m _ rfl (World.ownsRow.alloc AE.out.row _) ⟨wr.heap.size, 0, none⟩ 1 1 (fc2 ((n : Int), 6)) rfl rfl (newc wr #[.int .i64 (n : Int), .int .i64 6] _) (by intro u hu; simp only [fc2, List.mem_cons, List.not_mem_nil, or_false] at hu; rcases hu with rfl | rfl <;> rfl) (by simp only [maxLen]; omega) (by omega) (by simp; omega) ?_)
        intro v9 w9 r1 r2 r3 r4
        have A9 : Hid (BJ w w9 p B most (endP most [] ((z.take i).map Prod.fst)) base v9 (m + 1) (allP most [] 0 z ++ [((n : Int), 6)])) := AE.out.more ((Gw.refl _).alloc _ _) (by simpa using r1) r2
        obtain ⟨bo, c, hv, fl, mc, bn⟩ := fault_form A9.out.row A9.out.len
        have FF : Hid (FLr w9 bo (allP most [] 0 z ++ [((n : Int), 6)]) ∧ m + 1 ≤ c ∧ (bo = none → c = 0)) := ⟨fl, mc, bn⟩
        subst hv
        clear r1 r2 r3 r4 fl mc bn
        go_wp2_with fail
        refine bodyPost_ret (v := .tuple #[.slice bo (m + 1 : Nat) c, .int .i64 0]) (by simp [results, Try.results15, go_sem]) rfl ?_
        rw [QT.out]
        exact ⟨bo, c, by rw [A9.out.len], FF.out.1, by rw [A9.out.len]; exact FF.out.2.1, FF.out.2.2, A9.out.gw⟩
/-- What is asked of package judge. -/
theorem judgec : JudgeC HJ where
  keep := fun {w w' p S most l} h k => by
    obtain ⟨B, j, sp, sB⟩ := h
    exact ⟨B, j.keep (fun q hq => by rcases hq with e | e; (rw [e]; exact k p sp j.lt.1); (rw [e]; exact k B sB j.lt.2)), ⟨sp, j.lt.1⟩, ⟨sB, j.lt.2⟩⟩
  bad := fun most w h => (jnew_no most h w).mono fun e w' h => ⟨h.1, by rw [h.2]; exact Gw.refl _⟩
  new := fun most w h1 h2 => (jnew23 most h1 h2 w).mono fun e w' h => ⟨w.heap.size + 1, (fun q => q = w.heap.size + 1 ∨ q = w.heap.size), h.1, ⟨w.heap.size, h.2.1, .inl rfl, .inr rfl⟩, (fun q hq => by rcases hq with e | e <;> omega), h.2.2⟩
  see := fun p S most l o A ao ca w h1 h2 h3 h4 h5 h6 => by
    obtain ⟨B, j, sp, sB⟩ := h4
    refine (jsee23 p B most o.1 o.2.1 o.2.2 l h2 h1.1 h1.2 A.c A.k A.v A.n A.is ao ca A.L h3 w j h5 (fun a e h0 q => h6 a e h0 (by rw [q]; exact sB))).mono ?_
    rintro e w' ⟨⟨u, rfl, ru⟩, j', gx⟩
    obtain ⟨no, cn, e1, e2, e3⟩ := num_form ru
    refine ⟨(fun q => q = p ∨ q = B), ⟨no, cn, by rw [e1], ?_, ?_⟩, ⟨B, j', .inl rfl, .inr rfl⟩, gx.mono (fun q hq => .inl (by rw [hq]; exact sB)), fun q hq => .inl (by rcases hq with e | e <;> rw [e] <;> assumption)⟩
    · refine ⟨fun h0 => ?_⟩
      obtain ⟨gn, g1, g2, _⟩ := e2 0 _ (List.getElem?_eq_getElem h0)
      refine ⟨gn, 0, g1, g2, fun i x hx j u hu => ?_⟩
      obtain ⟨gm, m1, _, m3⟩ := e2 i x hx
      rw [g1] at m1
      cases m1
      cases j with
      | zero =>
        have : u = .int .i64 x := by simpa [nc1] using hu.symm
        rw [this]
        simpa using m3
      | succ j => simp [nc1] at hu
    · intro a e h0 hq
      obtain ⟨gn, g1, g2, _⟩ := e2 0 _ (List.getElem?_eq_getElem h0)
      have g3 := e3 gn g1
      rw [g1] at e
      cases e
      have l1 := j.lt
      dsimp only at hq
      omega
  pairs := fun p S most l w h1 h2 => by
    obtain ⟨B, j, sp, sB⟩ := h2
    refine (jpairs23 p B most l h1 w j).mono ?_
    rintro e w' ⟨⟨g, n, rfl, rg⟩, gw⟩
    have hn := rg.len
    subst hn
    exact ⟨_, rfl, rg.row, gw⟩
  no := fun most lo ao ln lc an ac w h => (jall_no most h _ _ w).mono fun e w' h => ⟨⟨none, 0, h.1⟩, h.2⟩
  all := fun most lo ao lc ac os aa w m1 m2 h1 h2 _ _ h5 h6 h7 h8 => jall23 most lo ao lc ac os aa w m1 m2 h1 h2 h5 h6 h7 h8
end Go.Proofs.Ytkojcjfjmlompaa
