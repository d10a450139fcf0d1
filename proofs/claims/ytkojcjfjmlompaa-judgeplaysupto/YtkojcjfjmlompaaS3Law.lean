/- Layer 23's statements' own: operations and answers in memory; what is asked of package judge. -/
import Derived.Test.YtkojcjfjmlompaaS3See
namespace Go.Proofs.Ytkojcjfjmlompaa
open Go.RowKit
set_option linter.unusedVariables false

abbrev Ot := Int × Int × Int
def oc3 (o : Ot) : List Value := [.int .i64 o.1, .int .u64 o.2.1, .int .u64 o.2.2]
abbrev OLr := LsR 3 oc3
def BdO (o : Ot) : Prop := (0 ≤ o.2.1 ∧ o.2.1 < 18446744073709551616) ∧ (0 ≤ o.2.2 ∧ o.2.2 < 18446744073709551616)
/-- An answer in memory. -/
def AnAt (w : World) (b o : Nat) (A : Aw) : Prop := ∃ (bo : Option Addr) (c : Nat), PLr w bo A.L ∧ (bo = none → A.L.length = 0 ∧ c = 0) ∧ w.cell? ⟨b, o, none⟩ = some (.int .i64 A.c) ∧ w.cell? ⟨b, o + 1, none⟩ = some (.bool A.is) ∧ w.cell? ⟨b, o + 2, none⟩ = some (.int .u64 A.k) ∧ w.cell? ⟨b, o + 3, none⟩ = some (.int .u64 A.v) ∧ w.cell? ⟨b, o + 4, none⟩ = some (.int .i64 A.n) ∧ w.cell? ⟨b, o + 5, none⟩ = some (.slice bo A.L.length c)
theorem AnAt.gw {w w' : World} {b o : Nat} {A : Aw} (h : AnAt w b o A) (g : Gw w w') : AnAt w' b o A := by
  obtain ⟨bo, c, h1, h2, c0, c1, c2, c3, c4, c5⟩ := h
  have bl := World.block_lt_of_cell? _ _ c0
  have k := fun j => g.cell b j bl
  exact ⟨bo, c, h1.gw g, h2, (k _).trans c0, (k _).trans c1, (k _).trans c2, (k _).trans c3, (k _).trans c4, (k _).trans c5⟩
theorem LsR.gx {α : Type} {m : Nat} {f : α → List Value} {w w' : World} {ao : Option Addr} {l : List α} {S : Nat → Prop} (h : LsR m f w ao l) (g : Gx S w w') (no : ∀ a, ao = some a → 0 < l.length → ¬ S a.block) : LsR m f w' ao l :=
  h.keep g.size (fun a e h0 => by
    obtain ⟨b, off, e', hb, _⟩ := h.cells h0
    rw [e] at e'
    cases e'
    exact g.block b hb (no _ e h0))
/-- Answers to be read. -/
structure ALr (w : World) (ao : Option Addr) (l : List Aw) : Prop where
  cells : 0 < l.length → ∃ b off, ao = some ⟨b, off, none⟩ ∧ b < w.heap.size ∧ ∀ (i : Nat) (A : Aw), l[i]? = some A → AnAt w b (off + i * 6) A
theorem ALr.gw {w w' : World} {ao : Option Addr} {l : List Aw} (h : ALr w ao l) (g : Gw w w') : ALr w' ao l :=
  ⟨fun h0 => by
    obtain ⟨b, off, e, hb, hc⟩ := h.cells h0
    exact ⟨b, off, e, Nat.lt_of_lt_of_le hb g.size, fun i A hA => (hc i A hA).gw g⟩⟩
/-- What was seen: operations with answers. -/
structure SLr (w : World) (ao : Option Addr) (l : List (Ot × Aw)) : Prop where
  cells : 0 < l.length → ∃ b off, ao = some ⟨b, off, none⟩ ∧ b < w.heap.size ∧ ∀ (i : Nat) (x : Ot × Aw), l[i]? = some x → (w.cell? ⟨b, off + i * 9, none⟩ = some (.int .i64 x.1.1) ∧ w.cell? ⟨b, off + i * 9 + 1, none⟩ = some (.int .u64 x.1.2.1) ∧ w.cell? ⟨b, off + i * 9 + 2, none⟩ = some (.int .u64 x.1.2.2)) ∧ AnAt w b (off + i * 9 + 3) x.2
theorem SLr.gw {w w' : World} {ao : Option Addr} {l : List (Ot × Aw)} (h : SLr w ao l) (g : Gw w w') : SLr w' ao l :=
  ⟨fun h0 => by
    obtain ⟨b, off, e, hb, hc⟩ := h.cells h0
    refine ⟨b, off, e, Nat.lt_of_lt_of_le hb g.size, fun i x hx => ?_⟩
    obtain ⟨⟨a0, a1, a2⟩, a3⟩ := hc i x hx
    exact ⟨⟨(g.cell _ _ hb).trans a0, (g.cell _ _ hb).trans a1, (g.cell _ _ hb).trans a2⟩, a3.gw g⟩⟩
/-- What is told of an operation: numbers to be read. -/
def NumJ (w : World) (e : Ending) (S : Nat → Prop) (L : List Int) : Prop := ∃ (bo : Option Addr) (c : Nat), e = .returned (.slice bo L.length c) ∧ NLr w bo L ∧ ∀ a, bo = some a → 0 < L.length → ¬ S a.block
def SeeJ (HJ : World → Nat → (Nat → Prop) → Int → Ps → Prop) (w w' : World) (e : Ending) (p : Nat) (S : Nat → Prop) (most : Int) (l : Ps) (L : List Int) : Prop :=
  ∃ S' : Nat → Prop, NumJ w' e (fun q => S' q ∨ q < w.heap.size) L ∧ HJ w' p S' most l ∧ Gx S w w' ∧ (∀ q, S' q → S q ∨ w.heap.size ≤ q)
def NewJ (HJ : World → Nat → (Nat → Prop) → Int → Ps → Prop) (w w' : World) (e : Ending) (most : Int) : Prop :=
  ∃ (p : Nat) (S : Nat → Prop), e = .returned (.tuple #[.pointer (some ⟨p, 0, none⟩), .int .i64 0]) ∧ HJ w' p S most [] ∧ (∀ q, S q → w.heap.size ≤ q) ∧ Gw w w'
/-- What All answers. -/
def AllJ (w w' : World) (e : Ending) (L : List (Int × Int)) : Prop := ∃ (bo : Option Addr) (c : Nat), e = .returned (.tuple #[.slice bo L.length c, .int .i64 0]) ∧ FLr w' bo L ∧ L.length ≤ c ∧ (bo = none → c = 0) ∧ Gw w w'
/-- What is asked of package judge. -/
structure JudgeC (HJ : World → Nat → (Nat → Prop) → Int → Ps → Prop) : Prop where
  keep : ∀ {w w' : World} {p : Nat} {S : Nat → Prop} {most : Int} {l : Ps}, HJ w p S most l → (∀ q, S q → q < w.heap.size → w'.heap[q]? = w.heap[q]?) → HJ w' p (fun q => S q ∧ q < w.heap.size) most l
  bad : ∀ (most : Int) (w : World), (most < 1 ∨ 4294967296 < most) → Calls Try.prog 8 #[.int .i64 most] w fun e w' => e = .returned (.tuple #[.pointer none, .int .i64 1]) ∧ Gw w w'
  new : ∀ (most : Int) (w : World), 1 ≤ most → most ≤ 4294967296 → Calls Try.prog 8 #[.int .i64 most] w fun e w' => NewJ HJ w w' e most
  see : ∀ (p : Nat) (S : Nat → Prop) (most : Int) (l : Ps) (o : Ot) (A : Aw) (ao : Option Addr) (ca : Nat) (w : World), BdO o → l.length ≤ 3999999 → A.L.length ≤ 4000000 → HJ w p S most l → PLr w ao A.L → (∀ a, ao = some a → 0 < A.L.length → ¬ S a.block) →
    Calls Try.prog 10 #[.pointer (some ⟨p, 0, none⟩), .agg #[.int .i64 o.1, .int .u64 o.2.1, .int .u64 o.2.2], awV A ao ca] w fun e w' => SeeJ HJ w w' e p S most (nxtP most l o.1 o.2.1 o.2.2) (seeP (ansP most l o.1 o.2.1 o.2.2) A)
  pairs : ∀ (p : Nat) (S : Nat → Prop) (most : Int) (l : Ps) (w : World), l.length ≤ 4000000 → HJ w p S most l →
    Calls Try.prog 14 #[.pointer (some ⟨p, 0, none⟩)] w fun e w' => ∃ v, e = .returned v ∧ w'.ownsRow w.heap.size 44 2 v l.length (pcs l) ∧ Gw w w'
  no : ∀ (most : Int) (lo ao : Option Addr) (ln lc an ac : Nat) (w : World), (most < 1 ∨ 4294967296 < most) → Calls Try.prog 15 #[.int .i64 most, .slice lo ln lc, .slice ao an ac] w fun e w' => (∃ bo c, e = .returned (.tuple #[.slice bo 0 c, .int .i64 1])) ∧ Gw w w'
  all : ∀ (most : Int) (lo ao : Option Addr) (lc ac : Nat) (os : List Ot) (aa : List Aw) (w : World), 1 ≤ most → most ≤ 4294967296 → os.length ≤ 1048576 → aa.length ≤ 1048576 → os.length ≤ lc → aa.length ≤ ac → (∀ o ∈ os, BdO o) → (∀ A ∈ aa, A.L.length ≤ 4000000) → OLr w lo os → ALr w ao aa →
    Calls Try.prog 15 #[.int .i64 most, .slice lo os.length lc, .slice ao aa.length ac] w fun e w' => AllJ w w' e (tellsP most os aa)
end Go.Proofs.Ytkojcjfjmlompaa
