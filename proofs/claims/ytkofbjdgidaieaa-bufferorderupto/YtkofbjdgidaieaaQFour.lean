/- Four buffers beside one another: two of the program's and two of the document's. -/
import Derived.Test.YtkofbjdgidaieaaQMem
namespace Go.Proofs.Ytkofbjdgidaieaa
open Go.RowKit
set_option linter.unusedVariables false

def Apart (A B : Nat → Prop) : Prop := ∀ q, A q → ¬ B q
theorem Apart.symm {A B : Nat → Prop} (h : Apart A B) : Apart B A := fun q b a => h q a b
theorem Apart.grow {A B B' : Nat → Prop} {n : Nat} (h : Apart A B) (ha : ∀ q, A q → q < n) (hb : ∀ q, B' q → B q ∨ n ≤ q) : Apart A B' := fun q a b => by
  rcases hb q b with x | x
  · exact h q a x
  · have := ha q a; omega
structure Q4 (tb tr : TypeId) (m : Int) (base : Nat) (w : World) (p1 : Nat) (S1 : Nat → Prop) (l1 : List Ent) (q1 : Nat) (T1 : Nat → Prop) (k1 : List Ent) (p2 : Nat) (S2 : Nat → Prop) (l2 : List Ent) (q2 : Nat) (T2 : Nat → Prop) (k2 : List Ent) : Prop where
  a : HB tb w p1 S1 m l1
  b : HB tr w q1 T1 m k1
  c : HB tb w p2 S2 m l2
  d : HB tr w q2 T2 m k2
  ab : Apart S1 T1
  ac : Apart S1 S2
  ad : Apart S1 T2
  bc : Apart T1 S2
  bd : Apart T1 T2
  cd : Apart S2 T2
  na : ∀ q, S1 q → base ≤ q
  nb : ∀ q, T1 q → base ≤ q
  nc : ∀ q, S2 q → base ≤ q
  nd : ∀ q, T2 q → base ≤ q
  le : base ≤ w.heap.size
section
variable {tb tr : TypeId} {m : Int} {base : Nat} {w w' w'' : World} {p1 q1 p2 q2 : Nat} {S1 T1 S2 T2 : Nat → Prop} {l1 k1 l2 k2 : List Ent}
theorem Q4.swap (h : Q4 tb tr m base w p1 S1 l1 q1 T1 k1 p2 S2 l2 q2 T2 k2) : Q4 tb tr m base w p2 S2 l2 q2 T2 k2 p1 S1 l1 q1 T1 k1 :=
  ⟨h.c, h.d, h.a, h.b, h.cd, h.ac.symm, h.bc.symm, h.ad.symm, h.bd.symm, h.ab, h.nc, h.nd, h.na, h.nb, h.le⟩
theorem Q4.gw (h : Q4 tb tr m base w p1 S1 l1 q1 T1 k1 p2 S2 l2 q2 T2 k2) (g : Gw w w') : Q4 tb tr m base w' p1 S1 l1 q1 T1 k1 p2 S2 l2 q2 T2 k2 :=
  ⟨h.a.gw g, h.b.gw g, h.c.gw g, h.d.gw g, h.ab, h.ac, h.ad, h.bc, h.bd, h.cd, h.na, h.nb, h.nc, h.nd, Nat.le_trans h.le g.size⟩
/-- What none of them is made of is written. -/
theorem Q4.far {U : Nat → Prop} (h : Q4 tb tr m base w p1 S1 l1 q1 T1 k1 p2 S2 l2 q2 T2 k2) (g : Gx U w w') (u1 : Apart S1 U) (u2 : Apart T1 U) (u3 : Apart S2 U) (u4 : Apart T2 U) : Q4 tb tr m base w' p1 S1 l1 q1 T1 k1 p2 S2 l2 q2 T2 k2 :=
  ⟨h.a.gx g u1, h.b.gx g u2, h.c.gx g u3, h.d.gx g u4, h.ab, h.ac, h.ad, h.bc, h.bd, h.cd, h.na, h.nb, h.nc, h.nd, Nat.le_trans h.le g.size⟩
theorem Q4.first {S1' : Nat → Prop} {l1' : List Ent} (h : Q4 tb tr m base w p1 S1 l1 q1 T1 k1 p2 S2 l2 q2 T2 k2) (o : HB tb w' p1 S1' m l1') (g : Gx S1 w w') (s : ∀ q, S1' q → S1 q ∨ w.heap.size ≤ q) : Q4 tb tr m base w' p1 S1' l1' q1 T1 k1 p2 S2 l2 q2 T2 k2 :=
  ⟨o, h.b.gx g h.ab.symm, h.c.gx g h.ac.symm, h.d.gx g h.ad.symm, (h.ab.symm.grow h.b.lt s).symm, (h.ac.symm.grow h.c.lt s).symm, (h.ad.symm.grow h.d.lt s).symm, h.bc, h.bd, h.cd, fun q hq => (s q hq).elim (h.na q) (fun x => Nat.le_trans h.le x), h.nb, h.nc, h.nd, Nat.le_trans h.le g.size⟩
theorem Q4.second {T1' : Nat → Prop} {k1' : List Ent} (h : Q4 tb tr m base w p1 S1 l1 q1 T1 k1 p2 S2 l2 q2 T2 k2) (o : HB tr w' q1 T1' m k1') (g : Gx T1 w w') (s : ∀ q, T1' q → T1 q ∨ w.heap.size ≤ q) : Q4 tb tr m base w' p1 S1 l1 q1 T1' k1' p2 S2 l2 q2 T2 k2 :=
  ⟨h.a.gx g h.ab, o, h.c.gx g h.bc.symm, h.d.gx g h.bd.symm, h.ab.grow h.a.lt s, h.ac, h.ad, (h.bc.symm.grow h.c.lt s).symm, (h.bd.symm.grow h.d.lt s).symm, h.cd, h.na, fun q hq => (s q hq).elim (h.nb q) (fun x => Nat.le_trans h.le x), h.nc, h.nd, Nat.le_trans h.le g.size⟩
/-- Clones take the first one's places; the first ones go on as the second. -/
theorem Q4.cloned {p q : Nat} {S T : Nat → Prop} (h : Q4 tb tr m base w p1 S1 l1 q1 T1 k1 p2 S2 l2 q2 T2 k2) (g1 : Gw w w') (o : HB tb w' p S m l1) (s : ∀ q, S q → w.heap.size ≤ q) (g2 : Gw w' w'') (o' : HB tr w'' q T m k1) (s' : ∀ q, T q → w'.heap.size ≤ q) : Q4 tb tr m base w'' p S l1 q T k1 p1 S1 l1 q1 T1 k1 := by
  have far : ∀ {A : Nat → Prop}, (∀ q, A q → q < w.heap.size) → Apart S A := fun hA q a b => by have := s q a; have := hA q b; omega
  have far' : ∀ {A : Nat → Prop}, (∀ q, A q → q < w'.heap.size) → Apart A T := fun hA q a b => by have := s' q b; have := hA q a; omega
  have up : ∀ {A : Nat → Prop}, (∀ q, A q → q < w.heap.size) → ∀ q, A q → q < w'.heap.size := fun hA q a => Nat.lt_of_lt_of_le (hA q a) g1.size
  exact ⟨o.gw g2, o', h.a.gw (g1.trans g2), h.b.gw (g1.trans g2), far' o.lt, far h.a.lt, far h.b.lt, (far' (up h.a.lt)).symm, (far' (up h.b.lt)).symm, h.ab, fun q hq => Nat.le_trans h.le (s q hq), fun q hq => Nat.le_trans h.le (Nat.le_trans g1.size (s' q hq)), h.na, h.nb, Nat.le_trans h.le (Nat.le_trans g1.size g2.size)⟩
end
/-- Steps in memory: a number and an entry each. -/
structure OPL (w : World) (ao : Option Addr) (l : List (Int × Ent)) : Prop where
  cells : 0 < l.length → ∃ b off, ao = some ⟨b, off, none⟩ ∧ b < w.heap.size ∧ ∀ i x, l[i]? = some x → w.cell? ⟨b, off + i * 4, none⟩ = some (.int .i64 x.1) ∧ w.cell? ⟨b, off + i * 4 + 1, none⟩ = some (.int .u64 x.2.k) ∧ w.cell? ⟨b, off + i * 4 + 2, none⟩ = some (.int .u64 x.2.v) ∧ w.cell? ⟨b, off + i * 4 + 3, none⟩ = some (.bool x.2.g)
  bd : ∀ x ∈ l, (-9223372036854775808 ≤ x.1 ∧ x.1 < 9223372036854775808) ∧ x.2.ok
theorem OPL.gw {w w' : World} {ao : Option Addr} {l : List (Int × Ent)} (h : OPL w ao l) (g : Gw w w') : OPL w' ao l :=
  ⟨fun h0 => by
    obtain ⟨b, off, e, hb, hc⟩ := h.cells h0
    refine ⟨b, off, e, Nat.lt_of_lt_of_le hb g.size, fun i x hx => ?_⟩
    obtain ⟨c0, c1, c2, c3⟩ := hc i x hx
    exact ⟨(g.cell _ _ hb).trans c0, (g.cell _ _ hb).trans c1, (g.cell _ _ hb).trans c2, (g.cell _ _ hb).trans c3⟩, h.bd⟩
end Go.Proofs.Ytkofbjdgidaieaa
