/- What a reader of layer 10 answers, in one form for the document and for the program. -/
import Derived.Test.YtmioagkmedcflaaOWord
namespace Go.Proofs.Ytmioagkmedcflaa
open Go.RowKit
set_option linter.unusedVariables false

/-- What changed is block p alone, and what is new. -/
structure Upd (p : Nat) (w w' : World) : Prop where
  size : w.heap.size ≤ w'.heap.size
  blk : ∀ q, q ≠ p → q < w.heap.size → w'.heap[q]? = w.heap[q]?
  gw : ∀ w0 : World, w0.heap.size ≤ p → Gw w0 w → Gw w0 w'
theorem Upd.of_gw {p : Nat} {w w' : World} (h : Gw w w') : Upd p w w' := ⟨h.size, fun q _ hq => h.below.block q hq, fun w0 _ g => g.trans h⟩
theorem Upd.refl (p : Nat) (w : World) : Upd p w w := .of_gw (Gw.refl w)
theorem Upd.set (p : Nat) (w : World) (v : Value) : Upd p w (w.setCell ⟨p, 0, none⟩ v) :=
  ⟨Nat.le_of_eq (by simp), fun q hq _ => Go.Deep.blk_setCell_other _ _ _ _ hq, fun w0 h0 g => g.setCell h0 v⟩
theorem Upd.trans {p : Nat} {a b c : World} (h : Upd p a b) (k : Upd p b c) : Upd p a c :=
  ⟨Nat.le_trans h.size k.size, fun q hq hl => (k.blk q hq (Nat.lt_of_lt_of_le hl h.size)).trans (h.blk q hq hl), fun w0 h0 g => k.gw w0 h0 (h.gw w0 h0 g)⟩
theorem RRd.lt {T : TypeId} {w : World} {p : Nat} {S : Nat → Prop} {f : Nat → Int} {m : Nat} (h : RRd T w p S f m) : ∀ q, S q → q < w.heap.size := by
  obtain ⟨bo, c, h1, h2, h3, h4, h5⟩ := h.blk
  intro q hq
  rcases (h5 q).1 hq with rfl | ⟨a, e1, e2, e3⟩
  · exact (Array.getElem?_eq_some_iff.1 h1).1
  · obtain ⟨b, off, e, hb, _⟩ := h2.cells e3
    rw [e1] at e
    cases e
    rw [e2]
    exact hb
theorem RRd.own {T : TypeId} {w : World} {p : Nat} {S : Nat → Prop} {f : Nat → Int} {m : Nat} (h : RRd T w p S f m) : S p := by
  obtain ⟨bo, c, h1, h2, h3, h4, h5⟩ := h.blk
  exact (h5 p).2 (.inl rfl)
theorem RRd.blks {T : TypeId} {w w' : World} {p : Nat} {S : Nat → Prop} {f : Nat → Int} {m : Nat} (h : RRd T w p S f m) (hs : w.heap.size ≤ w'.heap.size) (k : ∀ q, S q → w'.heap[q]? = w.heap[q]?) : RRd T w' p S f m := by
  obtain ⟨bo, c, h1, h2, h3, h4, h5⟩ := h.blk
  refine ⟨bo, c, (k p ((h5 p).2 (.inl rfl))).trans h1, ⟨fun h0 => ?_, h2.bd⟩, h3, h4, h5⟩
  obtain ⟨b, off, e, hb, hc⟩ := h2.cells h0
  refine ⟨b, off, e, Nat.lt_of_lt_of_le hb hs, fun i hi => ?_⟩
  exact (World.cell?_of_block (a := ⟨b, off + i, none⟩) (k b ((h5 b).2 (.inr ⟨_, e, rfl, h0⟩)))).trans (hc i hi)
/-- Another reader is as it was. -/
theorem RRd.upd {T : TypeId} {w w' : World} {p q : Nat} {S : Nat → Prop} {f : Nat → Int} {m : Nat} (h : RRd T w p S f m) (u : Upd q w w') (n : ¬ S q) : RRd T w' p S f m :=
  h.blks u.size fun r hr => u.blk r (fun e => n (e ▸ hr)) (h.lt r hr)
theorem RRd.bd {T : TypeId} {w : World} {p : Nat} {S : Nat → Prop} {f : Nat → Int} {m : Nat} (h : RRd T w p S f m) : ∀ i, i < m → 0 ≤ f i ∧ f i < 256 := by
  obtain ⟨bo, c, h1, h2, _⟩ := h.blk
  exact h2.bd

/-- k bytes are read. -/
def Rds (T : TypeId) (p : Nat) (S : Nat → Prop) (f : Nat → Int) (m k : Nat) (w w' : World) : Prop :=
  Upd p w w' ∧ ∃ S', RRd T w' p S' (fun i => f (k + i)) (m - k) ∧ ∀ q, S' q → S q
theorem Rds.none {T : TypeId} {p : Nat} {S : Nat → Prop} {f : Nat → Int} {m : Nat} {w : World} (h : RRd T w p S f m) : Rds T p S f m 0 w w :=
  ⟨.refl _ _, S, by simpa using h, fun _ h => h⟩
theorem Rds.quiet {T : TypeId} {p : Nat} {S : Nat → Prop} {f : Nat → Int} {m : Nat} {w w' : World} (h : RRd T w p S f m) (g : Gw w w') : Rds T p S f m 0 w w' :=
  ⟨.of_gw g, S, by simpa using h.gw g, fun _ h => h⟩

/-- The answer, the error, how many bytes are read. -/
def numA (f : Nat → Int) (m : Nat) : Int × Int × Nat := if m < 8 then (0, 100, 0) else (numR f 0 8, 0, 8)
def countA (f : Nat → Int) (m : Nat) (most : Int) : Int × Int × Nat := if m < 8 then (0, 100, 0) else if most < 0 ∨ most < numR f 0 8 then (0, 101, 0) else (numR f 0 8, 0, 8)
def floatA (f : Nat → Int) (m : Nat) : Int × Int × Nat := if m < 8 then (0, 100, 0) else if numR f 0 8 / 4503599627370496 % 2048 = 2047 then (0, 101, 0) else (numR f 0 8, 0, 8)
def byteA (f : Nat → Int) (m : Nat) (most : Int) : Int × Int × Nat := if m = 0 then (0, 100, 0) else if most < f 0 then (0, 101, 0) else (f 0, 0, 1)
def wordA (f : Nat → Int) (m : Nat) (s : ByteArray) : Int × Nat := if m < s.size then (100, 0) else if ∀ i, i < s.size → f i = strB s i then (0, s.size) else (101, 0)

/-- What is asked of a reader's six calls. -/
structure OctR (T : TypeId) (fn fc ff fb fw fl : Nat) : Prop where
  left : ∀ {w : World} {p : Nat} {S : Nat → Prop} {f : Nat → Int} {m : Nat}, RRd T w p S f m →
    Calls Try.prog fl #[.pointer (some ⟨p, 0, none⟩)] w fun e w' => e = .returned (.int .i64 (m : Int)) ∧ w' = w
  number : ∀ {w : World} {p : Nat} {S : Nat → Prop} {f : Nat → Int} {m : Nat}, m ≤ 140737488355000 → RRd T w p S f m →
    Calls Try.prog fn #[.pointer (some ⟨p, 0, none⟩)] w fun e w' => e = .returned (.tuple #[.int .u64 (numA f m).1, .int .i64 (numA f m).2.1]) ∧ Rds T p S f m (numA f m).2.2 w w'
  count : ∀ {w : World} {p : Nat} {S : Nat → Prop} {f : Nat → Int} {m : Nat} (most : Int), -9223372036854775808 ≤ most → most < 9223372036854775808 → m ≤ 140737488355000 → RRd T w p S f m →
    Calls Try.prog fc #[.pointer (some ⟨p, 0, none⟩), .int .i64 most] w fun e w' => e = .returned (.tuple #[.int .i64 (countA f m most).1, .int .i64 (countA f m most).2.1]) ∧ Rds T p S f m (countA f m most).2.2 w w'
  float : ∀ {w : World} {p : Nat} {S : Nat → Prop} {f : Nat → Int} {m : Nat}, m ≤ 140737488355000 → RRd T w p S f m →
    Calls Try.prog ff #[.pointer (some ⟨p, 0, none⟩)] w fun e w' => e = .returned (.tuple #[.float .f64 (floatA f m).1.toNat, .int .i64 (floatA f m).2.1]) ∧ Rds T p S f m (floatA f m).2.2 w w'
  byte : ∀ {w : World} {p : Nat} {S : Nat → Prop} {f : Nat → Int} {m : Nat} (most : Int), 0 ≤ most → most < 256 → m ≤ 140737488355000 → RRd T w p S f m →
    Calls Try.prog fb #[.pointer (some ⟨p, 0, none⟩), .int .u8 most] w fun e w' => e = .returned (.tuple #[.int .u8 (byteA f m most).1, .int .i64 (byteA f m most).2.1]) ∧ Rds T p S f m (byteA f m most).2.2 w w'
  word : ∀ {w : World} {p : Nat} {S : Nat → Prop} {f : Nat → Int} {m : Nat} (s : ByteArray), m ≤ 140737488355000 → RRd T w p S f m →
    Calls Try.prog fw #[.pointer (some ⟨p, 0, none⟩), .string s] w fun e w' => e = .returned (.int .i64 (wordA f m s).1) ∧ Rds T p S f m (wordA f m s).2 w w'

/-- The document's reader. -/
theorem docr : OctR 63 20 22 24 27 29 31 where
  left h := rleft_any h
  number := fun {w p S f m} hm h => (rnumber_any hm h).mono fun e w' ⟨x, y⟩ => by
    unfold numA
    by_cases m8 : m < 8
    · obtain ⟨rfl, rfl⟩ := x m8
      rw [if_pos m8]
      exact ⟨rfl, .none h⟩
    · obtain ⟨rfl, z, v, rfl⟩ := y (by omega)
      rw [if_neg m8]
      exact ⟨rfl, .set _ _ _, z⟩
  count := fun {w p S f m} most a b hm h => (rcount_any most a b hm h).mono fun e w' x => by
    unfold countA
    rcases x with ⟨x, rfl, rfl⟩ | ⟨x, y, rfl, rfl⟩ | ⟨x, y, y', rfl, z, v, rfl⟩
    · rw [if_pos x]; exact ⟨rfl, .none h⟩
    · rw [if_neg (by omega), if_pos y]; exact ⟨rfl, .none h⟩
    · rw [if_neg (by omega), if_neg (by omega)]; exact ⟨rfl, .set _ _ _, z⟩
  float := fun {w p S f m} hm h => (rfloat_any hm h).mono fun e w' x => by
    unfold floatA
    rcases x with ⟨x, rfl, rfl⟩ | ⟨x, y, rfl, rfl⟩ | ⟨x, y, y', rfl, z, v, rfl⟩
    · rw [if_pos x]; exact ⟨rfl, .none h⟩
    · rw [if_neg (by omega), if_pos y]; exact ⟨rfl, .none h⟩
    · rw [if_neg (by omega), if_neg y]; exact ⟨rfl, .set _ _ _, z⟩
  byte := fun {w p S f m} most a b hm h => (rbyte_any most a b hm h).mono fun e w' x => by
    unfold byteA
    rcases x with ⟨x, rfl, rfl⟩ | ⟨x, y, rfl, rfl⟩ | ⟨x, y, rfl, z, v, rfl⟩
    · rw [if_pos x]; exact ⟨rfl, .none h⟩
    · rw [if_neg (by omega), if_pos y]; exact ⟨rfl, .none h⟩
    · rw [if_neg (by omega), if_neg (by omega)]; exact ⟨rfl, .set _ _ _, z⟩
  word := fun {w p S f m} s hm h => (rword_any s hm h).mono fun e w' x => by
    unfold wordA
    rcases x with ⟨x, rfl, g⟩ | ⟨x, ⟨i, hi, y⟩, rfl, g⟩ | ⟨x, y, rfl, z, W, v, g, _, rfl⟩
    · rw [if_pos x]; exact ⟨rfl, .quiet h g⟩
    · rw [if_neg (by omega), if_neg (fun t => y (t i hi))]; exact ⟨rfl, .quiet h g⟩
    · rw [if_neg (by omega), if_pos y]; exact ⟨rfl, (Upd.of_gw g).trans (.set _ _ _), z⟩

end Go.Proofs.Ytmioagkmedcflaa
