/- narrow: what its parts say. -/
import Derived.Test.YtlocnkoeffoflaaCLay2
namespace Go.Proofs.Ytlocnkoeffoflaa
open Go.RowKit
set_option linter.unusedVariables false

theorem cmpi_neg (u v : Int) : cmpi u v < 0 ↔ u < v := by
  unfold cmpi
  split
  · simp [*]
  · split <;> simp <;> omega
theorem cmpi_pos (u v : Int) : 0 < cmpi u v ↔ v < u := by
  unfold cmpi
  split
  · simp; omega
  · split <;> simp <;> omega

/-- The point of the upper chain that is touched, and what it says. -/
def PL (e : Int) (f : Nat → Int) (n : Nat) (x xa ya : Int) : Prop := ∃ t, t < n ∧ xa = f t ∧ ya = (t : Int) + e ∧ ∀ j, j < n → ((n : Int) - j - 2 * e) * (x - f t) ≤ ((n : Int) - t - 2 * e) * (x - f j)
/-- The point of the lower one. -/
def PT (e : Int) (f : Nat → Int) (n : Nat) (x xa ya : Int) : Prop := ∃ t, t < n ∧ xa = f t ∧ ya = (t : Int) - e ∧ ∀ j, j < n → ((n : Int) - t + 2 * e) * (x - f j) ≤ ((n : Int) - j + 2 * e) * (x - f t)

theorem PL.bd {e : Int} {f : Nat → Int} {n : Nat} {x xa ya : Int} (h : PL e f n x xa ya) (kb : KB f n) (hx : f (n - 1) < x) (e1 : 1 ≤ e) (e2 : e ≤ 63) : 0 ≤ xa ∧ xa < x ∧ -10000000 ≤ ya ∧ ya ≤ 10000000 := by
  obtain ⟨t, ht, rfl, rfl, _⟩ := h
  have b1 := kb.bd t ht
  have b2 := kb.up.le (show t ≤ n - 1 by omega) (by omega)
  have b3 := kb.len
  omega
theorem PT.bd {e : Int} {f : Nat → Int} {n : Nat} {x xa ya : Int} (h : PT e f n x xa ya) (kb : KB f n) (hx : f (n - 1) < x) (e1 : 1 ≤ e) (e2 : e ≤ 63) : 0 ≤ xa ∧ xa < x ∧ -10000000 ≤ ya ∧ ya ≤ 10000000 := by
  obtain ⟨t, ht, rfl, rfl, _⟩ := h
  have b1 := kb.bd t ht
  have b2 := kb.up.le (show t ≤ n - 1 by omega) (by omega)
  have b3 := kb.len
  omega

theorem Gw.facts {W w' : World} (h : Gw W w') : (∀ b o, b < W.heap.size → w'.cell? ⟨b, o, none⟩ = W.cell? ⟨b, o, none⟩) ∧ (∀ b o, b < W.heap.size → w'.frozen? ⟨b, o, none⟩ = W.frozen? ⟨b, o, none⟩) :=
  ⟨fun b o hb => h.cell b o hb, fun b o hb => World.frozen?_of_block (a := ⟨b, o, none⟩) (h.below.block b hb)⟩

theorem touched_low {w : World} {p g m cap : Nat} {e : Int} {f : Nat → Int} {n : Nat} {c : Nat → Nat} (kb : KB f n) (hn : 0 < n) (e1 : 1 ≤ e) (e2 : e ≤ 63) (x : Int) (hx : f (n - 1) < x) (x1 : x < 18446744073709551616) (k : CH w p 8 g m cap 1 e f n c) :
    Calls Try.prog 30 #[.pointer (some ⟨p, 8, none⟩), .agg #[.int .u64 x, .int .i64 ((n : Int) - e)]] w fun ex w' => (∃ xa ya : Int, ex = .returned (.agg #[.int .u64 xa, .int .i64 ya]) ∧ PL e f n x xa ya) ∧ Gw w w' := by
  have nl := kb.len
  refine (touched_any kb (.inl rfl) (by omega) e2 x ((n : Int) - e) hx x1 (by omega) (by omega) w k).mono ?_
  rintro ex w' ⟨⟨t, rfl, ht⟩, G⟩
  rw [show (n : Int) - e - e = n - 2 * e by omega] at ht
  exact ⟨⟨_, _, rfl, c t, k.ch.bd ht.lt, rfl, rfl, touch_low k.ch kb.up hx ht⟩, G⟩
theorem touched_top {w : World} {p g m cap : Nat} {e : Int} {f : Nat → Int} {n : Nat} {c : Nat → Nat} (kb : KB f n) (hn : 0 < n) (e1 : 1 ≤ e) (e2 : e ≤ 63) (x : Int) (hx : f (n - 1) < x) (x1 : x < 18446744073709551616) (k : CH w p 6 g m cap (-1) (-e) f n c) :
    Calls Try.prog 30 #[.pointer (some ⟨p, 6, none⟩), .agg #[.int .u64 x, .int .i64 ((n : Int) + e)]] w fun ex w' => (∃ xa ya : Int, ex = .returned (.agg #[.int .u64 xa, .int .i64 ya]) ∧ PT e f n x xa ya) ∧ Gw w w' := by
  have nl := kb.len
  refine (touched_any kb (.inr rfl) (by omega) (by omega) x ((n : Int) + e) hx x1 (by omega) (by omega) w k).mono ?_
  rintro ex w' ⟨⟨t, rfl, ht⟩, G⟩
  rw [show (n : Int) + e - -e = n + 2 * e by omega] at ht
  exact ⟨⟨_, _, rfl, c t, k.ch.bd ht.lt, rfl, by omega, touch_top k.ch kb.up hx ht⟩, G⟩

theorem two_new' (w : World) (t t' : TypeId) (a0 a1 b0 b1 : Value) : Two w ((w.alloc (.cells #[a0, a1] t)).alloc (.cells #[b0, b1] t')) a0 a1 b0 b1 :=
  ⟨((Gw.refl w).alloc _ _).alloc _ _, by simp [go_sem], by simp [go_sem], by simp [go_sem], by simp [go_sem], by simp [go_sem]⟩

theorem Gs.drew {S : Nat → Prop} {w w' : World} (h : Gs S w w') : Gs S w w'.drew := ⟨h.os, h.tape, h.output, h.size, h.block⟩

/-- The cells of a Fit. -/
def fcells (e : Int) (n : Nat) (lr lf mr mf : Int) (v0 v1 : Value) : Array Value := #[.int .i64 e, .int .i64 n, .int .i64 lr, .int .u64 lf, .int .i64 mr, .int .u64 mf, .int .i64 (-1), v0, .int .i64 1, v1]

/-- What is known of the slopes' numbers. -/
structure SB (lr lf mr mf : Int) : Prop where
  l0 : 0 ≤ lr
  l1 : lr ≤ 10000000
  l2 : 0 ≤ lf
  l3 : lf < 18446744073709551616
  m0 : 0 ≤ mr
  m1 : mr ≤ 10000000
  m2 : 0 ≤ mf
  m3 : mf < 18446744073709551616

/-- What narrow leaves. -/
def Narrowed (w w' : World) (p : Nat) (e : Int) (n : Nat) (f : Nat → Int) (x : Int) (v0 v1 : Value) (ok : Bool) : Prop :=
  (ok = true ↔ FitsOn e (upd f n x) (Prs (n + 1))) ∧ (ok = false → Gw w w') ∧
  (ok = true → (∃ lr lf mr mf, Blk w' p (fcells e n lr lf mr mf v0 v1) 58 ∧ LowU e (upd f n x) (Prs (n + 1)) lr lf ∧ TopU e (upd f n x) (Prs (n + 1)) mr mf ∧ SB lr lf mr mf) ∧ Gs (fun q => q = p) w w')

end Go.Proofs.Ytlocnkoeffoflaa
