/- The document's Add, every key. -/
import Derived.Test.YtdikiaeagcokdaaGreatR4Add
namespace Go.Proofs.YtdikiaeagcokdaaGreat
open Go.RowKit
set_option linter.unusedVariables false

set_option maxHeartbeats 1000000 in
theorem radd4_back {w : World} {p : Nat} {v : Value} {e : Int} {n : Nat} {f : Nat → Int} {a b c d : Int} (h : RF w p v e n f a b c d) (x : Int) (x0 : 0 ≤ x) (x1 : x < 18446744073709551616) (hn : n ≤ 4000000) (hp : 0 < n) (hx : x ≤ f (n - 1)) :
    Calls Tryz.prog 82 #[.pointer (some ⟨p, 0, none⟩), .int .u64 x] w fun ex w' => ex = .returned (.tuple #[.bool false, .int .i64 40]) ∧ Gw w w' := by
  obtain ⟨c0, c1, _⟩ := h.cells
  have hl := h.lt
  obtain ⟨ao, cap, ev, ks⟩ := h.ks
  rw [ev] at c1
  obtain ⟨bk, off, eo, hb, hc⟩ := ks.cells hp
  subst eo
  obtain ⟨pr, hpr⟩ : ∃ pr : Nat, (n : Int) - 1 = pr := ⟨n - 1, by omega⟩
  have hpn : pr < n := by omega
  have hw := wrap_nat pr (by omega)
  have k1 := hc pr hpn
  rw [show n - 1 = pr by omega] at hx
  clear h ks hc ev
  generalize f pr = fp at k1 hx
  go_enter Tryz.func82, Tryz.ntmps82
  go_wp2_with fail
  go_ret2
  exact ⟨rfl, Gw.refl w⟩

/-- The document's Fit, its slopes left out. -/
def RFit (w : World) (p : Nat) (S : Nat → Prop) (e : Int) (n : Nat) (f : Nat → Int) : Prop := ∃ v a b c d, RF w p v e n f a b c d ∧ ∀ q, S q ↔ rfp p v q

theorem radd4_any {w : World} {p : Nat} {S : Nat → Prop} {e : Int} {n : Nat} {f : Nat → Int} (h : RFit w p S e n f) (x : Int) (x0 : 0 ≤ x) (x1 : x < 18446744073709551616) (hn : n ≤ 4000000) :
    Calls Tryz.prog 82 #[.pointer (some ⟨p, 0, none⟩), .int .u64 x] w fun ex w' =>
      (∃ (ok : Bool) (err : Int) (S' : Nat → Prop), ex = .returned (.tuple #[.bool ok, .int .i64 err]) ∧ AddR e n f x ok err ∧ RFit w' p S' e (if ok then n + 1 else n) (if ok then upd f n x else f) ∧ ∀ q, S' q → S q ∨ w.heap.size ≤ q) ∧ Gs S w w' := by
  obtain ⟨v, a, b, c, d, h, hS⟩ := h
  by_cases hx : 0 < n ∧ x ≤ f (n - 1)
  · refine (radd4_back h x x0 x1 hn hx.1 hx.2).mono ?_
    rintro ex w' ⟨rfl, g⟩
    exact ⟨⟨false, 40, S, rfl, .inl ⟨hx.1, hx.2, rfl, rfl⟩, ⟨v, a, b, c, d, h.gw g, hS⟩, fun q hq => .inl hq⟩, g.gs S⟩
  · refine (radd4_more h x x0 x1 hn (fun h0 => by
      rcases Int.lt_or_le (f (n - 1)) x with q | q
      · exact q
      · exact absurd ⟨h0, q⟩ hx)).mono ?_
    rintro ex w' ⟨⟨ok, rfl, h1, h2, h3⟩, g⟩
    have g' : Gs S w w' := ⟨g.os, g.tape, g.output, g.size, fun q hq hs => g.block q hq (fun r => hs ((hS q).2 r))⟩
    cases ok with
    | true =>
      obtain ⟨v', a', b', c', d', hr, hf⟩ := h3 rfl
      exact ⟨⟨true, 0, rfp p v', rfl, .inr ⟨hx, rfl, h1⟩, ⟨v', a', b', c', d', hr, fun q => Iff.rfl⟩, fun q hq => by
        rcases hf q hq with r | r
        · exact .inl ((hS q).2 r)
        · exact .inr r⟩, g'⟩
    | false => exact ⟨⟨false, 0, S, rfl, .inr ⟨hx, rfl, h1⟩, ⟨v, a, b, c, d, h.gw (h2 rfl), hS⟩, fun q hq => .inl hq⟩, g'⟩

end Go.Proofs.YtdikiaeagcokdaaGreat
