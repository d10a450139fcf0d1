/- Rows of ints of a call's own, and a Fit of the document's beside them. -/
import Derived.Test.YtdikiaeagcokdaaGreatEPlain
import Derived.Test.YtdikiaeagcokdaaGreatR4All
namespace Go.Proofs.YtdikiaeagcokdaaGreat
open Go.RowKit
set_option linter.unusedVariables false

theorem info_i : (Tryz.prog.info? 3).map (fun i => (i.zero, i.size, i.bytes)) = some (some (.int .i64 0), 1, 8) := by kernel_rfl

/-- A row of the numbers of a list, of the call's own from block 'base' on. -/
def IR (w : World) (base : Nat) (v : Value) (l : List Nat) : Prop := w.ownsRow base 3 1 v l.length (l.map fun (j : Nat) => Value.int .i64 (j : Int))

theorem ir_keep {w w' : World} {base : Nat} {v : Value} {l : List Nat} (h : IR w base v l) (k : ∀ q, v.ownBlock = some q → w'.heap[q]? = w.heap[q]?) : IR w' base v l := by
  refine ⟨h.1, ?_⟩
  rcases h.2 with q | ⟨g, cap, cur, rfl, hb, hh, r⟩
  · exact .inl q
  · exact .inr ⟨g, cap, cur, rfl, hb, (k g rfl).trans hh, r⟩
theorem ir_lt {w : World} {base : Nat} {v : Value} {l : List Nat} (h : IR w base v l) : ∀ q, v.ownBlock = some q → base ≤ q ∧ q < w.heap.size := fun q hq => World.ownsRow.lt h q hq
theorem ir_gw {w w' : World} {base : Nat} {v : Value} {l : List Nat} (h : IR w base v l) (g : Gw w w') : IR w' base v l := ir_keep h fun q hq => g.below.block q (ir_lt h q hq).2
theorem ir_base {w : World} {base base' : Nat} {v : Value} {l : List Nat} (h : IR w base v l) (hb : base' ≤ base) : IR w base' v l := by
  refine ⟨h.1, ?_⟩
  rcases h.2 with q | ⟨g, cap, cur, rfl, hg, r⟩
  · exact .inl q
  · exact .inr ⟨g, cap, cur, rfl, Nat.le_trans hb hg, r⟩
theorem ir_nil (w : World) (base : Nat) : IR w base (.slice none 0 0) [] := World.ownsRow_nil _ _ _ _
theorem ir_new (w : World) (base : Nat) (hb : base ≤ w.heap.size) : IR (w.alloc (.cells #[] 3)) base (.slice (some ⟨w.heap.size, 0, none⟩) 0 0) [] := World.ownsRow_made w #[] 0 hb (Nat.zero_le _) rfl
/-- Its value, and its cells. -/
theorem ir_slice {w : World} {base : Nat} {v : Value} {l : List Nat} (h : IR w base v l) : ∃ ao cap, v = .slice ao l.length cap ∧ (ao = none → l = [] ∧ cap = 0) ∧ (∀ ad, ao = some ad → ∃ g, ad = ⟨g, 0, none⟩ ∧ base ≤ g ∧ g < w.heap.size ∧ ∀ i, i < l.length → w.cell? ⟨g, i, none⟩ = some (.int .i64 ((l.getD i 0 : Nat) : Int))) := by
  rcases h.2 with ⟨rfl, q⟩ | ⟨g, cap, cur, rfl, hb, hh, r⟩
  · have : l = [] := List.eq_nil_of_length_eq_zero q
    subst this
    exact ⟨none, 0, rfl, fun _ => ⟨rfl, rfl⟩, fun ad e => by cases e⟩
  · refine ⟨some ⟨g, 0, none⟩, cap, rfl, (fun e => by cases e), fun ad e => ⟨g, by cases e; rfl, hb, (Array.getElem?_eq_some_iff.1 hh).1, fun i hi => ?_⟩⟩
    have := World.ownsRow.cellAt h i (by omega)
    rw [this]
    simp [hi, List.getD]
theorem new_i (w : World) (x : Int) : ∀ j u, [Value.int .i64 x][j]? = some u → (w.alloc (.cells #[.int .i64 x] 3)).cell? ((⟨w.heap.size, 0, none⟩ : Addr).add j) = some u := by
  intro j u hu
  cases j with
  | zero =>
    simp only [List.getElem?_cons_zero, Option.some.injEq] at hu
    subst hu
    simp [Addr.add, go_sem]
  | succ j => simp at hu

/-- The first m keys. -/
def cut0 (f : Nat → Int) (m j : Nat) : Int := if j < m then f j else 0
theorem cut0_lo {f : Nat → Int} {m j : Nat} (h : j < m) : cut0 f m j = f j := if_pos h
theorem cut0_next (f : Nat → Int) (m : Nat) : upd (cut0 f m) m (f m) = cut0 f (m + 1) := by
  funext j
  by_cases e : j = m
  · subst e; rw [upd_at, cut0_lo (by omega)]
  · by_cases e' : j < m
    · rw [upd_lo e', cut0_lo e', cut0_lo (by omega)]
    · unfold upd
      rw [if_neg e]
      unfold cut0
      rw [if_neg e', if_neg (by omega)]
theorem cut0_none (f : Nat → Int) : cut0 f 0 = fun _ => 0 := by funext j; exact if_neg (by omega)

theorem rfit_lt {w : World} {p : Nat} {S : Nat → Prop} {e : Int} {n : Nat} {f : Nat → Int} (h : RFit w p S e n f) : ∀ q, S q → q < w.heap.size := by
  obtain ⟨v, a, b, c, d, hR, hS⟩ := h
  exact fun q hq => hR.in q ((hS q).1 hq)
theorem rfit_keep {w w' : World} {p : Nat} {S : Nat → Prop} {e : Int} {n : Nat} {f : Nat → Int} (h : RFit w p S e n f) (k : ∀ q, S q → w'.heap[q]? = w.heap[q]?) : RFit w' p S e n f := by
  obtain ⟨v, a, b, c, d, hR, hS⟩ := h
  exact ⟨v, a, b, c, d, hR.keep fun q hq => k q ((hS q).2 hq), hS⟩
theorem gs_gw {S : Nat → Prop} {W w w' : World} (h : Gw W w) (g : Gs S w w') (hS : ∀ q, S q → W.heap.size ≤ q) : Gw W w' :=
  ⟨⟨g.os.trans h.below.os, g.tape.trans h.below.tape, g.output.trans h.below.output, Nat.le_trans h.below.size g.size, fun q hq => (g.block q (Nat.lt_of_lt_of_le hq h.below.size) (fun s => by have := hS q s; omega)).trans (h.below.block q hq)⟩⟩

/-- A fit over the keys from place s up to place i. -/
structure FitAt (w0 w : World) (p : Nat) (S : Nat → Prop) (e : Int) (f : Nat → Int) (s i : Nat) : Prop where
  fit : RFit w p S e (i - s) (cut0 (sh f s) (i - s))
  new : ∀ q, S q → w0.heap.size ≤ q
  on : FitsOn e (sh f s) (Prs (i - s))

/-- A key more. -/
theorem fitat_add {w0 w : World} {p : Nat} {S : Nat → Prop} {e : Int} {f : Nat → Int} {s i n : Nat} (h : FitAt w0 w p S e f s i) (g0 : Gw w0 w) (hs : s ≤ i) (hi : i < n) (u : Up f n) (x : Int) (hx : f i = x) (x0 : 0 ≤ x) (x1 : x < 18446744073709551616) (hn : n ≤ 4000000) :
    Calls Tryz.prog 82 #[.pointer (some ⟨p, 0, none⟩), .int .u64 x] w fun ex w' =>
      ∃ (ok : Bool) (err : Int) (S' : Nat → Prop), ex = .returned (.tuple #[.bool ok, .int .i64 err]) ∧ (ok = true ↔ FitsOn e (sh f s) (Prs (i + 1 - s))) ∧ (ok = true → FitAt w0 w' p S' e f s (i + 1)) ∧ (∀ q, S' q → S q ∨ w.heap.size ≤ q) ∧ Gs S w w' ∧ Gw w0 w' := by
  refine (radd4_any h.fit x x0 x1 (by omega)).mono ?_
  rintro ex w' ⟨⟨ok, err, S', rfl, hA, hF, hS'⟩, g⟩
  have ei : i + 1 - s = i - s + 1 := by omega
  have hxs : sh f s (i - s) = x := by show f (s + (i - s)) = x; rw [show s + (i - s) = i by omega]; exact hx
  have UF : ∀ j, j < i - s + 1 → upd (cut0 (sh f s) (i - s)) (i - s) x j = sh f s j := fun j hj => by
    rw [← hxs, cut0_next, cut0_lo hj]
  have HC : ok = true ↔ FitsOn e (sh f s) (Prs (i + 1 - s)) := by
    rw [ei]
    rcases hA with ⟨q1, q2, _⟩ | ⟨_, _, q3⟩
    · exfalso
      rw [cut0_lo (by omega)] at q2
      have q4 : f (s + (i - s - 1)) < f i := u.lt (by omega) hi
      have q5 : sh f s (i - s - 1) = f (s + (i - s - 1)) := rfl
      omega
    · refine q3.trans ⟨fun q => q.congr (fun _ _ s => s) (fun a b s => ?_), fun q => q.congr (fun _ _ s => s) (fun a b s => ?_)⟩
      all_goals rw [UF b (by have := s.2; omega), UF a (by have := s.1; have := s.2; omega)]
  refine ⟨ok, err, S', rfl, HC, fun q => ?_, hS', g, gs_gw g0 g h.new⟩
  have on := HC.1 q
  subst q
  refine ⟨?_, fun q hq => ?_, on⟩
  · rw [if_pos rfl, if_pos rfl, ← hxs, cut0_next] at hF
    rw [ei]; exact hF
  · rcases hS' q hq with r | r
    · exact h.new q r
    · have := g0.size; omega
theorem fitat_new (w0 w : World) (eps : Int) (e1 : 2 ≤ eps) (e2 : eps ≤ 64) (f : Nat → Int) (s : Nat) (g0 : Gw w0 w) :
    Calls Tryz.prog 81 #[.int .i64 eps] w fun ex w' => (∃ p S, ex = .returned (.tuple #[.pointer (some ⟨p, 0, none⟩), .int .i64 0]) ∧ FitAt w0 w' p S (eps - 1) f s s ∧ (∀ q, S q → w.heap.size ≤ q)) ∧ Gw w w' := by
  refine (rnew_ok eps e1 e2 w).mono ?_
  rintro ex w' ⟨⟨p, rfl, hp, hF⟩, g⟩
  have hS : ∀ q, rfp p (.slice none 0 0) q → w.heap.size ≤ q := fun q hq => by
    rcases hq with rfl | hq
    · exact hp
    · simp [Value.ownBlock] at hq
  refine ⟨⟨p, rfp p (.slice none 0 0), rfl, ⟨?_, fun q hq => ?_, ?_⟩, hS⟩, g⟩
  · rw [Nat.sub_self, cut0_none]
    exact ⟨_, _, _, _, _, hF, fun q => Iff.rfl⟩
  · have := hS q hq; have := g0.size; omega
  · rw [Nat.sub_self]
    intro a b a' b' q
    have := q.1; have := q.2; omega

end Go.Proofs.YtdikiaeagcokdaaGreat
