import Derived.Test.YtmmkmakajolfhabPBs
import Derived.ArgAppend
/- The document's own answer for layer 4: products, lowest terms, which fraction is below. -/
namespace Go.Proofs.Ytmmkmakajolfhab
open Go.RowKit
set_option linter.unusedVariables false

theorem parts_mul (a1 a0 b1 b0 : Int) : (a1 * 4294967296 + a0) * (b1 * 4294967296 + b0) = a1 * b1 * 18446744073709551616 + (a1 * b0 + a0 * b1) * 4294967296 + a0 * b0 := by
  rw [Int.add_mul, Int.mul_add, Int.mul_add, mul4 a1 4294967296 b1 4294967296, Int.mul_right_comm a1 4294967296 b0, ← Int.mul_assoc a0 b1 4294967296, Int.add_mul]
  omega
theorem mul_lt32 {x y : Int} (hx : 0 ≤ x) (hx' : x < 4294967296) (hy : 0 ≤ y) (hy' : y < 4294967296) : 0 ≤ x * y ∧ x * y ≤ 18446744065119617025 := by
  refine ⟨Int.mul_nonneg hx hy, ?_⟩
  have h1 : x * y ≤ 4294967295 * y := Int.mul_le_mul_of_nonneg_right (by omega) hy
  omega

theorem td32 {x : Int} (h : 0 ≤ x) : x.tdiv 4294967296 = x / 4294967296 := Int.tdiv_eq_ediv_of_nonneg h
theorem tm32 {x : Int} (h : 0 ≤ x) : x.tmod 4294967296 = x % 4294967296 := Int.tmod_eq_emod_of_nonneg h
theorem wu {x : Int} (h : 0 ≤ x) (h' : x < 18446744073709551616) : IntKind.u64.wrap x = x := by rw [IntKind.wrap_u64]; omega




/-- A fraction in lowest terms, and what it came of. -/
structure LowF (num den c d g : Int) : Prop where
  g0 : 0 < g
  ec : c * g = num
  ed : d * g = den
  low : Int.gcd c d = 1
  c0 : 0 ≤ c
  d1 : 1 ≤ d
  cb : c ≤ num
  db : d ≤ den

theorem lowf (num den : Nat) (h0 : 0 < den) : LowF num den ((num / num.gcd den : Nat) : Int) ((den / num.gcd den : Nat) : Int) (num.gcd den : Nat) := by
  have hg : 0 < num.gcd den := Nat.gcd_pos_of_pos_right _ h0
  have e1 : num / num.gcd den * num.gcd den = num := Nat.div_mul_cancel (Nat.gcd_dvd_left _ _)
  have e2 : den / num.gcd den * num.gcd den = den := Nat.div_mul_cancel (Nat.gcd_dvd_right _ _)
  refine ⟨by omega, by rw [← Int.natCast_mul, e1], by rw [← Int.natCast_mul, e2], ?_, Int.natCast_nonneg _, ?_, by have := Nat.div_le_self num (num.gcd den); omega, by have := Nat.div_le_self den (num.gcd den); omega⟩
  · have := Nat.coprime_div_gcd_div_gcd (m := num) (n := den) hg
    exact this
  · have : 0 < den / num.gcd den := Nat.div_pos (Nat.le_of_dvd h0 (Nat.gcd_dvd_right _ _)) hg
    omega



end Go.Proofs.Ytmmkmakajolfhab

/- The document's own Fit in memory: New, Count, Least, Most. -/
namespace Go.Proofs.Ytmmkmakajolfhab
open Go.RowKit
set_option linter.unusedVariables false

/-- A variable of two cells that may be written. -/
def Bx (w : World) (b : Nat) (t : TypeId) (u v : Value) : Prop := w.heap[b]? = some (.cells #[u, v] t (0, 0))
theorem Bx.lt {w : World} {b : Nat} {t : TypeId} {u v : Value} (h : Bx w b t u v) : b < w.heap.size := (Array.getElem?_eq_some_iff.1 h).1
theorem Bx.c0 {w : World} {b : Nat} {t : TypeId} {u v : Value} (h : Bx w b t u v) : w.cell? ⟨b, 0, none⟩ = some u := by unfold Bx at h; simp [World.cell?, h]
theorem Bx.c1 {w : World} {b : Nat} {t : TypeId} {u v : Value} (h : Bx w b t u v) : w.cell? ⟨b, 1, none⟩ = some v := by unfold Bx at h; simp [World.cell?, h]
theorem Bx.fz {w : World} {b : Nat} {t : TypeId} {u v : Value} (h : Bx w b t u v) (o : Nat) : w.frozen? ⟨b, o, none⟩ = false := by unfold Bx at h; simp [World.frozen?, h]
theorem Bx.gw {w w' : World} {b : Nat} {t : TypeId} {u v : Value} (h : Bx w b t u v) (g : Gw w w') : Bx w' b t u v := (g.below.block b h.lt).trans h
theorem Bx.new (w : World) (t : TypeId) (u v : Value) : Bx (w.alloc (.cells #[u, v] t)) w.heap.size t u v := heap_alloc_new w _
theorem Bx.set {w : World} {b : Nat} {t : TypeId} {u v : Value} (h : Bx w b t u v) (u' v' : Value) : Bx ((w.setCell ⟨b, 0, none⟩ u').setCell ⟨b, 1, none⟩ v') b t u' v' := by
  unfold Bx at h ⊢
  simp [World.setCell, Array.getElem?_modify, h]
theorem Bx.far {w : World} {b : Nat} {t : TypeId} {u v : Value} (h : Bx w b t u v) {q o : Nat} (x : Value) (hq : b ≠ q) : Bx (w.setCell ⟨q, o, none⟩ x) b t u v := (Go.Deep.blk_setCell_other _ _ _ _ hq).trans h
theorem Bx.alloc {w : World} {b : Nat} {t : TypeId} {u v : Value} (h : Bx w b t u v) (o : Obj) : Bx (w.alloc o) b t u v := (heap_alloc_old w o h.lt).trans h
theorem Bx.at {w : World} {b b' : Nat} {t : TypeId} {u v : Value} (h : Bx w b t u v) (e : b = b') : Bx w b' t u v := e ▸ h




end Go.Proofs.Ytmmkmakajolfhab

/- The document's Add. -/
namespace Go.Proofs.Ytmmkmakajolfhab
open Go.RowKit
set_option linter.unusedVariables false

/-- All but some blocks are as they were. -/
structure Gs (S : Nat → Prop) (w w' : World) : Prop where
  os : w'.os = w.os
  tape : w'.tape = w.tape
  output : w'.output = w.output
  size : w.heap.size ≤ w'.heap.size
  block : ∀ q, q < w.heap.size → ¬ S q → w'.heap[q]? = w.heap[q]?

theorem Gw.gs {w w' : World} (h : Gw w w') (S : Nat → Prop) : Gs S w w' := ⟨h.below.os, h.below.tape, h.below.output, h.below.size, fun q hq _ => h.below.block q hq⟩

theorem Gs.set {S : Nat → Prop} {w w' : World} (h : Gs S w w') {q : Nat} (hq : S q) (o : Nat) (v : Value) : Gs S w (w'.setCell ⟨q, o, none⟩ v) :=
  ⟨h.os, h.tape, h.output, by simpa [World.setCell] using h.size, fun k hk hs => (Go.Deep.blk_setCell_other _ _ _ _ (fun e => hs (by rw [e]; exact hq))).trans (h.block k hk hs)⟩
theorem Gs.grown {S : Nat → Prop} {w w' w'' : World} {row : Option Nat} (h : Gs S w w') (g : w'.grownBy w'' row) (hr : ∀ k, row = some k → S k) : Gs S w w'' :=
  ⟨g.os.trans h.os, g.tape.trans h.tape, g.output.trans h.output, Nat.le_trans h.size g.size, fun k hk hs => (g.block k (Nat.lt_of_lt_of_le hk h.size) (fun e => hs (hr k e.symm))).trans (h.block k hk hs)⟩

theorem own_base {w : World} {base e size n : Nat} {v : Value} {xs : List Value} (h : w.ownsRow base e size v n xs) : w.ownsRow 0 e size v n xs := by
  refine ⟨h.1, ?_⟩
  rcases h.2 with q | ⟨g, cap, cur, rfl, _, r⟩
  · exact .inl q
  · exact .inr ⟨g, cap, cur, rfl, Nat.zero_le _, r⟩
theorem own_pos {w : World} {base e size n : Nat} {v : Value} {xs : List Value} (h : w.ownsRow base e size v (n + 1) xs) : ∃ g cap, v = .slice (some ⟨g, 0, none⟩) (n + 1) cap ∧ base ≤ g ∧ g < w.heap.size := by
  rcases h.2 with ⟨_, q⟩ | ⟨g, cap, cur, rfl, hg, hh, _⟩
  · omega
  · exact ⟨g, cap, rfl, hg, (Array.getElem?_eq_some_iff.1 hh).1⟩



end Go.Proofs.Ytmmkmakajolfhab

/- The document's Add, every key. -/
namespace Go.Proofs.Ytmmkmakajolfhab
open Go.RowKit
set_option linter.unusedVariables false




end Go.Proofs.Ytmmkmakajolfhab

/- What the statements of layer 4 ask of package hull, as one structure; and their examples. -/
namespace Go.Proofs.Ytmmkmakajolfhab
open Go.RowKit
set_option linter.unusedVariables false

theorem Gs.gw {S : Nat → Prop} {W w w' : World} (h : Gw W w) (g : Gs S w w') (hS : ∀ q, S q → W.heap.size ≤ q) : Gw W w' :=
  ⟨⟨g.os.trans h.below.os, g.tape.trans h.below.tape, g.output.trans h.below.output, Nat.le_trans h.below.size g.size, fun q hq => (g.block q (Nat.lt_of_lt_of_le hq h.below.size) (fun s => by have := hS q s; omega)).trans (h.below.block q hq)⟩⟩

/-- Package hull: 'HF w p S e n f': at block p lies a Fit of eps e + 1, of the n keys f, made of the blocks S. -/
structure HullC (HF : World → Nat → (Nat → Prop) → Int → Nat → (Nat → Int) → Prop) : Prop where
  keep : ∀ {w w' : World} {p : Nat} {S : Nat → Prop} {e : Int} {n : Nat} {f : Nat → Int}, HF w p S e n f → (∀ q, S q → w'.heap[q]? = w.heap[q]?) → HF w' p S e n f
  lt : ∀ {w : World} {p : Nat} {S : Nat → Prop} {e : Int} {n : Nat} {f : Nat → Int}, HF w p S e n f → ∀ q, S q → q < w.heap.size
  ext : ∀ {w : World} {p : Nat} {S : Nat → Prop} {e : Int} {n : Nat} {f g : Nat → Int}, HF w p S e n f → (∀ i, i < n → f i = g i) → HF w p S e n g
  facts : ∀ {w : World} {p : Nat} {S : Nat → Prop} {e : Int} {n : Nat} {f : Nat → Int}, HF w p S e n f → Up f n ∧ (∀ i, i < n → 0 ≤ f i ∧ f i < 18446744073709551616) ∧ FitsOn e f (Prs n) ∧ 1 ≤ e ∧ e ≤ 63
  bad : ∀ (eps : Int), ¬ (2 ≤ eps ∧ eps ≤ 64) → ∀ w : World, Calls Try.prog 46 #[.int .i64 eps] w fun ex w' => ex = .returned (.tuple #[.pointer none, .int .i64 1]) ∧ Gw w w'
  new : ∀ (eps : Int), 2 ≤ eps → eps ≤ 64 → ∀ w : World, Calls Try.prog 46 #[.int .i64 eps] w fun ex w' => (∃ p S, ex = .returned (.tuple #[.pointer (some ⟨p, 0, none⟩), .int .i64 0]) ∧ (∀ q, S q → w.heap.size ≤ q) ∧ HF w' p S (eps - 1) 0 (fun _ => 0)) ∧ Gw w w'
  add : ∀ {w : World} {p : Nat} {S : Nat → Prop} {e : Int} {n : Nat} {f : Nat → Int}, HF w p S e n f → ∀ x : Int, 0 ≤ x → x < 18446744073709551616 → n ≤ 3000000 →
    Calls Try.prog 61 #[.pointer (some ⟨p, 0, none⟩), .int .u64 x] w fun ex w' =>
      (∃ (ok : Bool) (err : Int) (S' : Nat → Prop), ex = .returned (.tuple #[.bool ok, .int .i64 err]) ∧ AddR e n f x ok err ∧ HF w' p S' e (if ok then n + 1 else n) (if ok then upd f n x else f) ∧ ∀ q, S' q → S q ∨ w.heap.size ≤ q) ∧ Gs S w w'
  least : ∀ {w : World} {p : Nat} {S : Nat → Prop} {e : Int} {n : Nat} {f : Nat → Int}, HF w p S e n f → n ≤ 3000001 → Calls Try.prog 64 #[.pointer (some ⟨p, 0, none⟩)] w fun ex w' => (∃ a b, ex = .returned (.agg #[.int .u64 a, .int .u64 b]) ∧ LowOn e f (Prs n) a b ∧ a < 18446744073709551616 ∧ b < 18446744073709551616) ∧ Gw w w'

theorem HullC.gw {HF : World → Nat → (Nat → Prop) → Int → Nat → (Nat → Int) → Prop} (H : HullC HF) {w w' : World} {p : Nat} {S : Nat → Prop} {e : Int} {n : Nat} {f : Nat → Int} (h : HF w p S e n f) (g : Gw w w') : HF w' p S e n f :=
  H.keep h fun q hq => g.below.block q (H.lt h q hq)

/-- The examples' keys. -/
def lin (j : Nat) : Int := 10 * ((j : Int) + 1)
theorem lin_diff (i j : Nat) : lin j - lin i = 10 * ((j : Int) - i) := by unfold lin; omega
theorem lin_up (n : Nat) : Up lin n := fun j _ => by unfold lin; omega
theorem lin_near (n : Nat) : NearR 1 lin n 1 10 := by
  intro i j hi hj
  have := lin_diff j i
  omega
theorem lin_fits (n : Nat) : FitsOn 1 lin (Prs n) := near_fits (lin_up n) (by decide) (lin_near n)
theorem lin_ext (n : Nat) (x : Int) (hx : x = 10 * ((n : Int) + 1)) : ∀ i, upd lin n x i = lin i := by
  intro i
  by_cases h : i = n
  · subst h; rw [upd_at, hx]; rfl
  · exact if_neg h
theorem lin_low : LowOn 1 lin (Prs 5) 1 20 := by
  refine ⟨by decide, by decide, by decide, fun i j s => ?_, .inr ⟨0, 4, ⟨by decide, by decide⟩, by decide, by decide⟩⟩
  have := lin_diff i j
  have := s.1; have := s.2
  omega
theorem lin_top : TopOn 1 lin (Prs 5) 3 20 := by
  refine .inr ⟨by decide, by decide, by decide, fun i j s => ?_, 0, 4, ⟨by decide, by decide⟩, by decide⟩
  have := lin_diff i j
  have := s.1; have := s.2
  omega
theorem lin_six : FitsOn 1 (upd lin 5 51) (Prs 6) := by
  refine near_fits (a := 1) (b := 10) (up_upd (lin_up 5) (fun _ => by decide)) (by decide) (near_mk (by decide) (by decide) (fun i j s => ?_) (fun i j s => ?_))
  all_goals
    have := s.1; have := s.2
    have e1 : upd lin 5 51 i = lin i := upd_lo (by omega)
    by_cases h : j = 5
    · subst h
      rw [upd_at, e1]
      unfold lin
      omega
    · rw [upd_lo (by omega), e1]
      have := lin_diff i j
      omega
theorem lin_far : ¬ FitsOn 1 (upd (upd lin 5 51) 6 9223372036854775808) (Prs 7) := by
  intro h
  have := h 0 5 5 6 ⟨by decide, by decide⟩ ⟨by decide, by decide⟩
  exact absurd this (by decide +kernel)


end Go.Proofs.Ytmmkmakajolfhab
