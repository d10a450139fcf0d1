/- A Fit in memory: New, Count, Least, Most; what Add leaves. -/
import Derived.Test.YtocahgiabeifeaaCNarrow0
import Derived.Test.YtocahgiabeifeaaHC
namespace Go.Proofs.Ytocahgiabeifeaa
open Go.RowKit
set_option linter.unusedVariables false

theorem Chn.congr {X X' g : Nat → Int} {n m : Nat} {c : Nat → Nat} (h : Chn X g n m c) (e : ∀ i, i < n → X i = X' i) : Chn X' g n m c := by
  refine ⟨h.pos, h.first, h.last, h.up, fun i j hi hj => ?_⟩
  have := h.abv i j hi hj
  rw [e j hj, e (c i) (h.bd (by omega)), e (c (i + 1)) (h.bd hi)] at this
  exact this

/-- A Fit: its block, its two chains, its slopes. -/
structure FT (w : World) (p : Nat) (v0 v1 : Value) (e : Int) (n : Nat) (f : Nat → Int) (lr lf mr mf : Int) (m0 m1 : Nat) (c0 c1 : Nat → Nat) : Prop where
  blk : Blk w p (fcells e n lr lf mr mf v0 v1) 63
  own0 : w.ownsRow 0 65 2 v0 m0 (pcells f c0 (-e) m0)
  own1 : w.ownsRow 0 65 2 v1 m1 (pcells f c1 e m1)
  ne0 : ∀ q, v0.ownBlock = some q → q ≠ p
  ne1 : ∀ q, v1.ownBlock = some q → q ≠ p
  ne : ∀ q, v0.ownBlock = some q → v1.ownBlock = some q → False
  z : n = 0 → v0 = .slice none 0 0 ∧ v1 = .slice none 0 0
  ch0 : 0 < n → Chn f (fun j => -1 * (j : Int)) n m0 c0
  ch1 : 0 < n → Chn f (fun j => 1 * (j : Int)) n m1 c1
  up : Up f n
  bd : ∀ i, i < n → 0 ≤ f i ∧ f i < 18446744073709551616
  low : LowU e f (Prs n) lr lf
  top : TopU e f (Prs n) mr mf
  fit : FitsOn e f (Prs n)
  e1 : 1 ≤ e ∧ e ≤ 63
  sb : SB lr lf mr mf

def FitS (p : Nat) (v0 v1 : Value) (q : Nat) : Prop := q = p ∨ v0.ownBlock = some q ∨ v1.ownBlock = some q

def HFit (w : World) (p : Nat) (S : Nat → Prop) (e : Int) (n : Nat) (f : Nat → Int) : Prop :=
  ∃ v0 v1 lr lf mr mf m0 m1 c0 c1, FT w p v0 v1 e n f lr lf mr mf m0 m1 c0 c1 ∧ ∀ q, S q ↔ FitS p v0 v1 q

theorem own_zero {w : World} {base e size n : Nat} {xs : List Value} (h : w.ownsRow base e size (.slice none 0 0) n xs) : n = 0 := by
  rcases h.2 with ⟨_, q⟩ | ⟨g, cap, cur, ev, _⟩
  · exact q
  · cases ev

theorem HFit.keep {w w' : World} {p : Nat} {S : Nat → Prop} {e : Int} {n : Nat} {f : Nat → Int} (h : HFit w p S e n f) (k : ∀ q, S q → w'.heap[q]? = w.heap[q]?) : HFit w' p S e n f := by
  obtain ⟨v0, v1, lr, lf, mr, mf, m0, m1, c0, c1, F, hS⟩ := h
  exact ⟨v0, v1, lr, lf, mr, mf, m0, m1, c0, c1, { F with blk := (k p ((hS p).2 (.inl rfl))).trans F.blk, own0 := own_keep F.own0 fun q hq => k q ((hS q).2 (.inr (.inl hq))), own1 := own_keep F.own1 fun q hq => k q ((hS q).2 (.inr (.inr hq))) }, hS⟩
theorem HFit.lt {w : World} {p : Nat} {S : Nat → Prop} {e : Int} {n : Nat} {f : Nat → Int} (h : HFit w p S e n f) : ∀ q, S q → q < w.heap.size := by
  obtain ⟨v0, v1, lr, lf, mr, mf, m0, m1, c0, c1, F, hS⟩ := h
  intro q hq
  rcases (hS q).1 hq with rfl | r | r
  · exact F.blk.lt
  · exact (F.own0.lt q r).2
  · exact (F.own1.lt q r).2
theorem HFit.ext {w : World} {p : Nat} {S : Nat → Prop} {e : Int} {n : Nat} {f g : Nat → Int} (h : HFit w p S e n f) (k : ∀ i, i < n → f i = g i) : HFit w p S e n g := by
  obtain ⟨v0, v1, lr, lf, mr, mf, m0, m1, c0, c1, F, hS⟩ := h
  have p0 : pcells f c0 (-e) m0 = pcells g c0 (-e) m0 := by
    by_cases hn : n = 0
    · have := F.own0
      rw [(F.z hn).1] at this
      have := own_zero this
      subst this
      rfl
    · exact pcells_congr _ fun i hi => ⟨k _ ((F.ch0 (by omega)).bd hi), rfl⟩
  have p1 : pcells f c1 e m1 = pcells g c1 e m1 := by
    by_cases hn : n = 0
    · have := F.own1
      rw [(F.z hn).2] at this
      have := own_zero this
      subst this
      rfl
    · exact pcells_congr _ fun i hi => ⟨k _ ((F.ch1 (by omega)).bd hi), rfl⟩
  have dif : ∀ i j, Prs n i j → f j - f i = g j - g i := fun i j s => by rw [k j s.2, k i (by have := s.1; have := s.2; omega)]
  exact ⟨v0, v1, lr, lf, mr, mf, m0, m1, c0, c1, ⟨F.blk, by rw [← p0]; exact F.own0, by rw [← p1]; exact F.own1, F.ne0, F.ne1, F.ne, F.z, fun hn => (F.ch0 hn).congr k, fun hn => (F.ch1 hn).congr k,
    fun j hj => by rw [← k j (by omega), ← k (j + 1) hj]; exact F.up j hj, fun i hi => by rw [← k i hi]; exact F.bd i hi, F.low.congr (fun _ _ => Iff.rfl) dif, F.top.congr (fun _ _ => Iff.rfl) dif, F.fit.congr (fun _ _ s => s) dif, F.e1, F.sb⟩, hS⟩
theorem HFit.facts {w : World} {p : Nat} {S : Nat → Prop} {e : Int} {n : Nat} {f : Nat → Int} (h : HFit w p S e n f) : Up f n ∧ (∀ i, i < n → 0 ≤ f i ∧ f i < 18446744073709551616) ∧ FitsOn e f (Prs n) ∧ 1 ≤ e ∧ e ≤ 63 := by
  obtain ⟨v0, v1, lr, lf, mr, mf, m0, m1, c0, c1, F, hS⟩ := h
  exact ⟨F.up, F.bd, F.fit, F.e1.1, F.e1.2⟩

set_option maxHeartbeats 1000000 in
theorem hnew_bad (eps : Int) (h : ¬ (2 ≤ eps ∧ eps ≤ 64)) (w : World) : Calls Try.prog 18 #[.int .i64 eps] w fun ex w' => ex = .returned (.tuple #[.pointer none, .int .i64 1]) ∧ Gw w w' := by
  have alt : eps < 2 ∨ (¬ eps < 2 ∧ 64 < eps) := by omega
  clear h
  rcases alt with q | ⟨q, q'⟩
  · go_enter Try.func18, Try.ntmps18
    go_wp2_with fail
    go_ret2
    exact ⟨rfl, Gw.refl w⟩
  · go_enter Try.func18, Try.ntmps18
    go_wp2_with fail
    go_ret2
    exact ⟨rfl, Gw.refl w⟩

set_option maxHeartbeats 1000000 in
theorem hnew_ok (eps : Int) (h1 : 2 ≤ eps) (h2 : eps ≤ 64) (w : World) : Calls Try.prog 18 #[.int .i64 eps] w fun ex w' => (∃ p S, ex = .returned (.tuple #[.pointer (some ⟨p, 0, none⟩), .int .i64 0]) ∧ (∀ q, S q → w.heap.size ≤ q) ∧ HFit w' p S (eps - 1) 0 (fun _ => 0)) ∧ Gw w w' := by
  have z1 : ¬ eps < 2 := by omega
  have z2 : ¬ 64 < eps := by omega
  have we : IntKind.i64.wrap (eps - 1) = eps - 1 := by rw [IntKind.wrap_i64]; omega
  have FIN : Hid (HFit (w.alloc (.cells (fcells (eps - 1) 0 0 1 1 0 (.slice none 0 0) (.slice none 0 0)) 63)) w.heap.size (FitS w.heap.size (.slice none 0 0) (.slice none 0 0)) (eps - 1) 0 (fun _ => 0)) := by
    refine ⟨.slice none 0 0, .slice none 0 0, 0, 1, 1, 0, 0, 0, fun _ => 0, fun _ => 0, ⟨heap_alloc_new w _, World.ownsRow_nil _ _ _ _, World.ownsRow_nil _ _ _ _, (fun q hq => by cases hq), (fun q hq => by cases hq), (fun q hq => by cases hq), fun _ => ⟨rfl, rfl⟩, (fun h => by omega), (fun h => by omega), (fun j hj => by omega), (fun i hi => by omega), ?_, ?_, ?_, by omega, ?_⟩, fun q => Iff.rfl⟩
    · exact ⟨by omega, by omega, fun i j s => by have := s.1; have := s.2; omega, .inl rfl⟩
    · exact .inl ⟨rfl, rfl, fun i j s => by have := s.1; have := s.2; omega⟩
    · intro i j i' j' s; have := s.1; have := s.2; omega
    · exact ⟨by decide, by decide, by decide, by decide, by decide, by decide, by decide, by decide⟩
  have SS : Hid (∀ q, FitS w.heap.size (.slice none 0 0) (.slice none 0 0) q → w.heap.size ≤ q) := by
    intro q hq
    rcases hq with rfl | r | r
    · exact Nat.le_refl _
    · cases r
    · cases r
  go_enter Try.func18, Try.ntmps18
  go_wp2_with fail
  go_ret2
  first
    | exact ⟨⟨w.heap.size, _, rfl, SS.out, FIN.out⟩, (Gw.refl w).alloc _ _⟩
    | exact ⟨⟨w.heap.size, rfl, _, SS.out, FIN.out⟩, (Gw.refl w).alloc _ _⟩

theorem hcount {w : World} {p : Nat} {S : Nat → Prop} {e : Int} {n : Nat} {f : Nat → Int} (h : HFit w p S e n f) (hn : n ≤ 3001) : Calls Try.prog 19 #[.pointer (some ⟨p, 0, none⟩)] w fun ex w' => ex = .returned (.int .i64 n) ∧ Gw w w' := by
  obtain ⟨v0, v1, lr, lf, mr, mf, m0, m1, c0, c1, F, hS⟩ := h
  have k1 := F.blk.cell (o := 1) (v := .int .i64 n) rfl
  clear F hS
  go_enter Try.func19, Try.ntmps19
  go_wp2_with fail
  go_ret
  exact ⟨rfl, Gw.refl w⟩

theorem part_le {c g a : Int} (g0 : 0 < g) (e : c * g = a) (c0 : 0 ≤ c) : c ≤ a := by
  have : c * 1 ≤ c * g := Int.mul_le_mul_of_nonneg_left (by omega) c0
  omega

set_option maxHeartbeats 1000000 in
theorem hleast {w : World} {p : Nat} {S : Nat → Prop} {e : Int} {n : Nat} {f : Nat → Int} (h : HFit w p S e n f) (hn : n ≤ 3001) : Calls Try.prog 20 #[.pointer (some ⟨p, 0, none⟩)] w fun ex w' => (∃ a b, ex = .returned (.agg #[.int .u64 a, .int .u64 b]) ∧ LowOn e f (Prs n) a b ∧ a < 18446744073709551616 ∧ b < 18446744073709551616) ∧ Gw w w' := by
  obtain ⟨v0, v1, lr, lf, mr, mf, m0, m1, c0, c1, F, hS⟩ := h
  have k2 := F.blk.cell (o := 2) (v := .int .i64 lr) rfl
  have k3 := F.blk.cell (o := 3) (v := .int .u64 lf) rfl
  have lp := F.blk.lt
  have SL : Hid (∀ W, Calls Try.prog 32 #[.agg #[.int .i64 lr, .int .u64 lf]] W fun ex w' => (∃ a b, ex = .returned (.agg #[.int .u64 a, .int .u64 b]) ∧ LowOn e f (Prs n) a b ∧ a < 18446744073709551616 ∧ b < 18446744073709551616) ∧ Gw W w') := by
    intro W
    have b1 := F.low.b1
    have s1 := F.sb.l1
    have s3 := F.sb.l3
    refine (slow_any lr lf F.low.a0 (by omega) (by omega) s3 W).mono ?_
    rintro ex w' ⟨⟨c, d, g, rfl, g0, ec, ed, hg⟩, G⟩
    have L := F.low.red g0 ec ed hg
    have q1 := part_le g0 ec L.a0
    have q2 := part_le g0 ed (by have := L.b1; omega)
    exact ⟨⟨c, d, rfl, L, by omega, by omega⟩, G⟩
  clear F hS
  go_enter Try.func20, Try.ntmps20
  go_wp2_with fail
  refine (SL.out _).mono ?_
  rintro ex w1 ⟨⟨a, b, rfl, hL⟩, g1⟩
  have X : Hid (Bx w1 w.heap.size 47 (.int .u64 0) (.int .u64 0)) := (Bx.new w _ _ _).gw g1
  have HL : Hid (LowOn e f (Prs n) a b ∧ a < 18446744073709551616 ∧ b < 18446744073709551616) := hL
  have G1 : Hid (Gw w w1) := ((Gw.refl w).alloc _ _).trans g1
  have x0 := X.out.c0
  have x1 := X.out.c1
  have x2 := X.out.fz 0
  have x3 := X.out.fz 1
  clear g1 hL
  go_wp2_with fail
  have Y := X.out.set (.int .u64 a) (.int .u64 b)
  have y0 := Y.c0
  have y1 := Y.c1
  clear x0 x1 x2 x3
  refine bodyPost_ret (v := .agg #[.int .u64 a, .int .u64 b]) (by simp [results, Try.results20, go_sem, y0, y1]) rfl ⟨⟨a, b, rfl, HL.out⟩, ?_⟩
  exact (G1.out.setCell (by simp) _).setCell (by simp) _

set_option maxHeartbeats 1000000 in
theorem hmost {w : World} {p : Nat} {S : Nat → Prop} {e : Int} {n : Nat} {f : Nat → Int} (h : HFit w p S e n f) (hn : n ≤ 3001) : Calls Try.prog 21 #[.pointer (some ⟨p, 0, none⟩)] w fun ex w' => (∃ a b, ex = .returned (.agg #[.int .u64 a, .int .u64 b]) ∧ TopOn e f (Prs n) a b ∧ a < 18446744073709551616 ∧ (0 ≤ b ∧ b < 18446744073709551616)) ∧ Gw w w' := by
  obtain ⟨v0, v1, lr, lf, mr, mf, m0, m1, c0, c1, F, hS⟩ := h
  have k1 := F.blk.cell (o := 1) (v := .int .i64 n) rfl
  have k4 := F.blk.cell (o := 4) (v := .int .i64 mr) rfl
  have k5 := F.blk.cell (o := 5) (v := .int .u64 mf) rfl
  have lp := F.blk.lt
  by_cases hn2 : n < 2
  · have TN : Hid (TopOn e f (Prs n) 1 0) := top_none e f hn2
    have hi2 : (n : Int) < 2 := by omega
    clear F hS
    go_enter Try.func21, Try.ntmps21
    go_wp2_with fail
    refine bodyPost_ret (v := .agg #[.int .u64 1, .int .u64 0]) (by simp [results, Try.results21, go_sem]) rfl ⟨⟨1, 0, rfl, TN.out, by decide, by decide, by decide⟩, ?_⟩
    first
      | exact (Gw.refl w).alloc _ _
      | exact ((((Gw.refl w).alloc _ _).setCell (by simp) _).setCell (by simp) _)
  · have hi2 : ¬ (n : Int) < 2 := by omega
    have mf0 : mf ≠ 0 := by
      rcases F.top with ⟨_, _, no⟩ | ⟨_, q, _⟩
      · exact absurd ⟨by omega, by omega⟩ (no 0 1)
      · omega
    have SL : Hid (∀ W, Calls Try.prog 32 #[.agg #[.int .i64 mr, .int .u64 mf]] W fun ex w' => (∃ a b, ex = .returned (.agg #[.int .u64 a, .int .u64 b]) ∧ TopOn e f (Prs n) a b ∧ a < 18446744073709551616 ∧ (0 ≤ b ∧ b < 18446744073709551616)) ∧ Gw W w') := by
      intro W
      have s1 := F.sb.m1
      have s2 := F.sb.m2
      have s3 := F.sb.m3
      refine (slow_any mr mf F.sb.m0 (by omega) (by omega) s3 W).mono ?_
      rintro ex w' ⟨⟨c, d, g, rfl, g0, ec, ed, hg⟩, G⟩
      have L := F.top.red mf0 g0 ec ed hg
      have l1 := top_pos L
      have l2 := top_two (by omega) L
      have q1 := part_le g0 ec (by omega)
      have q2 := part_le g0 ed (by omega)
      exact ⟨⟨c, d, rfl, L, by omega, by omega, by omega⟩, G⟩
    clear F hS
    go_enter Try.func21, Try.ntmps21
    go_wp2_with fail
    refine (SL.out _).mono ?_
    rintro ex w1 ⟨⟨a, b, rfl, hL⟩, g1⟩
    have X : Hid (Bx w1 w.heap.size 47 (.int .u64 0) (.int .u64 0)) := (Bx.new w _ _ _).gw g1
    have HL : Hid (TopOn e f (Prs n) a b ∧ a < 18446744073709551616 ∧ (0 ≤ b ∧ b < 18446744073709551616)) := hL
    have G1 : Hid (Gw w w1) := ((Gw.refl w).alloc _ _).trans g1
    have x0 := X.out.c0
    have x1 := X.out.c1
    have x2 := X.out.fz 0
    have x3 := X.out.fz 1
    clear g1 hL
    go_wp2_with fail
    have Y := X.out.set (.int .u64 a) (.int .u64 b)
    have y0 := Y.c0
    have y1 := Y.c1
    clear x0 x1 x2 x3
    refine bodyPost_ret (v := .agg #[.int .u64 a, .int .u64 b]) (by simp [results, Try.results21, go_sem, y0, y1]) rfl ⟨⟨a, b, rfl, HL.out⟩, ?_⟩
    exact (G1.out.setCell (by simp) _).setCell (by simp) _

/-- Behind both lays. -/
theorem fit_done {w wa wb wd : World} {p : Nat} {v0 v1 v0' v1' : Value} {e : Int} {n : Nat} {f : Nat → Int} {x lr lf mr mf : Int} {m0' m1' : Nat} {c0' c1' : Nat → Nat}
    (o0 : ∀ q, v0.ownBlock = some q → q < w.heap.size ∧ q ≠ p) (o1 : ∀ q, v1.ownBlock = some q → q < w.heap.size ∧ q ≠ p) (ne : ∀ q, v0.ownBlock = some q → v1.ownBlock = some q → False) (lp : p < w.heap.size)
    (Ga : Gs (fun q => q = p) w wa)
    (Gb : Gs (fun q => q = p ∨ v0.ownBlock = some q) wa wb) (O0 : wb.ownsRow 0 65 2 v0' m0' (pcells (upd f n x) c0' (-e) m0')) (Q0 : ∀ q, v0'.ownBlock = some q → (v0.ownBlock = some q ∨ wa.heap.size ≤ q) ∧ q ≠ p) (C0 : Chn (upd f n x) (fun j => -1 * (j : Int)) (n + 1) m0' c0')
    (Gd : Gs (fun q => q = p ∨ v1.ownBlock = some q) wb wd) (O1 : wd.ownsRow 0 65 2 v1' m1' (pcells (upd f n x) c1' e m1')) (Q1 : ∀ q, v1'.ownBlock = some q → (v1.ownBlock = some q ∨ wb.heap.size ≤ q) ∧ q ≠ p) (C1 : Chn (upd f n x) (fun j => 1 * (j : Int)) (n + 1) m1' c1')
    (hB : Blk wd p (((fcells e n lr lf mr mf v0 v1).setIfInBounds (6 + 1) v0').setIfInBounds (8 + 1) v1') 63)
    (up : Up (upd f n x) (n + 1)) (bd : ∀ i, i < n + 1 → 0 ≤ upd f n x i ∧ upd f n x i < 18446744073709551616) (low : LowU e (upd f n x) (Prs (n + 1)) lr lf) (top : TopU e (upd f n x) (Prs (n + 1)) mr mf) (fit : FitsOn e (upd f n x) (Prs (n + 1))) (e1 : 1 ≤ e ∧ e ≤ 63) (sb : SB lr lf mr mf) :
    (∃ S', HFit (wd.setCell ⟨p, 1, none⟩ (.int .i64 ((n : Int) + 1))) p S' e (n + 1) (upd f n x) ∧ ∀ q, S' q → FitS p v0 v1 q ∨ w.heap.size ≤ q) ∧ Gs (FitS p v0 v1) w (wd.setCell ⟨p, 1, none⟩ (.int .i64 ((n : Int) + 1))) := by
  have sa := Ga.size
  have sb' := Gb.size
  have x0 : ∀ q, v0'.ownBlock = some q → q < wb.heap.size ∧ q ≠ p ∧ v1.ownBlock ≠ some q := by
    intro q hq
    refine ⟨(O0.lt q hq).2, (Q0 q hq).2, fun r => ?_⟩
    rcases (Q0 q hq).1 with t | t
    · exact ne q t r
    · have := (o1 q r).1; omega
  have blk : Blk (wd.setCell ⟨p, 1, none⟩ (.int .i64 ((n : Int) + 1))) p (fcells e (n + 1) lr lf mr mf v0' v1') 63 := hB.set 1 _
  refine ⟨⟨FitS p v0' v1', ⟨v0', v1', lr, lf, mr, mf, m0', m1', c0', c1', ⟨blk, ?_, ?_, fun q hq => (x0 q hq).2.1, fun q hq => (Q1 q hq).2, ?_, fun h => by omega, fun _ => C0, fun _ => C1, up, bd, low, top, fit, e1, sb⟩, fun q => Iff.rfl⟩, ?_⟩, ?_⟩
  · refine own_keep O0 fun q hq => ?_
    obtain ⟨h1, h2, h3⟩ := x0 q hq
    rw [Go.Deep.blk_setCell_other _ _ _ _ h2]
    exact Gd.block q h1 (fun r => by rcases r with r | r; exact h2 r; exact h3 r)
  · refine own_keep O1 fun q hq => ?_
    rw [Go.Deep.blk_setCell_other _ _ _ _ (Q1 q hq).2]
  · intro q h0 h1
    obtain ⟨t1, t2, t3⟩ := x0 q h0
    rcases (Q1 q h1).1 with r | r
    · exact t3 r
    · omega
  · intro q hq
    rcases hq with rfl | r | r
    · exact .inl (.inl rfl)
    · rcases (Q0 q r).1 with t | t
      · exact .inl (.inr (.inl t))
      · exact .inr (by omega)
    · rcases (Q1 q r).1 with t | t
      · exact .inl (.inr (.inr t))
      · exact .inr (by omega)
  · refine Gs.set ?_ (.inl rfl) _ _
    refine ⟨Gd.os.trans (Gb.os.trans Ga.os), Gd.tape.trans (Gb.tape.trans Ga.tape), Gd.output.trans (Gb.output.trans Ga.output), by have := Gd.size; omega, fun q hq hs => ?_⟩
    have n1 : q ≠ p := fun r => hs (.inl r)
    have n2 : ¬ (v0.ownBlock = some q) := fun r => hs (.inr (.inl r))
    have n3 : ¬ (v1.ownBlock = some q) := fun r => hs (.inr (.inr r))
    rw [Gd.block q (by omega) (fun r => by rcases r with r | r; exact n1 r; exact n3 r), Gb.block q (by omega) (fun r => by rcases r with r | r; exact n1 r; exact n2 r), Ga.block q hq n1]

end Go.Proofs.Ytocahgiabeifeaa
