/- The statements' own helpers of layer 4: a pair of Fits that are alike, made, picked. -/
import Derived.Test.YtocahgiabeifeaaHC
import Derived.Test.YtocahgiabeifeaaHGrow
namespace Go.Proofs.Ytocahgiabeifeaa
open Go.RowKit
set_option linter.unusedVariables false

set_option maxHeartbeats 4000000 in
theorem alike_any {HF : World → Nat → (Nat → Prop) → Int → Nat → (Nat → Int) → Prop} (H : HullC HF) {w : World} {pa pb : Nat} {S : Nat → Prop} {v : Value} {e : Int} {n : Nat} {f : Nat → Int} {a b c d : Int} (h : HF w pa S e n f) (k : RF w pb v e n f a b c d) (hn : n ≤ 3001) :
    Calls Try.prog 17 #[.agg #[.pointer (some ⟨pa, 0, none⟩), .pointer (some ⟨pb, 0, none⟩)]] w fun ex w' => ex = .returned (.bool true) ∧ Gw w w' := by
  have U := (H.facts h).1
  have A1 : Hid (∀ W, Gw w W → Calls Try.prog 19 #[.pointer (some ⟨pa, 0, none⟩)] W fun ex w' => ex = .returned (.int .i64 n) ∧ Gw W w') := fun W g => H.count (H.gw h g) hn
  have A2 : Hid (∀ W, Gw w W → Calls Try.prog 20 #[.pointer (some ⟨pa, 0, none⟩)] W fun ex w' => ex = .returned (.agg #[.int .u64 a, .int .u64 b]) ∧ Gw W w') := fun W g => by
    refine (H.least (H.gw h g) hn).mono ?_
    rintro ex w' ⟨⟨a', b', rfl, hl, _⟩, g'⟩
    obtain ⟨rfl, rfl⟩ := hl.one (prs_pairs U) k.low
    exact ⟨rfl, g'⟩
  have A3 : Hid (∀ W, Gw w W → Calls Try.prog 21 #[.pointer (some ⟨pa, 0, none⟩)] W fun ex w' => ex = .returned (.agg #[.int .u64 c, .int .u64 d]) ∧ Gw W w') := fun W g => by
    refine (H.most (H.gw h g) hn).mono ?_
    rintro ex w' ⟨⟨a', b', rfl, hl, _⟩, g'⟩
    obtain ⟨rfl, rfl⟩ := hl.one (prs_pairs U) k.top
    exact ⟨rfl, g'⟩
  have B1 : Hid (∀ W, Gw w W → Calls Try.prog 12 #[.pointer (some ⟨pb, 0, none⟩)] W fun ex w' => ex = .returned (.int .i64 n) ∧ Gw W w') := fun W g => rcount_any (k.gw g)
  have B2 : Hid (∀ W, Gw w W → Calls Try.prog 30 #[.pointer (some ⟨pb, 0, none⟩)] W fun ex w' => ex = .returned (.agg #[.int .u64 a, .int .u64 b]) ∧ Gw W w') := fun W g => rleast_any (k.gw g)
  have B3 : Hid (∀ W, Gw w W → Calls Try.prog 31 #[.pointer (some ⟨pb, 0, none⟩)] W fun ex w' => ex = .returned (.agg #[.int .u64 c, .int .u64 d]) ∧ Gw W w') := fun W g => rmost_any (k.gw g)
  clear H h k U
  go_enter Try.func17, Try.ntmps17
  go_wp2_with fail
  have G0 : Hid (Gw w (w.alloc (.cells #[.pointer (some ⟨pa, 0, none⟩), .pointer (some ⟨pb, 0, none⟩)] 28))) := (Gw.refl w).alloc _ _
  have x0 := Bx.new w 28 (.pointer (some ⟨pa, 0, none⟩)) (.pointer (some ⟨pb, 0, none⟩))
  have e1 := GX.cell x0.c0 x0.lt
  have e2 := GX.cell x0.c1 x0.lt
  have ne := GX.some (w.alloc (.cells #[.pointer (some ⟨pa, 0, none⟩), .pointer (some ⟨pb, 0, none⟩)] 28))
  clear x0
  refine wp_region_growx (by kernel_rfl) (by kernel_rfl) ?_
  repeat (go_big_quiet_step (fail))
  go_big_quiet_want
  go_big_quiet_op
  go_big_quiet_call (exact growx_of (A1.out _ (G0.out.trans (GX.gw _))))
  repeat (go_big_quiet_step (fail))
  go_big_quiet_want
  go_big_quiet_op
  go_big_quiet_call (exact growx_of (B1.out _ (G0.out.trans (GX.gw _))))
  repeat (go_big_quiet_step (fail))
  go_big_quiet_want
  go_big_quiet_op
  go_big_quiet_call (exact growx_of (A2.out _ (G0.out.trans (GX.gw _))))
  repeat (go_big_quiet_step (fail))
  go_big_quiet_want
  go_big_quiet_op
  go_big_quiet_call (exact growx_of (B2.out _ (G0.out.trans (GX.gw _))))
  repeat (go_big_quiet_step (fail))
  go_big_quiet_want
  go_big_quiet_op
  go_big_quiet_call (exact growx_of (A3.out _ (G0.out.trans (GX.gw _))))
  repeat (go_big_quiet_step (fail))
  go_big_quiet_want
  go_big_quiet_op
  go_big_quiet_call (exact growx_of (B3.out _ (G0.out.trans (GX.gw _))))
  repeat (go_big_quiet_step (fail))
  refine wpQuiet_nil ?_
  rintro _ ⟨g, rfl⟩
  go_wp2
  go_ret
  exact ⟨by simp, G0.out.trans g.2⟩

theorem made_bad {HF : World → Nat → (Nat → Prop) → Int → Nat → (Nat → Int) → Prop} (H : HullC HF) (eps : Int) (h : ¬ (2 ≤ eps ∧ eps ≤ 64)) (w : World) :
    Calls Try.prog 10 #[.int .i64 eps] w fun ex w' => ex = .returned (.tuple #[.agg #[.pointer none, .pointer none], .bool false, .bool true]) ∧ Gw w w' := by
  have HH : Aside (HullC HF) := H
  clear H
  go_enter Try.func10, Try.ntmps10
  go_wp2_with fail
  refine (HH.out.bad eps h _).mono ?_
  rintro e w1 ⟨rfl, g1⟩
  go_wp2_with fail
  refine (rnew_bad eps h _).mono ?_
  rintro e w2 ⟨rfl, g2⟩
  have G : Gw (w.alloc (.cells #[.pointer none, .pointer none] 28)) w2 := g1.trans g2
  have X := (Bx.new w 28 (.pointer none) (.pointer none)).gw G
  have x0 := X.c0
  have x1 := X.c1
  have x2 := X.fz 0
  have x3 := X.fz 1
  have X' : Hid (Bx w2 w.heap.size 28 (.pointer none) (.pointer none)) := X
  have G' : Hid (Gw w w2) := ((Gw.refl w).alloc _ _).trans G
  clear X G g1 g2 h
  go_wp2_with fail
  have Y := X'.out.set (.pointer none) (.pointer none)
  have y0 := Y.c0
  have y1 := Y.c1
  refine bodyPost_ret (v := .tuple #[.agg #[.pointer none, .pointer none], .bool false, .bool true]) (by simp [results, Try.results10, go_sem, y0, y1]) rfl ⟨rfl, ?_⟩
  first | exact (G'.out.setCell (by simp) _).setCell (by simp) _ | exact G'.out

theorem made_ok {HF : World → Nat → (Nat → Prop) → Int → Nat → (Nat → Int) → Prop} (H : HullC HF) (eps : Int) (h1 : 2 ≤ eps) (h2 : eps ≤ 64) (w : World) :
    Calls Try.prog 10 #[.int .i64 eps] w fun ex w' => (∃ pa pb SA, ex = .returned (.tuple #[.agg #[.pointer (some ⟨pa, 0, none⟩), .pointer (some ⟨pb, 0, none⟩)], .bool true, .bool true]) ∧ HF w' pa SA (eps - 1) 0 (fun _ => 0) ∧ RF w' pb (.slice none 0 0) (eps - 1) 0 (fun _ => 0) 0 1 1 0 ∧ (∀ q, SA q → w.heap.size ≤ q ∧ q < pb) ∧ w.heap.size ≤ pb) ∧ Gw w w' := by
  have HH : Aside (HullC HF) := H
  clear H
  go_enter Try.func10, Try.ntmps10
  go_wp2_with fail
  refine (HH.out.new eps h1 h2 _).mono ?_
  rintro e w1 ⟨⟨pa, SA, rfl, hS, hF⟩, g1⟩
  have F1 : Hid (HF w1 pa SA (eps - 1) 0 (fun _ => 0)) := hF
  clear hF
  go_wp2_with fail
  refine (rnew_ok eps h1 h2 _).mono ?_
  rintro e w2 ⟨⟨pb, rfl, hp, hR⟩, g2⟩
  have R2 : Hid (RF w2 pb (.slice none 0 0) (eps - 1) 0 (fun _ => 0) 0 1 1 0) := hR
  have F2 : Hid (HF w2 pa SA (eps - 1) 0 (fun _ => 0)) := HH.out.gw F1.out g2
  have SS : Hid (∀ q, SA q → w.heap.size + 1 ≤ q ∧ q < pb) := fun q hq => ⟨by have := hS q hq; simpa using this, by have := HH.out.lt F1.out q hq; omega⟩
  have G : Gw (w.alloc (.cells #[.pointer none, .pointer none] 28)) w2 := g1.trans g2
  have X := (Bx.new w 28 (.pointer none) (.pointer none)).gw G
  have x0 := X.c0
  have x1 := X.c1
  have x2 := X.fz 0
  have x3 := X.fz 1
  have X' : Hid (Bx w2 w.heap.size 28 (.pointer none) (.pointer none)) := X
  have G' : Hid (Gw w w2) := ((Gw.refl w).alloc _ _).trans G
  have hpb : w.heap.size + 1 ≤ pb := by have := g1.size; simp at this; omega
  clear X G g1 g2 hR hS F1 hp
  go_wp2_with fail
  have Y := X'.out.set (.pointer (some ⟨pa, 0, none⟩)) (.pointer (some ⟨pb, 0, none⟩))
  have y0 := Y.c0
  have y1 := Y.c1
  refine bodyPost_ret (v := .tuple #[.agg #[.pointer (some ⟨pa, 0, none⟩), .pointer (some ⟨pb, 0, none⟩)], .bool true, .bool true]) (by simp [results, Try.results10, go_sem, y0, y1]) rfl ⟨⟨pa, pb, SA, rfl, ?_, ?_, fun q hq => ⟨by have := (SS.out q hq).1; omega, (SS.out q hq).2⟩, by omega⟩, (G'.out.setCell (by simp) _).setCell (by simp) _⟩
  · refine HH.out.keep F2.out fun q hq => ?_
    have := (SS.out q hq).1
    rw [Go.Deep.blk_setCell_other _ _ _ _ (show q ≠ w.heap.size by omega), Go.Deep.blk_setCell_other _ _ _ _ (show q ≠ w.heap.size by omega)]
  · refine R2.out.keep fun q hq => ?_
    rcases hq with rfl | hq
    · rw [Go.Deep.blk_setCell_other _ _ _ _ (show q ≠ w.heap.size by omega), Go.Deep.blk_setCell_other _ _ _ _ (show q ≠ w.heap.size by omega)]
    · cases hq

theorem pick_any (c : Int) (n : Nat) (c0 : -9223372036854775808 ≤ c) (c1 : c < 9223372036854775808) (n0 : 0 < n) (n1 : n < 1000) (w : World) :
    Calls Try.prog 11 #[.int .i64 c, .int .i64 n] w fun ex w' => (∃ k : Nat, ex = .returned (.int .i64 k) ∧ k < n) ∧ w' = w := by
  by_cases hc : c < 0
  · have e : (c + 1).tmod (n : Int) = -((-(c + 1)) % (n : Int)) := by
      rw [show (c + 1) = -(-(c + 1)) by omega, Int.neg_tmod, Int.tmod_eq_emod_of_nonneg (by omega)]
      simp
    have h1 := Int.emod_nonneg (-(c + 1)) (b := (n : Int)) (by omega)
    have h2 := Int.emod_lt_of_pos (-(c + 1)) (b := (n : Int)) (by omega)
    obtain ⟨k, hk⟩ : ∃ k : Nat, (c + 1).tmod (n : Int) = -(k : Int) := ⟨((-(c + 1)) % (n : Int)).toNat, by omega⟩
    have hz : ((n : Int) == 0) = false := by simp; omega
    have K : Hid (k < n) := by show k < n; omega
    clear e h1 h2
    go_enter Try.func11, Try.ntmps11
    go_wp2_with fail
    go_ret
    exact ⟨⟨k, by simp, K.out⟩, rfl⟩
  · have h1 := Int.emod_nonneg c (b := (n : Int)) (by omega)
    have h2 := Int.emod_lt_of_pos c (b := (n : Int)) (by omega)
    obtain ⟨k, hk⟩ : ∃ k : Nat, c % (n : Int) = (k : Int) := ⟨(c % (n : Int)).toNat, by omega⟩
    have hz : ((n : Int) == 0) = false := by simp; omega
    have K : Hid (k < n) := by show k < n; omega
    clear h1 h2
    go_enter Try.func11, Try.ntmps11
    go_wp2_with fail
    go_ret
    exact ⟨⟨k, by simp, K.out⟩, rfl⟩

end Go.Proofs.Ytocahgiabeifeaa
