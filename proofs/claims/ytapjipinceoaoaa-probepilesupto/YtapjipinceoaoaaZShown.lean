/- The example of layer 9's statements. -/
import Derived.Test.YtapjipinceoaoaaZC
import Derived.Test.YtapjipinceoaoaaVShown
namespace Go.Proofs.Ytapjipinceoaoaa
open Go.RowKit
set_option linter.unusedVariables false
attribute [local go_sem] run_store_float

def k9 : List Int := [10, 20, 30, 40, 50]
def s9 : Sg := ⟨10, 4587366580439587226, 4607182418800017408, 0, 5⟩
theorem ex9_check : CheckR 2 (lst8 k9) 5 [[s9]] 0 := by
  refine .inr (.inr (.inr ⟨by decide, fun j hj => ?_, ⟨?_, by decide⟩, by decide +kernel⟩))
  · have : ∀ j, j < 4 → lst8 k9 j < lst8 k9 (j + 1) := by decide +kernel
    exact this j (by omega)
  · have := mxh_two
    simp only [List.length_cons, List.length_nil]
    omega
theorem ex9_bd : ∀ t, t < 5 → 0 ≤ lst8 k9 t ∧ lst8 k9 t < 18446744073709551616 := by decide +kernel
theorem ex9_short : Short [[s9]] := ⟨by simp, fun i hi => by
  have i0 : i = 0 := by simp at hi; omega
  subst i0
  show 1 ≤ 2000000
  omega⟩
theorem ex9_ready : Ready 2 (lst8 k9) 5 [[s9]] := Ready.of ex9_check (by decide) ex9_short ex9_bd
theorem ex9_f35 : foundV (lst8 k9) 5 35 = .tuple #[.int .i64 3, .bool false] := by
  have e : cntb (lst8 k9) 35 5 = 3 := by decide +kernel
  unfold foundV
  rw [e]
  have : decide (3 < 5 ∧ lst8 k9 3 = 35) = false := by decide +kernel
  rw [this]
  rfl
theorem ex9_f30 : foundV (lst8 k9) 5 30 = .tuple #[.int .i64 2, .bool true] := by
  have e : cntb (lst8 k9) 30 5 = 2 := by decide +kernel
  unfold foundV
  rw [e]
  have : decide (2 < 5 ∧ lst8 k9 2 = 30) = true := by decide +kernel
  rw [this]
  rfl
theorem ex9_path : (pathL 2 35 (lst8 k9) 5 [[s9]]).getD 0 vis0 = ⟨0, 0, 2, 0, 5, 3⟩ := by
  have e : (pathL 2 35 (lst8 k9) 5 [[s9]]).getD 0 vis0 = visAt 2 35 (lst8 k9) 5 [[s9]] 0 := rfl
  rw [e]
  have h1 : (slotA 35 [[s9]] 0 : Int) = 0 := by decide +kernel
  have h2 : guessA 35 [[s9]] 0 = 2 := by decide +kernel
  have h3 : max (segA 35 [[s9]] 0).fr (guessA 35 [[s9]] 0 - 2 - 1) = 0 := by decide +kernel
  have h4 : min (segA 35 [[s9]] 0).te (guessA 35 [[s9]] 0 + 2 + 1) = 5 := by decide +kernel
  have h5 : (cntb (rowF (lst8 k9) [[s9]] 0) 35 (rowN 5 [[s9]] 0) : Int) = 3 := by decide +kernel
  unfold visAt
  rw [h3, h4, h1, h2, h5]
  rfl

set_option maxRecDepth 10000 in
set_option maxHeartbeats 4000000 in
theorem shown9 {HP : World → Nat → (Nat → Prop) → Int → (Nat → Int) → Nat → List (List Sg) → Prop} (PC : ProbeC HP) (w : World) : Calls Try.prog 5 #[] w fun e w' => e = .returned (.bool true) ∧ Gw w w' := by
  have OF : Hid (∀ w : World, Calls Try.prog 7 #[.slice (some ⟨w.heap.size, 0, none⟩) 5 5, .int .i64 2, .slice (some ⟨w.heap.size + 1 + 1, 0, none⟩) 1 1] (((w.alloc (.cells #[.int .u64 10, .int .u64 20, .int .u64 30, .int .u64 40, .int .u64 50] 36)).alloc (.cells #[.int .u64 10, .float .f64 4587366580439587226, .float .f64 4607182418800017408, .int .i64 0, .int .i64 5] 44)).alloc (.cells #[.slice (some ⟨w.heap.size + 1, 0, none⟩) 1 1] 41)) fun ex w' => (∃ p S, ex = .returned (.tuple #[.pointer (some ⟨p, 0, none⟩), .int .i64 0]) ∧ HP w' p S 2 (lst8 k9) 5 [[s9]]) ∧ Gw w w') := fun w => by
    have h1 := heap_alloc_new w (.cells #[.int .u64 10, .int .u64 20, .int .u64 30, .int .u64 40, .int .u64 50] 36)
    have g1 : Gw w (w.alloc (.cells #[.int .u64 10, .int .u64 20, .int .u64 30, .int .u64 40, .int .u64 50] 36)) := (Gw.refl w).alloc _ _
    have z1 : (w.alloc (.cells #[.int .u64 10, .int .u64 20, .int .u64 30, .int .u64 40, .int .u64 50] 36)).heap.size = w.heap.size + 1 := by simp
    generalize w.alloc (.cells #[.int .u64 10, .int .u64 20, .int .u64 30, .int .u64 40, .int .u64 50] 36) = w1 at h1 g1 z1 ⊢
    have h2 := heap_alloc_new w1 (.cells #[.int .u64 10, .float .f64 4587366580439587226, .float .f64 4607182418800017408, .int .i64 0, .int .i64 5] 44)
    have g2 : Gw w1 (w1.alloc (.cells #[.int .u64 10, .float .f64 4587366580439587226, .float .f64 4607182418800017408, .int .i64 0, .int .i64 5] 44)) := (Gw.refl w1).alloc _ _
    have z2 : (w1.alloc (.cells #[.int .u64 10, .float .f64 4587366580439587226, .float .f64 4607182418800017408, .int .i64 0, .int .i64 5] 44)).heap.size = w.heap.size + 1 + 1 := by simp [z1]
    generalize w1.alloc (.cells #[.int .u64 10, .float .f64 4587366580439587226, .float .f64 4607182418800017408, .int .i64 0, .int .i64 5] 44) = w2 at h2 g2 z2 ⊢
    have h3 := heap_alloc_new w2 (.cells #[.slice (some ⟨w.heap.size + 1, 0, none⟩) 1 1] 41)
    have g3 : Gw w2 (w2.alloc (.cells #[.slice (some ⟨w.heap.size + 1, 0, none⟩) 1 1] 41)) := (Gw.refl w2).alloc _ _
    generalize w2.alloc (.cells #[.slice (some ⟨w.heap.size + 1, 0, none⟩) 1 1] 41) = w3 at h3 g3 ⊢
    rw [z1] at h2
    rw [z2] at h3
    have gl : GS w3 (some ⟨w.heap.size + 1, 0, none⟩) [s9] := (gs_blk (l := [s9]) h2 (fun i hi => by
      have i0 : i = 0 := by simp at hi; omega
      subst i0
      exact ⟨by decide, by decide, by decide, by decide, by decide, by decide, by decide, by decide⟩)).gw g3
    have ks : KS w3 (some ⟨w.heap.size, 0, none⟩) 5 (lst8 k9) := ((ks_lst8 _ k9 (by decide) _ h1).gw g2).gw g3
    have vs : VS w3 (some ⟨w.heap.size + 1 + 1, 0, none⟩) [[s9]] := by
      refine ⟨fun _ => ⟨_, 0, rfl, (Array.getElem?_eq_some_iff.1 h3).1, fun i hi => ?_⟩⟩
      have i0 : i = 0 := by simp at hi; omega
      subst i0
      exact ⟨some ⟨w.heap.size + 1, 0, none⟩, 1, by simp [World.cell?, h3], Nat.le_refl _, (fun e => by cases e), gl⟩
    refine (PC.of 2 _ 5 5 (lst8 k9) _ 1 [[s9]] (by decide) (by decide) (by decide) (by decide) ex9_short (by simp) _ ks vs).mono ?_
    rintro ex w' ⟨⟨E, hE, q⟩, g⟩
    obtain rfl := hE.one ex9_check
    rcases q with ⟨q, _⟩ | ⟨_, p, S, rfl, _, hp⟩
    · exact absurd rfl q
    · exact ⟨⟨p, S, rfl, hp⟩, ((g1.trans g2).trans g3).trans g⟩
  have F35 : Hid (∀ w p S, HP w p S 2 (lst8 k9) 5 [[s9]] → Calls Try.prog 8 #[.pointer (some ⟨p, 0, none⟩), .int .u64 35] w fun ex w' => ex = .returned (.tuple #[.int .i64 3, .bool false]) ∧ Gw w w') := fun w p S h => by
    have := PC.pfind h ex9_ready 35 (by decide) (by decide)
    rw [ex9_f35] at this
    exact this
  have F30 : Hid (∀ w p S, HP w p S 2 (lst8 k9) 5 [[s9]] → Calls Try.prog 8 #[.pointer (some ⟨p, 0, none⟩), .int .u64 30] w fun ex w' => ex = .returned (.tuple #[.int .i64 2, .bool true]) ∧ Gw w w') := fun w p S h => by
    have := PC.pfind h ex9_ready 30 (by decide) (by decide)
    rw [ex9_f30] at this
    exact this
  have PT : Hid (∀ w p S, HP w p S 2 (lst8 k9) 5 [[s9]] → Calls Try.prog 9 #[.pointer (some ⟨p, 0, none⟩), .int .u64 35] w fun ex w' => (∃ b off c, ex = .returned (.slice (some ⟨b, off, none⟩) 1 c) ∧ b < w'.heap.size ∧ VisAt w' b off ⟨0, 0, 2, 0, 5, 3⟩) ∧ Gw w w') := fun w p S h => by
    refine (PC.ppath h ex9_ready 35 (by decide) (by decide)).mono ?_
    rintro ex w' ⟨⟨bo, c, rfl, hv, _⟩, g⟩
    obtain ⟨b, off, rfl, hb, hc⟩ := hv.cells (by rw [pathL_len]; simp)
    have := hc 0 (by rw [pathL_len]; simp)
    rw [ex9_path, Nat.zero_mul, Nat.add_zero] at this
    exact ⟨⟨b, off, c, rfl, hb, this⟩, g⟩
  have GW : Hid (∀ {w w' : World} {p : Nat} {S : Nat → Prop}, HP w p S 2 (lst8 k9) 5 [[s9]] → Gw w w' → HP w' p S 2 (lst8 k9) 5 [[s9]]) := fun h g => PC.gw h g
  clear PC
  go_enter Try.func5, Try.ntmps5
  go_wp2_with fail
  refine (OF.out _).mono ?_
  rintro e w1 ⟨⟨p, S, rfl, hp⟩, g1⟩
  have G1 : Aside (Gw w w1) := g1
  have H1 : Aside (HP w1 p S 2 (lst8 k9) 5 [[s9]]) := hp
  clear g1 hp
  go_wp2_with fail
  refine (F35.out _ p S H1.out).mono ?_
  rintro e w2 ⟨rfl, g2⟩
  have G2 : Aside (Gw w w2) := G1.out.trans g2
  have H2 : Aside (HP w2 p S 2 (lst8 k9) 5 [[s9]]) := GW.out H1.out g2
  clear g2 G1 H1
  go_wp2_with fail
  refine (F30.out _ p S H2.out).mono ?_
  rintro e w3 ⟨rfl, g3⟩
  have G3 : Aside (Gw w w3) := G2.out.trans g3
  have H3 : Aside (HP w3 p S 2 (lst8 k9) 5 [[s9]]) := GW.out H2.out g3
  clear g3 G2 H2
  go_wp2_with fail
  refine (PT.out _ p S H3.out).mono ?_
  rintro e w4 ⟨⟨b, off, c, rfl, hb, hv⟩, g4⟩
  have G4 : Aside (Gw w w4) := G3.out.trans g4
  have c0 : w4.cell? ⟨b, off, none⟩ = some (.int .i64 0) := hv.c0
  have c1 : w4.cell? ⟨b, off + 1, none⟩ = some (.int .i64 0) := hv.c1
  have c2 : w4.cell? ⟨b, off + 2, none⟩ = some (.int .i64 2) := hv.c2
  have c3 : w4.cell? ⟨b, off + 3, none⟩ = some (.int .i64 0) := hv.c3
  have c4 : w4.cell? ⟨b, off + 4, none⟩ = some (.int .i64 5) := hv.c4
  have c5 : w4.cell? ⟨b, off + 5, none⟩ = some (.int .i64 3) := hv.c5
  clear hv g4 G3 H3
  go_wp2_with fail
  go_ret
  exact ⟨rfl, G4.out⟩

end Go.Proofs.Ytapjipinceoaoaa
