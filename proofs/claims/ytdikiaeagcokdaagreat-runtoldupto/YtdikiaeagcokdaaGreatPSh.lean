import Derived.Test.YtdikiaeagcokdaaGreatPRe
/- Layer 11's statements' shown. -/
namespace Go.Proofs.YtdikiaeagcokdaaGreat
open Go.RowKit
set_option linter.unusedVariables false
attribute [local go_sem] run_store_float

def v11 (i : Nat) : Int := if i = 2 then 0 else (i : Int) + 1
def g11 (i : Nat) : Bool := decide (i = 2)
def s11 : Sg := ⟨10, 4587366580439587226, 4607182418800017408, 0, 5⟩
theorem ex11_ok : NewE 2 lin7 v11 g11 5 0 := .inr ⟨by decide, ChkR.ok (lin7_up 5) (fun j hj x => x.2 (by unfold v11; rw [if_pos (by simpa [g11] using x.1)]))⟩
theorem ex11_build {L : List (List Sg)} (h : BuildR 2 lin7 5 L) : L = [[s11]] := by
  have e : sh lin7 0 = lin7 := by funext j; unfold sh; rw [Nat.zero_add]
  have w : BuildR 2 lin7 5 [[s11]] := ⟨by decide, ⟨5, ⟨by decide, by decide, by rw [e]; exact lin7_fits 5, fun x => absurd x (by decide)⟩, by unfold SegAt; rw [e]; exact lin7_seg, rfl⟩, rfl⟩
  exact h.one w
theorem ex11_high {E : Int} (h : OfE 2 (fun _ => 7) (fun _ => 1) (fun _ => false) 1 [] E) : E = 81 := by
  refine h.one ⟨0, .inr ⟨by decide, ChkR.ok (fun j hj => by omega) (fun j _ => by simp)⟩, .inr ⟨rfl, .inr (.inr (.inl ⟨by decide, fun j hj => by omega, fun x => ?_, rfl⟩))⟩⟩
  have := x.2.1 rfl
  omega
theorem es_five (w : World) : ES (w.alloc (.cells #[.int .u64 10, .int .u64 1, .bool false, .int .u64 20, .int .u64 2, .bool false, .int .u64 30, .int .u64 0, .bool true, .int .u64 40, .int .u64 4, .bool false, .int .u64 50, .int .u64 5, .bool false] 26)) (some ⟨w.heap.size, 0, none⟩) 5 lin7 v11 g11 := by
  refine ⟨fun _ => ⟨w.heap.size, 0, rfl, by simp, fun i hi => ?_⟩, fun i hi => ⟨by unfold lin7; omega, by unfold v11; split <;> omega⟩⟩
  match i, hi with
  | 0, _ => simp [go_sem, lin7, v11, g11]
  | 1, _ => simp [go_sem, lin7, v11, g11]
  | 2, _ => simp [go_sem, lin7, v11, g11]
  | 3, _ => simp [go_sem, lin7, v11, g11]
  | 4, _ => simp [go_sem, lin7, v11, g11]

theorem ex11_q30 : getV lin7 v11 g11 5 30 = (.agg #[.int .u64 30, .int .u64 0, .bool true], true) := by
  have c : cntb lin7 30 5 = 2 := by decide +kernel
  unfold getV
  rw [c, if_pos (by decide +kernel)]
  rfl
theorem ex11_q35 : getV lin7 v11 g11 5 35 = (.agg #[.int .u64 0, .int .u64 0, .bool false], false) := by
  have c : cntb lin7 35 5 = 3 := by decide +kernel
  unfold getV
  rw [c, if_neg (by decide +kernel)]
theorem ex11_a1 : atV lin7 v11 g11 5 1 = (.agg #[.int .u64 20, .int .u64 2, .bool false], 0) := by
  unfold atV
  rw [if_pos (by decide)]
  rfl
theorem ex11_a5 : atV lin7 v11 g11 5 5 = (.agg #[.int .u64 0, .int .u64 0, .bool false], 1) := by
  unfold atV
  rw [if_neg (by decide)]
/-- The example's boxes. -/
def Sh (w3 : World) (bx by' bs : Nat) (W : World) : Prop := Gw w3 W ∧ W.heap[bx]? = some (.cells #[.int .u64 30, .int .u64 0, .bool true] 26 (0, 0)) ∧ W.heap[by']? = some (.cells #[.int .u64 20, .int .u64 2, .bool false] 26 (0, 0)) ∧ W.heap[bs]? = some (.cells #[.int .u64 10, .float .f64 4587366580439587226, .float .f64 4607182418800017408, .int .i64 0, .int .i64 5] 42 (0, 0))
theorem Sh.gw {w3 W W' : World} {bx by' bs : Nat} (h : Sh w3 bx by' bs W) (g : Gw W W') : Sh w3 bx by' bs W' :=
  ⟨h.1.trans g, (g.below.block bx (Array.getElem?_eq_some_iff.1 h.2.1).1).trans h.2.1, (g.below.block by' (Array.getElem?_eq_some_iff.1 h.2.2.1).1).trans h.2.2.1, (g.below.block bs (Array.getElem?_eq_some_iff.1 h.2.2.2).1).trans h.2.2.2⟩
theorem Sh.ent {w3 W : World} {bx by' bs : Nat} (h : Sh w3 bx by' bs W) : (W.cell? ⟨bx, 0, none⟩ = some (.int .u64 30) ∧ W.cell? ⟨bx, 1, none⟩ = some (.int .u64 0) ∧ W.cell? ⟨bx, 2, none⟩ = some (.bool true)) ∧ (W.cell? ⟨by', 0, none⟩ = some (.int .u64 20) ∧ W.cell? ⟨by', 1, none⟩ = some (.int .u64 2) ∧ W.cell? ⟨by', 2, none⟩ = some (.bool false)) := by
  refine ⟨⟨?_, ?_, ?_⟩, ?_, ?_, ?_⟩ <;> simp [World.cell?, h.2.1, h.2.2.1]
theorem Sh.seg {w3 W : World} {bx by' bs : Nat} (h : Sh w3 bx by' bs W) : W.cell? ⟨bs, 0, none⟩ = some (.int .u64 10) ∧ W.cell? ⟨bs, 1, none⟩ = some (.float .f64 4587366580439587226) ∧ W.cell? ⟨bs, 2, none⟩ = some (.float .f64 4607182418800017408) ∧ W.cell? ⟨bs, 4, none⟩ = some (.int .i64 5) := by
  refine ⟨?_, ?_, ?_, ?_⟩ <;> simp [World.cell?, h.2.2.2]
theorem es_one7 (w : World) : ES (w.alloc (.cells #[.int .u64 7, .int .u64 1, .bool false] 26)) (some ⟨w.heap.size, 0, none⟩) 1 (fun _ => 7) (fun _ => 1) (fun _ => false) := by
  refine ⟨fun _ => ⟨w.heap.size, 0, rfl, by simp, fun i hi => ?_⟩, fun i hi => ⟨by omega, by omega⟩⟩
  match i, hi with
  | 0, _ => simp [go_sem]
theorem vs_nil (w : World) (ao : Option Addr) : VS w ao [] := ⟨fun h => by simp at h⟩
set_option maxRecDepth 10000 in
set_option maxHeartbeats 4000000 in
theorem five11 (w : World) : Calls Tryz.prog 26 #[] w fun e w' => (∃ b, e = .returned (.slice (some ⟨b, 0, none⟩) 5 5) ∧ w.heap.size ≤ b ∧ ES w' (some ⟨b, 0, none⟩) 5 lin7 v11 g11) ∧ Gw w w' := by
  have X : Aside (ES (w.alloc (.cells #[.int .u64 10, .int .u64 1, .bool false, .int .u64 20, .int .u64 2, .bool false, .int .u64 30, .int .u64 0, .bool true, .int .u64 40, .int .u64 4, .bool false, .int .u64 50, .int .u64 5, .bool false] 26)) (some ⟨w.heap.size, 0, none⟩) 5 lin7 v11 g11) := es_five w
  go_enter Tryz.func26, Tryz.ntmps26
  go_wp2_with fail
  go_ret
  exact ⟨⟨_, rfl, Nat.le_refl _, X.out⟩, (Gw.refl w).alloc _ _⟩
set_option maxRecDepth 10000 in
set_option maxHeartbeats 4000000 in
theorem shown11 {HR : World → Nat → (Nat → Prop) → Int → (Nat → Int) → (Nat → Int) → (Nat → Bool) → Nat → List (List Sg) → Prop} (H : RunC HR) (w : World) : Calls Tryz.prog 9 #[] w fun e w' => e = .returned (.bool true) ∧ Gw w w' := by
  have HH : Aside (RunC HR) := H
  clear H
  go_enter Tryz.func9, Tryz.ntmps9
  go_wp2_with fail
  refine Calls.mono (five11 w) ?_
  rintro e w1 ⟨⟨b, rfl, hb, e1⟩, g1⟩
  have E1 : Aside (ES w1 (some ⟨b, 0, none⟩) 5 lin7 v11 g11) := e1
  have G1 : Aside (Gw w w1) := g1
  clear e1 g1 hb
  go_wp2_with fail
  refine Calls.mono (HH.out.new 2 _ 5 5 lin7 v11 g11 (by decide) (by decide) (by decide) (by decide) (by simp) w1 E1.out) ?_
  rintro e w2 ⟨⟨E, ne, x⟩, g2⟩
  have e0 := ne.one ex11_ok
  subst e0
  rcases x with ⟨x, _⟩ | ⟨_, p, S, L, rfl, hS, br, hr⟩
  · exact absurd rfl x
  have eL := ex11_build br
  subst eL
  have R2 : Aside (HR w2 p S 2 lin7 v11 g11 5 [[s11]]) := hr
  have G2 : Aside (Gw w w2) := G1.out.trans g2
  clear g2 ne hS br hr E1 G1
  go_wp2_with fail
  refine Calls.mono (HH.out.of 2 _ 1 1 (fun _ => 7) (fun _ => 1) (fun _ => false) _ 0 [] (by decide) (by decide) (by decide) (by decide) (by simp) ⟨by simp, fun i hi => by simp at hi⟩ (by simp) _ ((es_one7 w2).gw ((Gw.refl _).alloc _ _)) (vs_nil _ _)) ?_
  rintro e w3 ⟨⟨E, oe, x⟩, g3⟩
  have e0 := ex11_high oe
  subst e0
  rcases x with ⟨_, rfl⟩ | ⟨x, _⟩
  case inr => exact absurd x (by decide)
  have G3 : Aside (Gw w w3) := ((G2.out.alloc _ _).alloc _ _).trans g3
  have R3 : Aside (HR w3 p S 2 lin7 v11 g11 5 [[s11]]) := HH.out.gw R2.out ((((Gw.refl w2).alloc _ _).alloc _ _).trans g3)
  clear g3 oe G2 R2
  have Q30 : Hid (∀ W, Gw w3 W → Calls Tryz.prog 24 #[.pointer (some ⟨p, 0, none⟩), .int .u64 30] W fun e w' => e = .returned (.tuple #[.agg #[.int .u64 30, .int .u64 0, .bool true], .bool true]) ∧ Gw W w') := fun W g => by
    have := HH.out.get (HH.out.gw R3.out g) 30 (by decide) (by decide)
    rw [ex11_q30] at this
    exact this
  have Q35 : Hid (∀ W, Gw w3 W → Calls Tryz.prog 24 #[.pointer (some ⟨p, 0, none⟩), .int .u64 35] W fun e w' => e = .returned (.tuple #[.agg #[.int .u64 0, .int .u64 0, .bool false], .bool false]) ∧ Gw W w') := fun W g => by
    have := HH.out.get (HH.out.gw R3.out g) 35 (by decide) (by decide)
    rw [ex11_q35] at this
    exact this
  have A1 : Hid (∀ W, Gw w3 W → Calls Tryz.prog 23 #[.pointer (some ⟨p, 0, none⟩), .int .i64 1] W fun e w' => e = .returned (.tuple #[.agg #[.int .u64 20, .int .u64 2, .bool false], .int .i64 0]) ∧ Gw W w') := fun W g => by
    have := HH.out.at_ (HH.out.gw R3.out g) 1 (by decide) (by decide)
    rw [ex11_a1] at this
    exact this
  have A5 : Hid (∀ W, Gw w3 W → Calls Tryz.prog 23 #[.pointer (some ⟨p, 0, none⟩), .int .i64 5] W fun e w' => e = .returned (.tuple #[.agg #[.int .u64 0, .int .u64 0, .bool false], .int .i64 1]) ∧ Gw W w') := fun W g => by
    have := HH.out.at_ (HH.out.gw R3.out g) 5 (by decide) (by decide)
    rw [ex11_a5] at this
    exact this
  obtain ⟨pp, Sp, cp, hp, _⟩ := HH.out.pile R3.out
  have CP : Aside (w3.cell? ⟨p, 0, none⟩ = some (.pointer (some ⟨pp, 0, none⟩)) ∧ p < w3.heap.size ∧ HPile w3 pp Sp 2 lin7 5 [[s11]]) := ⟨cp, HH.out.lt R3.out p (HH.out.own R3.out), hp⟩
  have SE : Hid (∀ W, Gw w3 W → Calls Tryz.prog 27 #[.pointer (some ⟨pp, 0, none⟩), .int .i64 1, .int .i64 0] W fun e w' => e = .returned (.agg #[.int .u64 10, .float .f64 4587366580439587226, .float .f64 4607182418800017408, .int .i64 0, .int .i64 5]) ∧ Gw W w') := fun W g => by
    have := pl_seg (CP.out.2.2.keep fun q hq => g.below.block q (CP.out.2.2.lt q hq)) 1 0 (by decide) (by decide) (by decide) (by decide)
    exact this
  clear cp hp
  go_wp2_with fail
  refine Calls.mono (Q30.out _ (Gw.refl _)) ?_
  rintro e w4 ⟨rfl, g4⟩
  have G4 : Aside (Gw w3 w4) := g4
  clear g4 Q30
  have G4a : Aside (Gw w3 (w4.alloc (.cells #[.int .u64 30, .int .u64 0, .bool true] 26))) := G4.out.alloc _ _
  have X4 : Aside ((w4.alloc (.cells #[.int .u64 30, .int .u64 0, .bool true] 26)).heap[w4.heap.size]? = some (.cells #[.int .u64 30, .int .u64 0, .bool true] 26 (0, 0))) := heap_alloc_new w4 _
  go_wp2_with fail
  obtain ⟨bx, hbx⟩ : ∃ bx, w4.heap.size = bx := ⟨_, rfl⟩
  rw [hbx] at X4 ⊢
  generalize w4.alloc (.cells #[.int .u64 30, .int .u64 0, .bool true] 26) = w4a at G4a X4 ⊢
  clear G4 hbx
  refine Calls.mono (Q35.out _ G4a.out) ?_
  rintro e w5 ⟨rfl, g5⟩
  have g5 := g5.alloc #[.int .u64 0, .int .u64 0, .bool false] 26
  have G5 : Aside (Gw w3 (w5.alloc (.cells #[.int .u64 0, .int .u64 0, .bool false] 26))) := G4a.out.trans g5
  have X5 : Aside ((w5.alloc (.cells #[.int .u64 0, .int .u64 0, .bool false] 26)).heap[bx]? = some (.cells #[.int .u64 30, .int .u64 0, .bool true] 26 (0, 0))) := (g5.below.block bx (Array.getElem?_eq_some_iff.1 X4.out).1).trans X4.out
  clear g5 G4a X4 Q35
  go_wp2_with fail
  refine Calls.mono (A1.out _ G5.out) ?_
  rintro e w6 ⟨rfl, g6⟩
  have G6 : Aside (Gw w3 (w6.alloc (.cells #[.int .u64 20, .int .u64 2, .bool false] 26))) := (G5.out.trans g6).alloc _ _
  have X6 : Aside ((w6.alloc (.cells #[.int .u64 20, .int .u64 2, .bool false] 26)).heap[bx]? = some (.cells #[.int .u64 30, .int .u64 0, .bool true] 26 (0, 0))) := (((g6.alloc _ _).below.block bx (Array.getElem?_eq_some_iff.1 X5.out).1)).trans X5.out
  have Y6 : Aside ((w6.alloc (.cells #[.int .u64 20, .int .u64 2, .bool false] 26)).heap[w6.heap.size]? = some (.cells #[.int .u64 20, .int .u64 2, .bool false] 26 (0, 0))) := heap_alloc_new w6 _
  clear g6 G5 X5 A1
  go_wp2_with fail
  obtain ⟨by', hby⟩ : ∃ bx, w6.heap.size = bx := ⟨_, rfl⟩
  rw [hby] at Y6 ⊢
  generalize w6.alloc (.cells #[.int .u64 20, .int .u64 2, .bool false] 26) = w6a at G6 X6 Y6 ⊢
  clear hby
  refine Calls.mono (A5.out _ G6.out) ?_
  rintro e w7 ⟨rfl, g7⟩
  have g7 := g7.alloc #[.int .u64 0, .int .u64 0, .bool false] 26
  have G7 : Aside (Gw w3 (w7.alloc (.cells #[.int .u64 0, .int .u64 0, .bool false] 26))) := G6.out.trans g7
  have X7 : Aside ((w7.alloc (.cells #[.int .u64 0, .int .u64 0, .bool false] 26)).heap[bx]? = some (.cells #[.int .u64 30, .int .u64 0, .bool true] 26 (0, 0))) := (g7.below.block bx (Array.getElem?_eq_some_iff.1 X6.out).1).trans X6.out
  have Y7 : Aside ((w7.alloc (.cells #[.int .u64 0, .int .u64 0, .bool false] 26)).heap[by']? = some (.cells #[.int .u64 20, .int .u64 2, .bool false] 26 (0, 0))) := (g7.below.block by' (Array.getElem?_eq_some_iff.1 Y6.out).1).trans Y6.out
  have cp7 : (w7.alloc (.cells #[.int .u64 0, .int .u64 0, .bool false] 26)).cell? ⟨p, 0, none⟩ = some (.pointer (some ⟨pp, 0, none⟩)) := (G7.out.cell _ _ CP.out.2.1).trans CP.out.1
  clear g7 G6 X6 Y6 A5
  go_wp2_with fail
  refine Calls.mono (SE.out _ G7.out) ?_
  rintro e w8 ⟨rfl, g8⟩
  have G8 : Aside (Gw w3 (w8.alloc (.cells #[.int .u64 10, .float .f64 4587366580439587226, .float .f64 4607182418800017408, .int .i64 0, .int .i64 5] 42))) := (G7.out.trans g8).alloc _ _
  have X8 : Aside ((w8.alloc (.cells #[.int .u64 10, .float .f64 4587366580439587226, .float .f64 4607182418800017408, .int .i64 0, .int .i64 5] 42)).heap[bx]? = some (.cells #[.int .u64 30, .int .u64 0, .bool true] 26 (0, 0))) := (((g8.alloc _ _).below.block bx (Array.getElem?_eq_some_iff.1 X7.out).1)).trans X7.out
  have Y8 : Aside ((w8.alloc (.cells #[.int .u64 10, .float .f64 4587366580439587226, .float .f64 4607182418800017408, .int .i64 0, .int .i64 5] 42)).heap[by']? = some (.cells #[.int .u64 20, .int .u64 2, .bool false] 26 (0, 0))) := (((g8.alloc _ _).below.block by' (Array.getElem?_eq_some_iff.1 Y7.out).1)).trans Y7.out
  have S8 : Aside ((w8.alloc (.cells #[.int .u64 10, .float .f64 4587366580439587226, .float .f64 4607182418800017408, .int .i64 0, .int .i64 5] 42)).heap[w8.heap.size]? = some (.cells #[.int .u64 10, .float .f64 4587366580439587226, .float .f64 4607182418800017408, .int .i64 0, .int .i64 5] 42 (0, 0))) := heap_alloc_new w8 _
  clear g8 G7 X7 Y7 SE cp7
  have KP : Hid (∀ W, Gw w3 W → HPile W pp Sp 2 lin7 5 [[s11]]) := fun W g => CP.out.2.2.keep fun q hq => g.below.block q (CP.out.2.2.lt q hq)
  have LE : Hid (∀ W, Gw w3 W → Calls Tryz.prog 28 #[.pointer (some ⟨p, 0, none⟩)] W fun e w' => e = .returned (.int .i64 5) ∧ Gw W w') := fun W g => HH.out.len (HH.out.gw R3.out g)
  have RK : Hid (∀ W, Gw w3 W → Calls Tryz.prog 25 #[.pointer (some ⟨p, 0, none⟩), .int .u64 35] W fun e w' => e = .returned (.int .i64 3) ∧ Gw W w') := fun W g => by
    have := HH.out.rank (HH.out.gw R3.out g) 35 (by decide) (by decide)
    rw [show cntb lin7 35 5 = 3 by decide +kernel] at this
    exact this
  have HT : Hid (∀ W, Gw w3 W → Calls Tryz.prog 29 #[.pointer (some ⟨pp, 0, none⟩)] W fun e w' => e = .returned (.int .i64 1) ∧ Gw W w') := fun W g => (pl_height (KP.out W g)).mono fun e w' ⟨a, b⟩ => ⟨a, b ▸ Gw.refl _⟩
  have S1 : Hid (∀ W, Gw w3 W → Calls Tryz.prog 30 #[.pointer (some ⟨pp, 0, none⟩), .int .i64 1] W fun e w' => e = .returned (.int .i64 1) ∧ Gw W w') := fun W g => (pl_size (KP.out W g) 1 (by decide) (by decide)).mono fun e w' ⟨a, b⟩ => ⟨a, b ▸ Gw.refl _⟩
  have S2 : Hid (∀ W, Gw w3 W → Calls Tryz.prog 30 #[.pointer (some ⟨pp, 0, none⟩), .int .i64 2] W fun e w' => e = .returned (.int .i64 0) ∧ Gw W w') := fun W g => (pl_size (KP.out W g) 2 (by decide) (by decide)).mono fun e w' ⟨a, b⟩ => ⟨a, b ▸ Gw.refl _⟩
  have KY : Hid (∀ W, Gw w3 W → Calls Tryz.prog 31 #[.pointer (some ⟨pp, 0, none⟩), .int .i64 0, .int .i64 4] W fun e w' => e = .returned (.int .u64 50) ∧ Gw W w') := fun W g => pl_key (KP.out W g) 0 4 (by decide) (by decide) (by decide) (by decide)
  have CL : Hid (∀ W, Gw w3 W → W.cell? ⟨p, 0, none⟩ = some (.pointer (some ⟨pp, 0, none⟩)) ∧ p < W.heap.size) := fun W g => ⟨(g.cell _ _ CP.out.2.1).trans CP.out.1, Nat.lt_of_lt_of_le CP.out.2.1 g.size⟩
  have f1 : (FloatKind.f64.format.order 4587366580439587226 4587366580439587226 == some .eq) = true := by decide +kernel
  have f2 : (FloatKind.f64.format.order 4607182418800017408 4607182418800017408 == some .eq) = true := by decide +kernel
  obtain ⟨bs, hbs⟩ : ∃ bs, w8.heap.size = bs := ⟨_, rfl⟩
  rw [hbs] at S8
  have SH : Aside (Sh w3 bx by' bs (w8.alloc (.cells #[.int .u64 10, .float .f64 4587366580439587226, .float .f64 4607182418800017408, .int .i64 0, .int .i64 5] 42))) := ⟨G8.out, X8.out, Y8.out, S8.out⟩
  clear X8 Y8 S8 G8 KP
  go_wp2_with fail
  generalize w8.alloc (.cells #[.int .u64 10, .float .f64 4587366580439587226, .float .f64 4607182418800017408, .int .i64 0, .int .i64 5] 42) = w8a at SH ⊢
  clear hbs
  refine Calls.mono (LE.out _ SH.out.1) ?_
  rintro e w9 ⟨rfl, g⟩
  have SH2 : Aside (Sh w3 bx by' bs w9) := SH.out.gw g
  clear g SH
  have SH := SH2
  clear SH2
  obtain ⟨cp1, cp2⟩ := CL.out _ SH.out.1
  go_wp2_with fail
  clear cp1 cp2
  refine Calls.mono (HT.out _ SH.out.1) ?_
  rintro e w10 ⟨rfl, g⟩
  have SH2 : Aside (Sh w3 bx by' bs w10) := SH.out.gw g
  clear g SH
  have SH := SH2
  clear SH2
  obtain ⟨cp1, cp2⟩ := CL.out _ SH.out.1
  go_wp2_with fail
  clear cp1 cp2
  refine Calls.mono (S1.out _ SH.out.1) ?_
  rintro e w11 ⟨rfl, g⟩
  have SH2 : Aside (Sh w3 bx by' bs w11) := SH.out.gw g
  clear g SH
  have SH := SH2
  clear SH2
  obtain ⟨cp1, cp2⟩ := CL.out _ SH.out.1
  go_wp2_with fail
  clear cp1 cp2
  refine Calls.mono (S2.out _ SH.out.1) ?_
  rintro e w12 ⟨rfl, g⟩
  have SH2 : Aside (Sh w3 bx by' bs w12) := SH.out.gw g
  clear g SH
  have SH := SH2
  clear SH2
  obtain ⟨cp1, cp2⟩ := CL.out _ SH.out.1
  go_wp2_with fail
  clear cp1 cp2
  refine Calls.mono (RK.out _ SH.out.1) ?_
  rintro e w13 ⟨rfl, g⟩
  have SH2 : Aside (Sh w3 bx by' bs w13) := SH.out.gw g
  clear g SH
  have SH := SH2
  clear SH2
  obtain ⟨cp1, cp2⟩ := CL.out _ SH.out.1
  obtain ⟨⟨x0, x1, x2⟩, y0, y1, y2⟩ := SH.out.ent
  go_wp2_with fail
  clear cp1 cp2 x0 x1 x2 y0 y1 y2
  refine Calls.mono (KY.out _ SH.out.1) ?_
  rintro e w14 ⟨rfl, g⟩
  have SH2 : Aside (Sh w3 bx by' bs w14) := SH.out.gw g
  clear g SH
  have SH := SH2
  clear SH2
  obtain ⟨z0, z1, z2, z4⟩ := SH.out.seg
  go_wp2_with fail
  go_ret
  exact ⟨rfl, G3.out.trans SH.out.1⟩

end Go.Proofs.YtdikiaeagcokdaaGreat
