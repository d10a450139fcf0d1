/- The document's own product. -/
import Derived.Test.YtapjipinceoaoaaNMul
namespace Go.Proofs.Ytapjipinceoaoaa
open Go.RowKit
set_option linter.unusedVariables false

attribute [local go_sem] frozen?_alloc_cells frozen?_new setCell_drewN alloc_drewN World.drewN_drewN

theorem rOf_any (n : Int) (h0 : -9223372036854775808 ≤ n) (h1 : n < 9223372036854775808) (w : World) :
    Calls Try.prog 88 #[.int .i64 n] w fun e w' => e = .returned (.agg #[.int .i64 (hiv (n)), .int .u64 (lov (n))]) ∧ Gk 1 w w' := by
  have e2 : IntKind.u64.wrap n = lov n := by unfold lov; rw [IntKind.wrap_u64]
  by_cases hn : n < 0
  · have e1 : hiv n = -1 := by unfold hiv; omega
    go_enter Try.func88, Try.ntmps88
    go_wp2
    refine bodyPost_ret (v := .agg #[.int .i64 (hiv (n)), .int .u64 (lov (n))]) (by simp [results, Try.results88, go_sem, e1]) rfl ⟨rfl, (Gb.refl _).alloc _ _, by simp⟩
  · have e1 : hiv n = 0 := by unfold hiv; omega
    have e3 : lov n = n := by unfold lov; omega
    clear e2
    rw [e1, e3]
    clear e1 e3
    go_enter Try.func88, Try.ntmps88
    go_wp2
    refine bodyPost_ret (v := .agg #[.int .i64 0, .int .u64 n]) (by simp [results, Try.results88, go_sem]) rfl ⟨rfl, (Gb.refl _).alloc _ _, by simp⟩

theorem rof_z (h l x : Int) (e1 : h = hiv x) (e2 : l = lov x) (w : World) :
    Calls Try.prog 83 #[.agg #[.int .i64 h, .int .u64 l]] w fun e w' => e = .returned (.agg #[.int .i64 (dg (x) 0), .int .i64 (dg (x) 1), .int .i64 (dg (x) 2), .int .i64 (dg (x) 3), .int .i64 (dg (x) 4), .int .i64 (dg (x) 5), .int .i64 (dg (x) 6), .int .i64 (dg (x) 7)]) ∧ Gk 3 w w' := by
  subst e1 e2; exact rof_any x w

structure TS (w w' : World) (bx bY : Nat) (x y : Int) : Prop where
  gb : Gb w w'
  qx : H8 w' bx x
  qy : H8 w' bY y
  nx : w.heap.size ≠ bx
  ny : w.heap.size ≠ bY
theorem TS.gb' {w w' w'' : World} {bx bY : Nat} {x y : Int} (h : TS w w' bx bY x y) (g : Gb w' w'') : TS w w'' bx bY x y :=
  ⟨h.gb.trans g, h.qx.gb g, h.qy.gb g, h.nx, h.ny⟩
theorem TS.set {w w' : World} {bx bY : Nat} {x y : Int} (h : TS w w' bx bY x y) (u v : Value) : TS w ((w'.setCell ⟨w.heap.size, 0, none⟩ u).setCell ⟨w.heap.size, 1, none⟩ v) bx bY x y :=
  ⟨(h.gb.setCell (Nat.le_refl _) _).setCell (Nat.le_refl _) _, (h.qx.far _ (Ne.symm h.nx)).far _ (Ne.symm h.nx), (h.qy.far _ (Ne.symm h.ny)).far _ (Ne.symm h.ny), h.nx, h.ny⟩

set_option maxRecDepth 10000 in
set_option maxHeartbeats 4000000 in
theorem rtimes_any (a b : Int) (h0 : -9223372036854775808 ≤ a) (h1 : a < 9223372036854775808) (b0 : 0 ≤ b) (b1 : b < 18446744073709551616) (w : World) :
    Calls Try.prog 76 #[.int .i64 a, .int .u64 b] w fun e w' => e = .returned (.agg #[.int .i64 (hiv (a * b)), .int .u64 (lov (a * b))]) ∧ Gb w w' := by
  have hb : 0 = hiv b := by unfold hiv; omega
  have lb : b = lov b := by unfold lov; omega
  have HB : Hid (0 = hiv b) := hb
  have LB : Hid (b = lov b) := lb
  clear hb lb
  have eN : -(-a * b) = a * b := by rw [Int.neg_mul, Int.neg_neg]
  by_cases hn : a < 0
  · go_enter Try.func76, Try.ntmps76
    go_wp2_with fail
    refine (rOf_any a h0 h1 _).mono ?_
    rintro e w1 ⟨rfl, g1⟩
    have q := (H2.new w (.int .i64 0) (.int .u64 0) 124).gb g1.gb
    go_wp2_with fail
    refine (rof_any a _).mono ?_
    rintro e w2 ⟨rfl, g2⟩
    have qx := H8.new w2 a 134
    replace q := (q.gb g2.gb).alloc (.cells #[.int .i64 (dg a 0), .int .i64 (dg a 1), .int .i64 (dg a 2), .int .i64 (dg a 3), .int .i64 (dg a 4), .int .i64 (dg a 5), .int .i64 (dg a 6), .int .i64 (dg a 7)] 134)
    go_wp2_with fail
    refine (rof_z 0 b b HB.out LB.out _).mono ?_
    rintro e w3 ⟨rfl, g3⟩
    replace qx := (qx.gb g3.gb).alloc #[.int .i64 (dg b 0), .int .i64 (dg b 1), .int .i64 (dg b 2), .int .i64 (dg b 3), .int .i64 (dg b 4), .int .i64 (dg b 5), .int .i64 (dg b 6), .int .i64 (dg b 7)] 134
    replace q := (q.gb g3.gb).alloc (.cells #[.int .i64 (dg b 0), .int .i64 (dg b 1), .int .i64 (dg b 2), .int .i64 (dg b 3), .int .i64 (dg b 4), .int .i64 (dg b 5), .int .i64 (dg b 6), .int .i64 (dg b 7)] 134)
    have qy := H8.new w3 b 134
    have GV : Hid (Gb w (w3.alloc (.cells #[.int .i64 (dg b 0), .int .i64 (dg b 1), .int .i64 (dg b 2), .int .i64 (dg b 3), .int .i64 (dg b 4), .int .i64 (dg b 5), .int .i64 (dg b 6), .int .i64 (dg b 7)] 134))) := ((((((Gb.refl w).alloc _ _).trans g1.gb).trans g2.gb).alloc _ _).trans g3.gb).alloc _ _
    have neX : w.heap.size ≠ w2.heap.size := by (have h1 := g1.grew; have h2 := g2.grew; simp at h1 h2; omega)
    have neY : w.heap.size ≠ w3.heap.size := by (have h1 := g1.grew; have h2 := g2.grew; have h3 := g3.grew; simp at h1 h2 h3; omega)
    clear g1 g2 g3 HB LB
    go_wp2_with fail
    generalize w3.alloc (.cells #[.int .i64 (dg b 0), .int .i64 (dg b 1), .int .i64 (dg b 2), .int .i64 (dg b 3), .int .i64 (dg b 4), .int .i64 (dg b 5), .int .i64 (dg b 6), .int .i64 (dg b 7)] 134) = V at q qx qy GV ⊢
    have q0 := q.c0
    have q1 := q.c1
    have q2 := q.drew
    have q3 : ∀ o, w.frozen? ⟨w.heap.size, o, none⟩ = false := fun o => frozen?_new w _ o (Nat.le_refl _)
    have q4 := GV.out.frozen
    try simp only [frozen?_alloc_cells] at q4
    have TS0 : Hid (TS w V w2.heap.size w3.heap.size a b) := ⟨GV.out, qx, qy, neX, neY⟩
    have HK : Hid (∀ w', TS w w' w2.heap.size w3.heap.size a b → TS w w' w2.heap.size w3.heap.size a b ∧ w'.cell? ⟨w2.heap.size, 0, none⟩ = some (.int .i64 (dg a 0)) ∧ w'.cell? ⟨w2.heap.size, 1, none⟩ = some (.int .i64 (dg a 1)) ∧ w'.cell? ⟨w2.heap.size, 2, none⟩ = some (.int .i64 (dg a 2)) ∧ w'.cell? ⟨w2.heap.size, 3, none⟩ = some (.int .i64 (dg a 3)) ∧ w'.cell? ⟨w2.heap.size, 4, none⟩ = some (.int .i64 (dg a 4)) ∧ w'.cell? ⟨w2.heap.size, 5, none⟩ = some (.int .i64 (dg a 5)) ∧ w'.cell? ⟨w2.heap.size, 6, none⟩ = some (.int .i64 (dg a 6)) ∧ w'.cell? ⟨w2.heap.size, 7, none⟩ = some (.int .i64 (dg a 7)) ∧ w'.cell? ⟨w3.heap.size, 0, none⟩ = some (.int .i64 (dg b 0)) ∧ w'.cell? ⟨w3.heap.size, 1, none⟩ = some (.int .i64 (dg b 1)) ∧ w'.cell? ⟨w3.heap.size, 2, none⟩ = some (.int .i64 (dg b 2)) ∧ w'.cell? ⟨w3.heap.size, 3, none⟩ = some (.int .i64 (dg b 3)) ∧ w'.cell? ⟨w3.heap.size, 4, none⟩ = some (.int .i64 (dg b 4)) ∧ w'.cell? ⟨w3.heap.size, 5, none⟩ = some (.int .i64 (dg b 5)) ∧ w'.cell? ⟨w3.heap.size, 6, none⟩ = some (.int .i64 (dg b 6)) ∧ w'.cell? ⟨w3.heap.size, 7, none⟩ = some (.int .i64 (dg b 7))) := fun w' h => ⟨h, h.qx.c 0 (by decide), h.qx.c 1 (by decide), h.qx.c 2 (by decide), h.qx.c 3 (by decide), h.qx.c 4 (by decide), h.qx.c 5 (by decide), h.qx.c 6 (by decide), h.qx.c 7 (by decide), h.qy.c 0 (by decide), h.qy.c 1 (by decide), h.qy.c 2 (by decide), h.qy.c 3 (by decide), h.qy.c 4 (by decide), h.qy.c 5 (by decide), h.qy.c 6 (by decide), h.qy.c 7 (by decide)⟩
    clear qx qy
    go_region_held3 (fun w' => TS w w' w2.heap.size w3.heap.size a b ∧ w'.cell? ⟨w2.heap.size, 0, none⟩ = some (.int .i64 (dg a 0)) ∧ w'.cell? ⟨w2.heap.size, 1, none⟩ = some (.int .i64 (dg a 1)) ∧ w'.cell? ⟨w2.heap.size, 2, none⟩ = some (.int .i64 (dg a 2)) ∧ w'.cell? ⟨w2.heap.size, 3, none⟩ = some (.int .i64 (dg a 3)) ∧ w'.cell? ⟨w2.heap.size, 4, none⟩ = some (.int .i64 (dg a 4)) ∧ w'.cell? ⟨w2.heap.size, 5, none⟩ = some (.int .i64 (dg a 5)) ∧ w'.cell? ⟨w2.heap.size, 6, none⟩ = some (.int .i64 (dg a 6)) ∧ w'.cell? ⟨w2.heap.size, 7, none⟩ = some (.int .i64 (dg a 7)) ∧ w'.cell? ⟨w3.heap.size, 0, none⟩ = some (.int .i64 (dg b 0)) ∧ w'.cell? ⟨w3.heap.size, 1, none⟩ = some (.int .i64 (dg b 1)) ∧ w'.cell? ⟨w3.heap.size, 2, none⟩ = some (.int .i64 (dg b 2)) ∧ w'.cell? ⟨w3.heap.size, 3, none⟩ = some (.int .i64 (dg b 3)) ∧ w'.cell? ⟨w3.heap.size, 4, none⟩ = some (.int .i64 (dg b 4)) ∧ w'.cell? ⟨w3.heap.size, 5, none⟩ = some (.int .i64 (dg b 5)) ∧ w'.cell? ⟨w3.heap.size, 6, none⟩ = some (.int .i64 (dg b 6)) ∧ w'.cell? ⟨w3.heap.size, 7, none⟩ = some (.int .i64 (dg b 7)))
      ((refine HK.out _ ?_; first | exact TS0.out.gb' (Gb.refl V).drew | exact TS.gb' (And.left (by assumption)) (Gk.gb (by assumption)) | exact TS.gb' (And.left (by assumption)) (by assumption) | exact TS.set (And.left (by assumption)) _ _))
      (first
        | (go_at_call 85; refine (less_any _ _).mono ?_; rintro e w4 ⟨rfl, g4⟩; have f4 := g4.gb.frozen; have r4 := H2.gb (by assumption) g4.gb; have c4 := r4.c0; have c5 := r4.c1)
        | (go_at_call 89; refine (times_num _ _ _).mono ?_; rintro e w4 ⟨rfl, g4⟩; have f4 := g4.frozen; have r4 := H2.gb (by assumption) g4; have c4 := r4.c0; have c5 := r4.c1)
        | (go_at_call 86; refine (told_any _ _).mono ?_; rintro e w4 ⟨rfl, g4⟩; have f4 := g4.gb.frozen; have r4 := H2.gb (by assumption) g4.gb; have c4 := r4.c0; have c5 := r4.c1))
    go_wp2
    have G : Gb w _ := TS.gb (And.left (by assumption))
    refine bodyPost_ret (v := .agg #[.int .i64 (hiv (a * b)), .int .u64 (lov (a * b))]) (by simp [results, Try.results76, go_sem, *]) rfl ⟨rfl, G⟩
  · go_enter Try.func76, Try.ntmps76
    go_wp2_with fail
    refine (rOf_any a h0 h1 _).mono ?_
    rintro e w1 ⟨rfl, g1⟩
    have q := (H2.new w (.int .i64 0) (.int .u64 0) 124).gb g1.gb
    go_wp2_with fail
    refine (rof_any a _).mono ?_
    rintro e w2 ⟨rfl, g2⟩
    have qx := H8.new w2 a 134
    replace q := (q.gb g2.gb).alloc (.cells #[.int .i64 (dg a 0), .int .i64 (dg a 1), .int .i64 (dg a 2), .int .i64 (dg a 3), .int .i64 (dg a 4), .int .i64 (dg a 5), .int .i64 (dg a 6), .int .i64 (dg a 7)] 134)
    go_wp2_with fail
    refine (rof_z 0 b b HB.out LB.out _).mono ?_
    rintro e w3 ⟨rfl, g3⟩
    replace qx := (qx.gb g3.gb).alloc #[.int .i64 (dg b 0), .int .i64 (dg b 1), .int .i64 (dg b 2), .int .i64 (dg b 3), .int .i64 (dg b 4), .int .i64 (dg b 5), .int .i64 (dg b 6), .int .i64 (dg b 7)] 134
    replace q := (q.gb g3.gb).alloc (.cells #[.int .i64 (dg b 0), .int .i64 (dg b 1), .int .i64 (dg b 2), .int .i64 (dg b 3), .int .i64 (dg b 4), .int .i64 (dg b 5), .int .i64 (dg b 6), .int .i64 (dg b 7)] 134)
    have qy := H8.new w3 b 134
    have GV : Hid (Gb w (w3.alloc (.cells #[.int .i64 (dg b 0), .int .i64 (dg b 1), .int .i64 (dg b 2), .int .i64 (dg b 3), .int .i64 (dg b 4), .int .i64 (dg b 5), .int .i64 (dg b 6), .int .i64 (dg b 7)] 134))) := ((((((Gb.refl w).alloc _ _).trans g1.gb).trans g2.gb).alloc _ _).trans g3.gb).alloc _ _
    have neX : w.heap.size ≠ w2.heap.size := by (have h1 := g1.grew; have h2 := g2.grew; simp at h1 h2; omega)
    have neY : w.heap.size ≠ w3.heap.size := by (have h1 := g1.grew; have h2 := g2.grew; have h3 := g3.grew; simp at h1 h2 h3; omega)
    clear g1 g2 g3 HB LB
    have q0 := q.c0
    have q1 := q.c1
    have q2 := q.drew
    have q3 : ∀ o, w.frozen? ⟨w.heap.size, o, none⟩ = false := fun o => frozen?_new w _ o (Nat.le_refl _)
    have q4 := GV.out.frozen
    try simp only [frozen?_alloc_cells] at q4
    have TS0 : Hid (TS w (w3.alloc (.cells #[.int .i64 (dg b 0), .int .i64 (dg b 1), .int .i64 (dg b 2), .int .i64 (dg b 3), .int .i64 (dg b 4), .int .i64 (dg b 5), .int .i64 (dg b 6), .int .i64 (dg b 7)] 134)) w2.heap.size w3.heap.size a b) := ⟨GV.out, qx, qy, neX, neY⟩
    have HK : Hid (∀ w', TS w w' w2.heap.size w3.heap.size a b → TS w w' w2.heap.size w3.heap.size a b ∧ w'.cell? ⟨w2.heap.size, 0, none⟩ = some (.int .i64 (dg a 0)) ∧ w'.cell? ⟨w2.heap.size, 1, none⟩ = some (.int .i64 (dg a 1)) ∧ w'.cell? ⟨w2.heap.size, 2, none⟩ = some (.int .i64 (dg a 2)) ∧ w'.cell? ⟨w2.heap.size, 3, none⟩ = some (.int .i64 (dg a 3)) ∧ w'.cell? ⟨w2.heap.size, 4, none⟩ = some (.int .i64 (dg a 4)) ∧ w'.cell? ⟨w2.heap.size, 5, none⟩ = some (.int .i64 (dg a 5)) ∧ w'.cell? ⟨w2.heap.size, 6, none⟩ = some (.int .i64 (dg a 6)) ∧ w'.cell? ⟨w2.heap.size, 7, none⟩ = some (.int .i64 (dg a 7)) ∧ w'.cell? ⟨w3.heap.size, 0, none⟩ = some (.int .i64 (dg b 0)) ∧ w'.cell? ⟨w3.heap.size, 1, none⟩ = some (.int .i64 (dg b 1)) ∧ w'.cell? ⟨w3.heap.size, 2, none⟩ = some (.int .i64 (dg b 2)) ∧ w'.cell? ⟨w3.heap.size, 3, none⟩ = some (.int .i64 (dg b 3)) ∧ w'.cell? ⟨w3.heap.size, 4, none⟩ = some (.int .i64 (dg b 4)) ∧ w'.cell? ⟨w3.heap.size, 5, none⟩ = some (.int .i64 (dg b 5)) ∧ w'.cell? ⟨w3.heap.size, 6, none⟩ = some (.int .i64 (dg b 6)) ∧ w'.cell? ⟨w3.heap.size, 7, none⟩ = some (.int .i64 (dg b 7))) := fun w' h => ⟨h, h.qx.c 0 (by decide), h.qx.c 1 (by decide), h.qx.c 2 (by decide), h.qx.c 3 (by decide), h.qx.c 4 (by decide), h.qx.c 5 (by decide), h.qx.c 6 (by decide), h.qx.c 7 (by decide), h.qy.c 0 (by decide), h.qy.c 1 (by decide), h.qy.c 2 (by decide), h.qy.c 3 (by decide), h.qy.c 4 (by decide), h.qy.c 5 (by decide), h.qy.c 6 (by decide), h.qy.c 7 (by decide)⟩
    clear qx qy
    obtain ⟨_, t0, t1, t2, t3, t4, t5, t6, t7, t8, t9, t10, t11, t12, t13, t14, t15⟩ := HK.out _ TS0.out
    go_wp2_with (first
      | (go_at_call 85; refine (less_any _ _).mono ?_; rintro e w4 ⟨rfl, g4⟩; have f4 := g4.gb.frozen; have r4 := H2.gb (by assumption) g4.gb; have c4 := r4.c0; have c5 := r4.c1)
      | (go_at_call 89; refine (times_num _ _ _).mono ?_; rintro e w4 ⟨rfl, g4⟩; have f4 := g4.frozen; have r4 := H2.gb (by assumption) g4; have c4 := r4.c0; have c5 := r4.c1)
      | (go_at_call 86; refine (told_any _ _).mono ?_; rintro e w4 ⟨rfl, g4⟩; have f4 := g4.gb.frozen; have r4 := H2.gb (by assumption) g4.gb; have c4 := r4.c0; have c5 := r4.c1))
    refine bodyPost_ret (v := .agg #[.int .i64 (hiv (a * b)), .int .u64 (lov (a * b))]) (by simp [results, Try.results76, go_sem, *]) rfl ⟨rfl, ?_⟩
    refine Gb.setCell (Gb.setCell ?_ (Nat.le_refl _) _) (Nat.le_refl _) _
    repeat (first | exact GV.out | refine Gb.trans ?_ (Gk.gb (by assumption)) | refine Gb.trans ?_ (by assumption))

end Go.Proofs.Ytapjipinceoaoaa
