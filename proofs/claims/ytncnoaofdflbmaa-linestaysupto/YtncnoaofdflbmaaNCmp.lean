/- The document's own comparison. -/
import Derived.Test.YtncnoaofdflbmaaNSums
namespace Go.Proofs.Ytncnoaofdflbmaa
open Go.RowKit
set_option linter.unusedVariables false

attribute [local go_sem] frozen?_alloc_cells frozen?_new setCell_drewN alloc_drewN World.drewN_drewN

set_option maxRecDepth 10000 in
set_option maxHeartbeats 4000000 in
theorem rcmp_any (x y : Int) (w : World) :
    Calls Try.prog 33 #[.agg #[.int .i64 (hiv (x)), .int .u64 (lov (x))], .agg #[.int .i64 (hiv (y)), .int .u64 (lov (y))]] w fun e w' => e = .returned (.int .i64 (cmpi (sv x) (sv y))) ∧ Gb w w' := by
  have bx := below_dg x
  have bY := below_dg y
  obtain ⟨z, hz⟩ : ∃ z, Hid (cmpi (sv x) (sv y) = z) := ⟨_, rfl⟩
  rw [hz.out]
  go_enter Try.func33, Try.ntmps33
  go_wp2_with fail
  have qy := H2.new (w.alloc (.cells #[.int .i64 (hiv x), .int .u64 (lov x)] 61)) (.int .i64 (hiv y)) (.int .u64 (lov y)) 61
  refine (rof_any _ _).mono ?_
  rintro e w1 ⟨rfl, g1⟩
  replace qy := (((qy.gb g1.gb).at (w.heap.size + 1) (by simp)).alloc (.cells #[.int .i64 (dg x 0), .int .i64 (dg x 1), .int .i64 (dg x 2), .int .i64 (dg x 3), .int .i64 (dg x 4), .int .i64 (dg x 5), .int .i64 (dg x 6), .int .i64 (dg x 7)] 85))
  obtain ⟨y1, y2, y3⟩ := qy
  have q := H8.new w1 x 85
  have G := ((((Gb.refl w).alloc #[.int .i64 (hiv x), .int .u64 (lov x)] 61).alloc #[.int .i64 (hiv y), .int .u64 (lov y)] 61).trans g1.gb).alloc #[.int .i64 (dg x 0), .int .i64 (dg x 1), .int .i64 (dg x 2), .int .i64 (dg x 3), .int .i64 (dg x 4), .int .i64 (dg x 5), .int .i64 (dg x 6), .int .i64 (dg x 7)] 85
  go_wp2_with fail
  refine (rof_any _ _).mono ?_
  rintro e w2 ⟨rfl, g2⟩
  replace q := (q.gb g2.gb).alloc #[.int .i64 (dg y 0), .int .i64 (dg y 1), .int .i64 (dg y 2), .int .i64 (dg y 3), .int .i64 (dg y 4), .int .i64 (dg y 5), .int .i64 (dg y 6), .int .i64 (dg y 7)] 85
  have r := H8.new w2 y 85
  replace G := (G.trans g2.gb).alloc #[.int .i64 (dg y 0), .int .i64 (dg y 1), .int .i64 (dg y 2), .int .i64 (dg y 3), .int .i64 (dg y 4), .int .i64 (dg y 5), .int .i64 (dg y 6), .int .i64 (dg y 7)] 85
  clear y1 y2 y3 g1 g2
  go_wp2_with fail
  obtain ⟨V, hV⟩ : ∃ V, Hid (w2.alloc (.cells #[.int .i64 (dg y 0), .int .i64 (dg y 1), .int .i64 (dg y 2), .int .i64 (dg y 3), .int .i64 (dg y 4), .int .i64 (dg y 5), .int .i64 (dg y 6), .int .i64 (dg y 7)] 85) = V) := ⟨_, rfl⟩
  rw [hV.out] at q r G ⊢
  clear hV
  have E1 : ∀ k, k < 8 → ∀ g : GW V, g.1.cell? ⟨w1.heap.size, k, none⟩ = some (.int .i64 (dg x k)) := fun k hk => GW.cell (q.c k hk) q.lt
  have E2 : ∀ k, k < 8 → ∀ g : GW V, g.1.cell? ⟨w2.heap.size, k, none⟩ = some (.int .i64 (dg y k)) := fun k hk => GW.cell (r.c k hk) r.lt
  have ne := GW.some V
  have alt : (32768 ≤ dg x 7 ∧ ¬ 32768 ≤ dg y 7) ∨ (¬ 32768 ≤ dg x 7 ∧ 32768 ≤ dg y 7) ∨ ((32768 ≤ dg x 7) ↔ (32768 ≤ dg y 7)) := by omega
  rcases alt with ⟨hx, hy⟩ | ⟨hx, hy⟩ | hxy
  case inl =>
    have v1 : decide (32768 ≤ dg x 7) = true := by simpa using hx
    have v2 : decide (32768 ≤ dg y 7) = false := by simpa using hy
    obtain rfl : z = -1 := by rw [← hz.out]; unfold cmpi; rw [if_pos (by omega)]
    clear hx hy bx bY hz
    refine wp_region_grow (by kernel_rfl) (by kernel_rfl) ?_
    repeat (go_big_quiet_step (fail))
    go_big_quiet_want
    go_big_quiet_op
    go_big_quiet_call (exact grow_ofk (below_any x _))
    repeat (go_big_quiet_step (fail))
    go_big_quiet_want
    go_big_quiet_op
    go_big_quiet_call (exact grow_ofk (below_any y _))
    repeat (go_big_quiet_step (fail))
    refine wpQuiet_nil ?_
    rintro _ ⟨g, rfl⟩
    obtain ⟨V3, g3⟩ := g
    clear E1 E2 ne
    replace q := q.gb g3
    have t0 := q.c 0 (by decide)
    have t1 := q.c 1 (by decide)
    have t2 := q.c 2 (by decide)
    have t3 := q.c 3 (by decide)
    have t4 := q.c 4 (by decide)
    have t5 := q.c 5 (by decide)
    have t6 := q.c 6 (by decide)
    have t7 := q.c 7 (by decide)
    dsimp only
    go_wp2_with (go_at_call 52; refine (below_any x _).mono ?_; rintro e w4 ⟨rfl, g4⟩)
    go_ret
    exact ⟨rfl, (G.trans g3).trans g4.gb⟩
  case inr.inl =>
    have v1 : decide (32768 ≤ dg x 7) = false := by simpa using hx
    have v2 : decide (32768 ≤ dg y 7) = true := by simpa using hy
    obtain rfl : z = 1 := by rw [← hz.out]; unfold cmpi; rw [if_neg (by omega), if_neg (by omega)]
    clear hx hy bx bY hz
    refine wp_region_grow (by kernel_rfl) (by kernel_rfl) ?_
    repeat (go_big_quiet_step (fail))
    go_big_quiet_want
    go_big_quiet_op
    go_big_quiet_call (exact grow_ofk (below_any x _))
    repeat (go_big_quiet_step (fail))
    go_big_quiet_want
    go_big_quiet_op
    go_big_quiet_call (exact grow_ofk (below_any y _))
    repeat (go_big_quiet_step (fail))
    refine wpQuiet_nil ?_
    rintro _ ⟨g, rfl⟩
    obtain ⟨V3, g3⟩ := g
    clear E1 E2 ne
    replace q := q.gb g3
    have t0 := q.c 0 (by decide)
    have t1 := q.c 1 (by decide)
    have t2 := q.c 2 (by decide)
    have t3 := q.c 3 (by decide)
    have t4 := q.c 4 (by decide)
    have t5 := q.c 5 (by decide)
    have t6 := q.c 6 (by decide)
    have t7 := q.c 7 (by decide)
    dsimp only
    go_wp2_with (go_at_call 52; refine (below_any x _).mono ?_; rintro e w4 ⟨rfl, g4⟩)
    go_ret
    exact ⟨rfl, (G.trans g3).trans g4.gb⟩
  case inr.inr =>
    have v1 : decide (32768 ≤ dg x 7) = decide (32768 ≤ dg y 7) := by simp [hxy]
    have hb : sv x < 0 ↔ sv y < 0 := by omega
    clear hxy bx bY
    refine wp_region_grow (by kernel_rfl) (by kernel_rfl) ?_
    repeat (go_big_quiet_step (fail))
    go_big_quiet_want
    go_big_quiet_op
    go_big_quiet_call (exact grow_ofk (below_any x _))
    repeat (go_big_quiet_step (fail))
    go_big_quiet_want
    go_big_quiet_op
    go_big_quiet_call (exact grow_ofk (below_any y _))
    repeat (go_big_quiet_step (fail))
    refine wpQuiet_nil ?_
    rintro _ ⟨g, rfl⟩
    obtain ⟨V3, g3⟩ := g
    clear E1 E2 ne
    replace q := q.gb g3
    replace r := r.gb g3
    replace G := G.trans g3
    dsimp only
    clear g3
    have E1 : ∀ k, k < 8 → V3.cell? ⟨w1.heap.size, k, none⟩ = some (.int .i64 (dg x k)) := q.c
    have E2 : ∀ k, k < 8 → V3.cell? ⟨w2.heap.size, k, none⟩ = some (.int .i64 (dg y k)) := r.c
    clear q r
    have Hb : Hid (sv x < 0 ↔ sv y < 0) := hb
    clear hb v1
    go_wp2
    go_loopw [7] (fun i w' => ∃ m : Nat, m ≤ 8 ∧ i = .int .i64 ((m : Int) - 1) ∧ Hid (same x y m) ∧ ∃ n, w' = V3.drewN n) (fun i _ => (intOf i + 1).toNat)
    case atStart => exact ⟨8, by decide, rfl, fun j h1 h2 => absurd h1 (by omega), 0, rfl⟩
    case round =>
      obtain ⟨m, hm, rfl, hs, n, rfl⟩ := hrel
      cases m with
      | zero =>
        obtain rfl : z = 0 := by rw [← hz.out]; unfold cmpi; have := cmp_eq x y hs.out; rw [if_neg (by omega), if_pos this]
        go_wp2
        go_ret
        exact ⟨rfl, G.drewN n⟩
      | succ m =>
        have e0 : ((m + 1 : Nat) : Int) - 1 = (m : Int) := by omega
        rw [e0]
        have hm8 : m < 8 := by omega
        have i1 : (0 : Int) ≤ (m : Int) := by omega
        have i2 : (m : Int) < 8 := by omega
        have t1 := E1 m hm8
        have t2 := E2 m hm8
        by_cases d1 : dg x m < dg y m
        · have v1 : decide (dg x m < dg y m) = true := by simpa using d1
          obtain rfl : z = -1 := by rw [← hz.out]; unfold cmpi; rw [if_pos (cmp_lt x y m hm8 hs.out Hb.out d1)]
          go_wp2
          go_quiet (fail)
          go_wp2
          go_ret
          exact ⟨rfl, (G.drewN _).drewN _⟩
        · have v1 : decide (dg x m < dg y m) = false := by simpa using d1
          by_cases d2 : dg y m < dg x m
          · have v2 : decide (dg y m < dg x m) = true := by simpa using d2
            obtain rfl : z = 1 := by
              have := cmp_lt y x m hm8 (fun j a b => (hs.out j a b).symm) Hb.out.symm d2
              rw [← hz.out]; unfold cmpi; rw [if_neg (by omega), if_neg (by omega)]
            clear d1
            go_wp2
            go_quiet (fail)
            go_wp2
            go_quiet (fail)
            go_wp2
            go_ret
            exact ⟨rfl, ((G.drewN _).drewN _).drewN _⟩
          · have v2 : decide (dg y m < dg x m) = false := by simpa using d2
            have hs' : Hid (same x y m) := fun j a b => by
              by_cases e : j = m
              · subst e; omega
              · exact hs.out j (by omega) b
            clear d1 d2 hs
            go_wp2
            go_quiet (fail)
            obtain ⟨nq_1, hq⟩ : ∃ a, a = nq := ⟨_, rfl⟩
            subst hq
            go_wp2
            go_quiet (fail)
            go_wp2
            go_roundw
            case rel => exact ⟨m, by omega, by go_num, hs', n + nq_1 + nq, by simp⟩
            case measure => simp [intOf]

end Go.Proofs.Ytncnoaofdflbmaa
