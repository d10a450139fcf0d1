/- The document's Near: whether a line with a slope is near to keys: the walk. -/
import Derived.Test.YtocahgiabeifeaaR4Near
import Derived.Test.YtocahgiabeifeaaHPlain2
namespace Go.Proofs.Ytocahgiabeifeaa
open Go.RowKit
set_option linter.unusedVariables false

theorem cmpi_neg' (u v : Int) : cmpi u v < 0 ↔ u < v := by
  unfold cmpi
  split
  · simp [*]
  · split <;> simp <;> omega
theorem cmpi_pos' (u v : Int) : 0 < cmpi u v ↔ v < u := by
  unfold cmpi
  split
  · simp; omega
  · split <;> simp <;> omega

attribute [local go_sem] frozen?_alloc_cells frozen?_new

set_option maxRecDepth 100000 in
set_option maxHeartbeats 16000000 in
theorem near_any (a b e : Int) (ao : Option Addr) (n c : Nat) (f : Nat → Int) (a0 : 0 ≤ a) (a1 : a < 10000) (b1 : 1 ≤ b) (b2 : b < 18446744073709551616) (e0 : 0 ≤ e) (e1 : e ≤ 63) (hn : n ≤ 4000) (w : World) (h : KS w ao n f) (up : Up f n) :
    Calls Try.prog 23 #[.agg #[.int .u64 a, .int .u64 b], .slice ao n c, .int .i64 e] w fun ex w' => (∃ r : Bool, ex = .returned (.bool r) ∧ (r = true ↔ NearR e f n a b)) ∧ Gw w w' := by
  have HK : Aside (KS w ao n f) := h
  have UP : Aside (Up f n) := up
  clear h up
  have hb : (b == 0) = false := by simp; omega
  have G0 : Aside (Gw w (((w.alloc (.cells #[.int .u64 a, .int .u64 b] 47)).alloc (.cells #[.int .i64 0, .int .u64 0] 74)).alloc (.cells #[.int .i64 0, .int .u64 0] 74))) := (((Gw.refl w).alloc _ _).alloc _ _).alloc _ _
  have X0 : Aside (Bx (((w.alloc (.cells #[.int .u64 a, .int .u64 b] 47)).alloc (.cells #[.int .i64 0, .int .u64 0] 74)).alloc (.cells #[.int .i64 0, .int .u64 0] 74)) w.heap.size 47 (.int .u64 a) (.int .u64 b)) := ((Bx.new w _ _ _).alloc _).alloc _
  have X1 : Aside (Bx (((w.alloc (.cells #[.int .u64 a, .int .u64 b] 47)).alloc (.cells #[.int .i64 0, .int .u64 0] 74)).alloc (.cells #[.int .i64 0, .int .u64 0] 74)) (w.heap.size + 1) 74 (.int .i64 (hiv 0)) (.int .u64 (lov 0))) := (((Bx.new (w.alloc (.cells #[.int .u64 a, .int .u64 b] 47)) _ _ _).alloc _).at (by simp))
  have X2 : Aside (Bx (((w.alloc (.cells #[.int .u64 a, .int .u64 b] 47)).alloc (.cells #[.int .i64 0, .int .u64 0] 74)).alloc (.cells #[.int .i64 0, .int .u64 0] 74)) (w.heap.size + 1 + 1) 74 (.int .i64 (hiv 0)) (.int .u64 (lov 0))) := (Bx.new _ _ _ _).at (by simp)
  go_enter Try.func23, Try.ntmps23
  go_wp2_with fail
  generalize ((w.alloc (.cells #[.int .u64 a, .int .u64 b] 47)).alloc (.cells #[.int .i64 0, .int .u64 0] 74)).alloc (.cells #[.int .i64 0, .int .u64 0] 74) = w0 at G0 X0 X1 X2 ⊢
  obtain ⟨N, hN⟩ : ∃ N, w.heap.size = N := ⟨_, rfl⟩
  have NW : Aside (w.heap.size ≤ N) := Nat.le_of_eq hN
  rw [hN] at X0 X1 X2 ⊢
  clear hN
  go_loopg [9] n (fun gg s9 wr => ∃ (i : Nat) (L T : Int), s9 = .int .i64 i ∧ i ≤ n ∧ n - i ≤ gg ∧ Aside (Bx wr N 47 (.int .u64 a) (.int .u64 b)) ∧ Aside (Bx wr (N + 1) 74 (.int .i64 (hiv T)) (.int .u64 (lov T))) ∧ Aside (Bx wr (N + 1 + 1) 74 (.int .i64 (hiv L)) (.int .u64 (lov L))) ∧ Aside ((i = 0 → L = 0 ∧ T = 0) ∧ (∀ j, j < i → ((j : Int) - e) * b - a * (f j - f 0) ≤ L ∧ T ≤ ((j : Int) + e) * b - a * (f j - f 0)) ∧ (0 < i → (∃ j, j < i ∧ L = ((j : Int) - e) * b - a * (f j - f 0)) ∧ ∃ j, j < i ∧ T = ((j : Int) + e) * b - a * (f j - f 0))) ∧ Aside ((-(20000 * 18446744073709551616) ≤ L ∧ L ≤ 20000 * 18446744073709551616) ∧ (-(20000 * 18446744073709551616) ≤ T ∧ T ≤ 20000 * 18446744073709551616)) ∧ Aside (Gw w wr))
  case atStart => exact ⟨0, 0, 0, rfl, Nat.zero_le _, by omega, X0, X1, X2, (show Aside _ from ⟨fun _ => ⟨rfl, rfl⟩, fun j hj => by omega, fun q => by omega⟩), (show Aside _ from ⟨⟨by decide, by decide⟩, ⟨by decide, by decide⟩⟩), G0⟩
  case round =>
    clear X0 X1 X2 G0
    obtain ⟨i, L, T, rfl, h1, h2, X0, X1, X2, I, LT, G⟩ := hrel
    by_cases hlt : i < n
    · obtain ⟨bk, off, rfl, hbk, hc⟩ := (HK.out.gw G.out).cells (by omega)
      have q1 := hc i hlt
      have q0 := hc 0 (by omega)
      simp only [Nat.add_zero] at q0
      obtain ⟨y0, y1⟩ := HK.out.bd i hlt
      obtain ⟨z0, z1⟩ := HK.out.bd 0 (by omega)
      have le0 := UP.out.le (Nat.zero_le i) hlt
      obtain ⟨fi, hfi⟩ : ∃ y, f i = y := ⟨_, rfl⟩
      obtain ⟨f0, hf0⟩ : ∃ y, f 0 = y := ⟨_, rfl⟩
      have EF : Aside (f i = fi ∧ f 0 = f0) := ⟨hfi, hf0⟩
      rw [hfi] at q1 y0 y1 le0
      rw [hf0] at q0 z0 z1 le0
      clear hfi hf0 hc
      obtain ⟨D, hD⟩ : ∃ D, fi - f0 = D := ⟨_, rfl⟩
      have D0 : 0 ≤ D := by omega
      have D1 : D < 18446744073709551616 := by omega
      have PB : a * D < 170141183460469231731687303715884105728 := by
        have h1 : a * D ≤ 10000 * D := Int.mul_le_mul_of_nonneg_right (by omega) D0
        omega
      have hDw := wu D0 D1
      have r0 := X0.out.c0
      have hl0 : 0 < n := by omega
      have PR : Hid (∀ W : World, Calls Try.prog 34 #[.int .u64 a, .int .u64 D] W fun e w' => e = .returned (.agg #[.int .i64 (hiv (a * D)), .int .u64 (lov (a * D))]) ∧ Gb W w') := fun W => product_any a D a0 (by omega) D0 D1 PB W
      go_wp2_with fail
      go_cut [10] (fun s w' => ∃ q, s = .pointer (some ⟨q, 0, none⟩) ∧ Aside (Bx w' q 74 (.int .i64 (hiv (a * D))) (.int .u64 (lov (a * D)))) ∧ Aside (Gw wr w'))
      case first =>
        have HKV : Hid (∀ w', Gb wr w' → Gb wr w' ∧ w'.cell? ⟨N, 0, none⟩ = some (.int .u64 a) ∧ w'.cell? ⟨bk, off + i, none⟩ = some (.int .u64 fi) ∧ w'.cell? ⟨bk, off, none⟩ = some (.int .u64 f0)) := fun w' g => ⟨g, (g.cell _ _ X0.out.lt).trans r0, (g.cell _ _ hbk).trans q1, (g.cell _ _ hbk).trans q0⟩
        go_region_held3 (fun w' => Gb wr w' ∧ w'.cell? ⟨N, 0, none⟩ = some (.int .u64 a) ∧ w'.cell? ⟨bk, off + i, none⟩ = some (.int .u64 fi) ∧ w'.cell? ⟨bk, off, none⟩ = some (.int .u64 f0))
          ((refine HKV.out _ ?_; (repeat (first | exact Gb.refl _ | exact And.left (by assumption) | refine Gb.drew ?_ | refine Gb.alloc ?_ _ _ | refine Gb.setCell ?_ (by first | (simp; done) | omega) _ | refine Gb.trans ?_ (by assumption))); done))
          (first | (go_at_call 34; refine (PR.out _).mono ?_; rintro ex v4 ⟨rfl, g4⟩; obtain ⟨k4, f4⟩ := g4.facts; have s4 := g4.size; try simp at s4))
        all_goals go_wp2_with fail
        all_goals go_meet
        all_goals
          case rel =>
            first
              | exact ⟨_, rfl, (show Aside _ from Bx.new _ _ _ _), (show Aside _ from Gb.gw (And.left (by assumption)))⟩
              | exact ⟨wr.heap.size, rfl, (show Aside _ from Bx.set (u := .int .i64 0) (v := .int .u64 0) ((Bx.new wr 74 _ _).gw ((Gw.refl _).drew.trans g4.gw)) _ _), (show Aside _ from Gb.gw (And.left (by assumption)))⟩
      case rest =>
        obtain ⟨wx, hwx⟩ : ∃ wx, wx = wc := ⟨_, rfl⟩
        subst hwx
        obtain ⟨q, rfl, XP, gx⟩ := hcut
        have X0' : Aside (Bx wx N 47 (.int .u64 a) (.int .u64 b)) := X0.out.gw gx.out
        have X1' : Aside (Bx wx (N + 1) 74 (.int .i64 (hiv T)) (.int .u64 (lov T))) := X1.out.gw gx.out
        have X2' : Aside (Bx wx (N + 1 + 1) 74 (.int .i64 (hiv L)) (.int .u64 (lov L))) := X2.out.gw gx.out
        have G' : Aside (Gw w wx) := G.out.trans gx.out
        clear X0 X1 X2 G gx r0 q0 q1 PR
        obtain ⟨P, hP⟩ : ∃ P, a * D = P := ⟨_, rfl⟩
        rw [hP] at XP
        have AP : Aside (a * D = P) := hP
        have P0 : 0 ≤ P := by rw [← hP]; exact Int.mul_nonneg a0 D0
        have P1 : P ≤ 10000 * 18446744073709551616 := by
          have h1 : a * D ≤ 10000 * D := Int.mul_le_mul_of_nonneg_right (by omega) D0
          omega
        clear hP PB
        obtain ⟨U, hU⟩ : ∃ U, ((i : Int) - e) * b = U := ⟨_, rfl⟩
        obtain ⟨V, hV⟩ : ∃ V, ((i : Int) + e) * b = V := ⟨_, rfl⟩
        have UB : -(64 * 18446744073709551616) ≤ U ∧ U ≤ 5000 * 18446744073709551616 := by
          have h1 : ((i : Int) - e) * b ≤ 5000 * b := Int.mul_le_mul_of_nonneg_right (by omega) (by omega)
          have h2 : (-64) * b ≤ ((i : Int) - e) * b := Int.mul_le_mul_of_nonneg_right (by omega) (by omega)
          omega
        have VB : 0 ≤ V ∧ V ≤ 5000 * 18446744073709551616 := by
          have h1 : ((i : Int) + e) * b ≤ 5000 * b := Int.mul_le_mul_of_nonneg_right (by omega) (by omega)
          have h2 : 0 ≤ ((i : Int) + e) * b := Int.mul_nonneg (by omega) (by omega)
          omega
        obtain ⟨i1, hi1⟩ : ∃ k, (i : Int) - e = k := ⟨_, rfl⟩
        obtain ⟨i2, hi2⟩ : ∃ k, (i : Int) + e = k := ⟨_, rfl⟩
        have AU : Aside (((i : Int) - e) * b = U ∧ ((i : Int) + e) * b = V) := ⟨hU, hV⟩
        rw [hi1] at hU
        rw [hi2] at hV
        have T1 : Hid (∀ W : World, Calls Try.prog 36 #[.int .i64 i1, .int .u64 b] W fun e w' => e = .returned (.agg #[.int .i64 (hiv (U)), .int .u64 (lov (U))]) ∧ Gb W w') := fun W => by
          have := rtimes_any i1 b (by omega) (by omega) (by omega) b2 W
          rw [hU] at this
          exact this
        have T2 : Hid (∀ W : World, Calls Try.prog 36 #[.int .i64 i2, .int .u64 b] W fun e w' => e = .returned (.agg #[.int .i64 (hiv (V)), .int .u64 (lov (V))]) ∧ Gb W w') := fun W => by
          have := rtimes_any i2 b (by omega) (by omega) (by omega) b2 W
          rw [hV] at this
          exact this
        have hw1 : IntKind.i64.wrap i1 = i1 := by rw [IntKind.wrap_i64]; omega
        have hw2 : IntKind.i64.wrap i2 = i2 := by rw [IntKind.wrap_i64]; omega
        clear hU hV
        have c1 := X0'.out.c1
        have c2 := XP.out.c0
        have c3 := XP.out.c1
        have l1 := X0'.out.lt
        have l2 := XP.out.lt
        go_wp2_with fail
        have BF : Hid (∀ w', Gw wx w' → w'.cell? ⟨q, 0, none⟩ = some (.int .i64 (hiv P)) ∧ w'.cell? ⟨q, 1, none⟩ = some (.int .u64 (lov P)) ∧ q < w'.heap.size ∧ w'.cell? ⟨N, 1, none⟩ = some (.int .u64 b)) := fun w' g => ⟨(g.cell _ _ l2).trans c2, (g.cell _ _ l2).trans c3, Nat.lt_of_lt_of_le l2 g.size, (g.cell _ _ l1).trans c1⟩
        go_cut [11] (fun s w' => ∃ q', s = .pointer (some ⟨q', 0, none⟩) ∧ Aside (Bx w' q' 74 (.int .i64 (hiv (U - P))) (.int .u64 (lov (U - P)))) ∧ Aside (wx.heap.size ≤ q') ∧ Aside (Gw wx w'))
        case first =>
          go_region_with (first
            | (go_at_call 36; refine (T1.out _).mono ?_; rintro ex w4 ⟨rfl, g4'⟩; have g4 := g4'.gw; have G4 : Hid (Gw wx w4) := (Gw.trans (by repeat (first | exact Gw.refl _ | refine Gw.drew ?_ | refine Gw.alloc ?_ _ _)) g4); obtain ⟨y0, y1, y2, y3⟩ := BF.out w4 G4.out; (first | (have n4 : Bx w4 wx.heap.size 74 (.int .i64 0) (.int .u64 0) := ((Bx.new wx 74 (.int .i64 0) (.int .u64 0)).gw ((Gw.refl _).drew.trans g4)); have N4 : Hid (Bx w4 wx.heap.size 74 (.int .i64 0) (.int .u64 0)) := n4; have z0 := n4.c0; have z1 := n4.c1; have z2 := n4.fz 0; have z3 := n4.fz 1; clear n4) | skip); clear g4 g4')
            | (go_at_call 35; refine (rsub_w U P (U - P) rfl _).mono ?_; rintro ex w5 ⟨rfl, g5'⟩; have g5 := g5'.gw; have G5 : Hid (Gw wx w5) := (Gw.trans G4.out (Gw.trans (by repeat (first | exact Gw.refl _ | refine Gw.drew ?_ | refine Gw.alloc ?_ _ _)) g5)); (first | (have N5 : Hid (Bx w5 wx.heap.size 74 (.int .i64 0) (.int .u64 0)) := (N4.out.gw g5); have z0' := N5.out.c0; have z1' := N5.out.c1; have z2' := N5.out.fz 0; have z3' := N5.out.fz 1) | (have N5 : Hid (Bx w5 w4.heap.size 74 (.int .i64 0) (.int .u64 0)) := ((Bx.new w4 74 (.int .i64 0) (.int .u64 0)).gw g5); have z0' := N5.out.c0; have z1' := N5.out.c1; have z2' := N5.out.fz 0; have z3' := N5.out.fz 1) | skip); clear g5 g5'))
          all_goals
            go_wp2_with fail
            go_meet
          all_goals
            case rel =>
              first
                | exact ⟨w5.heap.size, rfl, (show Aside _ from Bx.new _ _ _ _), (show Aside _ from G5.out.size), (show Aside _ from G5.out.alloc _ _)⟩
                | exact ⟨w4.heap.size, rfl, (show Aside _ from N5.out.set _ _), (show Aside _ from G4.out.size), (show Aside _ from (G5.out.setCell G4.out.size _).setCell G4.out.size _)⟩
                | exact ⟨wx.heap.size, rfl, (show Aside _ from N5.out.set _ _), (show Aside _ from Nat.le_refl _), (show Aside _ from (G5.out.setCell (Nat.le_refl _) _).setCell (Nat.le_refl _) _)⟩

        case rest =>
          obtain ⟨wy, hwy⟩ : ∃ wy, wy = wc := ⟨_, rfl⟩
          subst hwy
          obtain ⟨qa, rfl, XA, la, gy⟩ := hcut
          have GY : Hid (Gw w wy) := G'.out.trans gy.out
          have XA' : Hid (Bx wy qa 74 (.int .i64 (hiv (U - P))) (.int .u64 (lov (U - P)))) := XA.out
          have X0y : Hid (Bx wy N 47 (.int .u64 a) (.int .u64 b)) := X0'.out.gw gy.out
          have X1y : Hid (Bx wy (N + 1) 74 (.int .i64 (hiv T)) (.int .u64 (lov T))) := X1'.out.gw gy.out
          have X2y : Hid (Bx wy (N + 1 + 1) 74 (.int .i64 (hiv L)) (.int .u64 (lov L))) := X2'.out.gw gy.out
          have XPy : Hid (Bx wy q 74 (.int .i64 (hiv P)) (.int .u64 (lov P))) := XP.out.gw gy.out
          have n1 : N + 1 < qa := Nat.lt_of_lt_of_le X1'.out.lt la.out
          have n2 : N + 1 + 1 < qa := Nat.lt_of_lt_of_le X2'.out.lt la.out
          clear c1 c2 c3 l1 l2 BF XA la gy X0' X1' X2' XP G' T1 hw1
          have c1 := X0y.out.c1
          have c2 := XPy.out.c0
          have c3 := XPy.out.c1
          have l1 := X0y.out.lt
          have l2 := XPy.out.lt
          have BF : Hid (∀ w', Gw wy w' → w'.cell? ⟨q, 0, none⟩ = some (.int .i64 (hiv P)) ∧ w'.cell? ⟨q, 1, none⟩ = some (.int .u64 (lov P)) ∧ q < w'.heap.size ∧ w'.cell? ⟨N, 1, none⟩ = some (.int .u64 b)) := fun w' g => ⟨(g.cell _ _ l2).trans c2, (g.cell _ _ l2).trans c3, Nat.lt_of_lt_of_le l2 g.size, (g.cell _ _ l1).trans c1⟩
          go_wp2_with fail
          go_cut [12] (fun s w' => ∃ q', s = .pointer (some ⟨q', 0, none⟩) ∧ Aside (Bx w' q' 74 (.int .i64 (hiv (V - P))) (.int .u64 (lov (V - P)))) ∧ Aside (wy.heap.size ≤ q') ∧ Aside (Gw wy w'))
          case first =>
            go_region_with (first
              | (go_at_call 36; refine (T2.out _).mono ?_; rintro ex w4 ⟨rfl, g4'⟩; have g4 := g4'.gw; have G4 : Hid (Gw wy w4) := (Gw.trans (by repeat (first | exact Gw.refl _ | refine Gw.drew ?_ | refine Gw.alloc ?_ _ _)) g4); obtain ⟨y0, y1, y2, y3⟩ := BF.out w4 G4.out; (first | (have n4 : Bx w4 wy.heap.size 74 (.int .i64 0) (.int .u64 0) := ((Bx.new wy 74 (.int .i64 0) (.int .u64 0)).gw ((Gw.refl _).drew.trans g4)); have N4 : Hid (Bx w4 wy.heap.size 74 (.int .i64 0) (.int .u64 0)) := n4; have z0 := n4.c0; have z1 := n4.c1; have z2 := n4.fz 0; have z3 := n4.fz 1; clear n4) | skip); clear g4 g4')
              | (go_at_call 35; refine (rsub_w V P (V - P) rfl _).mono ?_; rintro ex w5 ⟨rfl, g5'⟩; have g5 := g5'.gw; have G5 : Hid (Gw wy w5) := (Gw.trans G4.out (Gw.trans (by repeat (first | exact Gw.refl _ | refine Gw.drew ?_ | refine Gw.alloc ?_ _ _)) g5)); (first | (have N5 : Hid (Bx w5 wy.heap.size 74 (.int .i64 0) (.int .u64 0)) := (N4.out.gw g5); have z0' := N5.out.c0; have z1' := N5.out.c1; have z2' := N5.out.fz 0; have z3' := N5.out.fz 1) | (have N5 : Hid (Bx w5 w4.heap.size 74 (.int .i64 0) (.int .u64 0)) := ((Bx.new w4 74 (.int .i64 0) (.int .u64 0)).gw g5); have z0' := N5.out.c0; have z1' := N5.out.c1; have z2' := N5.out.fz 0; have z3' := N5.out.fz 1) | skip); clear g5 g5'))
            all_goals
              go_wp2_with fail
              go_meet
            all_goals
              case rel =>
                first
                  | exact ⟨w5.heap.size, rfl, (show Aside _ from Bx.new _ _ _ _), (show Aside _ from G5.out.size), (show Aside _ from G5.out.alloc _ _)⟩
                  | exact ⟨w4.heap.size, rfl, (show Aside _ from N5.out.set _ _), (show Aside _ from G4.out.size), (show Aside _ from (G5.out.setCell G4.out.size _).setCell G4.out.size _)⟩
                  | exact ⟨wy.heap.size, rfl, (show Aside _ from N5.out.set _ _), (show Aside _ from Nat.le_refl _), (show Aside _ from (G5.out.setCell (Nat.le_refl _) _).setCell (Nat.le_refl _) _)⟩

          case rest =>
            obtain ⟨wz, hwz⟩ : ∃ wz, wz = wc := ⟨_, rfl⟩
            subst hwz
            obtain ⟨qb, rfl, XB, lb, gz⟩ := hcut
            have GZ : Hid (Gw w wz) := GY.out.trans gz.out
            have XBz : Hid (Bx wz qb 74 (.int .i64 (hiv (V - P))) (.int .u64 (lov (V - P)))) := XB.out
            have XAz : Hid (Bx wz qa 74 (.int .i64 (hiv (U - P))) (.int .u64 (lov (U - P)))) := XA'.out.gw gz.out
            have X0z : Hid (Bx wz N 47 (.int .u64 a) (.int .u64 b)) := X0y.out.gw gz.out
            have X1z : Hid (Bx wz (N + 1) 74 (.int .i64 (hiv T)) (.int .u64 (lov T))) := X1y.out.gw gz.out
            have X2z : Hid (Bx wz (N + 1 + 1) 74 (.int .i64 (hiv L)) (.int .u64 (lov L))) := X2y.out.gw gz.out
            have n3 : qa < qb := Nat.lt_of_lt_of_le XA'.out.lt lb.out
            clear c1 c2 c3 l1 l2 BF XB lb gz X0y X1y X2y XPy GY XA' T2 hw2
            have AB : Hid ((U - P = ((i : Int) - e) * b - a * (f i - f 0)) ∧ (V - P = ((i : Int) + e) * b - a * (f i - f 0))) := by
              rw [EF.out.1, EF.out.2, hD, AP.out, AU.out.1, AU.out.2]
              exact ⟨rfl, rfl⟩
            have BB : Hid ((-(20000 * 18446744073709551616) ≤ U - P ∧ U - P ≤ 20000 * 18446744073709551616) ∧ (-(20000 * 18446744073709551616) ≤ V - P ∧ V - P ≤ 20000 * 18446744073709551616)) := ⟨⟨by omega, by omega⟩, by omega, by omega⟩
            clear UB VB P0 P1 hD D0 D1 hDw AP AU EF y0 y1 z0 z1 le0 hi1 hi2
            obtain ⟨A, hA⟩ : ∃ A, U - P = A := ⟨_, rfl⟩
            obtain ⟨Bq, hB⟩ : ∃ B, V - P = B := ⟨_, rfl⟩
            rw [hA] at XAz AB BB
            rw [hB] at XBz AB BB
            clear hA hB
            have NXT : Hid (∀ L' T', (A ≤ L' ∧ (0 < i → L ≤ L') ∧ (L' = A ∨ (0 < i ∧ L' = L))) → (T' ≤ Bq ∧ (0 < i → T' ≤ T) ∧ (T' = Bq ∨ (0 < i ∧ T' = T))) →
                ((i + 1 = 0 → L' = 0 ∧ T' = 0) ∧ (∀ j, j < i + 1 → ((j : Int) - e) * b - a * (f j - f 0) ≤ L' ∧ T' ≤ ((j : Int) + e) * b - a * (f j - f 0)) ∧ (0 < i + 1 → (∃ j, j < i + 1 ∧ L' = ((j : Int) - e) * b - a * (f j - f 0)) ∧ ∃ j, j < i + 1 ∧ T' = ((j : Int) + e) * b - a * (f j - f 0))) ∧ ((-(20000 * 18446744073709551616) ≤ L' ∧ L' ≤ 20000 * 18446744073709551616) ∧ (-(20000 * 18446744073709551616) ≤ T' ∧ T' ≤ 20000 * 18446744073709551616))) := by
              intro L' T' ⟨p1, p2, p3⟩ ⟨r1, r2, r3⟩
              refine ⟨⟨fun q => by omega, fun j hj => ?_, fun _ => ⟨?_, ?_⟩⟩, ?_, ?_⟩
              · by_cases e' : j = i
                · rw [e', ← AB.out.1, ← AB.out.2]
                  exact ⟨p1, r1⟩
                · have := I.out.2.1 j (by omega)
                  have := p2 (by omega)
                  have := r2 (by omega)
                  omega
              · rcases p3 with p3 | ⟨q, p3⟩
                · exact ⟨i, by omega, by rw [p3, AB.out.1]⟩
                · obtain ⟨⟨j, hj, ej⟩, _⟩ := I.out.2.2 q
                  exact ⟨j, by omega, by rw [p3, ej]⟩
              · rcases r3 with r3 | ⟨q, r3⟩
                · exact ⟨i, by omega, by rw [r3, AB.out.2]⟩
                · obtain ⟨_, j, hj, ej⟩ := I.out.2.2 q
                  exact ⟨j, by omega, by rw [r3, ej]⟩
              · have := BB.out
                have := LT.out
                rcases p3 with p3 | ⟨q, p3⟩ <;> rw [p3] <;> omega
              · have := BB.out
                have := LT.out
                rcases r3 with r3 | ⟨q, r3⟩ <;> rw [r3] <;> omega
            have c1 := XAz.out.c0
            have c2 := XAz.out.c1
            have c3 := XBz.out.c0
            have c4 := XBz.out.c1
            have c5 := X1z.out.c0
            have c6 := X1z.out.c1
            have c7 := X2z.out.c0
            have c8 := X2z.out.c1
            have f5 := X1z.out.fz 0
            have f6 := X1z.out.fz 1
            have f7 := X2z.out.fz 0
            have f8 := X2z.out.fz 1
            have GN : Hid (w.heap.size ≤ N) := NW.out
            have m1 : N + 1 ≠ qa := by omega
            have m2 : N + 1 + 1 ≠ qa := by omega
            have m3 : N + 1 ≠ qb := by omega
            have m4 : N + 1 + 1 ≠ qb := by omega
            by_cases hz : i = 0
            · have z1 : ((i : Int) == 0) = true := by simp; omega
              have FX : Hid (Bx ((((wz.setCell ⟨N + 1 + 1, 0, none⟩ (.int .i64 (hiv A))).setCell ⟨N + 1 + 1, 1, none⟩ (.int .u64 (lov A))).setCell ⟨N + 1, 0, none⟩ (.int .i64 (hiv Bq))).setCell ⟨N + 1, 1, none⟩ (.int .u64 (lov Bq))) N 47 (.int .u64 a) (.int .u64 b) ∧ Bx ((((wz.setCell ⟨N + 1 + 1, 0, none⟩ (.int .i64 (hiv A))).setCell ⟨N + 1 + 1, 1, none⟩ (.int .u64 (lov A))).setCell ⟨N + 1, 0, none⟩ (.int .i64 (hiv Bq))).setCell ⟨N + 1, 1, none⟩ (.int .u64 (lov Bq))) (N + 1) 74 (.int .i64 (hiv Bq)) (.int .u64 (lov Bq)) ∧ Bx ((((wz.setCell ⟨N + 1 + 1, 0, none⟩ (.int .i64 (hiv A))).setCell ⟨N + 1 + 1, 1, none⟩ (.int .u64 (lov A))).setCell ⟨N + 1, 0, none⟩ (.int .i64 (hiv Bq))).setCell ⟨N + 1, 1, none⟩ (.int .u64 (lov Bq))) (N + 1 + 1) 74 (.int .i64 (hiv A)) (.int .u64 (lov A)) ∧ Gw w ((((wz.setCell ⟨N + 1 + 1, 0, none⟩ (.int .i64 (hiv A))).setCell ⟨N + 1 + 1, 1, none⟩ (.int .u64 (lov A))).setCell ⟨N + 1, 0, none⟩ (.int .i64 (hiv Bq))).setCell ⟨N + 1, 1, none⟩ (.int .u64 (lov Bq)))) := by
                have gn := GN.out
                exact ⟨(((X0z.out.far _ (by omega)).far _ (by omega)).far _ (by omega)).far _ (by omega), ((X1z.out.far _ (by omega)).far _ (by omega)).set _ _, ((X2z.out.set _ _).far _ (by omega)).far _ (by omega), (((GZ.out.setCell (by show _ ≤ N + 1 + 1; omega) _).setCell (by show _ ≤ N + 1 + 1; omega) _).setCell (by show _ ≤ N + 1; omega) _).setCell (by show _ ≤ N + 1; omega) _⟩
              have NX := NXT.out A Bq ⟨Int.le_refl _, fun q => by omega, .inl rfl⟩ ⟨Int.le_refl _, fun q => by omega, .inl rfl⟩
              have NX' : Hid (((i + 1 = 0 → A = 0 ∧ Bq = 0) ∧ (∀ j, j < i + 1 → ((j : Int) - e) * b - a * (f j - f 0) ≤ A ∧ Bq ≤ ((j : Int) + e) * b - a * (f j - f 0)) ∧ (0 < i + 1 → (∃ j, j < i + 1 ∧ A = ((j : Int) - e) * b - a * (f j - f 0)) ∧ ∃ j, j < i + 1 ∧ Bq = ((j : Int) + e) * b - a * (f j - f 0))) ∧ ((-(20000 * 18446744073709551616) ≤ A ∧ A ≤ 20000 * 18446744073709551616) ∧ (-(20000 * 18446744073709551616) ≤ Bq ∧ Bq ≤ 20000 * 18446744073709551616))) := NX
              clear NX NXT AB BB
              go_wp2_with fail
              go_roundg (n - (i + 1))
              case measure => omega
              case rel => exact ⟨i + 1, A, Bq, by go_num, by omega, Nat.le_refl _, (show Aside _ from FX.out.1), (show Aside _ from FX.out.2.1), (show Aside _ from FX.out.2.2.1), (show Aside _ from NX'.out.1), (show Aside _ from NX'.out.2), (show Aside _ from FX.out.2.2.2)⟩
            · have z1 : ((i : Int) == 0) = false := by simp; omega
              have ip : 0 < i := by omega
              have C1 : Hid (∀ W, Calls Try.prog 37 #[.agg #[.int .i64 (hiv (A)), .int .u64 (lov (A))], .agg #[.int .i64 (hiv (L)), .int .u64 (lov (L))]] W fun ex w' => ex = .returned (.int .i64 (cmpi A L)) ∧ Gb W w') := fun W => (by
                have q1 := BB.out
                have q2 := LT.out
                have := rcmp_any A L W
                rw [sv_of A (by omega) (by omega), sv_of L (by omega) (by omega)] at this
                exact this)
              have C2 : Hid (∀ W, Calls Try.prog 37 #[.agg #[.int .i64 (hiv (Bq)), .int .u64 (lov (Bq))], .agg #[.int .i64 (hiv (T)), .int .u64 (lov (T))]] W fun ex w' => ex = .returned (.int .i64 (cmpi Bq T)) ∧ Gb W w') := fun W => (by
                have q1 := BB.out
                have q2 := LT.out
                have := rcmp_any Bq T W
                rw [sv_of Bq (by omega) (by omega), sv_of T (by omega) (by omega)] at this
                exact this)
              have D1 : Hid (0 < cmpi A L ↔ L < A) := cmpi_pos' _ _
              have D2 : Hid (cmpi Bq T < 0 ↔ Bq < T) := cmpi_neg' _ _
              generalize cmpi A L = d1 at C1 D1
              generalize cmpi Bq T = d2 at C2 D2
              clear AB BB LT I
              go_wp2_with fail
              refine (C1.out _).mono ?_
              rintro ex v1 ⟨rfl, k1'⟩
              have k1 := k1'.gw
              have XA1 : Hid (Bx v1 qa 74 (.int .i64 (hiv A)) (.int .u64 (lov A))) := XAz.out.gw k1
              have XB1 : Hid (Bx v1 qb 74 (.int .i64 (hiv Bq)) (.int .u64 (lov Bq))) := XBz.out.gw k1
              have X01 : Hid (Bx v1 N 47 (.int .u64 a) (.int .u64 b)) := X0z.out.gw k1
              have X11 : Hid (Bx v1 (N + 1) 74 (.int .i64 (hiv T)) (.int .u64 (lov T))) := X1z.out.gw k1
              have X21 : Hid (Bx v1 (N + 1 + 1) 74 (.int .i64 (hiv L)) (.int .u64 (lov L))) := X2z.out.gw k1
              have GV1 : Hid (Gw w v1) := GZ.out.trans k1
              clear c1 c2 c3 c4 c5 c6 c7 c8 f5 f6 f7 f8 k1 k1' XAz XBz X0z X1z X2z GZ C1
              have c1 := XA1.out.c0
              have c2 := XA1.out.c1
              have c7 := X21.out.c0
              have c8 := X21.out.c1
              have f7 := X21.out.fz 0
              have f8 := X21.out.fz 1
              go_upto_if 59 with fail
              go_cut [] (fun wc => ∃ L' : Int, Aside (Bx wc (N + 1 + 1) 74 (.int .i64 (hiv L')) (.int .u64 (lov L'))) ∧ Aside (A ≤ L' ∧ (0 < i → L ≤ L') ∧ (L' = A ∨ (0 < i ∧ L' = L))) ∧ Aside (Bx wc qb 74 (.int .i64 (hiv Bq)) (.int .u64 (lov Bq)) ∧ Bx wc N 47 (.int .u64 a) (.int .u64 b) ∧ Bx wc (N + 1) 74 (.int .i64 (hiv T)) (.int .u64 (lov T)) ∧ Gw w wc))
              case first =>
                by_cases hd : 0 < d1
                · have hLA : L < A := D1.out.1 hd
                  have FX : Hid (Bx ((v1.setCell ⟨N + 1 + 1, 0, none⟩ (.int .i64 (hiv A))).setCell ⟨N + 1 + 1, 1, none⟩ (.int .u64 (lov A))) (N + 1 + 1) 74 (.int .i64 (hiv A)) (.int .u64 (lov A)) ∧ Bx ((v1.setCell ⟨N + 1 + 1, 0, none⟩ (.int .i64 (hiv A))).setCell ⟨N + 1 + 1, 1, none⟩ (.int .u64 (lov A))) qb 74 (.int .i64 (hiv Bq)) (.int .u64 (lov Bq)) ∧ Bx ((v1.setCell ⟨N + 1 + 1, 0, none⟩ (.int .i64 (hiv A))).setCell ⟨N + 1 + 1, 1, none⟩ (.int .u64 (lov A))) N 47 (.int .u64 a) (.int .u64 b) ∧ Bx ((v1.setCell ⟨N + 1 + 1, 0, none⟩ (.int .i64 (hiv A))).setCell ⟨N + 1 + 1, 1, none⟩ (.int .u64 (lov A))) (N + 1) 74 (.int .i64 (hiv T)) (.int .u64 (lov T)) ∧ Gw w ((v1.setCell ⟨N + 1 + 1, 0, none⟩ (.int .i64 (hiv A))).setCell ⟨N + 1 + 1, 1, none⟩ (.int .u64 (lov A)))) := by
                    have gn := GN.out
                    exact ⟨X21.out.set _ _, (XB1.out.far _ (by omega)).far _ (by omega), (X01.out.far _ (by omega)).far _ (by omega), (X11.out.far _ (by omega)).far _ (by omega), (GV1.out.setCell (by show _ ≤ N + 1 + 1; omega) _).setCell (by show _ ≤ N + 1 + 1; omega) _⟩
                  clear D1 D2 C2 NXT
                  go_wp2_with fail
                  go_meet
                  case rel => exact ⟨A, (show Aside _ from FX.out.1), (show Aside _ from ⟨Int.le_refl _, fun _ => by omega, .inl rfl⟩), (show Aside _ from FX.out.2)⟩
                · have hLA : A ≤ L := by
                    have : ¬ L < A := fun q => hd (D1.out.2 q)
                    omega
                  clear D1 D2 C2 NXT
                  go_wp2_with fail
                  go_meet
                  case rel => exact ⟨L, (show Aside _ from X21.out), (show Aside _ from ⟨hLA, fun _ => Int.le_refl _, .inr ⟨ip, rfl⟩⟩), (show Aside _ from ⟨XB1.out, X01.out, X11.out, GV1.out⟩)⟩
              case rest =>
                obtain ⟨v2, hv2⟩ : ∃ v2, v2 = wc := ⟨_, rfl⟩
                subst hv2
                obtain ⟨L', XL, PL', XO⟩ := hcut
                clear XA1 XB1 X01 X11 X21 GV1 c1 c2 c7 c8 f7 f8 D1
                have c3 := XO.out.1.c0
                have c4 := XO.out.1.c1
                have c5 := XO.out.2.2.1.c0
                have c6 := XO.out.2.2.1.c1
                go_wp2_with fail
                refine (C2.out _).mono ?_
                rintro ex v3 ⟨rfl, k3'⟩
                have k3 := k3'.gw
                have XB3 : Hid (Bx v3 qb 74 (.int .i64 (hiv Bq)) (.int .u64 (lov Bq))) := XO.out.1.gw k3
                have X03 : Hid (Bx v3 N 47 (.int .u64 a) (.int .u64 b)) := XO.out.2.1.gw k3
                have X13 : Hid (Bx v3 (N + 1) 74 (.int .i64 (hiv T)) (.int .u64 (lov T))) := XO.out.2.2.1.gw k3
                have X23 : Hid (Bx v3 (N + 1 + 1) 74 (.int .i64 (hiv L')) (.int .u64 (lov L'))) := XL.out.gw k3
                have GV3 : Hid (Gw w v3) := XO.out.2.2.2.trans k3
                clear c3 c4 c5 c6 k3 k3' XO XL C2
                have c3 := XB3.out.c0
                have c4 := XB3.out.c1
                have c5 := X13.out.c0
                have c6 := X13.out.c1
                have f5 := X13.out.fz 0
                have f6 := X13.out.fz 1
                by_cases hd : d2 < 0
                · have hBT : Bq < T := D2.out.1 hd
                  have FX : Hid (Bx ((v3.setCell ⟨N + 1, 0, none⟩ (.int .i64 (hiv Bq))).setCell ⟨N + 1, 1, none⟩ (.int .u64 (lov Bq))) N 47 (.int .u64 a) (.int .u64 b) ∧ Bx ((v3.setCell ⟨N + 1, 0, none⟩ (.int .i64 (hiv Bq))).setCell ⟨N + 1, 1, none⟩ (.int .u64 (lov Bq))) (N + 1) 74 (.int .i64 (hiv Bq)) (.int .u64 (lov Bq)) ∧ Bx ((v3.setCell ⟨N + 1, 0, none⟩ (.int .i64 (hiv Bq))).setCell ⟨N + 1, 1, none⟩ (.int .u64 (lov Bq))) (N + 1 + 1) 74 (.int .i64 (hiv L')) (.int .u64 (lov L')) ∧ Gw w ((v3.setCell ⟨N + 1, 0, none⟩ (.int .i64 (hiv Bq))).setCell ⟨N + 1, 1, none⟩ (.int .u64 (lov Bq)))) := by
                    have gn := GN.out
                    exact ⟨(X03.out.far _ (by omega)).far _ (by omega), X13.out.set _ _, (X23.out.far _ (by omega)).far _ (by omega), (GV3.out.setCell (by show _ ≤ N + 1; omega) _).setCell (by show _ ≤ N + 1; omega) _⟩
                  have NX := NXT.out L' Bq PL'.out ⟨Int.le_refl _, fun _ => by omega, .inl rfl⟩
                  have NX1 : Aside ((i + 1 = 0 → L' = 0 ∧ Bq = 0) ∧ (∀ j, j < i + 1 → ((j : Int) - e) * b - a * (f j - f 0) ≤ L' ∧ Bq ≤ ((j : Int) + e) * b - a * (f j - f 0)) ∧ (0 < i + 1 → (∃ j, j < i + 1 ∧ L' = ((j : Int) - e) * b - a * (f j - f 0)) ∧ ∃ j, j < i + 1 ∧ Bq = ((j : Int) + e) * b - a * (f j - f 0))) := NX.1
                  have NX2 : Aside ((-(20000 * 18446744073709551616) ≤ L' ∧ L' ≤ 20000 * 18446744073709551616) ∧ (-(20000 * 18446744073709551616) ≤ Bq ∧ Bq ≤ 20000 * 18446744073709551616)) := NX.2
                  clear NX NXT D2
                  go_wp2_with fail
                  go_roundg (n - (i + 1))
                  case measure => omega
                  case rel => exact ⟨i + 1, L', Bq, by go_num, by omega, Nat.le_refl _, (show Aside _ from FX.out.1), (show Aside _ from FX.out.2.1), (show Aside _ from FX.out.2.2.1), NX1, NX2, (show Aside _ from FX.out.2.2.2)⟩
                · have hBT : T ≤ Bq := by
                    have : ¬ Bq < T := fun q => hd (D2.out.2 q)
                    omega
                  have NX := NXT.out L' T PL'.out ⟨hBT, fun _ => Int.le_refl _, .inr ⟨ip, rfl⟩⟩
                  have NX1 : Aside ((i + 1 = 0 → L' = 0 ∧ T = 0) ∧ (∀ j, j < i + 1 → ((j : Int) - e) * b - a * (f j - f 0) ≤ L' ∧ T ≤ ((j : Int) + e) * b - a * (f j - f 0)) ∧ (0 < i + 1 → (∃ j, j < i + 1 ∧ L' = ((j : Int) - e) * b - a * (f j - f 0)) ∧ ∃ j, j < i + 1 ∧ T = ((j : Int) + e) * b - a * (f j - f 0))) := NX.1
                  have NX2 : Aside ((-(20000 * 18446744073709551616) ≤ L' ∧ L' ≤ 20000 * 18446744073709551616) ∧ (-(20000 * 18446744073709551616) ≤ T ∧ T ≤ 20000 * 18446744073709551616)) := NX.2
                  clear NX NXT D2
                  go_wp2_with fail
                  go_roundg (n - (i + 1))
                  case measure => omega
                  case rel => exact ⟨i + 1, L', T, by go_num, by omega, Nat.le_refl _, (show Aside _ from X03.out), (show Aside _ from X13.out), (show Aside _ from X23.out), NX1, NX2, (show Aside _ from GV3.out)⟩
    · obtain rfl : i = n := by omega
      have CE : Hid (∀ W, Calls Try.prog 37 #[.agg #[.int .i64 (hiv (L)), .int .u64 (lov (L))], .agg #[.int .i64 (hiv (T)), .int .u64 (lov (T))]] W fun ex w' => ex = .returned (.int .i64 (cmpi L T)) ∧ Gb W w') := fun W => (by
        have q2 := LT.out
        have := rcmp_any L T W
        rw [sv_of L (by omega) (by omega), sv_of T (by omega) (by omega)] at this
        exact this)
      have FIN : Hid (cmpi L T ≤ 0 ↔ NearR e f i a b) := by
        have p := cmpi_pos' L T
        have key : L ≤ T ↔ NearR e f i a b := by
          have lin : ∀ j k : Nat, (((j : Int) - e) * b - a * (f j - f 0) ≤ ((k : Int) + e) * b - a * (f k - f 0)) ↔ ((j : Int) - k - 2 * e) * b ≤ a * (f j - f k) := by
            intro j k
            have e1 : a * (f j - f k) = a * (f j - f 0) - a * (f k - f 0) := by rw [← Int.mul_sub]; congr 1; omega
            have e2 : ((j : Int) - k - 2 * e) * b = ((j : Int) - e) * b - ((k : Int) + e) * b := by rw [← Int.sub_mul]; congr 1; omega
            rw [e1, e2]
            omega
          constructor
          · intro hle j k hj hk
            have q1 := I.out.2.1 j hj
            have q2 := I.out.2.1 k hk
            exact (lin j k).1 (by omega)
          · intro hN
            by_cases hz : i = 0
            · obtain ⟨r1, r2⟩ := I.out.1 hz
              omega
            · obtain ⟨⟨j, hj, ej⟩, k, hk, ek⟩ := I.out.2.2 (by omega)
              rw [ej, ek]
              exact (lin j k).2 (hN j k hj hk)
        rw [← key]
        constructor
        · intro q
          rcases Int.lt_or_le T L with r | r
          · have := p.2 r; omega
          · exact r
        · intro q
          rcases Int.lt_or_le 0 (cmpi L T) with r | r
          · have := p.1 r; omega
          · exact r
      generalize cmpi L T = d at CE FIN
      have c5 := X1.out.c0
      have c6 := X1.out.c1
      have c7 := X2.out.c0
      have c8 := X2.out.c1
      clear I LT
      go_wp2_with fail
      refine (CE.out _).mono ?_
      rintro ex v1 ⟨rfl, k1⟩
      have GE : Hid (Gw w v1) := G.out.trans k1.gw
      clear k1 c5 c6 c7 c8 CE
      go_wp2_with fail
      go_ret
      refine ⟨⟨decide (d ≤ 0), by simp, ?_⟩, GE.out⟩
      rw [decide_eq_true_iff]
      exact FIN.out

end Go.Proofs.Ytocahgiabeifeaa
