/- The statement's own 'steeper'. -/
import Derived.Test.YtncnoaofdflbmaaR4Fit
import Derived.Test.YtncnoaofdflbmaaNTimes
import Derived.Test.YtncnoaofdflbmaaNCmp
import Derived.Test.YtncnoaofdflbmaaTold
import Derived.Deep.DeepCutAuto
import Derived.Deep.CondSized
import Derived.Deep.RegionWith
namespace Go.Proofs.Ytncnoaofdflbmaa
open Go.RowKit
set_option linter.unusedVariables false

attribute [local go_sem] frozen?_alloc_cells frozen?_new

set_option maxRecDepth 100000 in
set_option maxHeartbeats 8000000 in
theorem steeper_any (eps num den : Int) (ao : Option Addr) (n cp : Nat) (f : Nat → Int) (e1 : 2 ≤ eps) (e2 : eps ≤ 64) (m0 : 0 ≤ num) (m1 : num < 9223372036854775808) (d0 : 0 ≤ den) (d1 : den < 18446744073709551616) (hn : n ≤ 2000000) (u : Up f n) (w : World) (h : KS w ao n f) :
    Calls Try.prog 18 #[.slice ao n cp, .int .i64 eps, .int .u64 num, .int .u64 den] w fun ex w' => (∃ r : Bool, ex = .returned (.bool r) ∧ (r = true ↔ Steep (eps - 1) f n num den)) ∧ Gw w w' := by
  have HK : Aside (KS w ao n f) := h
  have UP : Aside (Up f n) := u
  clear h u
  have wn : IntKind.i64.wrap num = num := by rw [IntKind.wrap_i64]; omega
  have we : IntKind.i64.wrap (eps - 1) = eps - 1 := by rw [IntKind.wrap_i64]; omega
  have w2 : IntKind.i64.wrap (2 * (eps - 1)) = 2 * (eps - 1) := by rw [IntKind.wrap_i64]; omega
  go_enter Try.func18, Try.ntmps18
  go_wp2_with fail
  go_loopg [9] n (fun gg s9 wr => ∃ i : Nat, s9 = .int .i64 i ∧ i ≤ n ∧ n - i ≤ gg ∧ Aside (∀ i' k, i' < i → i' < k → k < n → ((k : Int) - i' - 2 * (eps - 1)) * den ≤ num * (f k - f i')) ∧ Aside (Gw w wr))
  case atStart => exact ⟨0, rfl, Nat.zero_le _, by omega, (show Aside _ from fun i' k q => by omega), (show Aside _ from Gw.refl w)⟩
  case round =>
    obtain ⟨i, rfl, h1, h2, J, G⟩ := hrel
    by_cases hlt : i < n
    · have wi : IntKind.i64.wrap ((i : Int) + 1) = ((i + 1 : Nat) : Int) := by rw [IntKind.wrap_i64]; omega
      go_wp2_with fail
      go_loopg [10] n (fun gg s10 wq => ∃ k : Nat, s10 = .int .i64 k ∧ i + 1 ≤ k ∧ k ≤ n ∧ n - k ≤ gg ∧ Aside (∀ k', i < k' → k' < k → ((k' : Int) - i - 2 * (eps - 1)) * den ≤ num * (f k' - f i)) ∧ Aside (Gw w wq))
      case atStart => exact ⟨i + 1, rfl, Nat.le_refl _, by omega, by omega, (show Aside _ from fun k' q1 q2 => by omega), G⟩
      case round =>
        clear G
        obtain ⟨k, rfl, h3, h4, h5, JK, G⟩ := hrel
        by_cases hkt : k < n
        · obtain ⟨bk, off, rfl, hbk, hc⟩ := (HK.out.gw G.out).cells (by omega)
          have q1 := hc k hkt
          have q0 := hc i hlt
          obtain ⟨y0, y1⟩ := HK.out.bd k hkt
          obtain ⟨z0, z1⟩ := HK.out.bd i hlt
          have lt0 := UP.out.lt (a := i) (b := k) (by omega) hkt
          obtain ⟨D, hD⟩ : ∃ D, f k - f i = D := ⟨_, rfl⟩
          have ED : Aside (f k - f i = D) := hD
          have D0 : 0 ≤ D := by omega
          have D1 : D < 18446744073709551616 := by omega
          obtain ⟨fk, hfk⟩ : ∃ y, f k = y := ⟨_, rfl⟩
          obtain ⟨fi, hfi⟩ : ∃ y, f i = y := ⟨_, rfl⟩
          rw [hfk] at q1 y0 y1 hD
          rw [hfi] at q0 z0 z1 hD
          clear hfk hfi hc lt0
          have wD : IntKind.u64.wrap D = D := by rw [IntKind.wrap_u64]; omega
          have wki : IntKind.i64.wrap ((k : Int) - i) = (k : Int) - i := by rw [IntKind.wrap_i64]; omega
          have wm : IntKind.i64.wrap ((k : Int) - i - 2 * (eps - 1)) = (k : Int) - i - 2 * (eps - 1) := by rw [IntKind.wrap_i64]; omega
          have mb : -200 ≤ (k : Int) - i - 2 * (eps - 1) ∧ (k : Int) - i - 2 * (eps - 1) ≤ 2000000 := by omega
          have wk1 : IntKind.i64.wrap ((k : Int) + 1) = ((k + 1 : Nat) : Int) := by rw [IntKind.wrap_i64]; omega
          obtain ⟨m, hm⟩ : ∃ m, (k : Int) - i - 2 * (eps - 1) = m := ⟨_, rfl⟩
          have EM : Aside ((k : Int) - i - 2 * (eps - 1) = m) := hm
          rw [hm] at wm mb
          obtain ⟨X, hX⟩ : ∃ X, m * den = X := ⟨_, rfl⟩
          obtain ⟨Y, hY⟩ : ∃ Y, num * D = Y := ⟨_, rfl⟩
          have X0 : -170141183460469231731687303715884105728 ≤ X ∧ X < 170141183460469231731687303715884105728 := by
            have k1 : m * den ≤ 2000000 * den := Int.mul_le_mul_of_nonneg_right (by omega) d0
            have k2 : -200 * den ≤ m * den := Int.mul_le_mul_of_nonneg_right (by omega) d0
            omega
          have Y0 : 0 ≤ Y ∧ Y < 170141183460469231731687303715884105728 := by
            have k1 : num * D ≤ 9223372036854775807 * D := Int.mul_le_mul_of_nonneg_right (by omega) D0
            have k2 : 0 ≤ num * D := Int.mul_nonneg m0 D0
            omega
          have T1 : Hid (∀ w : World, Calls Try.prog 32 #[.int .i64 m, .int .u64 den] w fun e w' => e = .returned (.agg #[.int .i64 (hiv (X)), .int .u64 (lov (X))]) ∧ Gb w w') := fun w => by
            have := rtimes_any m den (by omega) (by omega) d0 d1 w
            rw [hX] at this
            exact this
          have T2 : Hid (∀ w : World, Calls Try.prog 32 #[.int .i64 num, .int .u64 D] w fun e w' => e = .returned (.agg #[.int .i64 (hiv (Y)), .int .u64 (lov (Y))]) ∧ Gb w w') := fun w => by
            have := rtimes_any num D (by omega) (by omega) D0 D1 w
            rw [hY] at this
            exact this
          have CM : Hid (∀ w : World, Calls Try.prog 33 #[.agg #[.int .i64 (hiv (X)), .int .u64 (lov (X))], .agg #[.int .i64 (hiv (Y)), .int .u64 (lov (Y))]] w fun e w' => e = .returned (.int .i64 (cmpi X Y)) ∧ Gb w w') := fun w => by
            have := rcmp_any X Y w
            rw [sv_of X X0.1 X0.2, sv_of Y (by omega) Y0.2] at this
            exact this
          have TE : Aside (Y < X ↔ num * (f k - f i) < ((k : Int) - i - 2 * (eps - 1)) * den) := by
            rw [ED.out, EM.out, hX, hY]; exact Iff.rfl
          clear hX hY X0 Y0 ED EM
          have ckn : ((k : Int) < (n : Int)) := by omega
          have ein : ((i : Int) < (n : Int)) := by omega
          go_wp2_with fail
          refine (T1.out _).mono ?_
          rintro ex w3 ⟨rfl, g3⟩
          have X3 : Aside (Bx (w3.alloc (.cells #[.int .i64 (hiv X), .int .u64 (lov X)] 61)) w3.heap.size 61 (.int .i64 (hiv X)) (.int .u64 (lov X))) := Bx.new _ _ _ _
          have G3 : Aside (Gw wr (w3.alloc (.cells #[.int .i64 (hiv X), .int .u64 (lov X)] 61))) := g3.gw.alloc _ _
          clear g3
          go_wp2_with fail
          generalize w3.alloc (.cells #[.int .i64 (hiv X), .int .u64 (lov X)] 61) = w4 at X3 G3 ⊢
          obtain ⟨N, hN⟩ : ∃ N, w3.heap.size = N := ⟨_, rfl⟩
          rw [hN] at X3 ⊢
          clear hN
          have p1 := (G3.out.cell _ (off + k) hbk).trans q1
          have p0 := (G3.out.cell _ (off + i) hbk).trans q0
          have hb4 : bk < w4.heap.size := Nat.lt_of_lt_of_le hbk G3.out.size
          have G4 : Aside (Gw w w4) := G.out.trans G3.out
          clear q1 q0 hbk G3 G
          go_cut [12] (fun s w' => ∃ q, s = .pointer (some ⟨q, 0, none⟩) ∧ Aside (Bx w' q 61 (.int .i64 (hiv Y)) (.int .u64 (lov Y))) ∧ Aside (Gw w4 w'))
          case first =>
            have HKV : Hid (∀ w', Gb w4 w' → Gb w4 w' ∧ w'.cell? ⟨bk, off + k, none⟩ = some (.int .u64 fk) ∧ w'.cell? ⟨bk, off + i, none⟩ = some (.int .u64 fi)) := fun w' g => ⟨g, (g.cell _ _ hb4).trans p1, (g.cell _ _ hb4).trans p0⟩
            go_region_held3 (fun w' => Gb w4 w' ∧ w'.cell? ⟨bk, off + k, none⟩ = some (.int .u64 fk) ∧ w'.cell? ⟨bk, off + i, none⟩ = some (.int .u64 fi))
              ((refine HKV.out _ ?_; (repeat (first | exact Gb.refl _ | exact And.left (by assumption) | refine Gb.drew ?_ | refine Gb.alloc ?_ _ _ | refine Gb.setCell ?_ (by first | (simp; done) | omega) _ | refine Gb.trans ?_ (by assumption))); done))
              (first | (go_at_call 32; refine (T2.out _).mono ?_; rintro ex v4 ⟨rfl, g4⟩; obtain ⟨k4, f4⟩ := g4.facts; have s4 := g4.size; try simp at s4))
            all_goals go_wp2_with fail
            all_goals go_meet
            all_goals
              case rel =>
                first
                  | exact ⟨_, rfl, (show Aside _ from Bx.new _ _ _ _), (show Aside _ from Gb.gw (And.left (by assumption)))⟩
                  | exact ⟨w4.heap.size, rfl, (show Aside _ from Bx.set (u := .int .i64 0) (v := .int .u64 0) ((Bx.new w4 61 _ _).gw ((Gw.refl _).drew.trans g4.gw)) _ _), (show Aside _ from Gb.gw (And.left (by assumption)))⟩
          case rest =>
            obtain ⟨wx, hwx⟩ : ∃ wx, wx = wc := ⟨_, rfl⟩
            subst hwx
            obtain ⟨q, rfl, XY, gx⟩ := hcut
            have XX : Aside (Bx wx N 61 (.int .i64 (hiv X)) (.int .u64 (lov X))) := X3.out.gw gx.out
            have GX : Aside (Gw w wx) := G4.out.trans gx.out
            clear X3 G4 gx p1 p0 hb4 T1 T2
            have a0 := XX.out.c0
            have a1 := XX.out.c1
            have b0 := XY.out.c0
            have b1 := XY.out.c1
            go_wp2_with fail
            refine (CM.out _).mono ?_
            rintro ex w5 ⟨rfl, g5⟩
            have G5 : Aside (Gw w w5) := GX.out.trans g5.gw
            clear g5 a0 a1 b0 b1 XX XY GX CM
            by_cases hq : Y < X
            · have cm : cmpi X Y = 1 := by unfold cmpi; rw [if_neg (by omega), if_neg (by omega)]
              have R : Aside (Steep (eps - 1) f n num den) := ⟨i, k, by omega, hkt, TE.out.1 hq⟩
              rw [cm]
              clear cm
              go_wp2_with fail
              go_ret
              exact ⟨⟨true, rfl, ⟨fun _ => R.out, fun _ => rfl⟩⟩, G5.out⟩
            · have cm : cmpi X Y ≤ 0 := by unfold cmpi; split <;> (try split) <;> omega
              obtain ⟨cc, hcc⟩ : ∃ cc, cmpi X Y = cc := ⟨_, rfl⟩
              rw [hcc] at cm ⊢
              have t3 : decide (0 < cc) = false := by simpa using cm
              have NX : Aside (∀ k', i < k' → k' < k + 1 → ((k' : Int) - i - 2 * (eps - 1)) * den ≤ num * (f k' - f i)) := fun k' r1 r2 => by
                by_cases e : k' = k
                · subst e; exact Int.not_lt.1 fun s => hq (TE.out.2 s)
                · exact JK.out k' r1 (by omega)
              clear hcc JK TE
              go_wp2_with fail
              go_roundg (n - (k + 1))
              case measure => omega
              case rel => exact ⟨k + 1, by first | rfl | go_num, by omega, by omega, Nat.le_refl _, NX, G5⟩
        · have ek : k = n := by omega
          subst ek
          have NX : Aside (∀ i' k', i' < i + 1 → i' < k' → k' < k → ((k' : Int) - i' - 2 * (eps - 1)) * den ≤ num * (f k' - f i')) := fun i' k' r1 r2 r3 => by
            by_cases e : i' = i
            · subst e; exact JK.out k' r2 r3
            · exact J.out i' k' (by omega) r2 r3
          clear J JK
          go_wp2_with fail
          go_roundg (k - (i + 1))
          case measure => omega
          case rel => exact ⟨i + 1, by first | rfl | go_num, by omega, Nat.le_refl _, NX, G⟩
    · have ei : i = n := by omega
      subst ei
      have R : Aside (¬ Steep (eps - 1) f i num den) := by
        rintro ⟨x, y, r1, r2, r3⟩
        have := J.out x y (by omega) r1 r2
        omega
      clear J
      go_wp2_with fail
      go_ret
      exact ⟨⟨false, rfl, ⟨fun q => by simp at q, fun q => absurd q R.out⟩⟩, G.out⟩

end Go.Proofs.Ytncnoaofdflbmaa
