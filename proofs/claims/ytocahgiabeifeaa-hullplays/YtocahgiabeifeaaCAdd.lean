/- Add: a key that is not above the last; the first key. -/
import Derived.Test.YtocahgiabeifeaaCFit
namespace Go.Proofs.Ytocahgiabeifeaa
open Go.RowKit
set_option linter.unusedVariables false

theorem Laid.undrew {w w' : World} {p o : Nat} {B : Array Value} {T : TypeId} {v : Value} {f : Nat → Int} {n : Nat} {x s h : Int} (k : Laid w.drew w' p o B T v f n x s h) : Laid w w' p o B T v f n x s h :=
  ⟨k.1, k.2.os, k.2.tape, k.2.output, k.2.size, k.2.block⟩
theorem Bx.gs' {S : Nat → Prop} {w w' : World} {b : Nat} {t : TypeId} {u v : Value} (h : Bx w b t u v) (g : Gs S w w') (n : ¬ S b) : Bx w' b t u v := (g.block b h.lt n).trans h

theorem FT.chains {w : World} {p : Nat} {v0 v1 : Value} {e : Int} {n : Nat} {f : Nat → Int} {lr lf mr mf : Int} {m0 m1 : Nat} {c0 c1 : Nat → Nat} (F : FT w p v0 v1 e n f lr lf mr mf m0 m1 c0 c1) (hn : 0 < n) :
    ∃ g0 cap0 g1 cap1, v0 = .slice (some ⟨g0, 0, none⟩) m0 cap0 ∧ v1 = .slice (some ⟨g1, 0, none⟩) m1 cap1 ∧ CH w p 6 g0 m0 cap0 (-1) (-e) f n c0 ∧ CH w p 8 g1 m1 cap1 1 e f n c1 := by
  obtain ⟨g0, cap0, e0, _, _⟩ := F.own0.form (F.ch0 hn).pos
  obtain ⟨g1, cap1, e1, _, _⟩ := F.own1.form (F.ch1 hn).pos
  subst e0
  subst e1
  exact ⟨g0, cap0, g1, cap1, rfl, rfl, ⟨F.blk.lt, F.blk.cell rfl, F.blk.cell rfl, ps_own F.own0, F.ch0 hn⟩, ⟨F.blk.lt, F.blk.cell rfl, F.blk.cell rfl, ps_own F.own1, F.ch1 hn⟩⟩

set_option maxRecDepth 10000 in
set_option maxHeartbeats 2000000 in
theorem hadd_back {w : World} {p : Nat} {v0 v1 : Value} {e : Int} {n : Nat} {f : Nat → Int} {lr lf mr mf : Int} {m0 m1 : Nat} {c0 c1 : Nat → Nat} (F : FT w p v0 v1 e n f lr lf mr mf m0 m1 c0 c1) (x : Int) (x0 : 0 ≤ x) (x1 : x < 18446744073709551616) (hn' : n ≤ 3000) (hn : 0 < n) (hx : x ≤ f (n - 1)) :
    Calls Try.prog 13 #[.pointer (some ⟨p, 0, none⟩), .int .u64 x] w fun ex w' => ex = .returned (.tuple #[.bool false, .int .i64 40]) ∧ Gw w w' := by
  have kb : KB f n := ⟨F.up, F.bd, by omega⟩
  obtain ⟨g0, cap0, g1, cap1, _, _, k0, k1⟩ := F.chains hn
  have LA : Hid (Calls Try.prog 25 #[.pointer (some ⟨p, 6, none⟩)] w fun e' w' => e' = .returned (.agg #[.int .u64 (f (n - 1)), .int .i64 (((n - 1 : Nat) : Int) + -e)]) ∧ Gw w w') := last_any kb w k0
  have c1' := F.blk.cell (o := 1) (v := .int .i64 n) rfl
  have hni : (0 : Int) < n := by omega
  generalize f (n - 1) = fl at LA hx
  generalize ((n - 1 : Nat) : Int) + -e = yl at LA
  have hfd : ∀ W : World, (Instr.field 65 (.agg #[.int .u64 fl, .int .i64 yl]) 0).run Try.prog W = .ok (.int .u64 fl) W := fun _ => by kernel_rfl
  clear F k0 k1 kb
  go_enter Try.func13, Try.ntmps13
  go_wp2_with fail
  refine LA.out.mono ?_
  rintro ex w1 ⟨rfl, g1⟩
  have G1 : Hid (Gw w w1) := g1
  clear g1
  go_wp2_with fail
  go_ret2
  exact ⟨rfl, G1.out⟩

set_option maxHeartbeats 8000000 in
theorem hadd_first {w : World} {p : Nat} {v0 v1 : Value} {e : Int} {f : Nat → Int} {lr lf mr mf : Int} {m0 m1 : Nat} {c0 c1 : Nat → Nat} (F : FT w p v0 v1 e 0 f lr lf mr mf m0 m1 c0 c1) (x : Int) (x0 : 0 ≤ x) (x1 : x < 18446744073709551616) :
    Calls Try.prog 13 #[.pointer (some ⟨p, 0, none⟩), .int .u64 x] w fun ex w' => ex = .returned (.tuple #[.bool true, .int .i64 0]) ∧ (∃ S', HFit w' p S' e 1 (upd f 0 x) ∧ ∀ q, S' q → FitS p v0 v1 q ∨ w.heap.size ≤ q) ∧ Gs (FitS p v0 v1) w w' := by
  obtain ⟨z0, z1⟩ := F.z rfl
  subst z0
  subst z1
  obtain ⟨e1, e2⟩ := F.e1
  have HB : Hid (Blk w p (fcells e 0 lr lf mr mf (.slice none 0 0) (.slice none 0 0)) 63) := F.blk
  have HF : Hid (LowU e (upd f 0 x) (Prs (0 + 1)) lr lf ∧ TopU e (upd f 0 x) (Prs (0 + 1)) mr mf ∧ FitsOn e (upd f 0 x) (Prs (0 + 1)) ∧ SB lr lf mr mf) := by
    refine ⟨F.low.congr (fun i j => ?_) (fun i j s => by have := s.1; have := s.2; omega), F.top.congr (fun i j => ?_) (fun i j s => by have := s.1; have := s.2; omega), fun i j i' j' s => by have := s.1; have := s.2; omega, F.sb⟩
    · unfold Prs; omega
    · unfold Prs; omega
  have c1' := F.blk.cell (o := 1) (v := .int .i64 0) rfl
  have c0' := F.blk.cell (o := 0) (v := .int .i64 e) rfl
  have lp := F.blk.lt
  have we1 : IntKind.i64.wrap (0 - e) = -e := by rw [IntKind.wrap_i64]; omega
  have we2 : IntKind.i64.wrap (-e) = -e := by rw [IntKind.wrap_i64]; omega
  clear F
  go_enter Try.func13, Try.ntmps13
  go_wp2_with fail
  go_cut [7, 8] (fun s7 s8 wc => ∃ (b7 b8 : Nat), s7 = .pointer (some ⟨b7, 0, none⟩) ∧ s8 = .pointer (some ⟨b8, 0, none⟩) ∧ Aside (Bx wc b7 65 (.int .u64 x) (.int .i64 (-e))) ∧ Aside (Bx wc b8 65 (.int .u64 x) (.int .i64 (e))) ∧ Aside (w.heap.size ≤ b7) ∧ Aside (w.heap.size ≤ b8) ∧ Aside (Gw w wc))
  case first =>
    go_region
    all_goals
      go_wp2_with fail
      go_meet
    all_goals
      case rel =>
        first
          | exact ⟨w.heap.size, w.heap.size + 1, rfl, rfl, (show Aside _ from (Bx.new w _ _ _).alloc _), (show Aside _ from (Bx.new _ _ _ _).at (by simp)), (show Aside _ from Nat.le_refl _), (show Aside _ from Nat.le_succ _), (show Aside _ from (((Gw.refl w).alloc _ _).alloc _ _).drew)⟩
          | exact ⟨w.heap.size + 1, w.heap.size, rfl, rfl, (show Aside _ from (Bx.new _ _ _ _).at (by simp)), (show Aside _ from (Bx.new w _ _ _).alloc _), (show Aside _ from Nat.le_succ _), (show Aside _ from Nat.le_refl _), (show Aside _ from (((Gw.refl w).alloc _ _).alloc _ _).drew)⟩
  case rest =>
    obtain ⟨W1, hwx⟩ : ∃ wx, wx = wc := ⟨_, rfl⟩
    subst hwx
    obtain ⟨b7, b8, rfl, rfl, B7, B8, L7, L8, G1⟩ := hcut
    have F1 : Hid (Blk W1 p (fcells e 0 lr lf mr mf (.slice none 0 0) (.slice none 0 0)) 63) := HB.out.gw G1.out
    have LA : Hid (∀ W, Gw W1 W → Calls Try.prog 27 #[.pointer (some ⟨p, 6, none⟩), .agg #[.int .u64 x, .int .i64 (-e)]] W fun ex w' => ex = .returned (.tuple #[]) ∧ Laid W w' p 6 (fcells e 0 lr lf mr mf (.slice none 0 0) (.slice none 0 0)) 63 (.slice none 0 0) f 0 x (-1) (-e)) := fun W G => lay_first (by omega) (by omega) x x0 x1 (F1.out.gw G) rfl
    have d0 := B7.out.c0
    have d1 := B7.out.c1
    have d2 := F1.out.cell (o := 1) (v := .int .i64 0) rfl
    clear c1' c0' we1 we2
    go_wp2_with fail
    go_cut [] (fun wc => Aside (Laid W1 wc p 6 (fcells e 0 lr lf mr mf (.slice none 0 0) (.slice none 0 0)) 63 (.slice none 0 0) f 0 x (-1) (-e)))
    case first =>
      go_region_with (go_at_call 27; refine (LA.out _ ((Gw.refl _).drew)).mono ?_; rintro ex w8 ⟨rfl, hL⟩; have HL : Hid (Laid W1 w8 p 6 (fcells e 0 lr lf mr mf (.slice none 0 0) (.slice none 0 0)) 63 (.slice none 0 0) f 0 x (-1) (-e)) := hL.undrew; clear hL)
      all_goals
        go_wp2_with fail
        go_meet
      all_goals
        case rel => exact HL.out
    case rest =>
      obtain ⟨W2, hwx⟩ : ∃ wx, wx = wc := ⟨_, rfl⟩
      subst hwx
      obtain ⟨⟨v0', m0', c0', H1, H2', H3, H4⟩, H5⟩ := hcut.out
      have D1 : Hid (Blk W2 p ((fcells e 0 lr lf mr mf (.slice none 0 0) (.slice none 0 0)).setIfInBounds (6 + 1) v0') 63) := H1
      have D2 : Hid (W2.ownsRow 0 65 2 v0' m0' (pcells (upd f 0 x) c0' (-e) m0')) := H2'
      have D3 : Hid (Chn (upd f 0 x) (fun j => -1 * (j : Int)) (0 + 1) m0' c0') := H3
      have D4 : Hid (∀ q, v0'.ownBlock = some q → ((Value.slice none 0 0).ownBlock = some q ∨ W1.heap.size ≤ q) ∧ q ≠ p) := H4
      have D5 : Hid (Gs (fun q => q = p ∨ (Value.slice none 0 0).ownBlock = some q) W1 W2) := H5
      have B82 : Hid (Bx W2 b8 65 (.int .u64 x) (.int .i64 e)) := B8.out.gs' H5 (fun r => by rcases r with r | r; (have := L8.out; omega); cases r)
      clear H1 H2' H3 H4 H5 hcut LA d0 d1 d2
      have LA : Hid (∀ W, Gw W2 W → Calls Try.prog 27 #[.pointer (some ⟨p, 8, none⟩), .agg #[.int .u64 x, .int .i64 e]] W fun ex w' => ex = .returned (.tuple #[]) ∧ Laid W w' p 8 ((fcells e 0 lr lf mr mf (.slice none 0 0) (.slice none 0 0)).setIfInBounds (6 + 1) v0') 63 (.slice none 0 0) f 0 x 1 e) := fun W G => lay_first (by omega) (by omega) x x0 x1 (D1.out.gw G) rfl
      have d0 := B82.out.c0
      have d1 := B82.out.c1
      go_wp2_with fail
      go_cut [] (fun wc => Aside (Laid W2 wc p 8 ((fcells e 0 lr lf mr mf (.slice none 0 0) (.slice none 0 0)).setIfInBounds (6 + 1) v0') 63 (.slice none 0 0) f 0 x (1) (e)))
      case first =>
        go_region_with (go_at_call 27; refine (LA.out _ ((Gw.refl _).drew)).mono ?_; rintro ex w8 ⟨rfl, hL⟩; have HL : Hid (Laid W2 w8 p 8 ((fcells e 0 lr lf mr mf (.slice none 0 0) (.slice none 0 0)).setIfInBounds (6 + 1) v0') 63 (.slice none 0 0) f 0 x (1) (e)) := hL.undrew; clear hL)
        all_goals
          go_wp2_with fail
          go_meet
        all_goals
          case rel => exact HL.out
      case rest =>
        obtain ⟨W3, hwx⟩ : ∃ wx, wx = wc := ⟨_, rfl⟩
        subst hwx
        obtain ⟨⟨v1', m1', c1', H1, H2', H3, H4⟩, H5⟩ := hcut.out
        have FIN : Hid ((∃ S', HFit (W3.setCell ⟨p, 1, none⟩ (.int .i64 1)) p S' e (0 + 1) (upd f 0 x) ∧ ∀ q, S' q → FitS p (.slice none 0 0) (.slice none 0 0) q ∨ w.heap.size ≤ q) ∧ Gs (FitS p (.slice none 0 0) (.slice none 0 0)) w (W3.setCell ⟨p, 1, none⟩ (.int .i64 1))) := by
          refine fit_done (n := 0) (fun q hq => by cases hq) (fun q hq => by cases hq) (fun q hq => by cases hq) lp (G1.out.gs _) D5.out D2.out D4.out D3.out H5 H2' H4 H3 H1 (fun j hj => by omega) (fun i hi => ?_) HF.out.1 HF.out.2.1 HF.out.2.2.1 ⟨e1, e2⟩ HF.out.2.2.2
          have : i = 0 := by omega
          subst this
          rw [upd_at]
          exact ⟨x0, x1⟩
        have q1 : W3.cell? ⟨p, 1, none⟩ = some (.int .i64 0) := H1.cell rfl
        have q2 := H1.fz 1
        clear H1 H2' H3 H4 H5 hcut D1 D2 D3 D4 D5 LA d0 d1
        go_wp2_with fail
        go_ret2
        exact ⟨rfl, FIN.out.1, FIN.out.2⟩

end Go.Proofs.Ytocahgiabeifeaa
