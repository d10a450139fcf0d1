/- Add: one key more. -/
import Derived.Test.YtocahgiabeifeaaCAdd
import Derived.Test.YtocahgiabeifeaaCNarrow
namespace Go.Proofs.Ytocahgiabeifeaa
open Go.RowKit
set_option linter.unusedVariables false

set_option maxRecDepth 10000 in
set_option maxHeartbeats 16000000 in
theorem hadd_more {w : World} {p : Nat} {v0 v1 : Value} {e : Int} {n : Nat} {f : Nat → Int} {lr lf mr mf : Int} {m0 m1 : Nat} {c0 c1 : Nat → Nat} (F : FT w p v0 v1 e n f lr lf mr mf m0 m1 c0 c1) (x : Int) (x0 : 0 ≤ x) (x1 : x < 18446744073709551616) (hn' : n ≤ 3000) (hn : 0 < n) (hx : f (n - 1) < x) :
    Calls Try.prog 13 #[.pointer (some ⟨p, 0, none⟩), .int .u64 x] w fun ex w' => ∃ ok : Bool, ex = .returned (.tuple #[.bool ok, .int .i64 0]) ∧ (ok = true ↔ FitsOn e (upd f n x) (Prs (n + 1))) ∧ (ok = false → Gw w w') ∧ (ok = true → (∃ S', HFit w' p S' e (n + 1) (upd f n x) ∧ ∀ q, S' q → FitS p v0 v1 q ∨ w.heap.size ≤ q) ∧ Gs (FitS p v0 v1) w w') := by
  have kb : KB f n := ⟨F.up, F.bd, by omega⟩
  obtain ⟨e1, e2⟩ := F.e1
  obtain ⟨g0, cap0, g1, cap1, ev0, ev1, k0, k1⟩ := F.chains hn
  subst ev0
  subst ev1
  have LA0 : Hid (Calls Try.prog 25 #[.pointer (some ⟨p, 6, none⟩)] w fun e' w' => e' = .returned (.agg #[.int .u64 (f (n - 1)), .int .i64 (((n - 1 : Nat) : Int) + -e)]) ∧ Gw w w') := last_any kb w k0
  have NA : Hid (∀ W, Gw w W → Calls Try.prog 26 #[.pointer (some ⟨p, 0, none⟩), .agg #[.int .u64 x, .int .i64 ((n : Int) - e)], .agg #[.int .u64 x, .int .i64 ((n : Int) + e)]] W fun ex w' => ∃ ok : Bool, ex = .returned (.bool ok) ∧ Narrowed W w' p e n f x (.slice (some ⟨g0, 0, none⟩) m0 cap0) (.slice (some ⟨g1, 0, none⟩) m1 cap1) ok) := fun W G => narrow_any kb hn hn' e1 e2 x hx x1 (F.blk.gw G) (k0.gw G) (k1.gw G) F.low F.top F.sb
  have HFT : Hid (FT w p (.slice (some ⟨g0, 0, none⟩) m0 cap0) (.slice (some ⟨g1, 0, none⟩) m1 cap1) e n f lr lf mr mf m0 m1 c0 c1) := F
  have KB' : Hid (KB f n) := kb
  have c1' := F.blk.cell (o := 1) (v := .int .i64 n) rfl
  have lp := F.blk.lt
  have hni : (0 : Int) < n := by omega
  have we1 : IntKind.i64.wrap ((n : Int) - e) = (n : Int) - e := by rw [IntKind.wrap_i64]; omega
  have we2 : IntKind.i64.wrap ((n : Int) + e) = (n : Int) + e := by rw [IntKind.wrap_i64]; omega
  have HX : Hid (f (n - 1) < x) := hx
  have hx' : ¬ x ≤ f (n - 1) := by omega
  generalize f (n - 1) = fl at LA0 hx'
  generalize ((n - 1 : Nat) : Int) + -e = yl at LA0
  have hfd : ∀ W : World, (Instr.field 65 (.agg #[.int .u64 fl, .int .i64 yl]) 0).run Try.prog W = .ok (.int .u64 fl) W := fun _ => by kernel_rfl
  clear F k0 k1 kb hx
  go_enter Try.func13, Try.ntmps13
  go_wp2_with fail
  refine LA0.out.mono ?_
  rintro ex wz ⟨rfl, gz⟩
  have GZ : Hid (Gw w wz) := gz
  have c2' := (GZ.out.cell p 1 lp).trans c1'
  have c0' := (GZ.out.cell p 0 lp).trans (HFT.out.blk.cell (o := 0) (v := .int .i64 e) rfl)
  have lpz : p < wz.heap.size := Nat.lt_of_lt_of_le lp GZ.out.size
  clear gz LA0
  go_wp2_with fail
  go_cut [7, 8] (fun s7 s8 wc => ∃ (b7 b8 : Nat), s7 = .pointer (some ⟨b7, 0, none⟩) ∧ s8 = .pointer (some ⟨b8, 0, none⟩) ∧ Aside (Bx wc b7 65 (.int .u64 x) (.int .i64 ((n : Int) - e))) ∧ Aside (Bx wc b8 65 (.int .u64 x) (.int .i64 ((n : Int) + e))) ∧ Aside (wz.heap.size ≤ b7) ∧ Aside (wz.heap.size ≤ b8) ∧ Aside (Gw wz wc))
  case first =>
    go_region
    all_goals
      go_wp2_with fail
      go_meet
    all_goals
      case rel =>
        first
          | exact ⟨wz.heap.size, wz.heap.size + 1, rfl, rfl, (show Aside _ from (Bx.new wz _ _ _).alloc _), (show Aside _ from (Bx.new _ _ _ _).at (by simp)), (show Aside _ from Nat.le_refl _), (show Aside _ from Nat.le_succ _), (show Aside _ from (((Gw.refl wz).alloc _ _).alloc _ _).drew)⟩
          | exact ⟨wz.heap.size + 1, wz.heap.size, rfl, rfl, (show Aside _ from (Bx.new _ _ _ _).at (by simp)), (show Aside _ from (Bx.new wz _ _ _).alloc _), (show Aside _ from Nat.le_succ _), (show Aside _ from Nat.le_refl _), (show Aside _ from (((Gw.refl wz).alloc _ _).alloc _ _).drew)⟩
  case rest =>
    obtain ⟨W1, hwx⟩ : ∃ wx, wx = wc := ⟨_, rfl⟩
    subst hwx
    obtain ⟨b7, b8, rfl, rfl, B7, B8, L7, L8, G1⟩ := hcut
    have GW1 : Hid (Gw w W1) := GZ.out.trans G1.out
    have l7 : w.heap.size ≤ b7 := Nat.le_trans GZ.out.size L7.out
    have l8 : w.heap.size ≤ b8 := Nat.le_trans GZ.out.size L8.out
    have d0 := B7.out.c0
    have d1 := B7.out.c1
    have d2 := B8.out.c0
    have d3 := B8.out.c1
    have d4 := (GW1.out.cell p 1 lp).trans c1'
    clear c1' c2' c0' we1 we2 hx' lpz
    go_wp2_with fail
    refine (NA.out _ GW1.out).mono ?_
    rintro ex W2 ⟨ok, rfl, hN⟩
    have HN : Hid (Narrowed W1 W2 p e n f x (.slice (some ⟨g0, 0, none⟩) m0 cap0) (.slice (some ⟨g1, 0, none⟩) m1 cap1) ok) := hN
    clear hN NA d0 d1 d2 d3 d4
    cases ok with
    | false =>
      go_wp2_with fail
      go_ret2
      exact ⟨false, rfl, HN.out.1, fun _ => GW1.out.trans (HN.out.2.1 rfl), fun q => Bool.noConfusion q⟩
    | true =>
      have FI : Hid (FitsOn e (upd f n x) (Prs (n + 1))) := HN.out.1.1 rfl
      obtain ⟨⟨lr', lf', mr', mf', hB, hL, hT, hS⟩, hG⟩ := HN.out.2.2 rfl
      have HB2 : Hid (Blk W2 p (fcells e n lr' lf' mr' mf' (.slice (some ⟨g0, 0, none⟩) m0 cap0) (.slice (some ⟨g1, 0, none⟩) m1 cap1)) 63) := hB
      have SL : Hid (LowU e (upd f n x) (Prs (n + 1)) lr' lf' ∧ TopU e (upd f n x) (Prs (n + 1)) mr' mf' ∧ SB lr' lf' mr' mf') := ⟨hL, hT, hS⟩
      have GA : Hid (Gs (fun q => q = p) w W2) := ⟨hG.os.trans GW1.out.below.os, hG.tape.trans GW1.out.below.tape, hG.output.trans GW1.out.below.output, Nat.le_trans GW1.out.size hG.size, fun q hq hs => (hG.block q (Nat.lt_of_lt_of_le hq GW1.out.size) hs).trans (GW1.out.below.block q hq)⟩
      have B72 : Hid (Bx W2 b7 65 (.int .u64 x) (.int .i64 ((n : Int) - e))) := B7.out.gs' hG (fun r => by have : b7 = p := r; omega)
      have B82 : Hid (Bx W2 b8 65 (.int .u64 x) (.int .i64 ((n : Int) + e))) := B8.out.gs' hG (fun r => by have : b8 = p := r; omega)
      have OW : Hid ((g0 < w.heap.size ∧ g0 ≠ p) ∧ (g1 < w.heap.size ∧ g1 ≠ p) ∧ g0 ≠ g1) := ⟨⟨(HFT.out.own0.lt g0 rfl).2, HFT.out.ne0 g0 rfl⟩, ⟨(HFT.out.own1.lt g1 rfl).2, HFT.out.ne1 g1 rfl⟩, fun q => HFT.out.ne g0 rfl (by rw [q]; rfl)⟩
      have O02 : Hid (W2.ownsRow 0 65 2 (.slice (some ⟨g0, 0, none⟩) m0 cap0) m0 (pcells f c0 (-e) m0)) := own_keep HFT.out.own0 fun q hq => GA.out.block q (HFT.out.own0.lt q hq).2 (HFT.out.ne0 q hq)
      have O12 : Hid (W2.ownsRow 0 65 2 (.slice (some ⟨g1, 0, none⟩) m1 cap1) m1 (pcells f c1 e m1)) := own_keep HFT.out.own1 fun q hq => GA.out.block q (HFT.out.own1.lt q hq).2 (HFT.out.ne1 q hq)
      have LA : Hid (∀ W, Gw W2 W → Calls Try.prog 27 #[.pointer (some ⟨p, 6, none⟩), .agg #[.int .u64 x, .int .i64 ((n : Int) - e)]] W fun ex w' => ex = .returned (.tuple #[]) ∧ Laid W w' p 6 (fcells e n lr' lf' mr' mf' (.slice (some ⟨g0, 0, none⟩) m0 cap0) (.slice (some ⟨g1, 0, none⟩) m1 cap1)) 63 (.slice (some ⟨g0, 0, none⟩) m0 cap0) f n x (-1) (-e)) := fun W G => (by
        have := lay_more (o := 6) (s := -1) (h := -e) KB'.out hn (.inr rfl) (by omega) (by omega) x HX.out x1 (HB2.out.gw G) rfl rfl (own_keep O02.out fun q hq => G.below.block q (O02.out.lt q hq).2) OW.out.1.2 (HFT.out.ch0 hn)
        rw [show (n : Int) + -e = (n : Int) - e by omega] at this
        exact this)
      have d0 := B72.out.c0
      have d1 := B72.out.c1
      clear HN hB hL hT hS hG B7 B8 B72 GW1 GZ G1
      go_wp2_with fail
      go_cut [] (fun wc => Aside (Laid W2 wc p 6 (fcells e n lr' lf' mr' mf' (.slice (some ⟨g0, 0, none⟩) m0 cap0) (.slice (some ⟨g1, 0, none⟩) m1 cap1)) 63 (.slice (some ⟨g0, 0, none⟩) m0 cap0) f n x (-1) (-e)))
      case first =>
        go_region_with (go_at_call 27; refine (LA.out _ ((Gw.refl _).drew)).mono ?_; rintro ex w8 ⟨rfl, hL⟩; have HL : Hid (Laid W2 w8 p 6 (fcells e n lr' lf' mr' mf' (.slice (some ⟨g0, 0, none⟩) m0 cap0) (.slice (some ⟨g1, 0, none⟩) m1 cap1)) 63 (.slice (some ⟨g0, 0, none⟩) m0 cap0) f n x (-1) (-e)) := hL.undrew; clear hL)
        all_goals
          go_wp2_with fail
          go_meet
        all_goals
          case rel => exact HL.out
      case rest =>
        obtain ⟨W3, hwx⟩ : ∃ wx, wx = wc := ⟨_, rfl⟩
        subst hwx
        obtain ⟨⟨v0', m0', c0', H1, H2', H3, H4⟩, H5⟩ := hcut.out
        have D1 : Hid (Blk W3 p ((fcells e n lr' lf' mr' mf' (.slice (some ⟨g0, 0, none⟩) m0 cap0) (.slice (some ⟨g1, 0, none⟩) m1 cap1)).setIfInBounds (6 + 1) v0') 63) := H1
        have D2 : Hid (W3.ownsRow 0 65 2 v0' m0' (pcells (upd f n x) c0' (-e) m0')) := H2'
        have D3 : Hid (Chn (upd f n x) (fun j => -1 * (j : Int)) (n + 1) m0' c0') := H3
        have D4 : Hid (∀ q, v0'.ownBlock = some q → ((Value.slice (some ⟨g0, 0, none⟩) m0 cap0).ownBlock = some q ∨ W2.heap.size ≤ q) ∧ q ≠ p) := H4
        have D5 : Hid (Gs (fun q => q = p ∨ (Value.slice (some ⟨g0, 0, none⟩) m0 cap0).ownBlock = some q) W2 W3) := H5
        have B83 : Hid (Bx W3 b8 65 (.int .u64 x) (.int .i64 ((n : Int) + e))) := B82.out.gs' H5 (fun r => by
          rcases r with r | r
          · have : b8 = p := r
            omega
          · have r' : some g0 = some b8 := r
            have := OW.out.1.1
            simp at r'
            omega)
        have O13 : Hid (W3.ownsRow 0 65 2 (.slice (some ⟨g1, 0, none⟩) m1 cap1) m1 (pcells f c1 e m1)) := own_keep O12.out fun q hq => (by
          have hq2 := (O12.out.lt q hq).2
          cases hq
          exact H5.block _ hq2 (fun r => by
            rcases r with r | r
            · exact OW.out.2.1.2 r
            · cases r
              exact OW.out.2.2 rfl))
        clear H1 H2' H3 H4 H5 hcut LA d0 d1
        have LA : Hid (∀ W, Gw W3 W → Calls Try.prog 27 #[.pointer (some ⟨p, 8, none⟩), .agg #[.int .u64 x, .int .i64 ((n : Int) + e)]] W fun ex w' => ex = .returned (.tuple #[]) ∧ Laid W w' p 8 ((fcells e n lr' lf' mr' mf' (.slice (some ⟨g0, 0, none⟩) m0 cap0) (.slice (some ⟨g1, 0, none⟩) m1 cap1)).setIfInBounds (6 + 1) v0') 63 (.slice (some ⟨g1, 0, none⟩) m1 cap1) f n x 1 e) := fun W G =>
          lay_more (o := 8) (s := 1) (h := e) KB'.out hn (.inl rfl) (by omega) (by omega) x HX.out x1 (D1.out.gw G) rfl rfl (own_keep O13.out fun q hq => G.below.block q (O13.out.lt q hq).2) OW.out.2.1.2 (HFT.out.ch1 hn)
        have d0 := B83.out.c0
        have d1 := B83.out.c1
        go_wp2_with fail
        go_cut [] (fun wc => Aside (Laid W3 wc p 8 ((fcells e n lr' lf' mr' mf' (.slice (some ⟨g0, 0, none⟩) m0 cap0) (.slice (some ⟨g1, 0, none⟩) m1 cap1)).setIfInBounds (6 + 1) v0') 63 (.slice (some ⟨g1, 0, none⟩) m1 cap1) f n x (1) (e)))
        case first =>
          go_region_with (go_at_call 27; refine (LA.out _ ((Gw.refl _).drew)).mono ?_; rintro ex w8 ⟨rfl, hL⟩; have HL : Hid (Laid W3 w8 p 8 ((fcells e n lr' lf' mr' mf' (.slice (some ⟨g0, 0, none⟩) m0 cap0) (.slice (some ⟨g1, 0, none⟩) m1 cap1)).setIfInBounds (6 + 1) v0') 63 (.slice (some ⟨g1, 0, none⟩) m1 cap1) f n x (1) (e)) := hL.undrew; clear hL)
          all_goals
            go_wp2_with fail
            go_meet
          all_goals
            case rel => exact HL.out
        case rest =>
          obtain ⟨W4, hwx⟩ : ∃ wx, wx = wc := ⟨_, rfl⟩
          subst hwx
          obtain ⟨⟨v1', m1', c1', H1, H2', H3, H4⟩, H5⟩ := hcut.out
          have FIN : Hid ((∃ S', HFit (W4.setCell ⟨p, 1, none⟩ (.int .i64 ((n : Int) + 1))) p S' e (n + 1) (upd f n x) ∧ ∀ q, S' q → FitS p (.slice (some ⟨g0, 0, none⟩) m0 cap0) (.slice (some ⟨g1, 0, none⟩) m1 cap1) q ∨ w.heap.size ≤ q) ∧ Gs (FitS p (.slice (some ⟨g0, 0, none⟩) m0 cap0) (.slice (some ⟨g1, 0, none⟩) m1 cap1)) w (W4.setCell ⟨p, 1, none⟩ (.int .i64 ((n : Int) + 1)))) := by
            refine fit_done (n := n) (fun q hq => by cases hq; exact OW.out.1) (fun q hq => by cases hq; exact OW.out.2.1) (fun q hq hr => by cases hq; cases hr; exact OW.out.2.2 rfl) lp GA.out D5.out D2.out D4.out D3.out H5 H2' H4 H3 H1 (up_upd KB'.out.up (fun _ => HX.out)) (fun i hi => ?_) SL.out.1 SL.out.2.1 FI.out ⟨e1, e2⟩ SL.out.2.2
            by_cases hin : i = n
            · rw [hin, upd_at]
              exact ⟨x0, x1⟩
            · rw [upd_lo (by omega)]
              exact KB'.out.bd i (by omega)
          have q1 : W4.cell? ⟨p, 1, none⟩ = some (.int .i64 n) := H1.cell rfl
          have q2 := H1.fz 1
          have q3 : IntKind.i64.wrap ((n : Int) + 1) = (n : Int) + 1 := by rw [IntKind.wrap_i64]; omega
          clear H1 H2' H3 H4 H5 hcut D1 D2 D3 D4 D5 LA d0 d1
          go_wp2_with fail
          go_ret2
          exact ⟨true, rfl, ⟨fun _ => FI.out, fun _ => rfl⟩, (fun q => Bool.noConfusion q), fun _ => FIN.out⟩

theorem hadd {w : World} {p : Nat} {S : Nat → Prop} {e : Int} {n : Nat} {f : Nat → Int} (h : HFit w p S e n f) (x : Int) (x0 : 0 ≤ x) (x1 : x < 18446744073709551616) (hn : n ≤ 3000) :
    Calls Try.prog 13 #[.pointer (some ⟨p, 0, none⟩), .int .u64 x] w fun ex w' =>
      (∃ (ok : Bool) (err : Int) (S' : Nat → Prop), ex = .returned (.tuple #[.bool ok, .int .i64 err]) ∧ AddR e n f x ok err ∧ HFit w' p S' e (if ok then n + 1 else n) (if ok then upd f n x else f) ∧ ∀ q, S' q → S q ∨ w.heap.size ≤ q) ∧ Gs S w w' := by
  have hk := h
  obtain ⟨v0, v1, lr, lf, mr, mf, m0, m1, c0, c1, F, hS⟩ := h
  have KEEP : ∀ w', Gw w w' → HFit w' p S e n f := fun w' G => hk.keep fun q hq => G.below.block q (hk.lt q hq)
  have GS : ∀ w', Gs (FitS p v0 v1) w w' → Gs S w w' := fun w' g => ⟨g.os, g.tape, g.output, g.size, fun q hq hs => g.block q hq (fun r => hs ((hS q).2 r))⟩
  by_cases hx : 0 < n ∧ x ≤ f (n - 1)
  · refine (hadd_back F x x0 x1 hn hx.1 hx.2).mono ?_
    rintro ex w' ⟨rfl, g⟩
    exact ⟨⟨false, 40, S, rfl, .inl ⟨hx.1, hx.2, rfl, rfl⟩, KEEP w' g, fun q hq => .inl hq⟩, g.gs S⟩
  · by_cases hz : n = 0
    · subst hz
      refine (hadd_first F x x0 x1).mono ?_
      rintro ex w' ⟨rfl, ⟨S', hF, hsub⟩, g⟩
      refine ⟨⟨true, 0, S', rfl, .inr ⟨hx, rfl, ⟨fun _ => ?_, fun _ => rfl⟩⟩, hF, fun q hq => ?_⟩, GS w' g⟩
      · intro i j i' j' s
        have := s.1; have := s.2; omega
      · rcases hsub q hq with r | r
        · exact .inl ((hS q).2 r)
        · exact .inr r
    · have hx' : f (n - 1) < x := by
        rcases Int.lt_or_le (f (n - 1)) x with q | q
        · exact q
        · exact absurd ⟨by omega, q⟩ hx
      refine (hadd_more F x x0 x1 hn (by omega) hx').mono ?_
      rintro ex w' ⟨ok, rfl, h1, h2, h3⟩
      cases ok with
      | false => exact ⟨⟨false, 0, S, rfl, .inr ⟨hx, rfl, h1⟩, KEEP w' (h2 rfl), fun q hq => .inl hq⟩, (h2 rfl).gs S⟩
      | true =>
        obtain ⟨⟨S', hF, hsub⟩, g⟩ := h3 rfl
        refine ⟨⟨true, 0, S', rfl, .inr ⟨hx, rfl, h1⟩, hF, fun q hq => ?_⟩, GS w' g⟩
        rcases hsub q hq with r | r
        · exact .inl ((hS q).2 r)
        · exact .inr r

theorem hullc : HullC HFit :=
  ⟨HFit.keep, HFit.lt, HFit.ext, HFit.facts, hnew_bad, hnew_ok, hadd, hcount, hleast, hmost⟩

end Go.Proofs.Ytocahgiabeifeaa
