/- HullNarrows returns true, over whatever keeps what is asked of package hull. -/
import Derived.Test.YtocahgiabeifeaaHC
namespace Go.Proofs.Ytocahgiabeifeaa
open Go.RowKit
set_option linter.unusedVariables false

theorem Bx.gs {w w' : World} {b : Nat} {t : TypeId} {u v : Value} {S : Nat → Prop} (h : Bx w b t u v) (g : Gs S w w') (hs : ¬ S b) : Bx w' b t u v := (g.block b h.lt hs).trans h

set_option maxRecDepth 100000 in
set_option maxHeartbeats 8000000 in
theorem hnarrows_walk {HF : World → Nat → (Nat → Prop) → Int → Nat → (Nat → Int) → Prop} (H : HullC HF) (eps : Int) (ao : Option Addr) (n c : Nat) (f : Nat → Int) (p0 : -9223372036854775808 ≤ eps) (p1 : eps < 9223372036854775808) (hn : n * 8 ≤ 140737488351232) (w : World) (h : KS w ao n f) :
    Calls Try.prog 6 #[.int .i64 eps, .slice ao n c] w fun e w' => e = .returned (.bool true) ∧ Gw w w' := by
  have HH : Aside (HullC HF) := H
  clear H
  have HK : Aside (KS w ao n f) := h
  clear h
  by_cases hok : 2 ≤ eps ∧ eps ≤ 64
  · obtain ⟨k1, k2⟩ := hok
    go_enter Try.func6, Try.ntmps6
    go_wp2_with fail
    refine (hshown HH.out w).mono ?_
    rintro e w1 ⟨rfl, g1⟩
    have G1 : Hid (Gw w w1) := g1
    clear g1
    go_wp2_with fail
    refine (HH.out.new eps k1 k2 _).mono ?_
    rintro e w2 ⟨⟨p, S, rfl, hS, h2⟩, g2⟩
    have H2 : Aside (HF w2 p S (eps - 1) 0 (fun _ => 0)) := h2
    have G2 : Aside (Gw w w2) := G1.out.trans g2
    have S2 : Aside (∀ q, S q → w.heap.size ≤ q) := fun q hq => Nat.le_trans G1.out.size (hS q hq)
    clear h2 g2 hS G1
    go_wp2_with fail
    go_loopg [8] n (fun gg s8 wr => ∃ (i m : Nat) (S' : Nat → Prop) (fk : Nat → Int), s8 = .int .i64 i ∧ i ≤ n ∧ n - i ≤ gg ∧ m ≤ i ∧ i ≤ 3000 ∧ Aside (HF wr p S' (eps - 1) m fk) ∧ Aside (∀ q, S' q → w.heap.size ≤ q) ∧ Aside (Gw w wr))
    case atStart => exact ⟨0, 0, S, _, rfl, Nat.zero_le _, by omega, Nat.le_refl _, by omega, H2, S2, G2⟩
    case round =>
      obtain ⟨i, m, S', fk, rfl, h1, h2, h3, h4, HI, SI, GI⟩ := hrel
      clear H2 G2 S2
      by_cases hlt : i < n
      · by_cases hm : i < 3000
        · have hm' : (i : Int) < 3000 := by omega
          go_wp2_with fail
          refine (HH.out.count HI.out (by omega)).mono ?_
          rintro ex v1 ⟨rfl, g1⟩
          have H1 : Hid (HF v1 p S' (eps - 1) m fk) := HH.out.gw HI.out g1
          have G1 : Hid (Gw w v1) := GI.out.trans g1
          clear g1
          go_wp2_with fail
          refine (HH.out.least H1.out (by omega)).mono ?_
          rintro ex v2 ⟨⟨a, b, rfl, hlo, wa, wb⟩, g2⟩
          have LO : Hid (LowOn (eps - 1) fk (Prs m) a b) := hlo
          have a0 := hlo.a0
          have b1 := hlo.b1
          have H2 : Hid (HF v2 p S' (eps - 1) m fk) := HH.out.gw H1.out g2
          have G2 : Hid (Gw w v2) := G1.out.trans g2
          have NS : Hid (∀ q, v2.heap.size ≤ q → ¬ S' q) := fun q hq s => by have := HH.out.lt H2.out q s; omega
          have H2a : Hid (HF (v2.alloc (.cells #[.int .u64 a, .int .u64 b] 47)) p S' (eps - 1) m fk) := HH.out.gw H2.out ((Gw.refl v2).alloc _ _)
          have G2a : Hid (Gw w (v2.alloc (.cells #[.int .u64 a, .int .u64 b] 47))) := G2.out.alloc _ _
          have X1 : Hid (Bx (v2.alloc (.cells #[.int .u64 a, .int .u64 b] 47)) v2.heap.size 47 (.int .u64 a) (.int .u64 b)) := Bx.new _ _ _ _
          clear hlo g2 H1 G1 H2 G2
          go_wp2_with fail
          refine (HH.out.most H2a.out (by omega)).mono ?_
          rintro ex v3 ⟨⟨cc, d, rfl, hto, wc, wd0, wd1⟩, g3⟩
          have TO : Hid (TopOn (eps - 1) fk (Prs m) cc d) := hto
          have c0 := top_pos hto
          have H3a : Hid (HF (v3.alloc (.cells #[.int .u64 cc, .int .u64 d] 47)) p S' (eps - 1) m fk) := HH.out.gw H2a.out (g3.alloc _ _)
          have G3a : Hid (Gw w (v3.alloc (.cells #[.int .u64 cc, .int .u64 d] 47))) := (G2a.out.trans g3).alloc _ _
          have X1a : Hid (Bx (v3.alloc (.cells #[.int .u64 cc, .int .u64 d] 47)) v2.heap.size 47 (.int .u64 a) (.int .u64 b)) := (X1.out.gw g3).alloc _
          have X2a : Hid (Bx (v3.alloc (.cells #[.int .u64 cc, .int .u64 d] 47)) v3.heap.size 47 (.int .u64 cc) (.int .u64 d)) := Bx.new _ _ _ _
          have s23 : v2.heap.size ≤ v3.heap.size := Nat.le_of_lt (X1.out.gw g3).lt
          have G3 : Hid (Gw w v3) := G2a.out.trans g3
          have ks := HK.out.gw G3.out
          obtain ⟨bk, off, rfl, hb, hc⟩ := ks.cells (by omega)
          have q1 := hc i hlt
          obtain ⟨x0, x1⟩ := HK.out.bd i hlt
          clear hto g3 H2a G2a X1 ks hc
          generalize f i = x at q1 x0 x1
          go_wp2_with fail
          refine (HH.out.add H3a.out x x0 x1 (by omega)).mono ?_
          rintro ex v4 ⟨⟨ok, err, S2, rfl, hA, hF, hsub⟩, g4⟩
          have AR : Hid (AddR (eps - 1) m fk x ok err) := hA
          have H4 : Hid (HF v4 p S2 (eps - 1) (if ok then m + 1 else m) (if ok then upd fk m x else fk)) := hF
          have S4 : Hid (∀ q, S2 q → w.heap.size ≤ q) := fun q hq => by
            rcases hsub q hq with r | r
            · exact SI.out q r
            · have := G3a.out.size; omega
          have G4 : Hid (Gw w v4) := Gs.gw G3a.out g4 SI.out
          have X14 : Hid (Bx v4 v2.heap.size 47 (.int .u64 a) (.int .u64 b)) := X1a.out.gs g4 (NS.out _ (Nat.le_refl _))
          have X24 : Hid (Bx v4 v3.heap.size 47 (.int .u64 cc) (.int .u64 d)) := X2a.out.gs g4 (NS.out _ s23)
          clear hA hF hsub g4 H3a G3a G3 X1a X2a q1 hb
          go_wp2_with fail
          refine (HH.out.least H4.out (by split <;> omega)).mono ?_
          rintro ex v5 ⟨⟨a', b', rfl, hlo, wa', wb'⟩, g5⟩
          have LO' : Hid (LowOn (eps - 1) (if ok then upd fk m x else fk) (Prs (if ok then m + 1 else m)) a' b') := hlo
          have a0' := hlo.a0
          have b1' := hlo.b1
          have H5 : Hid (HF (v5.alloc (.cells #[.int .u64 a', .int .u64 b'] 47)) p S2 (eps - 1) (if ok then m + 1 else m) (if ok then upd fk m x else fk)) := HH.out.gw H4.out (g5.alloc _ _)
          have G5 : Hid (Gw w (v5.alloc (.cells #[.int .u64 a', .int .u64 b'] 47))) := (G4.out.trans g5).alloc _ _
          have X15 : Hid (Bx (v5.alloc (.cells #[.int .u64 a', .int .u64 b'] 47)) v2.heap.size 47 (.int .u64 a) (.int .u64 b)) := (X14.out.gw g5).alloc _
          have X25 : Hid (Bx (v5.alloc (.cells #[.int .u64 a', .int .u64 b'] 47)) v3.heap.size 47 (.int .u64 cc) (.int .u64 d)) := (X24.out.gw g5).alloc _
          have X35 : Hid (Bx (v5.alloc (.cells #[.int .u64 a', .int .u64 b'] 47)) v5.heap.size 47 (.int .u64 a') (.int .u64 b')) := Bx.new _ _ _ _
          clear hlo g5 H4 G4 X14 X24
          go_wp2_with fail
          refine (HH.out.most H5.out (by split <;> omega)).mono ?_
          rintro ex v6 ⟨⟨c', d', rfl, hto, wc', wd0', wd1'⟩, g6⟩
          have TO' : Hid (TopOn (eps - 1) (if ok then upd fk m x else fk) (Prs (if ok then m + 1 else m)) c' d') := hto
          have c0' := top_pos hto
          have H6 : Hid (HF (v6.alloc (.cells #[.int .u64 c', .int .u64 d'] 47)) p S2 (eps - 1) (if ok then m + 1 else m) (if ok then upd fk m x else fk)) := HH.out.gw H5.out (g6.alloc _ _)
          have G6 : Hid (Gw w (v6.alloc (.cells #[.int .u64 c', .int .u64 d'] 47))) := (G5.out.trans g6).alloc _ _
          have X16 : Hid (Bx (v6.alloc (.cells #[.int .u64 c', .int .u64 d'] 47)) v2.heap.size 47 (.int .u64 a) (.int .u64 b)) := (X15.out.gw g6).alloc _
          have X26 : Hid (Bx (v6.alloc (.cells #[.int .u64 c', .int .u64 d'] 47)) v3.heap.size 47 (.int .u64 cc) (.int .u64 d)) := (X25.out.gw g6).alloc _
          have X36 : Hid (Bx (v6.alloc (.cells #[.int .u64 c', .int .u64 d'] 47)) v5.heap.size 47 (.int .u64 a') (.int .u64 b')) := (X35.out.gw g6).alloc _
          have X46 : Hid (Bx (v6.alloc (.cells #[.int .u64 c', .int .u64 d'] 47)) v6.heap.size 47 (.int .u64 c') (.int .u64 d')) := Bx.new _ _ _ _
          clear hto g6 H5 G5 X15 X25 X35
          cases ok with
          | false =>
            obtain ⟨rfl, rfl⟩ : a' = a ∧ b' = b := LO'.out.one (prs_pairs (HH.out.facts H6.out).1) LO.out
            obtain ⟨rfl, rfl⟩ : c' = cc ∧ d' = d := TO'.out.one (prs_pairs (HH.out.facts H6.out).1) TO.out
            have H7 : Hid (HF (v6.alloc (.cells #[.int .u64 c', .int .u64 d'] 47)) p S2 (eps - 1) m fk) := H6.out
            clear H6 LO' TO' LO TO AR
            go_wp2_with fail
            refine (HH.out.count H7.out (by omega)).mono ?_
            rintro ex v7 ⟨rfl, g7⟩
            have y1 := (X16.out.gw g7).c0
            have y2 := (X16.out.gw g7).c1
            have y3 := (X26.out.gw g7).c0
            have y4 := (X26.out.gw g7).c1
            have y5 := (X36.out.gw g7).c0
            have y6 := (X36.out.gw g7).c1
            have y7 := (X46.out.gw g7).c0
            have y8 := (X46.out.gw g7).c1
            have H8 : Hid (HF v7 p S2 (eps - 1) m fk) := HH.out.gw H7.out g7
            have G8 : Hid (Gw w v7) := G6.out.trans g7
            clear X16 X26 X36 X46 g7 H7 G6
            go_wp2_with fail
            go_roundg (n - (i + 1))
            case measure => omega
            case rel => exact ⟨i + 1, m, S2, fk, by go_num, by omega, Nat.le_refl _, by omega, by omega, (show Aside _ from H8.out), (show Aside _ from S4.out), (show Aside _ from G8.out)⟩
          | true =>
            have H7 : Hid (HF (v6.alloc (.cells #[.int .u64 c', .int .u64 d'] 47)) p S2 (eps - 1) (m + 1) (upd fk m x)) := H6.out
            have LL : Hid (LowOn (eps - 1) (upd fk m x) (Prs (m + 1)) a' b') := LO'.out
            have TT : Hid (TopOn (eps - 1) (upd fk m x) (Prs (m + 1)) c' d') := TO'.out
            have FF := HH.out.facts H7.out
            have U1 : Hid (Up (upd fk m x) (m + 1)) := FF.1
            have LO2 : Hid (LowOn (eps - 1) (upd fk m x) (Prs m) a b) := LO.out.congr (fun _ _ => Iff.rfl) (fun i j s => by rw [upd_lo s.2, upd_lo (by have := s.1; have := s.2; omega)])
            have TO2 : Hid (TopOn (eps - 1) (upd fk m x) (Prs m) cc d) := TO.out.congr (fun _ _ => Iff.rfl) (fun i j s => by rw [upd_lo s.2, upd_lo (by have := s.1; have := s.2; omega)])
            have PM : Hid (Pairs (upd fk m x) (Prs m)) := ⟨fun i j s => s.1, fun i j s => (prs_pairs U1.out).pos i j ⟨s.1, by have := s.2; omega⟩⟩
            have B1 : Hid (¬ Blw a' b' a b) := by
              show ¬ Blw a' b' a b
              intro q
              have := low_le PM.out LO2.out LL.out (fun i j s => ⟨s.1, by have := s.2; omega⟩)
              rcases q with ⟨_, q⟩ | ⟨_, _, q⟩ <;> omega
            have B2 : Hid (¬ Blw cc d c' d') := by
              show ¬ Blw cc d c' d'
              intro q
              rcases q with ⟨q0, q⟩ | ⟨q0, _, q⟩
              · have := top_le PM.out TO2.out TT.out (fun i j s => ⟨s.1, by have := s.2; omega⟩) q0
                exact this.1 q
              · have := top_le PM.out TO2.out TT.out (fun i j s => ⟨s.1, by have := s.2; omega⟩) q0
                omega
            have B3 : Hid (¬ Blw c' d' a' b') := (fits_iff (by omega) (prs_pairs U1.out) LL.out TT.out).2 FF.2.2.1
            have ab : ¬ b' < a' := by have := low_one (by omega) U1.out LL.out; omega
            have hb0 : (b' == 0) = false := by simp; omega
            have hc0 : (c' == 0) = false := by simp; omega
            clear H6 LO' TO' LO TO AR FF LL TT LO2 TO2 PM U1
            go_wp2_with fail
            refine (HH.out.count H7.out (by omega)).mono ?_
            rintro ex v7 ⟨rfl, g7⟩
            have Y1 : Hid (Bx v7 v2.heap.size 47 (.int .u64 a) (.int .u64 b)) := X16.out.gw g7
            have Y2 : Hid (Bx v7 v3.heap.size 47 (.int .u64 cc) (.int .u64 d)) := X26.out.gw g7
            have Y3 : Hid (Bx v7 v5.heap.size 47 (.int .u64 a') (.int .u64 b')) := X36.out.gw g7
            have Y4 : Hid (Bx v7 v6.heap.size 47 (.int .u64 c') (.int .u64 d')) := X46.out.gw g7
            have H8 : Hid (HF v7 p S2 (eps - 1) (m + 1) (upd fk m x)) := HH.out.gw H7.out g7
            have G8 : Hid (Gw w v7) := G6.out.trans g7
            clear X16 X26 X36 X46 g7 H7 G6
            have y1 := Y3.out.c0
            have y2 := Y3.out.c1
            have y3 := Y1.out.c0
            have y4 := Y1.out.c1
            go_wp2_with fail
            refine (below4_any a' b' a b a0' wa' (by omega) wb' a0 wa (by omega) wb _).mono ?_
            rintro ex v8 ⟨⟨r1, rfl, hr1⟩, g8⟩
            have e1 : r1 = false := by cases r1 with | false => rfl | true => exact absurd (hr1.1 rfl) B1.out
            subst e1
            have G9 : Hid (Gw v7 v8) := g8
            clear hr1 g8 y1 y2 y3 y4
            have y1 := (Y2.out.gw G9.out).c0
            have y2 := (Y2.out.gw G9.out).c1
            have y3 := (Y4.out.gw G9.out).c0
            have y4 := (Y4.out.gw G9.out).c1
            go_wp2_with fail
            refine (below4_any cc d c' d' (by omega) wc wd0 wd1 (by omega) wc' wd0' wd1' _).mono ?_
            rintro ex v9 ⟨⟨r2, rfl, hr2⟩, g9⟩
            have e2 : r2 = false := by cases r2 with | false => rfl | true => exact absurd (hr2.1 rfl) B2.out
            subst e2
            have G10 : Hid (Gw v7 v9) := G9.out.trans g9
            clear hr2 g9 y1 y2 y3 y4 G9
            have y1 := (Y4.out.gw G10.out).c0
            have y2 := (Y4.out.gw G10.out).c1
            have y3 := (Y3.out.gw G10.out).c0
            have y4 := (Y3.out.gw G10.out).c1
            go_wp2_with fail
            refine (below4_any c' d' a' b' (by omega) wc' wd0' wd1' a0' wa' (by omega) wb' _).mono ?_
            rintro ex v10 ⟨⟨r3, rfl, hr3⟩, g10⟩
            have e3 : r3 = false := by cases r3 with | false => rfl | true => exact absurd (hr3.1 rfl) B3.out
            subst e3
            have G11 : Hid (Gw v7 v10) := G10.out.trans g10
            clear hr3 g10 y1 y2 y3 y4 G10
            have y1 := (Y4.out.gw G11.out).c0
            have y3 := (Y3.out.gw G11.out).c0
            have y4 := (Y3.out.gw G11.out).c1
            go_wp2_with fail
            go_roundg (n - (i + 1))
            case measure => omega
            case rel => exact ⟨i + 1, m + 1, S2, upd fk m x, by go_num, by omega, Nat.le_refl _, by omega, by omega, (show Aside _ from HH.out.gw H8.out G11.out), (show Aside _ from S4.out), (show Aside _ from G8.out.trans G11.out)⟩
        · have hm' : ¬ (i : Int) < 3000 := by omega
          go_wp2_with fail
          go_ret
          exact ⟨rfl, GI.out⟩
      · go_wp2_with fail
        go_ret
        exact ⟨rfl, GI.out⟩
  · have alt : eps < 2 ∨ (¬ eps < 2 ∧ 64 < eps) := by omega
    rcases alt with q | ⟨q, q'⟩
    · go_enter Try.func6, Try.ntmps6
      go_wp2_with fail
      refine (hshown HH.out w).mono ?_
      rintro e w1 ⟨rfl, g1⟩
      go_wp2_with fail
      refine (HH.out.bad eps hok _).mono ?_
      rintro e w2 ⟨rfl, g2⟩
      clear hok
      go_wp2_with fail
      go_ret
      exact ⟨by simp, g1.trans g2⟩
    · go_enter Try.func6, Try.ntmps6
      go_wp2_with fail
      refine (hshown HH.out w).mono ?_
      rintro e w1 ⟨rfl, g1⟩
      go_wp2_with fail
      refine (HH.out.bad eps hok _).mono ?_
      rintro e w2 ⟨rfl, g2⟩
      clear hok
      go_wp2_with fail
      go_ret
      exact ⟨by simp, g1.trans g2⟩

end Go.Proofs.Ytocahgiabeifeaa
