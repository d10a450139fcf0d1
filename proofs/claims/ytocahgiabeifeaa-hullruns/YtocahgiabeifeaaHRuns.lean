/- HullRuns returns true, over whatever keeps what is asked of package hull. -/
import Derived.Test.YtocahgiabeifeaaHPair
import Derived.Test.YtocahgiabeifeaaHNarrows
import Derived.Deep.DeepCutAuto
import Derived.Deep.RegionWith
namespace Go.Proofs.Ytocahgiabeifeaa
open Go.RowKit
set_option linter.unusedVariables false

/-- The program's Fit and the document's, side by side. -/
structure Both (HF : World → Nat → (Nat → Prop) → Int → Nat → (Nat → Int) → Prop) (w0 w : World) (pa pb : Nat) (e : Int) (m : Nat) (fk : Nat → Int) (bx : Nat) : Prop where
  ex : ∃ SA SB, HF w pa SA e m fk ∧ RFit w pb SB e m fk ∧ (∀ q, SA q → w0.heap.size ≤ q ∧ ¬ SB q ∧ q ≠ bx) ∧ (∀ q, SB q → w0.heap.size ≤ q ∧ q ≠ bx)

theorem RFit.keep {w w' : World} {p : Nat} {S : Nat → Prop} {e : Int} {n : Nat} {f : Nat → Int} (h : RFit w p S e n f) (k : ∀ q, S q → w'.heap[q]? = w.heap[q]?) : RFit w' p S e n f := by
  obtain ⟨v, a, b, c, d, hr, hs⟩ := h
  exact ⟨v, a, b, c, d, hr.keep fun q hq => k q ((hs q).2 hq), hs⟩
theorem RFit.lt {w : World} {p : Nat} {S : Nat → Prop} {e : Int} {n : Nat} {f : Nat → Int} (h : RFit w p S e n f) (q : Nat) (hq : S q) : q < w.heap.size := by
  obtain ⟨v, a, b, c, d, hr, hs⟩ := h
  exact hr.in q ((hs q).1 hq)

set_option maxRecDepth 100000 in
set_option maxHeartbeats 16000000 in
theorem hruns_walk {HF : World → Nat → (Nat → Prop) → Int → Nat → (Nat → Int) → Prop} (H : HullC HF) (eps : Int) (ao : Option Addr) (n c : Nat) (f : Nat → Int) (p0 : -9223372036854775808 ≤ eps) (p1 : eps < 9223372036854775808) (hn : n * 8 ≤ 140737488351232) (w : World) (h : KS w ao n f) :
    Calls Try.prog 4 #[.int .i64 eps, .slice ao n c] w fun e w' => e = .returned (.bool true) ∧ Gw w w' := by
  have HH : Aside (HullC HF) := H
  clear H
  have HK : Aside (KS w ao n f) := h
  clear h
  by_cases hok : 2 ≤ eps ∧ eps ≤ 64
  · obtain ⟨k1, k2⟩ := hok
    go_enter Try.func4, Try.ntmps4
    go_wp2_with fail
    refine (hshown HH.out w).mono ?_
    rintro e w1 ⟨rfl, g1⟩
    have G1 : Hid (Gw w w1) := g1
    clear g1
    go_wp2_with fail
    refine (made_ok HH.out eps k1 k2 _).mono ?_
    rintro e w2 ⟨⟨pa, pb, SA, rfl, hF, hR, hS, hp⟩, g2⟩
    have G2 : Aside (Gw w (w2.alloc (.cells #[.pointer (some ⟨pa, 0, none⟩), .pointer (some ⟨pb, 0, none⟩)] 28))) := (G1.out.trans g2).alloc _ _
    have X2 : Aside (Bx (w2.alloc (.cells #[.pointer (some ⟨pa, 0, none⟩), .pointer (some ⟨pb, 0, none⟩)] 28)) w2.heap.size 28 (.pointer (some ⟨pa, 0, none⟩)) (.pointer (some ⟨pb, 0, none⟩))) := Bx.new _ _ _ _
    have B2 : Aside (Both HF w (w2.alloc (.cells #[.pointer (some ⟨pa, 0, none⟩), .pointer (some ⟨pb, 0, none⟩)] 28)) pa pb (eps - 1) 0 (fun _ => 0) w2.heap.size) := by
      have s1 := G1.out.size
      refine ⟨SA, rfp pb (.slice none 0 0), HH.out.gw hF ((Gw.refl w2).alloc _ _), ⟨_, _, _, _, _, hR.gw ((Gw.refl w2).alloc _ _), fun q => Iff.rfl⟩, fun q hq => ⟨by have := (hS q hq).1; omega, fun r => ?_, by have := HH.out.lt hF q hq; omega⟩, fun q r => ?_⟩
      · rcases r with rfl | r
        · have := (hS q hq).2; omega
        · cases r
      · rcases r with rfl | r
        · exact ⟨by omega, by have := hR.lt; omega⟩
        · cases r
    clear hF hR hS hp g2 G1
    go_wp2_with fail
    obtain ⟨bx, ebx⟩ : ∃ b, w2.heap.size = b := ⟨_, rfl⟩
    rw [ebx] at X2 B2 ⊢
    generalize w2.alloc (.cells #[.pointer (some ⟨pa, 0, none⟩), .pointer (some ⟨pb, 0, none⟩)] 28) = w3 at G2 X2 B2 ⊢
    clear ebx
    go_loopg [9] n (fun gg s9 wr => ∃ (i m : Nat) (fk : Nat → Int), s9 = .int .i64 i ∧ i ≤ n ∧ n - i ≤ gg ∧ m ≤ 400 ∧ Aside (Both HF w wr pa pb (eps - 1) m fk bx) ∧ Aside (Bx wr bx 28 (.pointer (some ⟨pa, 0, none⟩)) (.pointer (some ⟨pb, 0, none⟩))) ∧ Aside (Gw w wr))
    case atStart => exact ⟨0, 0, _, rfl, Nat.zero_le _, by omega, by omega, B2, X2, G2⟩
    case round =>
      obtain ⟨i, m, fk, rfl, h1, h2, h3, BI, XI, GI⟩ := hrel
      clear G2 X2 B2
      by_cases hlt : i < n
      · obtain ⟨SA, SB, hF, hR, hA, hB⟩ := BI.out.ex
        have FI : Hid (HF wr pa SA (eps - 1) m fk) := hF
        have RI : Hid (RFit wr pb SB (eps - 1) m fk) := hR
        have AI : Hid (∀ q, SA q → w.heap.size ≤ q ∧ ¬ SB q ∧ q ≠ bx) := hA
        have BB : Hid (∀ q, SB q → w.heap.size ≤ q ∧ q ≠ bx) := hB
        clear hF hR hA hB BI
        have x0 := XI.out.c0
        have x1 := XI.out.c1
        go_wp2_with fail
        obtain ⟨v, a, b, cc, d, hrf, _⟩ := RI.out
        refine (rcount_any hrf).mono ?_
        rintro ex v1 ⟨rfl, g1⟩
        clear hrf
        have F1 : Hid (HF v1 pa SA (eps - 1) m fk) := HH.out.gw FI.out g1
        have R1 : Hid (RFit v1 pb SB (eps - 1) m fk) := by
          obtain ⟨v, a, b, cc, d, hrf, hs⟩ := RI.out
          exact ⟨v, a, b, cc, d, hrf.gw g1, hs⟩
        have X1 : Hid (Bx v1 bx 28 (.pointer (some ⟨pa, 0, none⟩)) (.pointer (some ⟨pb, 0, none⟩))) := XI.out.gw g1
        have G1 : Hid (Gw w v1) := GI.out.trans g1
        clear g1 FI RI XI x0 x1
        by_cases hm : m < 400
        · have hm' : (m : Int) < 400 := by omega
          have ks := HK.out.gw G1.out
          obtain ⟨bk, off, rfl, hb, hc⟩ := ks.cells (by omega)
          have q1 := hc i hlt
          obtain ⟨y0, y1⟩ := HK.out.bd i hlt
          clear ks hc
          have CK : Hid (∀ w5, Gw w w5 → w5.cell? ⟨bk, off + i, none⟩ = some (.int .u64 (f i))) := by
            show ∀ w5, Gw w w5 → w5.cell? ⟨bk, off + i, none⟩ = some (.int .u64 (f i))
            intro w5 g5
            obtain ⟨b', off', e', _, hc'⟩ := (HK.out.gw g5).cells (by omega)
            cases e'
            exact hc' i hlt
          generalize f i = x at q1 y0 y1 CK
          have x0 := X1.out.c0
          have x1 := X1.out.c1
          have AD : Hid (∀ N, Calls Try.prog 13 #[.pointer (some ⟨pa, 0, none⟩), .int .u64 x] (v1.drewN N) fun ex w' =>
              (∃ (ok : Bool) (err : Int) (S' : Nat → Prop), ex = .returned (.tuple #[.bool ok, .int .i64 err]) ∧ AddR (eps - 1) m fk x ok err ∧ HF w' pa S' (eps - 1) (if ok then m + 1 else m) (if ok then upd fk m x else fk) ∧ ∀ q, S' q → SA q ∨ v1.heap.size ≤ q) ∧ Gs SA v1 w') := by
            intro N
            refine (HH.out.add (HH.out.gw F1.out ((Gw.refl v1).drewN N)) x y0 y1 (by omega)).mono ?_
            rintro ex w' ⟨hex, g⟩
            exact ⟨hex, ⟨g.os, g.tape, g.output, g.size, g.block⟩⟩
          go_wp2_with fail
          go_cut [10, 11] (fun s10 s11 w' => ∃ (ok : Bool) (err : Int) (S' : Nat → Prop), s10 = .bool ok ∧ s11 = .int .i64 err ∧ Aside (AddR (eps - 1) m fk x ok err) ∧ Aside (HF w' pa S' (eps - 1) (if ok then m + 1 else m) (if ok then upd fk m x else fk)) ∧ Aside (∀ q, S' q → SA q ∨ v1.heap.size ≤ q) ∧ Aside (Gs SA v1 w'))
          case first =>
            go_region_with (go_at_call 13; refine (AD.out _).mono ?_; rintro ex v4 ⟨⟨ok, err, S2, rfl, hA2, hF2, hsub⟩, g4⟩)
            all_goals go_wp2_with fail
            all_goals go_meet
            all_goals
              case rel => exact ⟨ok, err, S2, rfl, rfl, hA2, hF2, hsub, g4⟩
          case rest =>
            obtain ⟨wx, hwx⟩ : ∃ wx, wx = wc := ⟨_, rfl⟩
            subst hwx
            obtain ⟨ok, err, S2, rfl, rfl, A2, F2, SS2, g4⟩ := hcut
            have R2 : Hid (RFit wx pb SB (eps - 1) m fk) := R1.out.keep fun q hq => g4.out.block q (R1.out.lt q hq) (fun r => (AI.out q r).2.1 hq)
            have X2 : Hid (Bx wx bx 28 (.pointer (some ⟨pa, 0, none⟩)) (.pointer (some ⟨pb, 0, none⟩))) := X1.out.gs g4.out (fun r => (AI.out bx r).2.2 rfl)
            have G2 : Hid (Gw w wx) := Gs.gw G1.out g4.out (fun q r => (AI.out q r).1)
            have D2 : Hid (∀ q, S2 q → w.heap.size ≤ q ∧ ¬ SB q ∧ q ≠ bx) := fun q hq => by
              rcases SS2.out q hq with r | r
              · exact AI.out q r
              · exact ⟨by have := G1.out.size; omega, fun t => by have := R1.out.lt q t; omega, by have := X1.out.lt; omega⟩
            clear R1 X1 G1 AI SS2 g4 q1 x0 x1 AD F1
            have q1 := CK.out wx G2.out
            have x0 := X2.out.c0
            have x1 := X2.out.c1
            have AD : Hid (∀ N, Calls Try.prog 14 #[.pointer (some ⟨pb, 0, none⟩), .int .u64 x] (wx.drewN N) fun ex w' =>
                (∃ (ok : Bool) (err : Int) (S' : Nat → Prop), ex = .returned (.tuple #[.bool ok, .int .i64 err]) ∧ AddR (eps - 1) m fk x ok err ∧ RFit w' pb S' (eps - 1) (if ok then m + 1 else m) (if ok then upd fk m x else fk) ∧ ∀ q, S' q → SB q ∨ wx.heap.size ≤ q) ∧ Gs SB wx w') := by
              intro N
              refine (radd4_any (w := wx.drewN N) (R2.out.keep fun q hq => ((Gw.refl wx).drewN N).below.block q (R2.out.lt q hq)) x y0 y1 (by omega)).mono ?_
              rintro ex w' ⟨hex, g⟩
              exact ⟨hex, ⟨g.os, g.tape, g.output, g.size, g.block⟩⟩
            have hbx : bk < wx.heap.size := by have := G2.out.size; have := (World.block_lt_of_cell? _ _ q1); exact this
            go_wp2_with fail
            go_cut [12, 13] (fun s12 s13 w' => ∃ (ok : Bool) (err : Int) (S' : Nat → Prop), s12 = .bool ok ∧ s13 = .int .i64 err ∧ Aside (AddR (eps - 1) m fk x ok err) ∧ Aside (RFit w' pb S' (eps - 1) (if ok then m + 1 else m) (if ok then upd fk m x else fk)) ∧ Aside (∀ q, S' q → SB q ∨ wx.heap.size ≤ q) ∧ Aside (Gs SB wx w'))
            case first =>
              go_region_with (go_at_call 14; refine (AD.out _).mono ?_; rintro ex v4 ⟨⟨ok', err', S3, rfl, hA2, hF2, hsub⟩, g4⟩)
              all_goals go_wp2_with fail
              all_goals go_meet
              all_goals
                case rel => exact ⟨ok', err', S3, rfl, rfl, hA2, hF2, hsub, g4⟩
            case rest =>
              obtain ⟨ok', err', S3, rfl, rfl, A3, R3, SS3, g5⟩ := hcut
              obtain ⟨e1, e2⟩ : ok' = ok ∧ err' = err := A3.out.one A2.out
              subst e1 e2
              obtain ⟨m', hm2⟩ : ∃ m' : Nat, m' = (if ok' then m + 1 else m) := ⟨_, rfl⟩
              obtain ⟨fk', hf2⟩ : ∃ fk' : Nat → Int, fk' = (if ok' then upd fk m x else fk) := ⟨_, rfl⟩
              rw [← hm2, ← hf2] at F2 R3
              have m'b : m' ≤ 400 := by rw [hm2]; split <;> omega
              clear hm2 hf2
              have F4 : Hid (HF wc pa S2 (eps - 1) m' fk') := HH.out.keep F2.out fun q hq => g5.out.block q (HH.out.lt F2.out q hq) (D2.out q hq).2.1
              have X4 : Hid (Bx wc bx 28 (.pointer (some ⟨pa, 0, none⟩)) (.pointer (some ⟨pb, 0, none⟩))) := X2.out.gs g5.out (fun r => (BB.out bx r).2 rfl)
              have G4 : Hid (Gw w wc) := Gs.gw G2.out g5.out (fun q r => (BB.out q r).1)
              have E4 : Hid ((∀ q, S2 q → w.heap.size ≤ q ∧ ¬ S3 q ∧ q ≠ bx) ∧ (∀ q, S3 q → w.heap.size ≤ q ∧ q ≠ bx)) := by
                refine ⟨fun q hq => ⟨(D2.out q hq).1, fun r => ?_, (D2.out q hq).2.2⟩, fun q r => ?_⟩
                · rcases SS3.out q r with t | t
                  · exact (D2.out q hq).2.1 t
                  · have := HH.out.lt F2.out q hq; omega
                · rcases SS3.out q r with t | t
                  · exact BB.out q t
                  · exact ⟨by have := G2.out.size; omega, by have := X2.out.lt; omega⟩
              have R4 : Hid (RFit wc pb S3 (eps - 1) m' fk') := R3.out
              clear R3 F2 A2 A3 D2 BB SS3 g5 R2 X2 G2 q1 x0 x1 AD hbx
              have x0 := X4.out.c0
              have x1 := X4.out.c1
              go_wp2_with fail
              obtain ⟨v', a', b', c', d', hrf, _⟩ := R4.out
              refine (alike_any HH.out F4.out hrf (by omega)).mono ?_
              rintro ex v9 ⟨rfl, g9⟩
              clear hrf x0 x1
              go_wp2_with fail
              go_roundg (n - (i + 1))
              case measure => omega
              case rel => exact ⟨i + 1, m', fk', by go_num, by omega, Nat.le_refl _, m'b, (show Aside _ from ⟨S2, S3, HH.out.gw F4.out g9, R4.out.keep fun q hq => g9.below.block q (R4.out.lt q hq), E4.out.1, E4.out.2⟩), (show Aside _ from X4.out.gw g9), (show Aside _ from G4.out.trans g9)⟩
        · have hm' : ¬ (m : Int) < 400 := by omega
          go_wp2_with fail
          go_ret
          exact ⟨rfl, G1.out⟩
      · go_wp2_with fail
        go_ret
        exact ⟨rfl, GI.out⟩
  · go_enter Try.func4, Try.ntmps4
    go_wp2_with fail
    refine (hshown HH.out w).mono ?_
    rintro e w1 ⟨rfl, g1⟩
    go_wp2_with fail
    refine (made_bad HH.out eps hok _).mono ?_
    rintro e w2 ⟨rfl, g2⟩
    clear hok
    go_wp2_with fail
    go_ret
    exact ⟨by simp, (g1.trans g2).alloc _ _⟩

end Go.Proofs.Ytocahgiabeifeaa
