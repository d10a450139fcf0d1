/- HullMoved returns true, over whatever keeps what is asked of package hull. -/
import Derived.Test.YtocahgiabeifeaaHNarrows
import Derived.Deep.DeepCutAuto
namespace Go.Proofs.Ytocahgiabeifeaa
open Go.RowKit
set_option linter.unusedVariables false

/-- What an Add answers is the same where all keys are moved. -/
theorem AddR.shift {e : Int} {n : Nat} {f g : Nat → Int} {x y t : Int} {ok : Bool} {err : Int} (h : AddR e n f x ok err) (hg : ∀ i, i < n → g i = f i + t) (hy : y = x + t) : AddR e n g y ok err := by
  have hd : ∀ i j, Prs (n + 1) i j → upd f n x j - upd f n x i = upd g n y j - upd g n y i := by
    intro i j s
    have := s.1; have := s.2
    have e1 : upd g n y i = upd f n x i + t := by rw [upd_lo (by omega), upd_lo (by omega)]; exact hg i (by omega)
    by_cases q : j = n
    · subst q; rw [upd_at, upd_at, e1]; omega
    · have e2 : upd g n y j = upd f n x j + t := by rw [upd_lo (by omega), upd_lo (by omega)]; exact hg j (by omega)
      rw [e1, e2]; omega
  rcases h with ⟨h1, h2, h3, h4⟩ | ⟨h1, h2, h3⟩
  · exact .inl ⟨h1, by rw [hg _ (by omega)]; omega, h3, h4⟩
  · refine .inr ⟨fun q => h1 ⟨q.1, by have := q.2; rw [hg _ (by omega)] at this; omega⟩, h2, h3.trans ⟨fun q => q.congr (fun _ _ s => s) hd, fun q => q.congr (fun _ _ s => s) (fun i j s => (hd i j s).symm)⟩⟩
theorem low_shift {e : Int} {n : Nat} {f g : Nat → Int} {t a b : Int} (h : LowOn e f (Prs n) a b) (hg : ∀ i, i < n → g i = f i + t) : LowOn e g (Prs n) a b :=
  h.congr (fun _ _ => Iff.rfl) (fun i j s => by rw [hg j s.2, hg i (by have := s.1; have := s.2; omega)]; omega)
theorem top_shift {e : Int} {n : Nat} {f g : Nat → Int} {t a b : Int} (h : TopOn e f (Prs n) a b) (hg : ∀ i, i < n → g i = f i + t) : TopOn e g (Prs n) a b :=
  h.congr (fun _ _ => Iff.rfl) (fun i j s => by rw [hg j s.2, hg i (by have := s.1; have := s.2; omega)]; omega)

/-- A Fit beside others: of its own blocks, which are new. -/
structure Own (HF : World → Nat → (Nat → Prop) → Int → Nat → (Nat → Int) → Prop) (w0 w : World) (p : Nat) (S : Nat → Prop) (e : Int) (n : Nat) (f : Nat → Int) : Prop where
  hf : HF w p S e n f
  new : ∀ q, S q → w0.heap.size ≤ q
def Dis (S T : Nat → Prop) : Prop := ∀ q, S q → ¬ T q
theorem Dis.symm {S T : Nat → Prop} (h : Dis S T) : Dis T S := fun q t s => h q s t

theorem Own.gw {HF : World → Nat → (Nat → Prop) → Int → Nat → (Nat → Int) → Prop} (H : HullC HF) {w0 w w' : World} {p : Nat} {S : Nat → Prop} {e : Int} {n : Nat} {f : Nat → Int} (h : Own HF w0 w p S e n f) (g : Gw w w') : Own HF w0 w' p S e n f := ⟨H.gw h.hf g, h.new⟩
theorem Own.gs {HF : World → Nat → (Nat → Prop) → Int → Nat → (Nat → Int) → Prop} (H : HullC HF) {w0 w w' : World} {p : Nat} {S T : Nat → Prop} {e : Int} {n : Nat} {f : Nat → Int} (h : Own HF w0 w p S e n f) (g : Gs T w w') (d : Dis T S) : Own HF w0 w' p S e n f :=
  ⟨H.keep h.hf fun q hq => g.block q (H.lt h.hf q hq) (fun t => d q t hq), h.new⟩
/-- Add beside others. -/
theorem own_add {HF : World → Nat → (Nat → Prop) → Int → Nat → (Nat → Int) → Prop} (H : HullC HF) {w0 w : World} {p : Nat} {S : Nat → Prop} {e : Int} {n : Nat} {f : Nat → Int} (h : Own HF w0 w p S e n f) (g0 : Gw w0 w) (x : Int) (x0 : 0 ≤ x) (x1 : x < 18446744073709551616) (hn : n ≤ 3000) :
    Calls Try.prog 13 #[.pointer (some ⟨p, 0, none⟩), .int .u64 x] w fun ex w' =>
      ∃ (ok : Bool) (err : Int) (S' : Nat → Prop), ex = .returned (.tuple #[.bool ok, .int .i64 err]) ∧ AddR e n f x ok err ∧ Own HF w0 w' p S' e (if ok then n + 1 else n) (if ok then upd f n x else f) ∧ Gs S w w' ∧ Gw w0 w' ∧ ∀ T : Nat → Prop, Dis S T → (∀ q, T q → q < w.heap.size) → Dis S' T := by
  refine (H.add h.hf x x0 x1 hn).mono ?_
  rintro ex w' ⟨⟨ok, err, S', rfl, hA, hF, hsub⟩, g⟩
  refine ⟨ok, err, S', rfl, hA, ⟨hF, fun q hq => ?_⟩, g, Gs.gw g0 g h.new, fun T d ht q hq t => ?_⟩
  · rcases hsub q hq with r | r
    · exact h.new q r
    · have := g0.size; omega
  · rcases hsub q hq with r | r
    · exact d q r t
    · have := ht q t; omega

set_option maxRecDepth 100000 in
set_option maxHeartbeats 32000000 in
theorem hmoved_walk {HF : World → Nat → (Nat → Prop) → Int → Nat → (Nat → Int) → Prop} (H : HullC HF) (eps : Int) (ao : Option Addr) (n c : Nat) (f : Nat → Int) (far : Int) (p0 : -9223372036854775808 ≤ eps) (p1 : eps < 9223372036854775808) (f0 : 0 ≤ far) (f1 : far < 18446744073709551616) (hn : n * 8 ≤ 140737488351232) (w : World) (h : KS w ao n f) :
    Calls Try.prog 8 #[.int .i64 eps, .slice ao n c, .int .u64 far] w fun e w' => e = .returned (.bool true) ∧ Gw w w' := by
  have HH : Aside (HullC HF) := H
  clear H
  have HK : Aside (KS w ao n f) := h
  clear h
  by_cases hok : 2 ≤ eps ∧ eps ≤ 64
  · obtain ⟨k1, k2⟩ := hok
    go_enter Try.func8, Try.ntmps8
    go_wp2_with fail
    refine (hshown HH.out w).mono ?_
    rintro e w1 ⟨rfl, g1⟩
    have G1 : Hid (Gw w w1) := g1
    clear g1
    go_wp2_with fail
    refine (HH.out.new eps k1 k2 _).mono ?_
    rintro e w2 ⟨⟨pf, SF, rfl, hS, hF⟩, g2⟩
    have G2 : Hid (Gw w w2) := G1.out.trans g2
    have F2 : Hid (Own HF w w2 pf SF (eps - 1) 0 (fun _ => 0)) := ⟨hF, fun q hq => Nat.le_trans G1.out.size (hS q hq)⟩
    clear g2 hS hF G1
    go_wp2_with fail
    refine (HH.out.new eps k1 k2 _).mono ?_
    rintro e w3 ⟨⟨pg, SG, rfl, hS, hF⟩, g3⟩
    have G3 : Hid (Gw w w3) := G2.out.trans g3
    have F3 : Hid (Own HF w w3 pf SF (eps - 1) 0 (fun _ => 0)) := F2.out.gw HH.out g3
    have K3 : Hid (Own HF w w3 pg SG (eps - 1) 0 (fun _ => 0)) := ⟨hF, fun q hq => Nat.le_trans G2.out.size (hS q hq)⟩
    have D1 : Hid (Dis SF SG) := fun q s t => by have := HH.out.lt F2.out.hf q s; have := hS q t; omega
    clear g3 hS hF G2 F2
    go_wp2_with fail
    refine (HH.out.new eps k1 k2 _).mono ?_
    rintro e w4 ⟨⟨ph, SH, rfl, hS, hF⟩, g4⟩
    have G4 : Aside (Gw w w4) := G3.out.trans g4
    have F4 : Aside (Own HF w w4 pf SF (eps - 1) 0 (fun _ => 0)) := F3.out.gw HH.out g4
    have K4 : Aside (Own HF w w4 pg SG (eps - 1) 0 (fun _ => 0)) := K3.out.gw HH.out g4
    have L4 : Aside (Own HF w w4 ph SH (eps - 1) 0 (fun _ => 0)) := ⟨hF, fun q hq => Nat.le_trans G3.out.size (hS q hq)⟩
    have D4 : Aside (Dis SF SG ∧ Dis SF SH ∧ Dis SG SH) := ⟨D1.out, fun q s t => by have := HH.out.lt F3.out.hf q s; have := hS q t; omega, fun q s t => by have := HH.out.lt K3.out.hf q s; have := hS q t; omega⟩
    clear g4 hS hF G3 F3 K3 D1
    go_wp2_with fail
    go_loopg [14] n (fun gg s14 wr => ∃ (k : Nat), s14 = .int .i64 k ∧ k ≤ n ∧ n - k ≤ gg ∧ k ≤ 3000 ∧ Aside (Up f k) ∧ Aside (∃ N, wr = w4.drewN N))
    case atStart => exact ⟨0, rfl, Nat.zero_le _, by omega, by omega, (show Aside _ from fun j hj => by omega), (show Aside _ from ⟨0, rfl⟩)⟩
    case round =>
      obtain ⟨k, rfl, h1, h2, h3, UK, DW⟩ := hrel
      obtain ⟨N, rfl⟩ := DW.out
      clear DW
      have fin : Hid (Gw w (w4.drewN N)) := G4.out.drewN N
      by_cases hgo : k < n ∧ k < 3000 ∧ (k = 0 ∨ f (k - 1) < f k)
      · obtain ⟨q1, q2, q3⟩ := hgo
        have q2' : (k : Int) < 3000 := by omega
        have UK1 : Aside (Up f (k + 1)) := by
          show Up f (k + 1)
          intro j hj
          by_cases e : j + 1 = k
          · rcases q3 with q | q
            · omega
            · rw [show k - 1 = j by omega] at q; rw [e]; exact q
          · exact UK.out j (by omega)
        by_cases hz : k = 0
        · have z1 : ((k : Int) == 0) = true := by simp [hz]
          clear hz q3
          go_wp2_with fail
          go_quiet (fail)
          go_wp2_with fail
          go_roundg (n - (k + 1))
          case measure => omega
          case rel => exact ⟨k + 1, by go_num, by omega, Nat.le_refl _, by omega, UK1, (show Aside _ from ⟨N + nq, by first | rfl | rw [World.drewN_drewN]⟩)⟩
        · have z1 : ((k : Int) == 0) = false := by simp; omega
          have q4 : f (k - 1) < f k := by
            rcases q3 with q | q
            · exact absurd q hz
            · exact q
          obtain ⟨m, hm⟩ : ∃ m : Nat, (k : Int) - 1 = m := ⟨k - 1, by omega⟩
          have hw := wrap_nat m (by omega)
          have hmn : m < n := by omega
          obtain ⟨bk, off, rfl, hb, hc⟩ := (HK.out.gw G4.out).cells (by omega)
          have c1 := hc k q1
          have c2 := hc m hmn
          rw [show k - 1 = m by omega] at q4
          clear hc q3 hz
          generalize f k = y1 at c1 q4
          generalize f m = y0 at c2 q4
          go_wp2_with fail
          go_quiet (fail)
          go_wp2_with fail
          go_roundg (n - (k + 1))
          case measure => omega
          case rel => exact ⟨k + 1, by go_num, by omega, Nat.le_refl _, by omega, UK1, (show Aside _ from ⟨N + nq, by first | rfl | rw [World.drewN_drewN]⟩)⟩
      · have KX : Aside (¬ (k < n ∧ k < 3000 ∧ (k = 0 ∨ f (k - 1) < f k))) := hgo
        clear hgo
        go_wp2_with fail
        go_cut [89] (fun s w' => s = .bool false ∧ Aside (∃ N, w' = w4.drewN N))
        case first =>
          by_cases q1 : k < n
          · by_cases q2 : k < 3000
            · have q2' : (k : Int) < 3000 := by omega
              have q3 : ¬ k = 0 ∧ ¬ f (k - 1) < f k := ⟨fun e => KX.out ⟨q1, q2, .inl e⟩, fun e => KX.out ⟨q1, q2, .inr e⟩⟩
              obtain ⟨q4, q5⟩ := q3
              have z1 : ((k : Int) == 0) = false := by simp; omega
              obtain ⟨m, hm⟩ : ∃ m : Nat, (k : Int) - 1 = m := ⟨k - 1, by omega⟩
              have hw := wrap_nat m (by omega)
              have hmn : m < n := by omega
              obtain ⟨bk, off, rfl, hb, hc⟩ := (HK.out.gw G4.out).cells (by omega)
              have c1 := hc k q1
              have c2 := hc m hmn
              rw [show k - 1 = m by omega] at q5
              clear hc q4
              generalize f k = y1 at c1 q5
              generalize f m = y0 at c2 q5
              go_quiet (fail)
              go_wp2_with fail
              go_meet
              case rel => exact ⟨by simp, (show Aside _ from ⟨N + nq, by first | rfl | rw [World.drewN_drewN]⟩)⟩
            · have q2' : ¬ (k : Int) < 3000 := by omega
              go_quiet (fail)
              go_wp2_with fail
              go_meet
              case rel => exact ⟨rfl, (show Aside _ from ⟨N + nq, by first | rfl | rw [World.drewN_drewN]⟩)⟩
          · go_quiet (fail)
            go_wp2_with fail
            go_meet
            case rel => exact ⟨rfl, (show Aside _ from ⟨N + nq, by first | rfl | rw [World.drewN_drewN]⟩)⟩
        case rest =>
          obtain ⟨rfl, M⟩ := hcut
          obtain ⟨N', rfl⟩ := M.out
          clear M KX fin
          have G5 : Aside (Gw w (w4.drewN N')) := G4.out.drewN N'
          have F5 : Aside (Own HF w (w4.drewN N') pf SF (eps - 1) 0 (fun _ => 0)) := F4.out.gw HH.out ((Gw.refl w4).drewN N')
          have K5 : Aside (Own HF w (w4.drewN N') pg SG (eps - 1) 0 (fun _ => 0)) := K4.out.gw HH.out ((Gw.refl w4).drewN N')
          have L5 : Aside (Own HF w (w4.drewN N') ph SH (eps - 1) 0 (fun _ => 0)) := L4.out.gw HH.out ((Gw.refl w4).drewN N')
          by_cases hk0 : k = 0
          · have z1 : ((k : Int) == 0) = true := by simp [hk0]
            clear hk0
            go_wp2_with fail
            go_ret
            exact ⟨rfl, G5.out⟩
          · have z1 : ((k : Int) == 0) = false := by simp; omega
            obtain ⟨m, hm⟩ : ∃ m : Nat, (k : Int) - 1 = m := ⟨k - 1, by omega⟩
            have hw := wrap_nat m (by omega)
            have hmn : m < n := by omega
            obtain ⟨bk, off, rfl, hb, hc⟩ := (HK.out.gw G4.out).cells (by omega)
            have c2 := hc m hmn
            obtain ⟨y0, y1⟩ := HK.out.bd m hmn
            obtain ⟨yl, hyl⟩ : ∃ y, f m = y := ⟨_, rfl⟩
            have YL : Aside (f (k - 1) = yl) := by show f (k - 1) = yl; rw [show k - 1 = m by omega]; exact hyl
            rw [hyl] at c2 y0 y1
            clear hyl hc
            by_cases hy : yl = 0
            · subst hy
              have FB : Aside (f (k - 1) + far ≤ 18446744073709551615) := by show f (k - 1) + far ≤ 18446744073709551615; rw [YL.out]; omega
              obtain ⟨fr, hfr⟩ : ∃ fr, fr = far := ⟨_, rfl⟩
              subst hfr
              go_wp2_with fail
              clear c2 hw z1 hm y0 y1
              go_loopg [16, 17] k (fun gg s16 s17 wr => ∃ (i m : Nat) (al : Bool) (SF SG : Nat → Prop) (fk gk : Nat → Int), s16 = .bool al ∧ s17 = .int .i64 i ∧ i ≤ k ∧ k - i ≤ gg ∧ m ≤ i ∧ Aside (Own HF w wr pf SF (eps - 1) m fk) ∧ Aside (Own HF w wr pg SG (eps - 1) m gk) ∧ Aside (Own HF w wr ph SH (eps - 1) 0 (fun _ => 0)) ∧ Aside (Dis SF SG ∧ Dis SF SH ∧ Dis SG SH) ∧ Aside (∀ j, j < m → gk j = fk j + fr) ∧ Aside (al = true → m = i ∧ ∀ j, j < i → fk j = f j) ∧ Aside (Gw w wr))
              case atStart => exact ⟨0, 0, true, SF, SG, _, _, rfl, rfl, Nat.zero_le _, by omega, Nat.le_refl _, F5, K5, L5, D4, (show Aside _ from fun j hj => by omega), (show Aside _ from fun _ => ⟨rfl, fun j hj => by omega⟩), G5⟩
              case round =>
                clear F5 K5 L5 G5 D4 F4 K4 L4 G4
                obtain ⟨i, m, al, SF, SG, fk, gk, rfl, rfl, a1, a2, a3, OF, OG, OH, DD, SH1, AL, GI⟩ := hrel
                by_cases hik : i < k
                · obtain ⟨b2, o2, eb, hb2, hc⟩ := (HK.out.gw GI.out).cells (by omega)
                  cases eb
                  have q1 := hc i (by omega)
                  obtain ⟨y0, y1⟩ := HK.out.bd i (by omega)
                  have yf : f i + fr < 18446744073709551616 := by
                    have := UK.out.le (show i ≤ k - 1 by omega) (by omega)
                    have := FB.out
                    omega
                  have CK : Hid (∀ w5, Gw w w5 → w5.cell? ⟨bk, off + i, none⟩ = some (.int .u64 (f i))) := by
                    show ∀ w5, Gw w w5 → w5.cell? ⟨bk, off + i, none⟩ = some (.int .u64 (f i))
                    intro w5 g5
                    obtain ⟨b', off', e', _, hc'⟩ := (HK.out.gw g5).cells (by omega)
                    cases e'
                    exact hc' i (by omega)
                  have XE : Hid (∃ x, f i = x) := ⟨_, rfl⟩
                  obtain ⟨x, hx⟩ := XE.out
                  have XF : Aside (f i = x) := hx
                  rw [hx] at q1 y0 y1 yf CK
                  clear hc hx XE
                  go_wp2_with fail
                  refine (own_add HH.out OF.out GI.out x y0 y1 (by omega)).mono ?_
                  rintro ex v1 ⟨ok, err, S1, rfl, hA, hO, gs, gw, hd⟩
                  have A1 : Hid (AddR (eps - 1) m fk x ok err) := hA
                  have O1 : Hid (Own HF w v1 pf S1 (eps - 1) (if ok then m + 1 else m) (if ok then upd fk m x else fk)) := hO
                  have P1 : Hid (Own HF w v1 pg SG (eps - 1) m gk) := OG.out.gs HH.out gs DD.out.1
                  have Q1 : Hid (Own HF w v1 ph SH (eps - 1) 0 (fun _ => 0)) := OH.out.gs HH.out gs DD.out.2.1
                  have G1 : Hid (Gw w v1) := gw
                  have E1 : Hid (Dis S1 SG ∧ Dis S1 SH ∧ Dis SG SH) := ⟨hd SG DD.out.1 (HH.out.lt OG.out.hf), hd SH DD.out.2.1 (HH.out.lt OH.out.hf), DD.out.2.2⟩
                  have q2 := CK.out v1 gw
                  clear hA hO gs gw hd OF OG OH DD GI q1
                  go_wp2_with fail
                  refine (own_add HH.out P1.out G1.out (x + fr) (by omega) yf (by omega)).mono ?_
                  rintro ex v2 ⟨ok', err', S2, rfl, hA, hO, gs, gw, hd⟩
                  obtain ⟨e1, e2⟩ : ok' = ok ∧ err' = err := hA.one (A1.out.shift (t := fr) SH1.out rfl)
                  subst e1 e2
                  obtain ⟨m', hm2⟩ : ∃ m' : Nat, m' = (if ok' then m + 1 else m) := ⟨_, rfl⟩
                  obtain ⟨fk', hf2⟩ : ∃ fk' : Nat → Int, fk' = (if ok' then upd fk m x else fk) := ⟨_, rfl⟩
                  obtain ⟨gk', hg2⟩ : ∃ gk' : Nat → Int, gk' = (if ok' then upd gk m (x + fr) else gk) := ⟨_, rfl⟩
                  have SH2 : Hid (∀ j, j < m' → gk' j = fk' j + fr) := by
                    show ∀ j, j < m' → gk' j = fk' j + fr
                    intro j hj
                    cases ok' with
                    | false => simp only [Bool.false_eq_true, if_false] at hm2 hf2 hg2; rw [hf2, hg2]; exact SH1.out j (by omega)
                    | true =>
                      simp only [if_true] at hm2 hf2 hg2
                      rw [hf2, hg2]
                      by_cases e : j = m
                      · subst e; rw [upd_at, upd_at]
                      · rw [upd_lo (by omega), upd_lo (by omega)]; exact SH1.out j (by omega)
                  have AL2 : Hid ((al && ok') = true → m' = i + 1 ∧ ∀ j, j < i + 1 → fk' j = f j) := by
                    show (al && ok') = true → m' = i + 1 ∧ ∀ j, j < i + 1 → fk' j = f j
                    intro hh
                    rw [Bool.and_eq_true] at hh
                    obtain ⟨hal, rfl⟩ := hh
                    obtain ⟨r1, r2⟩ := AL.out hal
                    simp only [if_true] at hm2 hf2
                    refine ⟨by omega, fun j hj => ?_⟩
                    rw [hf2]
                    by_cases e : j = m
                    · subst e; rw [upd_at, ← XF.out, r1]
                    · rw [upd_lo (by omega)]; exact r2 j (by omega)
                  have m'b : m' ≤ i + 1 := by rw [hm2]; split <;> omega
                  have O2 : Hid (Own HF w v2 pf S1 (eps - 1) m' fk') := by
                    have := O1.out.gs HH.out gs E1.out.1.symm
                    rw [← hm2, ← hf2] at this
                    exact this
                  have P2 : Hid (Own HF w v2 pg S2 (eps - 1) m' gk') := by rw [← hm2, ← hg2] at hO; exact hO
                  have Q2 : Hid (Own HF w v2 ph SH (eps - 1) 0 (fun _ => 0)) := Q1.out.gs HH.out gs E1.out.2.2
                  have G2 : Hid (Gw w v2) := gw
                  have E2 : Hid (Dis S1 S2 ∧ Dis S1 SH ∧ Dis S2 SH) := ⟨(hd S1 E1.out.1.symm (HH.out.lt O1.out.hf)).symm, E1.out.2.1, hd SH E1.out.2.2 (HH.out.lt Q1.out.hf)⟩
                  clear hm2 hf2 hg2 hA hO gs gw hd A1 O1 P1 Q1 G1 E1 q2 SH1 AL
                  go_wp2_with fail
                  refine (HH.out.least O2.out.hf (by omega)).mono ?_
                  rintro ex v3 ⟨⟨a, b, rfl, hl, _⟩, g3⟩
                  have LA : Hid (LowOn (eps - 1) gk' (Prs m') a b) := low_shift hl SH2.out
                  have G3 : Hid (Gw v2 v3) := g3
                  clear hl g3
                  go_wp2_with fail
                  refine (HH.out.least (P2.out.gw HH.out G3.out).hf (by omega)).mono ?_
                  rintro ex v4 ⟨⟨a', b', rfl, hl, _⟩, g4⟩
                  obtain ⟨rfl, rfl⟩ : a' = a ∧ b' = b := hl.one (prs_pairs (HH.out.facts P2.out.hf).1) LA.out
                  have G4 : Hid (Gw v2 v4) := G3.out.trans g4
                  clear hl g4 LA G3
                  go_wp2_with fail
                  refine (HH.out.most (O2.out.gw HH.out G4.out).hf (by omega)).mono ?_
                  rintro ex v5 ⟨⟨a, b, rfl, hl, _⟩, g5⟩
                  have LA : Hid (TopOn (eps - 1) gk' (Prs m') a b) := top_shift hl SH2.out
                  have G5 : Hid (Gw v2 v5) := G4.out.trans g5
                  clear hl g5 G4
                  go_wp2_with fail
                  refine (HH.out.most (P2.out.gw HH.out G5.out).hf (by omega)).mono ?_
                  rintro ex v6 ⟨⟨c', d', rfl, hl, _⟩, g6⟩
                  obtain ⟨rfl, rfl⟩ : c' = a ∧ d' = b := hl.one (prs_pairs (HH.out.facts P2.out.hf).1) LA.out
                  have G6 : Hid (Gw v2 v6) := G5.out.trans g6
                  clear hl g6 LA G5
                  go_wp2_with fail
                  refine (HH.out.count (O2.out.gw HH.out G6.out).hf (by omega)).mono ?_
                  rintro ex v7 ⟨rfl, g7⟩
                  have G7 : Hid (Gw v2 v7) := G6.out.trans g7
                  clear g7 G6
                  go_wp2_with fail
                  refine (HH.out.count (P2.out.gw HH.out G7.out).hf (by omega)).mono ?_
                  rintro ex v8 ⟨rfl, g8⟩
                  have G8 : Hid (Gw v2 v8) := G7.out.trans g8
                  clear g8 G7
                  have T1 : Aside (Own HF w v8 pf S1 (eps - 1) m' fk') := O2.out.gw HH.out G8.out
                  have T2 : Aside (Own HF w v8 pg S2 (eps - 1) m' gk') := P2.out.gw HH.out G8.out
                  have T3 : Aside (Own HF w v8 ph SH (eps - 1) 0 (fun _ => 0)) := Q2.out.gw HH.out G8.out
                  have T4 : Aside (Dis S1 S2 ∧ Dis S1 SH ∧ Dis S2 SH) := E2.out
                  have T5 : Aside (∀ j, j < m' → gk' j = fk' j + fr) := SH2.out
                  have T6 : Aside (Gw w v8) := G2.out.trans G8.out
                  clear O2 P2 Q2 E2 SH2 G2 G8
                  cases al with
                  | true =>
                    have T7 : Aside (ok' = true → m' = i + 1 ∧ ∀ j, j < i + 1 → fk' j = f j) := fun q => AL2.out (by rw [q]; rfl)
                    clear AL2
                    go_wp2_with fail
                    go_roundg (k - (i + 1))
                    case measure => omega
                    case rel =>
                      refine ⟨i + 1, m', ok', S1, S2, fk', gk', ?_, ?_, ?_, ?_, ?_, T1, T2, T3, T4, T5, T7, T6⟩
                      · simp
                      · go_num
                      · omega
                      · exact Nat.le_refl _
                      · exact m'b
                  | false =>
                    have T7 : Aside (false = true → m' = i + 1 ∧ ∀ j, j < i + 1 → fk' j = f j) := fun q => Bool.noConfusion q
                    clear AL2
                    go_wp2_with fail
                    go_roundg (k - (i + 1))
                    case measure => omega
                    case rel => exact ⟨i + 1, m', false, S1, S2, fk', gk', rfl, by go_num, by omega, Nat.le_refl _, m'b, T1, T2, T3, T4, T5, T7, T6⟩
                · obtain rfl : i = k := by omega
                  cases al with
                  | false =>
                    clear OF OG OH DD SH1 AL
                    go_wp2_with fail
                    refine wp_loop_rounds 1 ?_
                    rw [rounds_succ]
                    go_wp2_with fail
                    go_ret
                    exact ⟨by simp, GI.out⟩
                  | true =>
                    obtain ⟨em, ef⟩ := AL.out rfl
                    have F6 : Aside (Own HF w wr pf SF (eps - 1) i f) := ⟨HH.out.ext (em ▸ OF.out.hf) ef, OF.out.new⟩
                    have L6 : Aside (Own HF w wr ph SH (eps - 1) 0 (rev 18446744073709551615 i f)) := ⟨HH.out.ext OH.out.hf (fun j hj => by omega), OH.out.new⟩
                    have D6 : Aside (Dis SF SH) := DD.out.2.1
                    have FF : Aside (FitsOn (eps - 1) f (Prs i)) := (HH.out.facts F6.out.hf).2.2.1
                    clear em ef OF OG OH DD SH1 AL
                    go_wp2_with fail
                    go_loopg [22] i (fun gg s22 wr => ∃ (j : Nat) (ti : Int) (S3 : Nat → Prop), s22 = .int .i64 ti ∧ ti = (i : Int) - 1 - j ∧ j ≤ i ∧ i - j ≤ gg ∧ Aside (Own HF w wr ph S3 (eps - 1) j (rev 18446744073709551615 i f)) ∧ Aside (Own HF w wr pf SF (eps - 1) i f) ∧ Aside (Dis SF S3) ∧ Aside (Gw w wr))
                    case atStart => exact ⟨0, (i : Int) - 1, SH, by go_num, by omega, Nat.zero_le _, by omega, L6, F6, D6, GI⟩
                    case round =>
                      clear F6 L6 D6 GI
                      obtain ⟨j, ti, S3, rfl, et, b1, b2, OL, OK, DL, GI⟩ := hrel
                      by_cases hji : j < i
                      · obtain ⟨t, ht⟩ : ∃ t : Nat, ti = t := ⟨ti.toNat, by omega⟩
                        subst ht
                        have htn : t < i := by omega
                        have htn2 : t < n := by omega
                        obtain ⟨b2', o2, eb, hb2, hc⟩ := (HK.out.gw GI.out).cells (by omega)
                        cases eb
                        have q1 := hc t (by omega)
                        obtain ⟨y0, y1⟩ := HK.out.bd t (by omega)
                        have RX : Hid (rev 18446744073709551615 i f j = 18446744073709551615 - f t) := by
                          show rev 18446744073709551615 i f j = 18446744073709551615 - f t
                          unfold rev
                          rw [show i - 1 - j = t by omega]
                        have UR : Hid (Up (rev 18446744073709551615 i f) i) := rev_up UK.out
                        obtain ⟨x, hx⟩ : ∃ x, 18446744073709551615 - f t = x := ⟨_, rfl⟩
                        rw [hx] at RX
                        obtain ⟨ft, hft2⟩ : ∃ y, f t = y := ⟨_, rfl⟩
                        rw [hft2] at q1 y0 y1 hx
                        clear hc hft2
                        have x0 : 0 ≤ x := by omega
                        have x1 : x < 18446744073709551616 := by omega
                        have j3 : j ≤ 3000 := by omega
                        have ET : Aside ((t : Int) = (i : Int) - 1 - j) := et
                        clear et
                        go_wp2_with fail
                        refine (own_add HH.out OL.out GI.out x x0 x1 j3).mono ?_
                        rintro ex v1 ⟨ok, err, S4, rfl, hA, hO, gs, gw, hd⟩
                        have eu : ∀ q, q < j + 1 → upd (rev 18446744073709551615 i f) j x q = rev 18446744073709551615 i f q := by
                          intro q hq
                          by_cases e : q = j
                          · subst e; rw [upd_at, RX.out]
                          · exact upd_lo (by omega)
                        have hk : ok = true ∧ err = 0 := by
                          rcases hA with ⟨h0, h3, _⟩ | ⟨_, h4, h5⟩
                          · exfalso
                            have := UR.out.lt (show j - 1 < j by omega) hji
                            rw [RX.out] at this
                            omega
                          · refine ⟨h5.2 ?_, h4⟩
                            exact (fits_less (rev_fits FF.out) (show j + 1 ≤ i by omega)).congr (fun _ _ s => s) (fun a b s => by rw [eu a (by have := s.1; have := s.2; omega), eu b s.2])
                        obtain ⟨rfl, rfl⟩ := hk
                        have O1 : Hid (Own HF w v1 ph S4 (eps - 1) (j + 1) (rev 18446744073709551615 i f)) := ⟨HH.out.ext hO.hf eu, hO.new⟩
                        have O2 : Hid (Own HF w v1 pf SF (eps - 1) i f) := OK.out.gs HH.out gs DL.out.symm
                        have E1 : Hid (Dis SF S4) := (hd SF DL.out.symm (HH.out.lt OK.out.hf)).symm
                        have G1 : Hid (Gw w v1) := gw
                        clear hA hO gs gw hd eu OL OK DL GI q1 hx
                        go_wp2_with fail
                        go_roundg (i - (j + 1))
                        case measure => omega
                        case rel =>
                          have et := ET.out
                          refine ⟨j + 1, (t : Int) - 1, S4, ?_, by omega, by omega, Nat.le_refl _, O1.out, O2.out, E1.out, G1.out⟩
                          first | rfl | go_num | simp
                      · obtain rfl : j = i := by omega
                        have et' : ti = -1 := by omega
                        subst et'
                        have UF := (HH.out.facts OK.out.hf).1
                        have UR := (HH.out.facts OL.out.hf).1
                        have PR : Hid (Pairs (rev 18446744073709551615 j f) (Prs j)) := prs_pairs UR
                        have O1 : Hid (Own HF w wr ph S3 (eps - 1) j (rev 18446744073709551615 j f)) := OL.out
                        have O2 : Hid (Own HF w wr pf SF (eps - 1) j f) := OK.out
                        have G1 : Hid (Gw w wr) := GI.out
                        clear UF UR OL OK DL GI
                        go_wp2_with fail
                        refine (HH.out.count O1.out.hf (by omega)).mono ?_
                        rintro ex v3 ⟨rfl, g3⟩
                        have G3 : Hid (Gw wr v3) := g3
                        clear g3
                        go_wp2_with fail
                        refine (HH.out.least (O1.out.gw HH.out G3.out).hf (by omega)).mono ?_
                        rintro ex v4 ⟨⟨a, b, rfl, hl, _⟩, g4⟩
                        have LA : Hid (LowOn (eps - 1) (rev 18446744073709551615 j f) (Prs j) a b) := hl
                        have G4 : Hid (Gw wr v4) := G3.out.trans g4
                        clear hl g4 G3
                        go_wp2_with fail
                        refine (HH.out.least (O2.out.gw HH.out G4.out).hf (by omega)).mono ?_
                        rintro ex v5 ⟨⟨a', b', rfl, hl, _⟩, g5⟩
                        obtain ⟨rfl, rfl⟩ : a' = a ∧ b' = b := (rev_low hl).one PR.out LA.out
                        have G5 : Hid (Gw wr v5) := G4.out.trans g5
                        clear hl g5 G4 LA
                        go_wp2_with fail
                        refine (HH.out.most (O1.out.gw HH.out G5.out).hf (by omega)).mono ?_
                        rintro ex v6 ⟨⟨a, b, rfl, hl, _⟩, g6⟩
                        have LA : Hid (TopOn (eps - 1) (rev 18446744073709551615 j f) (Prs j) a b) := hl
                        have G6 : Hid (Gw wr v6) := G5.out.trans g6
                        clear hl g6 G5
                        go_wp2_with fail
                        refine (HH.out.most (O2.out.gw HH.out G6.out).hf (by omega)).mono ?_
                        rintro ex v7 ⟨⟨c', d', rfl, hl, _⟩, g7⟩
                        obtain ⟨rfl, rfl⟩ : c' = a ∧ d' = b := (rev_top hl).one PR.out LA.out
                        clear hl LA
                        go_wp2_with fail
                        go_ret
                        exact ⟨by simp, (G1.out.trans G6.out).trans g7⟩
            · obtain ⟨rm, hrm⟩ : ∃ r, 18446744073709551615 - yl = r := ⟨_, rfl⟩
              obtain ⟨r1, hr1⟩ : ∃ r, rm + 1 = r := ⟨_, rfl⟩
              obtain ⟨fr, hfr⟩ : ∃ fr, far % r1 = fr := ⟨_, rfl⟩
              have g0 := Int.emod_nonneg far (b := r1) (by omega)
              have g1 := Int.emod_lt_of_pos far (b := r1) (by omega)
              have hr0 : (r1 == 0) = false := by simp; omega
              have rlt : rm < 18446744073709551615 := by omega
              have FB : Aside (f (k - 1) + fr ≤ 18446744073709551615) := by show f (k - 1) + fr ≤ 18446744073709551615; rw [YL.out]; omega
              rw [hfr] at g0 g1
              have hft : far.tmod r1 = fr := by rw [Int.tmod_eq_emod_of_nonneg f0]; exact hfr
              go_wp2_with fail
              clear c2 hw z1 hm hrm hr1 hfr hft hr0 rlt g1 hy y0 y1
              go_loopg [16, 17] k (fun gg s16 s17 wr => ∃ (i m : Nat) (al : Bool) (SF SG : Nat → Prop) (fk gk : Nat → Int), s16 = .bool al ∧ s17 = .int .i64 i ∧ i ≤ k ∧ k - i ≤ gg ∧ m ≤ i ∧ Aside (Own HF w wr pf SF (eps - 1) m fk) ∧ Aside (Own HF w wr pg SG (eps - 1) m gk) ∧ Aside (Own HF w wr ph SH (eps - 1) 0 (fun _ => 0)) ∧ Aside (Dis SF SG ∧ Dis SF SH ∧ Dis SG SH) ∧ Aside (∀ j, j < m → gk j = fk j + fr) ∧ Aside (al = true → m = i ∧ ∀ j, j < i → fk j = f j) ∧ Aside (Gw w wr))
              case atStart => exact ⟨0, 0, true, SF, SG, _, _, rfl, rfl, Nat.zero_le _, by omega, Nat.le_refl _, F5, K5, L5, D4, (show Aside _ from fun j hj => by omega), (show Aside _ from fun _ => ⟨rfl, fun j hj => by omega⟩), G5⟩
              case round =>
                clear F5 K5 L5 G5 D4 F4 K4 L4 G4
                obtain ⟨i, m, al, SF, SG, fk, gk, rfl, rfl, a1, a2, a3, OF, OG, OH, DD, SH1, AL, GI⟩ := hrel
                by_cases hik : i < k
                · obtain ⟨b2, o2, eb, hb2, hc⟩ := (HK.out.gw GI.out).cells (by omega)
                  cases eb
                  have q1 := hc i (by omega)
                  obtain ⟨y0, y1⟩ := HK.out.bd i (by omega)
                  have yf : f i + fr < 18446744073709551616 := by
                    have := UK.out.le (show i ≤ k - 1 by omega) (by omega)
                    have := FB.out
                    omega
                  have CK : Hid (∀ w5, Gw w w5 → w5.cell? ⟨bk, off + i, none⟩ = some (.int .u64 (f i))) := by
                    show ∀ w5, Gw w w5 → w5.cell? ⟨bk, off + i, none⟩ = some (.int .u64 (f i))
                    intro w5 g5
                    obtain ⟨b', off', e', _, hc'⟩ := (HK.out.gw g5).cells (by omega)
                    cases e'
                    exact hc' i (by omega)
                  have XE : Hid (∃ x, f i = x) := ⟨_, rfl⟩
                  obtain ⟨x, hx⟩ := XE.out
                  have XF : Aside (f i = x) := hx
                  rw [hx] at q1 y0 y1 yf CK
                  clear hc hx XE
                  go_wp2_with fail
                  refine (own_add HH.out OF.out GI.out x y0 y1 (by omega)).mono ?_
                  rintro ex v1 ⟨ok, err, S1, rfl, hA, hO, gs, gw, hd⟩
                  have A1 : Hid (AddR (eps - 1) m fk x ok err) := hA
                  have O1 : Hid (Own HF w v1 pf S1 (eps - 1) (if ok then m + 1 else m) (if ok then upd fk m x else fk)) := hO
                  have P1 : Hid (Own HF w v1 pg SG (eps - 1) m gk) := OG.out.gs HH.out gs DD.out.1
                  have Q1 : Hid (Own HF w v1 ph SH (eps - 1) 0 (fun _ => 0)) := OH.out.gs HH.out gs DD.out.2.1
                  have G1 : Hid (Gw w v1) := gw
                  have E1 : Hid (Dis S1 SG ∧ Dis S1 SH ∧ Dis SG SH) := ⟨hd SG DD.out.1 (HH.out.lt OG.out.hf), hd SH DD.out.2.1 (HH.out.lt OH.out.hf), DD.out.2.2⟩
                  have q2 := CK.out v1 gw
                  clear hA hO gs gw hd OF OG OH DD GI q1
                  go_wp2_with fail
                  refine (own_add HH.out P1.out G1.out (x + fr) (by omega) yf (by omega)).mono ?_
                  rintro ex v2 ⟨ok', err', S2, rfl, hA, hO, gs, gw, hd⟩
                  obtain ⟨e1, e2⟩ : ok' = ok ∧ err' = err := hA.one (A1.out.shift (t := fr) SH1.out rfl)
                  subst e1 e2
                  obtain ⟨m', hm2⟩ : ∃ m' : Nat, m' = (if ok' then m + 1 else m) := ⟨_, rfl⟩
                  obtain ⟨fk', hf2⟩ : ∃ fk' : Nat → Int, fk' = (if ok' then upd fk m x else fk) := ⟨_, rfl⟩
                  obtain ⟨gk', hg2⟩ : ∃ gk' : Nat → Int, gk' = (if ok' then upd gk m (x + fr) else gk) := ⟨_, rfl⟩
                  have SH2 : Hid (∀ j, j < m' → gk' j = fk' j + fr) := by
                    show ∀ j, j < m' → gk' j = fk' j + fr
                    intro j hj
                    cases ok' with
                    | false => simp only [Bool.false_eq_true, if_false] at hm2 hf2 hg2; rw [hf2, hg2]; exact SH1.out j (by omega)
                    | true =>
                      simp only [if_true] at hm2 hf2 hg2
                      rw [hf2, hg2]
                      by_cases e : j = m
                      · subst e; rw [upd_at, upd_at]
                      · rw [upd_lo (by omega), upd_lo (by omega)]; exact SH1.out j (by omega)
                  have AL2 : Hid ((al && ok') = true → m' = i + 1 ∧ ∀ j, j < i + 1 → fk' j = f j) := by
                    show (al && ok') = true → m' = i + 1 ∧ ∀ j, j < i + 1 → fk' j = f j
                    intro hh
                    rw [Bool.and_eq_true] at hh
                    obtain ⟨hal, rfl⟩ := hh
                    obtain ⟨r1, r2⟩ := AL.out hal
                    simp only [if_true] at hm2 hf2
                    refine ⟨by omega, fun j hj => ?_⟩
                    rw [hf2]
                    by_cases e : j = m
                    · subst e; rw [upd_at, ← XF.out, r1]
                    · rw [upd_lo (by omega)]; exact r2 j (by omega)
                  have m'b : m' ≤ i + 1 := by rw [hm2]; split <;> omega
                  have O2 : Hid (Own HF w v2 pf S1 (eps - 1) m' fk') := by
                    have := O1.out.gs HH.out gs E1.out.1.symm
                    rw [← hm2, ← hf2] at this
                    exact this
                  have P2 : Hid (Own HF w v2 pg S2 (eps - 1) m' gk') := by rw [← hm2, ← hg2] at hO; exact hO
                  have Q2 : Hid (Own HF w v2 ph SH (eps - 1) 0 (fun _ => 0)) := Q1.out.gs HH.out gs E1.out.2.2
                  have G2 : Hid (Gw w v2) := gw
                  have E2 : Hid (Dis S1 S2 ∧ Dis S1 SH ∧ Dis S2 SH) := ⟨(hd S1 E1.out.1.symm (HH.out.lt O1.out.hf)).symm, E1.out.2.1, hd SH E1.out.2.2 (HH.out.lt Q1.out.hf)⟩
                  clear hm2 hf2 hg2 hA hO gs gw hd A1 O1 P1 Q1 G1 E1 q2 SH1 AL
                  go_wp2_with fail
                  refine (HH.out.least O2.out.hf (by omega)).mono ?_
                  rintro ex v3 ⟨⟨a, b, rfl, hl, _⟩, g3⟩
                  have LA : Hid (LowOn (eps - 1) gk' (Prs m') a b) := low_shift hl SH2.out
                  have G3 : Hid (Gw v2 v3) := g3
                  clear hl g3
                  go_wp2_with fail
                  refine (HH.out.least (P2.out.gw HH.out G3.out).hf (by omega)).mono ?_
                  rintro ex v4 ⟨⟨a', b', rfl, hl, _⟩, g4⟩
                  obtain ⟨rfl, rfl⟩ : a' = a ∧ b' = b := hl.one (prs_pairs (HH.out.facts P2.out.hf).1) LA.out
                  have G4 : Hid (Gw v2 v4) := G3.out.trans g4
                  clear hl g4 LA G3
                  go_wp2_with fail
                  refine (HH.out.most (O2.out.gw HH.out G4.out).hf (by omega)).mono ?_
                  rintro ex v5 ⟨⟨a, b, rfl, hl, _⟩, g5⟩
                  have LA : Hid (TopOn (eps - 1) gk' (Prs m') a b) := top_shift hl SH2.out
                  have G5 : Hid (Gw v2 v5) := G4.out.trans g5
                  clear hl g5 G4
                  go_wp2_with fail
                  refine (HH.out.most (P2.out.gw HH.out G5.out).hf (by omega)).mono ?_
                  rintro ex v6 ⟨⟨c', d', rfl, hl, _⟩, g6⟩
                  obtain ⟨rfl, rfl⟩ : c' = a ∧ d' = b := hl.one (prs_pairs (HH.out.facts P2.out.hf).1) LA.out
                  have G6 : Hid (Gw v2 v6) := G5.out.trans g6
                  clear hl g6 LA G5
                  go_wp2_with fail
                  refine (HH.out.count (O2.out.gw HH.out G6.out).hf (by omega)).mono ?_
                  rintro ex v7 ⟨rfl, g7⟩
                  have G7 : Hid (Gw v2 v7) := G6.out.trans g7
                  clear g7 G6
                  go_wp2_with fail
                  refine (HH.out.count (P2.out.gw HH.out G7.out).hf (by omega)).mono ?_
                  rintro ex v8 ⟨rfl, g8⟩
                  have G8 : Hid (Gw v2 v8) := G7.out.trans g8
                  clear g8 G7
                  have T1 : Aside (Own HF w v8 pf S1 (eps - 1) m' fk') := O2.out.gw HH.out G8.out
                  have T2 : Aside (Own HF w v8 pg S2 (eps - 1) m' gk') := P2.out.gw HH.out G8.out
                  have T3 : Aside (Own HF w v8 ph SH (eps - 1) 0 (fun _ => 0)) := Q2.out.gw HH.out G8.out
                  have T4 : Aside (Dis S1 S2 ∧ Dis S1 SH ∧ Dis S2 SH) := E2.out
                  have T5 : Aside (∀ j, j < m' → gk' j = fk' j + fr) := SH2.out
                  have T6 : Aside (Gw w v8) := G2.out.trans G8.out
                  clear O2 P2 Q2 E2 SH2 G2 G8
                  cases al with
                  | true =>
                    have T7 : Aside (ok' = true → m' = i + 1 ∧ ∀ j, j < i + 1 → fk' j = f j) := fun q => AL2.out (by rw [q]; rfl)
                    clear AL2
                    go_wp2_with fail
                    go_roundg (k - (i + 1))
                    case measure => omega
                    case rel =>
                      refine ⟨i + 1, m', ok', S1, S2, fk', gk', ?_, ?_, ?_, ?_, ?_, T1, T2, T3, T4, T5, T7, T6⟩
                      · simp
                      · go_num
                      · omega
                      · exact Nat.le_refl _
                      · exact m'b
                  | false =>
                    have T7 : Aside (false = true → m' = i + 1 ∧ ∀ j, j < i + 1 → fk' j = f j) := fun q => Bool.noConfusion q
                    clear AL2
                    go_wp2_with fail
                    go_roundg (k - (i + 1))
                    case measure => omega
                    case rel => exact ⟨i + 1, m', false, S1, S2, fk', gk', rfl, by go_num, by omega, Nat.le_refl _, m'b, T1, T2, T3, T4, T5, T7, T6⟩
                · obtain rfl : i = k := by omega
                  cases al with
                  | false =>
                    clear OF OG OH DD SH1 AL
                    go_wp2_with fail
                    refine wp_loop_rounds 1 ?_
                    rw [rounds_succ]
                    go_wp2_with fail
                    go_ret
                    exact ⟨by simp, GI.out⟩
                  | true =>
                    obtain ⟨em, ef⟩ := AL.out rfl
                    have F6 : Aside (Own HF w wr pf SF (eps - 1) i f) := ⟨HH.out.ext (em ▸ OF.out.hf) ef, OF.out.new⟩
                    have L6 : Aside (Own HF w wr ph SH (eps - 1) 0 (rev 18446744073709551615 i f)) := ⟨HH.out.ext OH.out.hf (fun j hj => by omega), OH.out.new⟩
                    have D6 : Aside (Dis SF SH) := DD.out.2.1
                    have FF : Aside (FitsOn (eps - 1) f (Prs i)) := (HH.out.facts F6.out.hf).2.2.1
                    clear em ef OF OG OH DD SH1 AL
                    go_wp2_with fail
                    go_loopg [22] i (fun gg s22 wr => ∃ (j : Nat) (ti : Int) (S3 : Nat → Prop), s22 = .int .i64 ti ∧ ti = (i : Int) - 1 - j ∧ j ≤ i ∧ i - j ≤ gg ∧ Aside (Own HF w wr ph S3 (eps - 1) j (rev 18446744073709551615 i f)) ∧ Aside (Own HF w wr pf SF (eps - 1) i f) ∧ Aside (Dis SF S3) ∧ Aside (Gw w wr))
                    case atStart => exact ⟨0, (i : Int) - 1, SH, by go_num, by omega, Nat.zero_le _, by omega, L6, F6, D6, GI⟩
                    case round =>
                      clear F6 L6 D6 GI
                      obtain ⟨j, ti, S3, rfl, et, b1, b2, OL, OK, DL, GI⟩ := hrel
                      by_cases hji : j < i
                      · obtain ⟨t, ht⟩ : ∃ t : Nat, ti = t := ⟨ti.toNat, by omega⟩
                        subst ht
                        have htn : t < i := by omega
                        have htn2 : t < n := by omega
                        obtain ⟨b2', o2, eb, hb2, hc⟩ := (HK.out.gw GI.out).cells (by omega)
                        cases eb
                        have q1 := hc t (by omega)
                        obtain ⟨y0, y1⟩ := HK.out.bd t (by omega)
                        have RX : Hid (rev 18446744073709551615 i f j = 18446744073709551615 - f t) := by
                          show rev 18446744073709551615 i f j = 18446744073709551615 - f t
                          unfold rev
                          rw [show i - 1 - j = t by omega]
                        have UR : Hid (Up (rev 18446744073709551615 i f) i) := rev_up UK.out
                        obtain ⟨x, hx⟩ : ∃ x, 18446744073709551615 - f t = x := ⟨_, rfl⟩
                        rw [hx] at RX
                        obtain ⟨ft, hft2⟩ : ∃ y, f t = y := ⟨_, rfl⟩
                        rw [hft2] at q1 y0 y1 hx
                        clear hc hft2
                        have x0 : 0 ≤ x := by omega
                        have x1 : x < 18446744073709551616 := by omega
                        have j3 : j ≤ 3000 := by omega
                        have ET : Aside ((t : Int) = (i : Int) - 1 - j) := et
                        clear et
                        go_wp2_with fail
                        refine (own_add HH.out OL.out GI.out x x0 x1 j3).mono ?_
                        rintro ex v1 ⟨ok, err, S4, rfl, hA, hO, gs, gw, hd⟩
                        have eu : ∀ q, q < j + 1 → upd (rev 18446744073709551615 i f) j x q = rev 18446744073709551615 i f q := by
                          intro q hq
                          by_cases e : q = j
                          · subst e; rw [upd_at, RX.out]
                          · exact upd_lo (by omega)
                        have hk : ok = true ∧ err = 0 := by
                          rcases hA with ⟨h0, h3, _⟩ | ⟨_, h4, h5⟩
                          · exfalso
                            have := UR.out.lt (show j - 1 < j by omega) hji
                            rw [RX.out] at this
                            omega
                          · refine ⟨h5.2 ?_, h4⟩
                            exact (fits_less (rev_fits FF.out) (show j + 1 ≤ i by omega)).congr (fun _ _ s => s) (fun a b s => by rw [eu a (by have := s.1; have := s.2; omega), eu b s.2])
                        obtain ⟨rfl, rfl⟩ := hk
                        have O1 : Hid (Own HF w v1 ph S4 (eps - 1) (j + 1) (rev 18446744073709551615 i f)) := ⟨HH.out.ext hO.hf eu, hO.new⟩
                        have O2 : Hid (Own HF w v1 pf SF (eps - 1) i f) := OK.out.gs HH.out gs DL.out.symm
                        have E1 : Hid (Dis SF S4) := (hd SF DL.out.symm (HH.out.lt OK.out.hf)).symm
                        have G1 : Hid (Gw w v1) := gw
                        clear hA hO gs gw hd eu OL OK DL GI q1 hx
                        go_wp2_with fail
                        go_roundg (i - (j + 1))
                        case measure => omega
                        case rel =>
                          have et := ET.out
                          refine ⟨j + 1, (t : Int) - 1, S4, ?_, by omega, by omega, Nat.le_refl _, O1.out, O2.out, E1.out, G1.out⟩
                          first | rfl | go_num | simp
                      · obtain rfl : j = i := by omega
                        have et' : ti = -1 := by omega
                        subst et'
                        have UF := (HH.out.facts OK.out.hf).1
                        have UR := (HH.out.facts OL.out.hf).1
                        have PR : Hid (Pairs (rev 18446744073709551615 j f) (Prs j)) := prs_pairs UR
                        have O1 : Hid (Own HF w wr ph S3 (eps - 1) j (rev 18446744073709551615 j f)) := OL.out
                        have O2 : Hid (Own HF w wr pf SF (eps - 1) j f) := OK.out
                        have G1 : Hid (Gw w wr) := GI.out
                        clear UF UR OL OK DL GI
                        go_wp2_with fail
                        refine (HH.out.count O1.out.hf (by omega)).mono ?_
                        rintro ex v3 ⟨rfl, g3⟩
                        have G3 : Hid (Gw wr v3) := g3
                        clear g3
                        go_wp2_with fail
                        refine (HH.out.least (O1.out.gw HH.out G3.out).hf (by omega)).mono ?_
                        rintro ex v4 ⟨⟨a, b, rfl, hl, _⟩, g4⟩
                        have LA : Hid (LowOn (eps - 1) (rev 18446744073709551615 j f) (Prs j) a b) := hl
                        have G4 : Hid (Gw wr v4) := G3.out.trans g4
                        clear hl g4 G3
                        go_wp2_with fail
                        refine (HH.out.least (O2.out.gw HH.out G4.out).hf (by omega)).mono ?_
                        rintro ex v5 ⟨⟨a', b', rfl, hl, _⟩, g5⟩
                        obtain ⟨rfl, rfl⟩ : a' = a ∧ b' = b := (rev_low hl).one PR.out LA.out
                        have G5 : Hid (Gw wr v5) := G4.out.trans g5
                        clear hl g5 G4 LA
                        go_wp2_with fail
                        refine (HH.out.most (O1.out.gw HH.out G5.out).hf (by omega)).mono ?_
                        rintro ex v6 ⟨⟨a, b, rfl, hl, _⟩, g6⟩
                        have LA : Hid (TopOn (eps - 1) (rev 18446744073709551615 j f) (Prs j) a b) := hl
                        have G6 : Hid (Gw wr v6) := G5.out.trans g6
                        clear hl g6 G5
                        go_wp2_with fail
                        refine (HH.out.most (O2.out.gw HH.out G6.out).hf (by omega)).mono ?_
                        rintro ex v7 ⟨⟨c', d', rfl, hl, _⟩, g7⟩
                        obtain ⟨rfl, rfl⟩ : c' = a ∧ d' = b := (rev_top hl).one PR.out LA.out
                        clear hl LA
                        go_wp2_with fail
                        go_ret
                        exact ⟨by simp, (G1.out.trans G6.out).trans g7⟩
  · have alt : eps < 2 ∨ (¬ eps < 2 ∧ 64 < eps) := by omega
    rcases alt with q | ⟨q, q'⟩
    · go_enter Try.func8, Try.ntmps8
      go_wp2_with fail
      refine (hshown HH.out w).mono ?_
      rintro e w1 ⟨rfl, g1⟩
      go_wp2_with fail
      refine (HH.out.bad eps hok _).mono ?_
      rintro e w2 ⟨rfl, g2⟩
      go_wp2_with fail
      refine (HH.out.bad eps hok _).mono ?_
      rintro e w3 ⟨rfl, g3⟩
      go_wp2_with fail
      refine (HH.out.bad eps hok _).mono ?_
      rintro e w4 ⟨rfl, g4⟩
      clear hok
      go_wp2_with fail
      go_ret
      exact ⟨by simp, ((g1.trans g2).trans g3).trans g4⟩
    · go_enter Try.func8, Try.ntmps8
      go_wp2_with fail
      refine (hshown HH.out w).mono ?_
      rintro e w1 ⟨rfl, g1⟩
      go_wp2_with fail
      refine (HH.out.bad eps hok _).mono ?_
      rintro e w2 ⟨rfl, g2⟩
      go_wp2_with fail
      refine (HH.out.bad eps hok _).mono ?_
      rintro e w3 ⟨rfl, g3⟩
      go_wp2_with fail
      refine (HH.out.bad eps hok _).mono ?_
      rintro e w4 ⟨rfl, g4⟩
      clear hok
      go_wp2_with fail
      go_ret
      exact ⟨by simp, ((g1.trans g2).trans g3).trans g4⟩

end Go.Proofs.Ytocahgiabeifeaa
