/- Package levels, whole. -/
import Derived.Test.YtmmkmakajolfhabYCheck
import Derived.StillTailTactics
namespace Go.Proofs.Ytmmkmakajolfhab
open Go.RowKit
set_option linter.unusedVariables false
set_option linter.unusedSimpArgs false

set_option maxRecDepth 10000 in
set_option maxHeartbeats 4000000 in
theorem xcheck8_any (M : ModelC) (eps : Int) (ao : Option Addr) (n cp : Nat) (f : Nat → Int) (lo : Option Addr) (lc : Nat) (L : List (List Sg)) (e0 : -9223372036854775808 ≤ eps) (e1 : eps < 9223372036854775808) (hn : n ≤ 2000000) (hcp : n ≤ cp) (hS : Short L) (w : World) (hk : KS w ao n f) (hv : VS w lo L) :
    Calls Try.prog 13 #[.slice ao n cp, .int .i64 eps, .slice lo L.length lc] w fun ex w' => CheckOut ex eps f n L ∧ Gw w w' := by
  have hmf : ∀ (fn : Fn) (first cap : Array Value) (w : World), (Instr.makeFunc fn first cap).run Try.prog w = .ok (.func fn first cap) w := fun _ _ _ _ => rfl
  have HK : Aside (KS w ao n f) := hk
  have HV : Aside (VS w lo L) := hv
  have HS : Aside (Short L) := hS
  have MM : Aside ModelC := M
  have lns := hS.1
  clear hk hv hS M
  have NB : Hid (∀ W, KS W ao n f → _) := fun W h => needbase_any eps ao n cp f (by omega) W h
  have MX : Hid (∀ W, Calls Try.prog 18 #[.int .i64 4294967296, .int .i64 eps] W fun ex w' => ex = .returned (.int .i64 (mxh 4294967296 eps)) ∧ w' = W) := fun W => xmaxh_any 4294967296 eps (by decide) (by decide) e0 e1 W
  obtain ⟨H, hH⟩ : ∃ H, mxh 4294967296 eps = H := ⟨_, rfl⟩
  have HH : Aside (mxh 4294967296 eps = H) := hH
  rw [hH] at MX
  obtain ⟨ln, hln⟩ : ∃ ln, L.length = ln := ⟨_, rfl⟩
  have LN : Aside (L.length = ln) := hln
  rw [hln] at lns ⊢
  clear hH hln
  go_enter_defers Try.func13, Try.ntmps13
  go_wp2_with fail
  have P3 : Aside (Box (((w.alloc (.cells #[.int .i64 eps] 3)).alloc (.cells #[.slice lo ln lc] 24)).alloc (.cells #[.int .i64 0] 25)) w.heap.size (.int .i64 eps) 3) := ((Box.new w _ _).gw ((Gw.refl _).alloc _ _)).gw ((Gw.refl _).alloc _ _)
  have L3 : Aside (Box (((w.alloc (.cells #[.int .i64 eps] 3)).alloc (.cells #[.slice lo ln lc] 24)).alloc (.cells #[.int .i64 0] 25)) (w.heap.size + 1) (.slice lo ln lc) 24) := by
    have := (Box.new (w.alloc (.cells #[.int .i64 eps] 3)) (.slice lo ln lc) 24).gw ((Gw.refl _).alloc #[.int .i64 0] 25)
    simp at this
    exact this
  have E3 : Aside (Box (((w.alloc (.cells #[.int .i64 eps] 3)).alloc (.cells #[.slice lo ln lc] 24)).alloc (.cells #[.int .i64 0] 25)) (w.heap.size + 1 + 1) (.int .i64 0) 25) := by
    have := Box.new ((w.alloc (.cells #[.int .i64 eps] 3)).alloc (.cells #[.slice lo ln lc] 24)) (.int .i64 0) 25
    simp at this
    exact this
  have G3 : Aside (Gw w (((w.alloc (.cells #[.int .i64 eps] 3)).alloc (.cells #[.slice lo ln lc] 24)).alloc (.cells #[.int .i64 0] 25))) := (((Gw.refl w).alloc _ _).alloc _ _).alloc _ _
  have Z3 : Aside (w.heap.size + 3 ≤ (((w.alloc (.cells #[.int .i64 eps] 3)).alloc (.cells #[.slice lo ln lc] 24)).alloc (.cells #[.int .i64 0] 25)).heap.size) := by show _ ≤ _; simp
  generalize ((w.alloc (.cells #[.int .i64 eps] 3)).alloc (.cells #[.slice lo ln lc] 24)).alloc (.cells #[.int .i64 0] 25) = w3 at P3 L3 E3 G3 Z3 ⊢
  obtain ⟨bp, hbp⟩ : ∃ bp, w.heap.size = bp := ⟨_, rfl⟩
  obtain ⟨bl, hbl⟩ : ∃ bl, bp + 1 = bl := ⟨_, rfl⟩
  obtain ⟨be, hbe⟩ : ∃ be, bl + 1 = be := ⟨_, rfl⟩
  have BB : Aside (w.heap.size = bp ∧ bp + 1 = bl ∧ bl + 1 = be) := ⟨hbp, hbl, hbe⟩
  rw [hbp, hbl] at L3
  rw [hbp, hbl, hbe] at E3
  rw [hbp] at P3
  rw [hbp, hbl, hbe]
  have ne : ¬ bl = be := by omega
  clear hbp hbl hbe
  refine (NB.out _ (HK.out.gw G3.out)).mono ?_
  rintro e w4 ⟨hb, g4⟩
  have P4 : Aside (Box w4 bp (.int .i64 eps) 3) := P3.out.gw g4
  have L4 : Aside (Box w4 bl (.slice lo ln lc) 24) := L3.out.gw g4
  have E4 : Aside (Box w4 be (.int .i64 0) 25) := E3.out.gw g4
  have G4 : Aside (Gw w w4) := G3.out.trans g4
  have Z4 : Aside (w.heap.size + 3 ≤ w4.heap.size) := Nat.le_trans Z3.out g4.size
  clear g4 P3 L3 E3 G3 Z3 NB
  rcases hb with ⟨k0, rfl⟩ | ⟨k0, k1, rfl⟩ | ⟨k0, k1, rfl⟩
  · have R : Aside (CheckR eps f n L 1) := .inl ⟨k0, rfl⟩
    clear k0
    go_wp2_with fail
    refine leaves_cons (f := 30) (args := #[.pointer (some ⟨be, 0, none⟩)]) (by simp) (by simp [go_sem]) ?_
    refine (caught_check be _ 1 _ E4.out.cell E4.out.fz).mono ?_
    rintro e u' wz ⟨rfl, rfl, rfl⟩
    have d5 := (Box.set E4.out (.int .i64 1)).cell
    refine ⟨.int .i64 1, by simp [results, Try.results13, go_sem, d5], ⟨1, rfl, R.out⟩, ?_⟩
    exact (G4.out).setCell (by show w.heap.size ≤ be; have := BB.out; omega) _
  · have R : Aside (CheckR eps f n L 80) := .inr (.inl ⟨k0, k1, rfl⟩)
    clear k0 k1
    go_wp2_with fail
    refine leaves_cons (f := 30) (args := #[.pointer (some ⟨be, 0, none⟩)]) (by simp) (by simp [go_sem]) ?_
    refine (caught_check be _ 80 _ E4.out.cell E4.out.fz).mono ?_
    rintro e u' wz ⟨rfl, rfl, rfl⟩
    have d5 := (Box.set E4.out (.int .i64 80)).cell
    refine ⟨.int .i64 80, by simp [results, Try.results13, go_sem, d5], ⟨80, rfl, R.out⟩, ?_⟩
    exact (G4.out).setCell (by show w.heap.size ≤ be; have := BB.out; omega) _
  · have KE : Aside ((2 ≤ eps ∧ eps ≤ 64) ∧ Up f n) := ⟨k0, k1⟩
    have cl := L4.out.cell
    have ll := L4.out.lt
    have cp4 := P4.out.cell
    have lp4 := P4.out.lt
    clear k0 k1
    have hd4 := MX.out w4.drew
    have hcl : w4.drew.cell? ⟨bl, 0, none⟩ = some (.slice lo ln lc) := cl
    have hcq : w4.drew.cell? ⟨bp, 0, none⟩ = some (.int .i64 eps) := cp4
    have E5 : Aside (Box w4.drew be (.int .i64 0) 25) := E4.out
    have G5 : Aside (Gw w w4.drew) := G4.out.drew
    by_cases hi : (ln : Int) ≤ H
    rotate_left
    · have R : Aside (CheckR eps f n L 81) := .inr (.inr (.inl ⟨KE.out.1, KE.out.2, fun q => hi (by have := q.1; rw [LN.out, HH.out] at this; exact this), rfl⟩))
      have ti : decide ((ln : Int) ≤ H) = false := by simpa using hi
      clear hi
      go_wp2_with fail
      refine wp_region_still_tail 5 (by kernel_rfl) (by kernel_rfl) ?_
      change wpStill _ _ (World.drew w4) (fun a' => wpList _ _ _ _ a' (World.drew w4)) _ _
      simp only [List.take_succ_cons, List.take_zero, List.drop_succ_cons, List.drop_zero]
      still_step
      still_step
      still_step
      still_call hd4
      still_step
      refine wpStill_nil ?_
      go_wp2_with fail
      refine (need_bad 81 _).mono ?_
      rintro e w6 ⟨rfl, e6⟩
      have E6 : Aside (Box w6 be (.int .i64 0) 25) := by rw [e6]; exact E4.out
      have G6 : Aside (Gw w w6) := by rw [e6]; exact G4.out.drew
      clear e6
      go_wp2_with fail
      refine leaves_cons (f := 30) (args := #[.pointer (some ⟨be, 0, none⟩)]) (by simp) (by simp [go_sem]) ?_
      refine (caught_check be _ 81 _ E6.out.cell E6.out.fz).mono ?_
      rintro e u' wz ⟨rfl, rfl, rfl⟩
      have d5 := (Box.set E6.out (.int .i64 81)).cell
      refine ⟨.int .i64 81, by simp [results, Try.results13, go_sem, d5], ⟨81, rfl, R.out⟩, ?_⟩
      exact (G6.out).setCell (by show w.heap.size ≤ be; have := BB.out; omega) _
    · have ti : decide ((ln : Int) ≤ H) = true := by simpa using hi
      have HI : Aside ((ln : Int) ≤ H) := hi
      clear hi
      go_wp2_with fail
      refine wp_region_still_tail 5 (by kernel_rfl) (by kernel_rfl) ?_
      change wpStill _ _ (World.drew w4) (fun a' => wpList _ _ _ _ a' (World.drew w4)) _ _
      simp only [List.take_succ_cons, List.take_zero, List.drop_succ_cons, List.drop_zero]
      still_step
      still_step
      still_step
      still_call hd4
      still_step
      refine wpStill_nil ?_
      go_wp2_with fail
      refine (need_ok 81 _).mono ?_
      rintro e w6 ⟨rfl, e6⟩
      have L6 : Aside (Box w6 bl (.slice lo ln lc) 24) := by rw [e6]; exact L4.out
      have E6 : Aside (Box w6 be (.int .i64 0) 25) := by rw [e6]; exact E4.out
      have P6 : Aside (Box w6 bp (.int .i64 eps) 3) := by rw [e6]; exact P4.out
      have G6 : Aside (Gw w w6) := by rw [e6]; exact G4.out.drew
      have Z6 : Aside (w.heap.size + 3 ≤ w6.heap.size) := by rw [e6]; exact Z4.out
      have cl6 := L6.out.cell
      have ll6 := L6.out.lt
      clear e6 hd4 hcl hcq E5 G5 cl ll cp4 lp4 L4 E4 P4 G4 Z4 MX ti
      go_wp2_with fail
      obtain ⟨bb, hbb⟩ : ∃ bb, (((ln : Int) == 0) == ((n : Int) == 0)) = bb := ⟨_, rfl⟩
      have HB : Aside (bb = true ↔ (ln = 0 ↔ n = 0)) := by
        show _ ↔ _
        rw [← hbb]
        by_cases x : ln = 0
        · by_cases y : n = 0
          · simp [x, y]
          · simp [x, y]
        · by_cases y : n = 0
          · simp [x, y]
          · rw [show ((ln : Int) == 0) = false by simp; omega, show ((n : Int) == 0) = false by simp; omega]; simp [x, y]
      generalize ((ln : Int) == 0) = bx at hbb ⊢
      generalize ((n : Int) == 0) = by_ at hbb ⊢
      rw [hbb]
      clear hbb
      cases bb with
      | false =>
        have R : Aside (CheckR eps f n L 81) := .inr (.inr (.inl ⟨KE.out.1, KE.out.2, fun q => by have := HB.out.2 (by have := q.2; rw [LN.out] at this; exact this); simp at this, rfl⟩))
        refine (need_bad 81 _).mono ?_
        rintro e w7 ⟨rfl, rfl⟩
        go_wp2_with fail
        refine leaves_cons (f := 30) (args := #[.pointer (some ⟨be, 0, none⟩)]) (by simp) (by simp [go_sem]) ?_
        refine (caught_check be _ 81 _ E6.out.cell E6.out.fz).mono ?_
        rintro e u' wz ⟨rfl, rfl, rfl⟩
        have d5 := (Box.set E6.out (.int .i64 81)).cell
        refine ⟨.int .i64 81, by simp [results, Try.results13, go_sem, d5], ⟨81, rfl, R.out⟩, ?_⟩
        exact (G6.out).setCell (by show w.heap.size ≤ be; have := BB.out; omega) _
      | true =>
        have ZZ : Aside (ln = 0 ↔ n = 0) := HB.out.1 rfl
        obtain ⟨E, hE⟩ : ∃ E, chkE eps f n L = E := ⟨_, rfl⟩
        have RR : Aside (CheckR eps f n L E) := .inr (.inr (.inr ⟨KE.out.1, KE.out.2, ⟨by rw [LN.out, HH.out]; exact HI.out, by rw [LN.out]; exact ZZ.out⟩, hE.symm⟩))
        have HE : Aside (E = leftE eps L 0 f n) := by
          show E = _
          unfold leftE
          by_cases x : 0 < L.length
          · rw [if_pos x]; exact hE.symm
          · have : L = [] := List.eq_nil_of_length_eq_zero (by omega)
            rw [if_neg x, if_pos rfl, ← hE, this]; rfl
        clear hE HB
        refine (need_ok 81 _).mono ?_
        rintro e w7 ⟨rfl, rfl⟩
        have C8 : Aside (CI w bp bl be w7.heap.size eps lo lc L (w7.alloc (.cells #[.int .i64 0] 3)) 0) := ⟨G6.out.alloc _ _, P6.out.gw ((Gw.refl _).alloc _ _), by rw [LN.out]; exact L6.out.gw ((Gw.refl _).alloc _ _), E6.out.gw ((Gw.refl _).alloc _ _), Box.new w7 _ _⟩
        have Z8 : Aside (w.heap.size + 3 ≤ w7.heap.size) := Z6.out
        go_wp2_with fail
        generalize w7.alloc (.cells #[.int .i64 0] 3) = w8 at C8 ⊢
        generalize w7.heap.size = bh at C8 Z8 ⊢
        clear L6 E6 P6 G6 Z6 cl6 ll6
        have HIN : CIn w bp bl be bh eps lo lc L E (ln + 1) w8 ao n cp f := ⟨0, C8.out, HK.out.gw C8.out.gw, KE.out.2, hn, hcp, Nat.zero_le _, fun q => by have := ZZ.out; rw [LN.out] at q; omega, HE.out, by rw [LN.out]; omega⟩
        have CB := climb_check (.pointer (some ⟨bh, 0, none⟩)) (.pointer (some ⟨bl, 0, none⟩)) (.pointer (some ⟨bp, 0, none⟩)) _ _ _ (over_check MM.out w bp bl be bh eps lo lc L E HS.out HV.out (by have := BB.out; have := Z8.out; omega) (by have := BB.out; have := Z8.out; omega) (by have := BB.out; have := Z8.out; omega) (by have := BB.out; have := Z8.out; omega)) (ln + 1) ao n cp f w8 HIN
        have CB' : Hid (Calls Try.prog 22 #[.slice ao n cp, .func (.func 32) #[] #[.pointer (some ⟨bh, 0, none⟩), .pointer (some ⟨bl, 0, none⟩), .pointer (some ⟨bp, 0, none⟩)]] w8 fun e w' => (e = .returned (.tuple #[]) ∧ COut w bp bl be bh eps lo lc L E w') ∨ (∃ ch, e = .panicked ch ∧ CDie w be E ch w')) := CB
        clear HIN CB
        refine CB'.out.mono ?_
        clear CB' MM
        rintro e w9 (⟨rfl, hC, hE9⟩ | ⟨ch, rfl, rfl, g9, b9⟩)
        · have C9 : Aside (CI w bp bl be bh eps lo lc L w9 L.length) := hC
          have E9 : Aside (E = if L.length = 0 then 0 else if (L.getD (L.length - 1) []).length = 1 then 0 else 84) := hE9
          rw [LN.out] at C9 E9
          have cl9 := hC.lx.cell
          have ll9 := hC.lx.lt
          have ch9 := hC.hx.cell
          have lh9 := hC.hx.lt
          have ce9 := hC.er.cell
          have fe9 := hC.er.fz
          rw [LN.out] at cl9 ch9
          clear hC hE9
          by_cases l0 : ln = 0
          · have E0 : E = 0 := by rw [E9.out, if_pos l0]
            subst E0
            have z0 : ((ln : Int) == 0) = true := by simp; omega
            go_wp2_with fail
            refine (need_ok 84 _).mono ?_
            rintro e w10 ⟨rfl, rfl⟩
            go_wp2_with fail
            refine leaves_cons (f := 30) (args := #[.pointer (some ⟨be, 0, none⟩)]) (by simp) (by simp [go_sem]) ?_
            refine (idle_check be _).mono ?_
            rintro e u' wz ⟨rfl, rfl, rfl⟩
            have d5 := (Box.set C9.out.er (.int .i64 0)).cell
            refine ⟨.int .i64 0, by simp [results, Try.results13, go_sem, d5], ⟨0, rfl, RR.out⟩, ?_⟩
            exact C9.out.gw.setCell (by show w.heap.size ≤ be; have := BB.out; omega) _
          · obtain ⟨lb, lf, rfl, hlb, hc⟩ := (HV.out.gw C9.out.gw).cells (by rw [LN.out]; omega)
            obtain ⟨so, sc, q1, _, _, _⟩ := hc (ln - 1) (by rw [LN.out]; omega)
            have sl := HS.out.2 (ln - 1) (by rw [LN.out]; omega)
            have EE := E9.out
            rw [if_neg l0] at EE
            clear hc
            generalize (L.getD (ln - 1) []).length = sn at q1 sl EE
            have wi : IntKind.i64.wrap ((ln : Int) - 1) = ((ln - 1 : Nat) : Int) := by rw [IntKind.wrap_i64]; omega
            obtain ⟨i1, hi1⟩ : ∃ i1, ln - 1 = i1 := ⟨_, rfl⟩
            rw [hi1] at q1 wi
            have lt1 : i1 < ln := by omega
            have z0 : ((ln : Int) == 0) = false := by simp; omega
            clear hi1
            by_cases s1 : sn = 1
            · have E0 : E = 0 := by rw [EE, if_pos s1]
              subst E0 s1
              clear EE
              go_wp2_with fail
              refine (need_ok 84 _).mono ?_
              rintro e w10 ⟨rfl, rfl⟩
              go_wp2_with fail
              refine leaves_cons (f := 30) (args := #[.pointer (some ⟨be, 0, none⟩)]) (by simp) (by simp [go_sem]) ?_
              refine (idle_check be _).mono ?_
              rintro e u' wz ⟨rfl, rfl, rfl⟩
              have d5 := (Box.set C9.out.er (.int .i64 0)).cell
              refine ⟨.int .i64 0, by simp [results, Try.results13, go_sem, d5], ⟨0, rfl, RR.out⟩, ?_⟩
              exact C9.out.gw.setCell (by show w.heap.size ≤ be; have := BB.out; omega) _
            · have E0 : E = 84 := by rw [EE, if_neg s1]
              subst E0
              have z1 : ((sn : Int) == 1) = false := by simp; omega
              clear EE
              go_wp2_with fail
              refine (need_bad 84 _).mono ?_
              rintro e w10 ⟨rfl, rfl⟩
              go_wp2_with fail
              refine leaves_cons (f := 30) (args := #[.pointer (some ⟨be, 0, none⟩)]) (by simp) (by simp [go_sem]) ?_
              refine (caught_check be _ 84 _ C9.out.er.cell C9.out.er.fz).mono ?_
              rintro e u' wz ⟨rfl, rfl, rfl⟩
              have d5 := (Box.set C9.out.er (.int .i64 84)).cell
              refine ⟨.int .i64 84, by simp [results, Try.results13, go_sem, d5], ⟨84, rfl, RR.out⟩, ?_⟩
              exact (C9.out.gw).setCell (by show w.heap.size ≤ be; have := BB.out; omega) _
        · have G9 : Aside (Gw w w9) := g9
          have B9 : Aside (Box w9 be (.int .i64 0) 25) := b9
          clear g9 b9
          go_wp2_with fail
          refine leaves_cons (f := 30) (args := #[.pointer (some ⟨be, 0, none⟩)]) (by simp) (by simp [go_sem]) ?_
          refine (caught_check be _ E _ B9.out.cell B9.out.fz).mono ?_
          rintro e u' wz ⟨rfl, rfl, rfl⟩
          have d5 := (Box.set B9.out (.int .i64 E)).cell
          refine ⟨.int .i64 E, by simp [results, Try.results13, go_sem, d5], ⟨E, rfl, RR.out⟩, ?_⟩
          exact (G9.out).setCell (by show w.heap.size ≤ be; have := BB.out; omega) _

end Go.Proofs.Ytmmkmakajolfhab
