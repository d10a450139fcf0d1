/- Package levels: Build. -/
import Derived.Test.YtmmkmakajolfhabYBuild
namespace Go.Proofs.Ytmmkmakajolfhab
open Go.RowKit
set_option linter.unusedVariables false
set_option linter.unusedSimpArgs false

theorem ownv_nil (w : World) (B : Nat) : OwnV w B (.slice none 0 0) [] [] := ⟨World.ownsRow_nil _ _ _ _, fun i hi => by simp at hi, fun i hi => by simp at hi⟩
theorem OwnV.base {w : World} {B B' : Nat} {v : Value} {L : List (List Sg)} {vals : List Value} (h : OwnV w B v L vals) (hb : B' ≤ B) : OwnV w B' v L vals := by
  refine ⟨⟨h.outer.1, ?_⟩, fun i hi => ⟨(h.rows i hi).1, ?_⟩, h.apart⟩
  · rcases h.outer.2 with q | ⟨b, cap, cur, e1, e2, e3⟩
    · exact .inl q
    · exact .inr ⟨b, cap, cur, e1, Nat.le_trans hb e2, e3⟩
  · rcases (h.rows i hi).2 with q | ⟨b, cap, cur, e1, e2, e3⟩
    · exact .inl q
    · exact .inr ⟨b, cap, cur, e1, Nat.le_trans hb e2, e3⟩

set_option maxRecDepth 10000 in
set_option maxHeartbeats 4000000 in
theorem buildown_of (C : CutC) (M : ModelC) : BuildOwn := by
  intro eps ao n cp f e0 e1 hn hcp w hk
  have hmf : ∀ (fn : Fn) (first cap : Array Value) (w : World), (Instr.makeFunc fn first cap).run Try.prog w = .ok (.func fn first cap) w := fun _ _ _ _ => rfl
  have HK : Aside (KS w ao n f) := hk
  have CC : Aside (CutC ∧ ModelC) := ⟨C, M⟩
  clear hk C M
  have NB : Hid (∀ W, KS W ao n f → _) := fun W h => needbase_any eps ao n cp f (by omega) W h
  go_enter_defers Try.func8, Try.ntmps8
  go_wp2_with fail
  have P3 : Aside (Box (((w.alloc (.cells #[.int .i64 eps] 3)).alloc (.cells #[.slice none 0 0] 24)).alloc (.cells #[.int .i64 0] 25)) w.heap.size (.int .i64 eps) 3) := ((Box.new w _ _).gw ((Gw.refl _).alloc _ _)).gw ((Gw.refl _).alloc _ _)
  have L3 : Aside (Box (((w.alloc (.cells #[.int .i64 eps] 3)).alloc (.cells #[.slice none 0 0] 24)).alloc (.cells #[.int .i64 0] 25)) (w.heap.size + 1) (.slice none 0 0) 24) := by
    have := (Box.new (w.alloc (.cells #[.int .i64 eps] 3)) (.slice none 0 0) 24).gw ((Gw.refl _).alloc #[.int .i64 0] 25)
    simp at this
    exact this
  have E3 : Aside (Box (((w.alloc (.cells #[.int .i64 eps] 3)).alloc (.cells #[.slice none 0 0] 24)).alloc (.cells #[.int .i64 0] 25)) (w.heap.size + 1 + 1) (.int .i64 0) 25) := by
    have := Box.new ((w.alloc (.cells #[.int .i64 eps] 3)).alloc (.cells #[.slice none 0 0] 24)) (.int .i64 0) 25
    simp at this
    exact this
  have G3 : Aside (Gw w (((w.alloc (.cells #[.int .i64 eps] 3)).alloc (.cells #[.slice none 0 0] 24)).alloc (.cells #[.int .i64 0] 25))) := (((Gw.refl w).alloc _ _).alloc _ _).alloc _ _
  have Z3 : Aside (w.heap.size + 3 ≤ (((w.alloc (.cells #[.int .i64 eps] 3)).alloc (.cells #[.slice none 0 0] 24)).alloc (.cells #[.int .i64 0] 25)).heap.size) := by show _ ≤ _; simp
  generalize (((w.alloc (.cells #[.int .i64 eps] 3)).alloc (.cells #[.slice none 0 0] 24)).alloc (.cells #[.int .i64 0] 25)) = w3 at P3 L3 E3 G3 Z3 ⊢
  obtain ⟨bp, hbp⟩ : ∃ bp, w.heap.size = bp := ⟨_, rfl⟩
  obtain ⟨bl, hbl⟩ : ∃ bl, bp + 1 = bl := ⟨_, rfl⟩
  obtain ⟨be, hbe⟩ : ∃ be, bl + 1 = be := ⟨_, rfl⟩
  have BB : Aside (w.heap.size = bp ∧ bp + 1 = bl ∧ bl + 1 = be) := ⟨hbp, hbl, hbe⟩
  rw [hbp, hbl] at L3
  rw [hbp, hbl, hbe] at E3
  rw [hbp] at P3
  rw [hbp, hbl, hbe]
  have ne : ¬ bl = be := by omega
  clear hbp hbl hbe
  refine (NB.out _ (HK.out.gw G3.out)).mono ?_
  rintro e w4 ⟨hb, g4⟩
  have P4 : Aside (Box w4 bp (.int .i64 eps) 3) := P3.out.gw g4
  have L4 : Aside (Box w4 bl (.slice none 0 0) 24) := L3.out.gw g4
  have E4 : Aside (Box w4 be (.int .i64 0) 25) := E3.out.gw g4
  have G4 : Aside (Gw w w4) := G3.out.trans g4
  have Z4 : Aside (w.heap.size + 3 ≤ w4.heap.size) := Nat.le_trans Z3.out g4.size
  clear g4 P3 L3 E3 G3 Z3 NB
  rcases hb with ⟨k0, rfl⟩ | ⟨k0, k1, rfl⟩ | ⟨k0, k1, rfl⟩
  rotate_left 2
  · have HI : BIn w bp bl be (bp + 3) eps f n (n + 1) w4 ao n cp f := by
      have bz := BB.out
      exact ⟨none, 0, [], [], ⟨G4.out, by have := Z4.out; omega, P4.out, L4.out, E4.out, ownv_nil _ _, fun i hi => by simp at hi, Nat.le_refl _, Nat.zero_le _⟩, HK.out.gw G4.out, k1, hn, hcp, (fun rr hr => by rw [if_neg (fun q => q.1 rfl)] at hr; exact hr), by rw [if_pos rfl]; exact Nat.le_refl _, by simp⟩
    have CB := climb_build (.pointer (some ⟨bl, 0, none⟩)) (.pointer (some ⟨bp, 0, none⟩)) _ _ _ (over_build CC.out.1 CC.out.2 w bp bl be (bp + 3) eps f n hn k0.1 k0.2 (by have := BB.out; omega) (by have := BB.out; omega) (by have := BB.out; omega) (by have := BB.out; omega) (by have := BB.out; omega) (by have := BB.out; omega) (by have := BB.out; omega)) (n + 1) ao n cp f w4 HI
    have CB' : Hid (Calls Try.prog 22 #[.slice ao n cp, .func (.func 23) #[] #[.pointer (some ⟨bl, 0, none⟩), .pointer (some ⟨bp, 0, none⟩)]] w4 fun e w' => (e = .returned (.tuple #[]) ∧ BOut w bp bl be (bp + 3) eps f n w') ∨ (∃ ch, e = .panicked ch ∧ False)) := CB
    have KE : Aside ((2 ≤ eps ∧ eps ≤ 64) ∧ Up f n) := ⟨k0, k1⟩
    clear HI CB k0 k1 CC
    go_wp2_with fail
    refine CB'.out.mono ?_
    rintro e w5 (⟨rfl, lo, lc, L, vals, hBI, hBR⟩ | ⟨ch, _, q⟩)
    · have HB : Aside (BI w bp bl be (bp + 3) eps f n w5 lo lc L vals) := hBI
      have R : Aside (BuildE eps f n L 0) := .inr (.inr ⟨KE.out.1, KE.out.2, hBR, rfl⟩)
      have c0 := hBI.lx.cell
      have f0 := hBI.lx.fz
      have c1 := hBI.er.cell
      have f1 := hBI.er.fz
      obtain ⟨ln, hln⟩ : ∃ ln, L.length = ln := ⟨_, rfl⟩
      have LN : Aside (L.length = ln) := hln
      rw [hln] at c0
      clear hBI hBR CB' hln
      go_wp2_with fail
      refine leaves_cons (f := 19) (args := #[.pointer (some ⟨bl, 0, none⟩), .pointer (some ⟨be, 0, none⟩)]) (by simp) (by simp [go_sem]) ?_
      refine (idle_build bl be _).mono ?_
      rintro e u' w6 ⟨rfl, rfl, rfl⟩
      have c5 := (Box.other (HB.out.lx.set (.slice lo ln lc)) ⟨be, 0, none⟩ (.int .i64 0) ne).cell
      have d5 := (Box.set (Box.other HB.out.er ⟨bl, 0, none⟩ (.slice lo ln lc) (fun e => ne e.symm)) (.int .i64 0)).cell
      refine ⟨.tuple #[.slice lo ln lc, .int .i64 0], by simp [results, Try.results8, go_sem, c5, d5], ⟨lo, lc, L, 0, vals, by rw [LN.out], R.out, HB.out.le, ?_, HB.out.ok⟩, ?_⟩
      · refine (HB.out.own.keep fun q hq _ => ?_).base (by have := BB.out; omega)
        have bz := BB.out
        exact (Go.Deep.blk_setCell_other _ _ _ _ (by show q ≠ be; omega)).trans (Go.Deep.blk_setCell_other _ _ _ _ (by show q ≠ bl; omega))
      · exact (HB.out.gw.setCell (by show w.heap.size ≤ bl; have := BB.out; omega) _).setCell (by show w.heap.size ≤ be; have := BB.out; omega) _
    · exact q.elim
  · have R : Aside (BuildE eps f n [] 1) := .inl ⟨k0, rfl, rfl⟩
    clear k0
    go_wp2_with fail
    refine leaves_cons (f := 19) (args := #[.pointer (some ⟨bl, 0, none⟩), .pointer (some ⟨be, 0, none⟩)]) (by simp) (by simp [go_sem]) ?_
    refine (caught_build bl be _ _ 1 ne _ L4.out.cell L4.out.fz E4.out.cell E4.out.fz).mono ?_
    rintro e u' w5 ⟨rfl, rfl, rfl⟩
    have c5 := (Box.other (L4.out.set (.slice none 0 0)) ⟨be, 0, none⟩ (.int .i64 1) ne).cell
    have d5 := (Box.set (Box.other E4.out ⟨bl, 0, none⟩ (.slice none 0 0) (fun e => ne e.symm)) (.int .i64 1)).cell
    refine ⟨.tuple #[.slice none 0 0, .int .i64 1], by simp [results, Try.results8, go_sem, c5, d5], ⟨none, 0, [], 1, [], rfl, R.out, Nat.le_refl _, ownv_nil _ _, fun i hi => by simp at hi⟩, ?_⟩
    exact (G4.out.setCell (by show w.heap.size ≤ bl; have := BB.out; omega) _).setCell (by show w.heap.size ≤ be; have := BB.out; omega) _
  · have R : Aside (BuildE eps f n [] 80) := .inr (.inl ⟨k0, k1, rfl, rfl⟩)
    clear k0 k1
    go_wp2_with fail
    refine leaves_cons (f := 19) (args := #[.pointer (some ⟨bl, 0, none⟩), .pointer (some ⟨be, 0, none⟩)]) (by simp) (by simp [go_sem]) ?_
    refine (caught_build bl be _ _ 80 ne _ L4.out.cell L4.out.fz E4.out.cell E4.out.fz).mono ?_
    rintro e u' w5 ⟨rfl, rfl, rfl⟩
    have c5 := (Box.other (L4.out.set (.slice none 0 0)) ⟨be, 0, none⟩ (.int .i64 80) ne).cell
    have d5 := (Box.set (Box.other E4.out ⟨bl, 0, none⟩ (.slice none 0 0) (fun e => ne e.symm)) (.int .i64 80)).cell
    refine ⟨.tuple #[.slice none 0 0, .int .i64 80], by simp [results, Try.results8, go_sem, c5, d5], ⟨none, 0, [], 80, [], rfl, R.out, Nat.le_refl _, ownv_nil _ _, fun i hi => by simp at hi⟩, ?_⟩
    exact (G4.out.setCell (by show w.heap.size ≤ bl; have := BB.out; omega) _).setCell (by show w.heap.size ≤ be; have := BB.out; omega) _

end Go.Proofs.Ytmmkmakajolfhab
