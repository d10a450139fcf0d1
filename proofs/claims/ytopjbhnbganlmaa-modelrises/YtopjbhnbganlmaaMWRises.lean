/- ModelRises' walk. -/
import Derived.Test.YtopjbhnbganlmaaPSt
import Derived.Deep.RegionHeld3
import Derived.Deep.DeepCutAuto
namespace Go.Proofs.Ytopjbhnbganlmaa
open Go.RowKit
set_option linter.unusedVariables false
attribute [local go_sem] run_store_float

set_option maxRecDepth 10000 in
set_option maxHeartbeats 4000000 in
theorem mrises_walk (MM : ModelC) (k sl ic fr te : Int) (k0 : 0 ≤ k) (k1 : k < 18446744073709551616) (s0 : 0 ≤ sl) (s1 : sl < 18446744073709551616) (i0 : 0 ≤ ic) (i1 : ic < 18446744073709551616) (f0 : -9223372036854775808 ≤ fr) (f1 : fr < 9223372036854775808) (t0 : -9223372036854775808 ≤ te) (t1 : te < 9223372036854775808) (ao : Option Addr) (n cp : Nat) (f : Nat → Int) (hn : n * 8 ≤ 140737488351232) (hcp : n ≤ cp) (po : Option Addr) (m pc : Nat) (p : Nat → Int) (hm : m * 8 ≤ 140737488351232) (w : World) (h : KS w ao n f) (hp : KS w po m p) :
    Calls Try.prog 8 #[rawV k sl ic fr te, .slice ao n cp, .slice po m pc] w fun e w' => e = .returned (.bool true) ∧ Gw w w' := by
  have HK : Aside (KS w ao n f) := h
  have HP : Aside (KS w po m p) := hp
  clear h hp
  have SH : Hid (∀ W, Calls Try.prog 9 #[] W fun e w' => e = .returned (.bool true) ∧ Gw W w') := fun W => shown7 MM W
  have OK : Aside (SegOk k sl.toNat ic.toNat fr te) := ⟨k0, k1, by omega, by omega, f0, f1, t0, t1⟩
  have SO : Hid _ := fun W => segof_any k sl ic fr te W
  have CH : Hid _ := fun W => MM.check k sl.toNat ic.toNat fr te OK.out W
  have RC : Hid _ := fun W => rcheck_any k sl.toNat ic.toNat fr te W f0 f1 t0 t1
  have GM : Hid _ := fun q q0 q1 W => MM.guess k sl.toNat ic.toNat fr te q OK.out q0 q1 W
  have OM : Hid _ := fun W h => MM.off k sl.toNat ic.toNat fr te ao n cp f OK.out hn hcp W h
  have RO : Hid _ := fun W h => roff_any k sl.toNat ic.toNat fr te k0 k1 f0 f1 t0 t1 ao n cp f (by omega) W h
  have BL : Hid _ := fun q W h => below7_any ao n cp f q hn W h
  clear MM
  generalize sl.toNat = S at OK SO CH RC GM OM RO
  generalize ic.toNat = I at OK SO CH RC GM OM RO
  have R0 : Aside (Rb (w.alloc (.cells #[.int .u64 k, .int .u64 sl, .int .u64 ic, .int .i64 fr, .int .i64 te] 24)) w.heap.size k sl ic fr te) := heap_alloc_new w _
  have G0 : Aside (Gw w (w.alloc (.cells #[.int .u64 k, .int .u64 sl, .int .u64 ic, .int .i64 fr, .int .i64 te] 24))) := (Gw.refl w).alloc _ _
  go_enter Try.func8, Try.ntmps8
  go_wp2_with fail
  obtain ⟨rb, hrb⟩ : ∃ b, w.heap.size = b := ⟨_, rfl⟩
  rw [hrb] at R0 ⊢
  clear hrb
  refine (SH.out _).mono ?_
  rintro e w1 ⟨rfl, g1⟩
  have R1 : Aside (Rb w1 rb k sl ic fr te) := R0.out.gw g1
  have G1 : Aside (Gw w w1) := G0.out.trans g1
  obtain ⟨z0, z1, z2, z3, z4⟩ := R1.out.cells
  have zl := R1.out.lt
  clear g1 R0 G0
  go_wp2_with fail
  refine (SO.out _).mono ?_
  rintro e w2 ⟨rfl, g2⟩
  have S3 : Aside (Sb (w2.alloc (.cells #[.int .u64 k, .float .f64 S, .float .f64 I, .int .i64 fr, .int .i64 te] 28)) w2.heap.size k S I fr te) := heap_alloc_new w2 _
  have BW : Aside (w.heap.size ≤ w2.heap.size) := (G1.out.trans g2).size
  have G3 : Aside (Gw w (w2.alloc (.cells #[.int .u64 k, .float .f64 S, .float .f64 I, .int .i64 fr, .int .i64 te] 28))) := (G1.out.trans g2).alloc _ _
  clear g2 R1 G1 z0 z1 z2 z3 z4 zl
  go_wp2_with fail
  generalize w2.alloc (.cells #[.int .u64 k, .float .f64 S, .float .f64 I, .int .i64 fr, .int .i64 te] 28) = w3 at S3 G3 ⊢
  obtain ⟨b, hb⟩ : ∃ b, w2.heap.size = b := ⟨_, rfl⟩
  rw [hb] at S3 BW ⊢
  clear hb
  obtain ⟨z0, z1, z2, z3, z4⟩ := S3.out.cells
  have zl := S3.out.lt
  obtain ⟨E, hE⟩ : ∃ E, errM S I fr te = E := ⟨_, rfl⟩
  rw [hE] at CH RC
  have EE : Aside (errM S I fr te = E) := hE
  clear hE
  refine (CH.out _).mono ?_
  rintro e w4 ⟨rfl, g4⟩
  have S4 : Aside (Sb w4 b k S I fr te) := S3.out.gw g4
  have G4 : Aside (Gw w w4) := G3.out.trans g4
  clear g4 S3 G3 z0 z1 z2 z3 z4 zl
  obtain ⟨z0, z1, z2, z3, z4⟩ := S4.out.cells
  have zl := S4.out.lt
  go_wp2_with fail
  refine (RC.out _).mono ?_
  rintro e w5 ⟨rfl, g5⟩
  have S5 : Aside (Sb w5 b k S I fr te) := S4.out.gw g5
  have G5 : Aside (Gw w w5) := G4.out.trans g5
  clear g5 S4 G4 z0 z1 z2 z3 z4 zl
  obtain ⟨z0, z1, z2, z3, z4⟩ := S5.out.cells
  have zl := S5.out.lt
  by_cases e0 : E = 0
  · subst e0
    have IN : Aside (∀ q, 0 ≤ q → q < 18446744073709551616 → fr ≤ guessV k S I fr te q ∧ guessV k S I fr te q ≤ te) := fun q q0 q1 => guessV_in EE.out k0 q1
    have MO : Aside (∀ q q', q ≤ q' → q' < 18446744073709551616 → guessV k S I fr te q ≤ guessV k S I fr te q') := fun q q' le q1 => guessV_mono EE.out k0 q1 le
    have FT : Aside (0 ≤ fr ∧ fr < te ∧ te ≤ 4294967296) := by obtain ⟨a, b, c, _, _⟩ := errM_ok.1 EE.out; exact ⟨a, b, c⟩
    clear z0 z1 z2 z3 z4 zl
    go_wp2_with fail
    go_loopg [12] m (fun gg s12 wr => ∃ i : Nat, s12 = .int .i64 i ∧ i ≤ m ∧ m - i ≤ gg ∧ Aside (Sb wr b k S I fr te) ∧ Aside (Gw w wr))
    case atStart => exact ⟨0, rfl, Nat.zero_le _, by omega, S5, G5⟩
    case round =>
      clear S5 G5
      obtain ⟨i, rfl, h1, h2, SB, G⟩ := hrel
      by_cases hlt : i < m
      · obtain ⟨bk, off, rfl, hbk, hc⟩ := (HP.out.gw G.out).cells (by omega)
        have q1 := hc i hlt
        obtain ⟨y0, y1⟩ := HP.out.bd i hlt
        obtain ⟨fi, hfi⟩ : ∃ y, p i = y := ⟨_, rfl⟩
        have FI : Aside (p i = fi) := hfi
        rw [hfi] at q1 y0 y1
        clear hc hfi
        obtain ⟨z0, z1, z2, z3, z4⟩ := SB.out.cells
        have zl := SB.out.lt
        obtain ⟨A, hA⟩ : ∃ A, guessV k S I fr te fi = A := ⟨_, rfl⟩
        have GI : Hid (∀ W, Calls Try.prog 18 #[segV k S I fr te, .int .u64 fi] W fun e w' => e = .returned (.int .i64 A) ∧ Gw W w') := fun W => by rw [← hA]; exact GM.out fi y0 y1 W
        have GA : Aside (guessV k S I fr te fi = A) := hA
        have A0 := IN.out fi y0 y1
        rw [hA] at A0
        have t1 : decide (A < fr) = false := by simp; omega
        have t2 : decide (te < A) = false := by simp; omega
        clear hA A0
        have HW : Hid (∀ w', Gw wr w' → Gw wr w' ∧ w'.cell? ⟨b, 0, none⟩ = some (.int .u64 k) ∧ w'.cell? ⟨b, 1, none⟩ = some (.float .f64 S) ∧ w'.cell? ⟨b, 2, none⟩ = some (.float .f64 I) ∧ w'.cell? ⟨b, 3, none⟩ = some (.int .i64 fr) ∧ w'.cell? ⟨b, 4, none⟩ = some (.int .i64 te) ∧ w'.cell? ⟨bk, off + i, none⟩ = some (.int .u64 fi)) := fun w' g => ⟨g, (g.cell _ _ zl).trans z0, (g.cell _ _ zl).trans z1, (g.cell _ _ zl).trans z2, (g.cell _ _ zl).trans z3, (g.cell _ _ zl).trans z4, (g.cell _ _ hbk).trans q1⟩
        have FY : Aside (0 ≤ fi ∧ fi < 18446744073709551616) := ⟨y0, y1⟩
        clear y0 y1
        go_wp2_with fail
        go_cut [13] (fun s wc => s = .int .i64 A ∧ Aside (Gw wr wc))
        case first =>
          go_region_held3 (fun w' => Gw wr w' ∧ w'.cell? ⟨b, 0, none⟩ = some (.int .u64 k) ∧ w'.cell? ⟨b, 1, none⟩ = some (.float .f64 S) ∧ w'.cell? ⟨b, 2, none⟩ = some (.float .f64 I) ∧ w'.cell? ⟨b, 3, none⟩ = some (.int .i64 fr) ∧ w'.cell? ⟨b, 4, none⟩ = some (.int .i64 te) ∧ w'.cell? ⟨bk, off + i, none⟩ = some (.int .u64 fi))
            ((refine HW.out _ ?_; (repeat (first | exact Gw.refl _ | exact And.left (by assumption) | exact Hid.out (by assumption) | refine Gw.drew ?_ | refine Gw.trans ?_ (by assumption))); done))
            ((go_at_call 18; refine (GI.out _).mono ?_; rintro ex w4 ⟨rfl, g4⟩; have G4 : Hid (Gw wr w4) := (Gw.trans (by repeat (first | exact Gw.refl _ | exact And.left (by assumption) | exact Hid.out (by assumption) | refine Gw.drew ?_ | refine Gw.drewN ?_ _)) g4); clear g4))
          all_goals go_wp2_with fail
          all_goals go_meet
          all_goals
            case rel => exact ⟨rfl, (show Aside _ from by repeat (first | exact Gw.refl _ | exact And.left (by assumption) | exact Hid.out (by assumption) | refine Gw.drew ?_ | refine Gw.drewN ?_ _))⟩
        case rest =>
          obtain ⟨w6, hwx⟩ : ∃ wx, wx = wc := ⟨_, rfl⟩
          subst hwx
          obtain ⟨rfl, G6⟩ := hcut
          obtain ⟨x0, x1, x2, x3, x4, x5, x6⟩ := HW.out _ G6.out
          have G7 : Aside (Gw w w6) := G.out.trans G6.out
          have S7 : Aside (Sb w6 b k S I fr te) := SB.out.gw G6.out
          clear x0 z0 z1 z2 z3 z4 zl HW GI
          go_wp2_with fail
          clear x1 x2 x3 x4 x5 x6 t1 t2 q1
          go_loopg [14] i (fun gg s14 wr => ∃ q : Nat, s14 = .int .i64 q ∧ q ≤ i ∧ i - q ≤ gg ∧ Aside (Sb wr b k S I fr te) ∧ Aside (Gw w wr))
          case atStart => exact ⟨0, rfl, Nat.zero_le _, by omega, S7, G7⟩
          case round =>
            clear S7 G7 G6 SB G
            obtain ⟨q, rfl, j1, j2, SB, G⟩ := hrel
            by_cases qlt : q < i
            · by_cases q40 : q < 40
              · have t40 : decide ((q : Int) < 40) = true := by simp; omega
                have tqi : decide ((q : Int) < (i : Int)) = true := by simp; omega
                have qm : q < m := by omega
                obtain ⟨bk', off', eb, lbk, hc⟩ := (HP.out.gw G.out).cells (by omega)
                cases eb
                have q1 := hc i hlt
                rw [FI.out] at q1
                have q2 := hc q (by omega)
                obtain ⟨y0, y1⟩ := HP.out.bd q (by omega)
                obtain ⟨fk, hfk⟩ : ∃ y, p q = y := ⟨_, rfl⟩
                rw [hfk] at q2 y0 y1
                clear hc hfk
                obtain ⟨z0, z1, z2, z3, z4⟩ := SB.out.cells
                have zl := SB.out.lt
                obtain ⟨B, hB⟩ : ∃ B, guessV k S I fr te fk = B := ⟨_, rfl⟩
                have GI : Hid (∀ W, Calls Try.prog 18 #[segV k S I fr te, .int .u64 fk] W fun e w' => e = .returned (.int .i64 B) ∧ Gw W w') := fun W => by rw [← hB]; exact GM.out fk y0 y1 W
                have UP : fk ≤ fi → B ≤ A := fun le => by have := MO.out fk fi le FY.out.2; rw [hB, GA.out] at this; exact this
                have DN : fi ≤ fk → A ≤ B := fun le => by have := MO.out fi fk le y1; rw [hB, GA.out] at this; exact this
                have CS : Aside ((decide (fk ≤ fi) = true ∧ decide (A < B) = false ∧ decide (fi ≤ fk) = false) ∨ (decide (fk ≤ fi) = true ∧ decide (A < B) = false ∧ decide (fi ≤ fk) = true ∧ decide (B < A) = false) ∨ (decide (fk ≤ fi) = false ∧ decide (fi ≤ fk) = true ∧ decide (B < A) = false)) := by
                  show _ ∨ _ ∨ _
                  by_cases c1 : fk ≤ fi
                  · have := UP c1
                    by_cases c2 : fi ≤ fk
                    · have := DN c2
                      exact .inr (.inl ⟨by simpa using c1, by simp; omega, by simpa using c2, by simp; omega⟩)
                    · exact .inl ⟨by simpa using c1, by simp; omega, by simpa using c2⟩
                  · have := DN (by omega)
                    exact .inr (.inr ⟨by simpa using c1, by simp; omega, by simp; omega⟩)
                clear hB UP DN y0 y1
                have HW : Hid (∀ w', Gw wr w' → Gw wr w' ∧ w'.cell? ⟨b, 0, none⟩ = some (.int .u64 k) ∧ w'.cell? ⟨b, 1, none⟩ = some (.float .f64 S) ∧ w'.cell? ⟨b, 2, none⟩ = some (.float .f64 I) ∧ w'.cell? ⟨b, 3, none⟩ = some (.int .i64 fr) ∧ w'.cell? ⟨b, 4, none⟩ = some (.int .i64 te) ∧ w'.cell? ⟨bk, off + q, none⟩ = some (.int .u64 fk) ∧ w'.cell? ⟨bk, off + i, none⟩ = some (.int .u64 fi)) := fun w' g => ⟨g, (g.cell _ _ zl).trans z0, (g.cell _ _ zl).trans z1, (g.cell _ _ zl).trans z2, (g.cell _ _ zl).trans z3, (g.cell _ _ zl).trans z4, (g.cell _ _ lbk).trans q2, (g.cell _ _ lbk).trans q1⟩
                go_wp2_with fail
                go_cut [15] (fun s wc => s = .int .i64 B ∧ Aside (Gw wr wc))
                case first =>
                  go_region_held3 (fun w' => Gw wr w' ∧ w'.cell? ⟨b, 0, none⟩ = some (.int .u64 k) ∧ w'.cell? ⟨b, 1, none⟩ = some (.float .f64 S) ∧ w'.cell? ⟨b, 2, none⟩ = some (.float .f64 I) ∧ w'.cell? ⟨b, 3, none⟩ = some (.int .i64 fr) ∧ w'.cell? ⟨b, 4, none⟩ = some (.int .i64 te) ∧ w'.cell? ⟨bk, off + q, none⟩ = some (.int .u64 fk) ∧ w'.cell? ⟨bk, off + i, none⟩ = some (.int .u64 fi))
                    ((refine HW.out _ ?_; (repeat (first | exact Gw.refl _ | exact And.left (by assumption) | exact Hid.out (by assumption) | refine Gw.drew ?_ | refine Gw.trans ?_ (by assumption))); done))
                    ((go_at_call 18; refine (GI.out _).mono ?_; rintro ex w4 ⟨rfl, g4⟩; have G4 : Hid (Gw wr w4) := (Gw.trans (by repeat (first | exact Gw.refl _ | exact And.left (by assumption) | exact Hid.out (by assumption) | refine Gw.drew ?_ | refine Gw.drewN ?_ _)) g4); clear g4))
                  all_goals go_wp2_with fail
                  all_goals go_meet
                  all_goals
                    case rel => exact ⟨rfl, (show Aside _ from by repeat (first | exact Gw.refl _ | exact And.left (by assumption) | exact Hid.out (by assumption) | refine Gw.drew ?_ | refine Gw.drewN ?_ _))⟩
                case rest =>
                  obtain ⟨w6, hwx⟩ : ∃ wx, wx = wc := ⟨_, rfl⟩
                  subst hwx
                  obtain ⟨rfl, G6⟩ := hcut
                  obtain ⟨x0, x1, x2, x3, x4, x5, x6, x7⟩ := HW.out _ G6.out
                  have G8 : Aside (Gw w w6) := G.out.trans G6.out
                  have S8 : Aside (Sb w6 b k S I fr te) := SB.out.gw G6.out
                  have lb6 : bk < w6.heap.size := Nat.lt_of_lt_of_le lbk G6.out.size
                  clear x0 z0 z1 z2 z3 z4 zl HW GI q1 q2 G SB
                  rcases CS.out with ⟨d1, d2, d3⟩ | ⟨d1, d2, d3, d4⟩ | ⟨d1, d2, d3⟩
                  all_goals
                    clear CS
                    go_wp2_with fail
                    go_quiet (fail)
                    go_wp2_with fail
                    go_roundg (i - (q + 1))
                    case measure => omega
                    case rel => exact ⟨q + 1, by go_num, by omega, Nat.le_refl _, (show Aside _ from S8.out.gw ((Gw.refl _).drewN _)), (show Aside _ from G8.out.drewN _)⟩
              · have t40 : decide ((q : Int) < 40) = false := by simp; omega
                have tqi : decide ((q : Int) < (i : Int)) = true := by simp; omega
                go_wp2_with fail
                go_roundg (m - (i + 1))
                case measure => omega
                case rel => exact ⟨i + 1, by go_num, by omega, Nat.le_refl _, SB, G⟩
            · have tqi : decide ((q : Int) < (i : Int)) = false := by simp; omega
              go_wp2_with fail
              go_roundg (m - (i + 1))
              case measure => omega
              case rel => exact ⟨i + 1, by go_num, by omega, Nat.le_refl _, SB, G⟩
      · have e : i = m := by omega
        subst e
        obtain ⟨z0, z1, z2, z3, z4⟩ := SB.out.cells
        have zl := SB.out.lt
        go_wp2_with fail
        refine (OM.out _ (HK.out.gw G.out)).mono ?_
        rintro e w6 ⟨⟨N, er, rfl, hO⟩, g6⟩
        have O6 : Aside (OffR k S I fr te n f N er) := hO
        have S6 : Aside (Sb w6 b k S I fr te) := SB.out.gw g6
        have G6 : Aside (Gw w w6) := G.out.trans g6
        clear hO g6 SB G z0 z1 z2 z3 z4 zl
        obtain ⟨z0, z1, z2, z3, z4⟩ := S6.out.cells
        have zl := S6.out.lt
        go_wp2_with fail
        refine (RO.out _ (HK.out.gw G6.out)).mono ?_
        rintro e w7 ⟨⟨N', er', rfl, hO⟩, g7⟩
        obtain ⟨rfl, rfl⟩ := hO.uniq O6.out
        have S7 : Aside (Sb w7 b k S I fr te) := S6.out.gw g7
        have G7 : Aside (Gw w w7) := G6.out.trans g7
        clear hO g7 S6 G6 z0 z1 z2 z3 z4 zl
        by_cases r0 : er' = 0
        · subst r0
          have OO : Aside (((n : Int) = te - fr ∧ f 0 = k ∧ Up f n) ∧ N' = worst (away k S I fr te f) n) := by
            rcases O6.out with ⟨_, _, q⟩ | ⟨_, _, _, q⟩ | ⟨_, q1, q2, _⟩
            · exact absurd (q.symm.trans rfl) (by intro q'; exact absurd EE.out (by rename_i h _ ; exact h))
            · cases q
            · exact ⟨q1, q2⟩
          clear O6
          have NB : Aside (0 ≤ N' ∧ N' ≤ 4294967296 ∧ ∀ i, i < n → -N' ≤ away k S I fr te f i ∧ away k S I fr te f i ≤ N') := by
            obtain ⟨wi, wl⟩ := worst_in (away k S I fr te f) n
            rw [← OO.out.2] at wi wl
            refine ⟨wi, ?_, wl⟩
            rw [OO.out.2]
            exact worst_le (by decide) n (away_bd EE.out k0 OO.out.1.1 HK.out.bd)
          have NB0 := NB.out.1
          have NB1 := NB.out.2.1
          go_wp2_with fail
          go_loopg [20] i (fun gg s20 wr => ∃ j : Nat, s20 = .int .i64 j ∧ j ≤ i ∧ i - j ≤ gg ∧ Aside (Sb wr b k S I fr te) ∧ Aside (Gw w wr))
          case atStart => exact ⟨0, rfl, Nat.zero_le _, by omega, S7, G7⟩
          case round =>
            clear S7 G7
            obtain ⟨j, rfl, j1, j2, SB, G⟩ := hrel
            by_cases jlt : j < i
            · obtain ⟨bk, off, rfl, lbk, hc⟩ := (HP.out.gw G.out).cells (by omega)
              have q1 := hc j jlt
              obtain ⟨y0, y1⟩ := HP.out.bd j jlt
              obtain ⟨fi, hfi⟩ : ∃ y, p j = y := ⟨_, rfl⟩
              rw [hfi] at q1 y0 y1
              clear hc hfi
              obtain ⟨z0, z1, z2, z3, z4⟩ := SB.out.cells
              have zl := SB.out.lt
              have ain := IN.out fi y0 y1
              have cle := cntb_le f fi n
              have PO : k ≤ fi → _ := fun le => probe_off EE.out OO.out.1.1 OO.out.1.2.1 OO.out.1.2.2 HK.out.bd NB.out.1 NB.out.2.2 fi y1 le
              obtain ⟨A, hA⟩ : ∃ A, guessV k S I fr te fi = A := ⟨_, rfl⟩
              obtain ⟨c, hcc⟩ : ∃ c, cntb f fi n = c := ⟨_, rfl⟩
              rw [hA, hcc] at PO
              rw [hA] at ain
              rw [hcc] at cle
              have GI : Hid (∀ W, Calls Try.prog 18 #[segV k S I fr te, .int .u64 fi] W fun e w' => e = .returned (.int .i64 A) ∧ Gw W w') := fun W => by rw [← hA]; exact GM.out fi y0 y1 W
              have BI : Hid (∀ W, KS W ao n f → Calls Try.prog 23 #[.slice ao n cp, .int .u64 fi] W fun e w' => e = .returned (.int .i64 (c : Int)) ∧ Gw W w') := fun W h => by rw [← hcc]; exact BL.out fi W h
              clear hA hcc
              obtain ⟨X, hX⟩ : ∃ X, fr + (c : Int) = X := ⟨_, rfl⟩
              obtain ⟨D, hD⟩ : ∃ D, A - X = D := ⟨_, rfl⟩
              obtain ⟨M, hM⟩ : ∃ M, -D = M := ⟨_, rfl⟩
              obtain ⟨N1, hN1⟩ : ∃ N1, N' + 1 = N1 := ⟨_, rfl⟩
              rw [hX] at PO
              rw [hD] at PO
              have ft := FT.out
              have v1 : IntKind.i64.wrap (fr + (c : Int)) = X := by rw [IntKind.wrap_i64]; omega
              have v2 : IntKind.i64.wrap (A - X) = D := by rw [IntKind.wrap_i64]; omega
              have v3 : IntKind.i64.wrap (-D) = M := by rw [IntKind.wrap_i64]; omega
              have v4 : IntKind.i64.wrap (N' + 1) = N1 := by rw [IntKind.wrap_i64]; omega
              have CS : Aside ((decide (k ≤ fi) = true ∧ decide (N1 < D) = false ∧ decide (N1 < M) = false) ∨ decide (k ≤ fi) = false) := by
                show _ ∨ _
                by_cases c1 : k ≤ fi
                · have := PO c1
                  exact .inl ⟨by simpa using c1, by simp; omega, by simp; omega⟩
                · exact .inr (by simpa using c1)
              have HG : Hid (∀ W, Gw wr W → KS W ao n f) := fun W g => (HK.out.gw G.out).gw g
              clear PO ain cle ft y0 y1 hX hD hM hN1
              have HW : Hid (∀ w', Gw wr w' → Gw wr w' ∧ w'.cell? ⟨b, 0, none⟩ = some (.int .u64 k) ∧ w'.cell? ⟨b, 1, none⟩ = some (.float .f64 S) ∧ w'.cell? ⟨b, 2, none⟩ = some (.float .f64 I) ∧ w'.cell? ⟨b, 3, none⟩ = some (.int .i64 fr) ∧ w'.cell? ⟨b, 4, none⟩ = some (.int .i64 te) ∧ w'.cell? ⟨bk, off + j, none⟩ = some (.int .u64 fi)) := fun w' g => ⟨g, (g.cell _ _ zl).trans z0, (g.cell _ _ zl).trans z1, (g.cell _ _ zl).trans z2, (g.cell _ _ zl).trans z3, (g.cell _ _ zl).trans z4, (g.cell _ _ lbk).trans q1⟩
              go_wp2_with fail
              go_cut [21] (fun s wc => s = .int .i64 D ∧ Aside (Gw wr wc))
              case first =>
                go_region_held3 (fun w' => Gw wr w' ∧ w'.cell? ⟨b, 0, none⟩ = some (.int .u64 k) ∧ w'.cell? ⟨b, 1, none⟩ = some (.float .f64 S) ∧ w'.cell? ⟨b, 2, none⟩ = some (.float .f64 I) ∧ w'.cell? ⟨b, 3, none⟩ = some (.int .i64 fr) ∧ w'.cell? ⟨b, 4, none⟩ = some (.int .i64 te) ∧ w'.cell? ⟨bk, off + j, none⟩ = some (.int .u64 fi))
                  ((refine HW.out _ ?_; (repeat (first | exact Gw.refl _ | exact And.left (by assumption) | exact Hid.out (by assumption) | refine Gw.drew ?_ | refine Gw.trans ?_ (by assumption))); done))
                  ((first | (go_at_call 18; refine (GI.out _).mono ?_; rintro ex w4 ⟨rfl, g4⟩; have G4 : Hid (Gw wr w4) := (Gw.trans (by repeat (first | exact Gw.refl _ | exact And.left (by assumption) | exact Hid.out (by assumption) | refine Gw.drew ?_ | refine Gw.drewN ?_ _)) g4); clear g4) | (go_at_call 23; refine (BI.out _ (HG.out _ (by repeat (first | exact Gw.refl _ | exact And.left (by assumption) | exact Hid.out (by assumption) | refine Gw.drew ?_ | refine Gw.drewN ?_ _)))).mono ?_; rintro ex w4 ⟨rfl, g4⟩; have G4 : Hid (Gw wr w4) := (Gw.trans (by repeat (first | exact Gw.refl _ | exact And.left (by assumption) | exact Hid.out (by assumption) | refine Gw.drew ?_ | refine Gw.drewN ?_ _)) g4); clear g4)))
                all_goals go_wp2_with fail
                all_goals go_meet
                all_goals
                  case rel => exact ⟨rfl, (show Aside _ from by repeat (first | exact Gw.refl _ | exact And.left (by assumption) | exact Hid.out (by assumption) | refine Gw.drew ?_ | refine Gw.drewN ?_ _))⟩
              case rest =>
                obtain ⟨w8, hwx⟩ : ∃ wx, wx = wc := ⟨_, rfl⟩
                subst hwx
                obtain ⟨rfl, G8⟩ := hcut
                obtain ⟨x0, x1, x2, x3, x4, x5, x6⟩ := HW.out _ G8.out
                have G9 : Aside (Gw w w8) := G.out.trans G8.out
                have S9 : Aside (Sb w8 b k S I fr te) := SB.out.gw G8.out
                have lb6 : bk < w8.heap.size := Nat.lt_of_lt_of_le lbk G8.out.size
                clear x0 z0 z1 z2 z3 z4 zl HW GI BI HG q1 G SB v1 v2
                rcases CS.out with ⟨d1, d2, d3⟩ | d1
                all_goals
                  clear CS
                  go_wp2_with fail
                  go_quiet (fail)
                  go_wp2_with fail
                  go_roundg (i - (j + 1))
                  case measure => omega
                  case rel => exact ⟨j + 1, by go_num, by omega, Nat.le_refl _, (show Aside _ from S9.out.gw ((Gw.refl _).drewN _)), (show Aside _ from G9.out.drewN _)⟩
            · go_wp2_with fail
              go_ret
              exact ⟨rfl, G.out⟩
        · have t9 : (er' != 0) = true := by simpa using r0
          obtain rfl : N' = 0 := by
            rcases O6.out with ⟨_, q, _⟩ | ⟨_, _, q, _⟩ | ⟨_, _, _, q⟩
            · exact q
            · exact q
            · exact absurd q r0
          clear O6
          go_wp2_with fail
          go_ret
          exact ⟨rfl, G7.out⟩
  · have t9 : (E != 0) = true := by simpa using e0
    have Z : guessV k S I fr te 5 = 0 := if_neg (by rw [EE.out]; exact e0)
    have GZ : Hid (∀ W, Calls Try.prog 18 #[segV k S I fr te, .int .u64 5] W fun e w' => e = .returned (.int .i64 0) ∧ Gw W w') := fun W => by rw [← Z]; exact GM.out 5 (by decide) (by decide) W
    clear Z
    go_wp2_with fail
    refine (GZ.out _).mono ?_
    rintro e w6 ⟨rfl, g6⟩
    have G6 : Aside (Gw w w6) := G5.out.trans g6
    clear g6 z0 z1 z2 z3 z4 zl
    go_wp2_with fail
    go_ret
    exact ⟨rfl, G6.out⟩

end Go.Proofs.Ytopjbhnbganlmaa
