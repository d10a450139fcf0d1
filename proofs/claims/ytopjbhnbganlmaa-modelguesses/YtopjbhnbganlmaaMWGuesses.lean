/- ModelGuesses' walk. -/
import Derived.Test.YtopjbhnbganlmaaPSt
import Derived.Deep.RegionHeld3
import Derived.Deep.DeepCutAuto
namespace Go.Proofs.Ytopjbhnbganlmaa
open Go.RowKit
set_option linter.unusedVariables false
attribute [local go_sem] run_store_float

set_option maxRecDepth 10000 in
set_option maxHeartbeats 4000000 in
theorem mguesses_walk (MM : ModelC) (k sl ic fr te : Int) (k0 : 0 ≤ k) (k1 : k < 18446744073709551616) (s0 : 0 ≤ sl) (s1 : sl < 18446744073709551616) (i0 : 0 ≤ ic) (i1 : ic < 18446744073709551616) (f0 : -9223372036854775808 ≤ fr) (f1 : fr < 9223372036854775808) (t0 : -9223372036854775808 ≤ te) (t1 : te < 9223372036854775808) (ao : Option Addr) (n cp : Nat) (f : Nat → Int) (hn : n * 8 ≤ 140737488351232) (w : World) (h : KS w ao n f) :
    Calls Try.prog 5 #[rawV k sl ic fr te, .slice ao n cp] w fun e w' => e = .returned (.bool true) ∧ Gw w w' := by
  have HK : Aside (KS w ao n f) := h
  clear h
  have SH : Hid (∀ W, Calls Try.prog 9 #[] W fun e w' => e = .returned (.bool true) ∧ Gw W w') := fun W => shown7 MM W
  have OK : Aside (SegOk k sl.toNat ic.toNat fr te) := ⟨k0, k1, by omega, by omega, f0, f1, t0, t1⟩
  have SO : Hid _ := fun W => segof_any k sl ic fr te W
  have GM : Hid _ := fun q q0 q1 W => MM.guess k sl.toNat ic.toNat fr te q OK.out q0 q1 W
  have RG : Hid _ := fun q q0 q1 W => rguess_any k sl.toNat ic.toNat fr te q k0 k1 q0 q1 f0 f1 t0 t1 W
  clear MM
  generalize sl.toNat = S at OK SO GM RG
  generalize ic.toNat = I at OK SO GM RG
  have R0 : Aside (Rb (w.alloc (.cells #[.int .u64 k, .int .u64 sl, .int .u64 ic, .int .i64 fr, .int .i64 te] 24)) w.heap.size k sl ic fr te) := heap_alloc_new w _
  have G0 : Aside (Gw w (w.alloc (.cells #[.int .u64 k, .int .u64 sl, .int .u64 ic, .int .i64 fr, .int .i64 te] 24))) := (Gw.refl w).alloc _ _
  go_enter Try.func5, Try.ntmps5
  go_wp2_with fail
  obtain ⟨rb, hrb⟩ : ∃ b, w.heap.size = b := ⟨_, rfl⟩
  rw [hrb] at R0 ⊢
  clear hrb
  refine (SH.out _).mono ?_
  rintro e w1 ⟨rfl, g1⟩
  have R1 : Aside (Rb w1 rb k sl ic fr te) := R0.out.gw g1
  have G1 : Aside (Gw w w1) := G0.out.trans g1
  obtain ⟨z0, z1, z2, z3, z4⟩ := R1.out.cells
  have zl := R1.out.lt
  clear g1 R0 G0
  go_wp2_with fail
  refine (SO.out _).mono ?_
  rintro e w2 ⟨rfl, g2⟩
  have S3 : Aside (Sb (w2.alloc (.cells #[.int .u64 k, .float .f64 S, .float .f64 I, .int .i64 fr, .int .i64 te] 28)) w2.heap.size k S I fr te) := heap_alloc_new w2 _
  have BW : Aside (w.heap.size ≤ w2.heap.size) := (G1.out.trans g2).size
  have G3 : Aside (Gw w (w2.alloc (.cells #[.int .u64 k, .float .f64 S, .float .f64 I, .int .i64 fr, .int .i64 te] 28))) := (G1.out.trans g2).alloc _ _
  clear g2 R1 G1 z0 z1 z2 z3 z4 zl
  go_wp2_with fail
  generalize w2.alloc (.cells #[.int .u64 k, .float .f64 S, .float .f64 I, .int .i64 fr, .int .i64 te] 28) = w3 at S3 G3 ⊢
  obtain ⟨b, hb⟩ : ∃ b, w2.heap.size = b := ⟨_, rfl⟩
  rw [hb] at S3 BW ⊢
  clear hb
  obtain ⟨z0, z1, z2, z3, z4⟩ := S3.out.cells
  have zl := S3.out.lt
  clear z0 z1 z2 z3 z4 zl
  go_loopg [7] n (fun gg s7 wr => ∃ i : Nat, s7 = .int .i64 i ∧ i ≤ n ∧ n - i ≤ gg ∧ Aside (Sb wr b k S I fr te) ∧ Aside (Gw w wr))
  case atStart => exact ⟨0, rfl, Nat.zero_le _, by omega, S3, G3⟩
  case round =>
    clear S3 G3
    obtain ⟨i, rfl, h1, h2, SB, G⟩ := hrel
    by_cases hlt : i < n
    · obtain ⟨bk, off, rfl, hbk, hc⟩ := (HK.out.gw G.out).cells (by omega)
      have q1 := hc i hlt
      obtain ⟨y0, y1⟩ := HK.out.bd i hlt
      obtain ⟨fi, hfi⟩ : ∃ y, f i = y := ⟨_, rfl⟩
      have FI : Aside (f i = fi) := hfi
      rw [hfi] at q1 y0 y1
      clear hc hfi
      obtain ⟨z0, z1, z2, z3, z4⟩ := SB.out.cells
      have zl := SB.out.lt
      obtain ⟨E, hE⟩ : ∃ E, guessV k S I fr te fi = E := ⟨_, rfl⟩
      have GE : Aside (guessV k S I fr te fi = E) := hE
      clear hE
      have GI : Hid (∀ W, Calls Try.prog 18 #[segV k S I fr te, .int .u64 fi] W fun e w' => e = .returned (.int .i64 E) ∧ Gw W w') := fun W => by rw [← GE.out]; exact GM.out fi y0 y1 W
      have RI : Hid (∀ W, Calls Try.prog 19 #[segV k S I fr te, .int .u64 fi] W fun e w' => e = .returned (.int .i64 E) ∧ Gw W w') := fun W => by rw [← GE.out]; exact RG.out fi y0 y1 W
      have HW : Hid (∀ w', Gw wr w' → Gw wr w' ∧ w'.cell? ⟨b, 0, none⟩ = some (.int .u64 k) ∧ w'.cell? ⟨b, 1, none⟩ = some (.float .f64 S) ∧ w'.cell? ⟨b, 2, none⟩ = some (.float .f64 I) ∧ w'.cell? ⟨b, 3, none⟩ = some (.int .i64 fr) ∧ w'.cell? ⟨b, 4, none⟩ = some (.int .i64 te) ∧ w'.cell? ⟨bk, off + i, none⟩ = some (.int .u64 fi)) := fun w' g => ⟨g, (g.cell _ _ zl).trans z0, (g.cell _ _ zl).trans z1, (g.cell _ _ zl).trans z2, (g.cell _ _ zl).trans z3, (g.cell _ _ zl).trans z4, (g.cell _ _ hbk).trans q1⟩
      clear GE y0 y1
      go_wp2_with fail
      go_cut [8] (fun s wc => s = .int .i64 E ∧ Aside (Gw wr wc))
      case first =>
        go_region_held3 (fun w' => Gw wr w' ∧ w'.cell? ⟨b, 0, none⟩ = some (.int .u64 k) ∧ w'.cell? ⟨b, 1, none⟩ = some (.float .f64 S) ∧ w'.cell? ⟨b, 2, none⟩ = some (.float .f64 I) ∧ w'.cell? ⟨b, 3, none⟩ = some (.int .i64 fr) ∧ w'.cell? ⟨b, 4, none⟩ = some (.int .i64 te) ∧ w'.cell? ⟨bk, off + i, none⟩ = some (.int .u64 fi))
          ((refine HW.out _ ?_; (repeat (first | exact Gw.refl _ | exact And.left (by assumption) | exact Hid.out (by assumption) | refine Gw.drew ?_ | refine Gw.trans ?_ (by assumption))); done))
          ((go_at_call 18; refine (GI.out _).mono ?_; rintro ex w4 ⟨rfl, g4⟩; have G4 : Hid (Gw wr w4) := (Gw.trans (by repeat (first | exact Gw.refl _ | exact And.left (by assumption) | exact Hid.out (by assumption) | refine Gw.drew ?_ | refine Gw.drewN ?_ _)) g4); clear g4))
        all_goals go_wp2_with fail
        all_goals go_meet
        all_goals
          case rel => exact ⟨rfl, (show Aside _ from by repeat (first | exact Gw.refl _ | exact And.left (by assumption) | exact Hid.out (by assumption) | refine Gw.drew ?_ | refine Gw.drewN ?_ _))⟩
      case rest =>
        obtain ⟨w5, hwx⟩ : ∃ wx, wx = wc := ⟨_, rfl⟩
        subst hwx
        obtain ⟨rfl, G5⟩ := hcut
        obtain ⟨x0, x1, x2, x3, x4, x5, x6⟩ := HW.out _ G5.out
        have HW5 : Hid (∀ w', Gw w5 w' → Gw w5 w' ∧ _) := fun w' g => ⟨g, (HW.out w' (G5.out.trans g)).2⟩
        clear x0
        go_wp2_with fail
        go_cut [9] (fun s wc => s = .int .i64 E ∧ Aside (Gw w5 wc))
        case first =>
          go_region_held3 (fun w' => Gw w5 w' ∧ w'.cell? ⟨b, 0, none⟩ = some (.int .u64 k) ∧ w'.cell? ⟨b, 1, none⟩ = some (.float .f64 S) ∧ w'.cell? ⟨b, 2, none⟩ = some (.float .f64 I) ∧ w'.cell? ⟨b, 3, none⟩ = some (.int .i64 fr) ∧ w'.cell? ⟨b, 4, none⟩ = some (.int .i64 te) ∧ w'.cell? ⟨bk, off + i, none⟩ = some (.int .u64 fi))
            ((refine HW5.out _ ?_; (repeat (first | exact Gw.refl _ | exact And.left (by assumption) | exact Hid.out (by assumption) | refine Gw.drew ?_ | refine Gw.trans ?_ (by assumption))); done))
            ((go_at_call 19; refine (RI.out _).mono ?_; rintro ex w4 ⟨rfl, g4⟩; have G4 : Hid (Gw w5 w4) := (Gw.trans (by repeat (first | exact Gw.refl _ | exact And.left (by assumption) | exact Hid.out (by assumption) | refine Gw.drew ?_ | refine Gw.drewN ?_ _)) g4); clear g4))
          all_goals go_wp2_with fail
          all_goals go_meet
          all_goals
            case rel => exact ⟨rfl, (show Aside _ from by repeat (first | exact Gw.refl _ | exact And.left (by assumption) | exact Hid.out (by assumption) | refine Gw.drew ?_ | refine Gw.drewN ?_ _))⟩
        case rest =>
          obtain ⟨w6, hwx⟩ : ∃ wx, wx = wc := ⟨_, rfl⟩
          subst hwx
          obtain ⟨rfl, G6⟩ := hcut
          have S6 : Aside (Sb w6 b k S I fr te) := (SB.out.gw G5.out).gw G6.out
          have G7 : Aside (Gw w w6) := (G.out.trans G5.out).trans G6.out
          go_wp2_with fail
          go_roundg (n - (i + 1))
          case measure => omega
          case rel => exact ⟨i + 1, by go_num, by omega, Nat.le_refl _, S6, G7⟩
    · go_wp2_with fail
      go_ret
      exact ⟨rfl, G.out⟩

end Go.Proofs.Ytopjbhnbganlmaa
