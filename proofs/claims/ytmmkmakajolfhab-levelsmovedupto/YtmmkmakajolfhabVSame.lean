/- Two levels alike: the helper 'same' of layer 8's statements. -/
import Derived.Test.YtmmkmakajolfhabVCheck
namespace Go.Proofs.Ytmmkmakajolfhab
open Go.RowKit
set_option linter.unusedVariables false
attribute [local go_sem] run_store_float f64bits

set_option maxRecDepth 10000 in
set_option maxHeartbeats 4000000 in
theorem same8_any (ao bo : Option Addr) (ca cb : Nat) (L : List (List Sg)) (hL : L.length ≤ 4000000) (hl : ∀ i, i < L.length → (L.getD i []).length ≤ 4000000) (w : World) (ha : VS w ao L) (hb : VS w bo L) :
    Calls Try.prog 14 #[.slice ao L.length ca, .slice bo L.length cb] w fun e w' => e = .returned (.bool true) ∧ Gw w w' := by
  have VA : Aside (VS w ao L) := ha
  have VB : Aside (VS w bo L) := hb
  have HL : Aside (∀ i, i < L.length → (L.getD i []).length ≤ 4000000) := hl
  clear ha hb hl
  obtain ⟨ln, hln⟩ : ∃ ln, L.length = ln := ⟨_, rfl⟩
  have LN : Aside (L.length = ln) := hln
  rw [hln] at hL ⊢
  clear hln
  go_enter Try.func14, Try.ntmps14
  go_wp2_with fail
  go_loopg [5] ln (fun gg s5 wr => ∃ i : Nat, s5 = .int .i64 i ∧ i ≤ ln ∧ ln - i ≤ gg ∧ Aside (Gw w wr))
  case atStart => exact ⟨0, rfl, Nat.zero_le _, by omega, (show Aside _ from Gw.refl w)⟩
  case round =>
    obtain ⟨i, rfl, h1, h2, G⟩ := hrel
    by_cases hlt : i < ln
    · obtain ⟨ab, af, rfl, hab, hac⟩ := (VA.out.gw G.out).cells (by rw [LN.out]; omega)
      obtain ⟨so, sc, p1, _, _, p4⟩ := hac i (by rw [LN.out]; exact hlt)
      obtain ⟨bb, bf, rfl, hbb, hbc⟩ := (VB.out.gw G.out).cells (by rw [LN.out]; omega)
      obtain ⟨to_, tc, q1, _, _, q4⟩ := hbc i (by rw [LN.out]; exact hlt)
      have sl := HL.out i (by rw [LN.out]; exact hlt)
      clear hac hbc
      generalize L.getD i [] = l at p1 p4 q1 q4 sl
      have GA : Aside (GS wr so l) := p4
      have GB : Aside (GS wr to_ l) := q4
      obtain ⟨sn, hsn⟩ : ∃ sn, l.length = sn := ⟨_, rfl⟩
      have SN : Aside (l.length = sn) := hsn
      rw [hsn] at p1 q1 sl
      have L8 : Aside ((wr.cell? ⟨ab, af + i, none⟩ = some (.slice so sn sc) ∧ ab < wr.heap.size) ∧ (wr.cell? ⟨bb, bf + i, none⟩ = some (.slice to_ sn tc) ∧ bb < wr.heap.size)) := ⟨⟨p1, hab⟩, ⟨q1, hbb⟩⟩
      obtain ⟨w8, hw8⟩ : ∃ wx, wx = wr := ⟨_, rfl⟩
      subst hw8
      clear hsn p4 q4
      go_wp2_with fail
      go_quiet (fail)
      go_wp2_with fail
      have D9 : Aside (Gw w8 (w8.drewN nq)) := (Gw.refl w8).drewN _
      generalize w8.drewN nq = w9 at D9 ⊢
      clear p1 q1 hab hbb
      go_loopg [6] sn (fun gg s6 wr => ∃ k : Nat, s6 = .int .i64 k ∧ k ≤ sn ∧ sn - k ≤ gg ∧ Aside (Gw w8 wr))
      case atStart => exact ⟨0, rfl, Nat.zero_le _, by omega, D9⟩
      case round =>
        obtain ⟨k, rfl, j1, j2, GW⟩ := hrel
        have p1 : wr.cell? ⟨ab, af + i, none⟩ = some (.slice so sn sc) := (GW.out.cell _ _ L8.out.1.2).trans L8.out.1.1
        have hab : ab < wr.heap.size := Nat.lt_of_lt_of_le L8.out.1.2 GW.out.size
        by_cases klt : k < sn
        · have q1 : wr.cell? ⟨bb, bf + i, none⟩ = some (.slice to_ sn tc) := (GW.out.cell _ _ L8.out.2.2).trans L8.out.2.1
          have hbb : bb < wr.heap.size := Nat.lt_of_lt_of_le L8.out.2.2 GW.out.size
          obtain ⟨sb, sf, rfl, hsb, hsc⟩ := (GA.out.gw GW.out).cells (by rw [SN.out]; omega)
          obtain ⟨tb, tf, rfl, htb, htc⟩ := (GB.out.gw GW.out).cells (by rw [SN.out]; omega)
          have C := hsc k (by rw [SN.out]; exact klt)
          have D := htc k (by rw [SN.out]; exact klt)
          clear hsc htc
          generalize l.getD k sg0 = s at C D
          obtain ⟨sk, ssl, sic, sfr, ste⟩ := s
          have c0 : wr.cell? ⟨sb, sf + k * 5, none⟩ = some (.int .u64 sk) := C.c0
          have c1 : wr.cell? ⟨sb, sf + k * 5 + 1, none⟩ = some (.float .f64 ssl) := C.c1
          have c2 : wr.cell? ⟨sb, sf + k * 5 + 2, none⟩ = some (.float .f64 sic) := C.c2
          have c3 : wr.cell? ⟨sb, sf + k * 5 + 3, none⟩ = some (.int .i64 sfr) := C.c3
          have c4 : wr.cell? ⟨sb, sf + k * 5 + 4, none⟩ = some (.int .i64 ste) := C.c4
          have d0 : wr.cell? ⟨tb, tf + k * 5, none⟩ = some (.int .u64 sk) := D.c0
          have d1 : wr.cell? ⟨tb, tf + k * 5 + 1, none⟩ = some (.float .f64 ssl) := D.c1
          have d2 : wr.cell? ⟨tb, tf + k * 5 + 2, none⟩ = some (.float .f64 sic) := D.c2
          have d3 : wr.cell? ⟨tb, tf + k * 5 + 3, none⟩ = some (.int .i64 sfr) := D.c3
          have d4 : wr.cell? ⟨tb, tf + k * 5 + 4, none⟩ = some (.int .i64 ste) := D.c4
          clear C D
          go_wp2_with fail
          go_quiet (fail)
          go_wp2_with fail
          go_roundg (sn - (k + 1))
          case measure => omega
          case rel => exact ⟨k + 1, by go_num, by omega, Nat.le_refl _, (show Aside _ from Gw.drewN (Gw.alloc (Gw.alloc GW.out _ _) _ _) _)⟩
        · have ek : k = sn := by omega
          subst ek
          go_wp2_with fail
          go_roundg (ln - (i + 1))
          case measure => omega
          case rel => exact ⟨i + 1, by go_num, by omega, Nat.le_refl _, (show Aside _ from G.out.trans GW.out)⟩
    · go_wp2_with fail
      go_ret
      exact ⟨rfl, G.out⟩

end Go.Proofs.Ytmmkmakajolfhab
