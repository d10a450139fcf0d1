/- HullFirst returns true, over whatever keeps what is asked of package hull. -/
import Derived.Test.YtocahgiabeifeaaHC
namespace Go.Proofs.Ytocahgiabeifeaa
open Go.RowKit
set_option linter.unusedVariables false

set_option maxHeartbeats 4000000 in
theorem hfirst_walk {HF : World → Nat → (Nat → Prop) → Int → Nat → (Nat → Int) → Prop} (H : HullC HF) (eps : Int) (ao : Option Addr) (n c : Nat) (f : Nat → Int) (p0 : -9223372036854775808 ≤ eps) (p1 : eps < 9223372036854775808) (hn : n * 8 ≤ 140737488351232) (w : World) (h : KS w ao n f) :
    Calls Try.prog 5 #[.int .i64 eps, .slice ao n c] w fun e w' => e = .returned (.bool true) ∧ Gw w w' := by
  have HH : Aside (HullC HF) := H
  clear H
  have HK : Aside (KS w ao n f) := h
  clear h
  by_cases hok : 2 ≤ eps ∧ eps ≤ 64
  · obtain ⟨k1, k2⟩ := hok
    have z1 : ¬ eps < 2 := by omega
    have z2 : ¬ 64 < eps := by omega
    go_enter Try.func5, Try.ntmps5
    go_wp2_with fail
    refine (hshown HH.out w).mono ?_
    rintro e w1 ⟨rfl, g1⟩
    have G1 : Hid (Gw w w1) := g1
    clear g1
    go_wp2_with fail
    refine (HH.out.new eps k1 k2 _).mono ?_
    rintro e w2 ⟨⟨p, S, rfl, hS, h2⟩, g2⟩
    have H2 : Aside (HF w2 p S (eps - 1) 0 (fun _ => 0)) := h2
    have G2 : Aside (Gw w w2) := G1.out.trans g2
    have S2 : Aside (∀ q, S q → w.heap.size ≤ q) := fun q hq => Nat.le_trans G1.out.size (hS q hq)
    clear h2 g2 hS G1
    go_wp2_with fail
    go_loopg [8, 9, 10] n (fun gg s8 s9 s10 wr => ∃ (i m : Nat) (la : Int) (S' : Nat → Prop) (fk : Nat → Int), s8 = .int .i64 m ∧ s9 = .int .u64 la ∧ s10 = .int .i64 i ∧ i ≤ n ∧ n - i ≤ gg ∧ (m : Int) ≤ 2 * eps - 1 ∧ Aside (HF wr p S' (eps - 1) m fk) ∧ Aside ((0 < m → la = fk (m - 1)) ∧ 0 ≤ la ∧ la < 18446744073709551616) ∧ Aside (∀ q, S' q → w.heap.size ≤ q) ∧ Aside (Gw w wr))
    case atStart => exact ⟨0, 0, 0, S, _, rfl, rfl, rfl, Nat.zero_le _, by omega, by omega, H2, (show Aside _ from ⟨fun q => by omega, by decide, by decide⟩), S2, G2⟩
    case round =>
      obtain ⟨i, m, la, S', fk, rfl, rfl, rfl, h1, h2, h3, HI, LA, SI, GI⟩ := hrel
      clear H2 G2 S2
      by_cases hlt : i < n
      · by_cases hm : (m : Int) < 2 * eps - 1
        · have ks := HK.out.gw GI.out
          obtain ⟨bk, off, rfl, hb, hc⟩ := ks.cells (by omega)
          have c1 := hc i hlt
          obtain ⟨x0, x1⟩ := HK.out.bd i hlt
          have CK : Hid (∀ w5, Gw w w5 → w5.cell? ⟨bk, off + i, none⟩ = some (.int .u64 (f i))) := by
            show ∀ w5, Gw w w5 → w5.cell? ⟨bk, off + i, none⟩ = some (.int .u64 (f i))
            intro w5 g5
            obtain ⟨b', off', e', _, hc'⟩ := (HK.out.gw g5).cells (by omega)
            cases e'
            exact hc' i hlt
          clear ks hc
          generalize f i = x at c1 x0 x1 CK
          by_cases hz : m = 0
          · have m0 : ¬ 0 < m := by omega
            have NO : Hid (¬ (0 < m ∧ x ≤ fk (m - 1))) := fun q => m0 q.1
            clear hz
            go_wp2_with fail
            refine (HH.out.add HI.out x (by omega) (by omega) (by omega)).mono ?_
            rintro e w5 ⟨⟨ok, err, S2, rfl, hA, hF, hsub⟩, g5⟩
            have hk : ok = true ∧ err = 0 := by
              rcases hA with ⟨h0, h3, _⟩ | ⟨h3, h4, h5⟩
              · exact absurd ⟨h0, h3⟩ NO.out
              · refine ⟨h5.2 (few_fit (by omega) (up_upd (HH.out.facts HI.out).1 ?_) (by omega)), h4⟩
                intro h0
                rcases Int.lt_or_le (fk (m - 1)) x with q | q
                · exact q
                · exact absurd ⟨h0, q⟩ h3
            obtain ⟨rfl, rfl⟩ := hk
            have H5 : Hid (HF w5 p S2 (eps - 1) (m + 1) (upd fk m x)) := hF
            have S5 : Hid (∀ q, S2 q → w.heap.size ≤ q) := fun q hq => by
              rcases hsub q hq with r | r
              · exact SI.out q r
              · have := GI.out.size; omega
            have G5 : Hid (Gw w w5) := Gs.gw GI.out g5 SI.out
            clear hA hF hsub g5
            have k5 := CK.out w5 G5.out
            go_wp2_with fail
            refine (HH.out.count H5.out (by omega)).mono ?_
            rintro e w6 ⟨rfl, g6⟩
            go_wp2_with fail
            go_roundg (n - (i + 1))
            case measure => omega
            case rel => exact ⟨i + 1, m + 1, x, S2, upd fk m x, by go_num, rfl, by go_num, by omega, Nat.le_refl _, by omega, (show Aside _ from HH.out.gw H5.out g6), (show Aside _ from ⟨fun _ => by rw [show m + 1 - 1 = m by omega, upd_at], by omega, by omega⟩), (show Aside _ from S5.out), (show Aside _ from G5.out.trans g6)⟩
          · have m0 : 0 < m := by omega
            obtain ⟨ela, l0, l1⟩ := LA.out
            have EL : Hid (la = fk (m - 1)) := ela m0
            clear ela hz
            by_cases hx : x ≤ la
            · go_wp2_with fail
              refine (HH.out.add HI.out x (by omega) (by omega) (by omega)).mono ?_
              rintro e w5 ⟨⟨ok, err, S2, rfl, hA, hF, hsub⟩, g5⟩
              obtain ⟨rfl, rfl⟩ := hA.one (.inl ⟨m0, by rw [← EL.out]; exact hx, rfl, rfl⟩)
              have H5 : Hid (HF w5 p S2 (eps - 1) m fk) := hF
              have S5 : Hid (∀ q, S2 q → w.heap.size ≤ q) := fun q hq => by
                rcases hsub q hq with r | r
                · exact SI.out q r
                · have := GI.out.size; omega
              have G5 : Hid (Gw w w5) := Gs.gw GI.out g5 SI.out
              clear hA hF hsub g5
              have k5 := CK.out w5 G5.out
              go_wp2_with fail
              go_roundg (n - (i + 1))
              case measure => omega
              case rel => exact ⟨i + 1, m, la, S2, fk, rfl, rfl, by go_num, by omega, Nat.le_refl _, by omega, (show Aside _ from H5.out), LA, (show Aside _ from S5.out), (show Aside _ from G5.out)⟩
            · have NO : Hid (¬ (0 < m ∧ x ≤ fk (m - 1))) := fun q => hx (by rw [EL.out]; exact q.2)
              go_wp2_with fail
              refine (HH.out.add HI.out x (by omega) (by omega) (by omega)).mono ?_
              rintro e w5 ⟨⟨ok, err, S2, rfl, hA, hF, hsub⟩, g5⟩
              have hk : ok = true ∧ err = 0 := by
                rcases hA with ⟨h0, h3, _⟩ | ⟨h3, h4, h5⟩
                · exact absurd ⟨h0, h3⟩ NO.out
                · refine ⟨h5.2 (few_fit (by omega) (up_upd (HH.out.facts HI.out).1 ?_) (by omega)), h4⟩
                  intro h0
                  rcases Int.lt_or_le (fk (m - 1)) x with q | q
                  · exact q
                  · exact absurd ⟨h0, q⟩ h3
              obtain ⟨rfl, rfl⟩ := hk
              have H5 : Hid (HF w5 p S2 (eps - 1) (m + 1) (upd fk m x)) := hF
              have S5 : Hid (∀ q, S2 q → w.heap.size ≤ q) := fun q hq => by
                rcases hsub q hq with r | r
                · exact SI.out q r
                · have := GI.out.size; omega
              have G5 : Hid (Gw w w5) := Gs.gw GI.out g5 SI.out
              clear hA hF hsub g5
              have k5 := CK.out w5 G5.out
              go_wp2_with fail
              refine (HH.out.count H5.out (by omega)).mono ?_
              rintro e w6 ⟨rfl, g6⟩
              go_wp2_with fail
              go_roundg (n - (i + 1))
              case measure => omega
              case rel => exact ⟨i + 1, m + 1, x, S2, upd fk m x, by go_num, rfl, by go_num, by omega, Nat.le_refl _, by omega, (show Aside _ from HH.out.gw H5.out g6), (show Aside _ from ⟨fun _ => by rw [show m + 1 - 1 = m by omega, upd_at], by omega, by omega⟩), (show Aside _ from S5.out), (show Aside _ from G5.out.trans g6)⟩
        · go_wp2_with fail
          go_ret
          exact ⟨rfl, GI.out⟩
      · go_wp2_with fail
        go_ret
        exact ⟨rfl, GI.out⟩
  · have alt : eps < 2 ∨ (¬ eps < 2 ∧ 64 < eps) := by omega
    rcases alt with q | ⟨q, q'⟩
    · go_enter Try.func5, Try.ntmps5
      go_wp2_with fail
      refine (hshown HH.out w).mono ?_
      rintro e w1 ⟨rfl, g1⟩
      go_wp2_with fail
      refine (HH.out.bad eps hok _).mono ?_
      rintro e w2 ⟨rfl, g2⟩
      clear hok
      go_wp2_with fail
      go_ret
      exact ⟨by simp, g1.trans g2⟩
    · go_enter Try.func5, Try.ntmps5
      go_wp2_with fail
      refine (hshown HH.out w).mono ?_
      rintro e w1 ⟨rfl, g1⟩
      go_wp2_with fail
      refine (HH.out.bad eps hok _).mono ?_
      rintro e w2 ⟨rfl, g2⟩
      clear hok
      go_wp2_with fail
      go_ret
      exact ⟨by simp, g1.trans g2⟩

end Go.Proofs.Ytocahgiabeifeaa
