/- RunBound's and RunNear's walks. -/
import Derived.Test.YtdikiaeagcokdabGreatPMt
import Derived.Test.YtdikiaeagcokdabGreatPSh
import Derived.Test.YtdikiaeagcokdabGreatR1Of
namespace Go.Proofs.YtdikiaeagcokdabGreat
open Go.RowKit
set_option linter.unusedVariables false

set_option maxRecDepth 10000 in
set_option maxHeartbeats 8000000 in
theorem bound_walk {HR : World → Nat → (Nat → Prop) → Int → (Nat → Int) → (Nat → Int) → (Nat → Bool) → Nat → List (List Sg) → Prop} (H : RunC HR) (M : ModelC) (ao : Option Addr) (n cp : Nat) (k v : Nat → Int) (g : Nat → Bool) (eps : Int) (e0 : -9223372036854775808 ≤ eps) (e1 : eps < 9223372036854775808) (bo : Option Addr) (m bc : Nat) (qs : Nat → Int) (hn : n ≤ 2000000) (hcp : n ≤ cp) (hz : ao = none → n = 0 ∧ cp = 0) (hm : m ≤ 2000000) (w : World) (h : ES w ao n k v g) (hq : KS w bo m qs) :
    Calls Tryz.prog 3 #[.slice ao n cp, .int .i64 eps, .slice bo m bc] w fun e w' => e = .returned (.bool true) ∧ Gw w w' := by
  have HE : Aside (ES w ao n k v g) := h
  have QE : Aside (KS w bo m qs) := hq
  have HH : Aside (RunC HR) := H
  have SH : Hid (Calls Tryz.prog 6 #[] w fun e w' => e = .returned (.bool true) ∧ Gw w w') := shown11 H w
  have NW : Hid (∀ W, Gw w W → Calls Tryz.prog 7 #[.slice ao n cp, .int .i64 eps] W fun ex w' => RunOut HR W w' ex eps k v g n ∧ Gw W w') := fun W gg => H.new eps ao n cp k v g e0 e1 hn hcp hz W (h.gw gg)
  have CK : Hid (∀ W, Gw w W → Calls Tryz.prog 8 #[.slice ao n cp] W fun e w' => (∃ r : Int, e = .returned (.int .i64 r) ∧ ChkR k v g n r) ∧ Gw W w') := fun W gg => rcheck3_any ao n cp k v g (by omega) W (h.gw gg)
  clear h H hz hcp hq
  go_enter Tryz.func3, Tryz.ntmps3
  go_wp2_with fail
  refine Calls.mono SH.out ?_
  rintro e w1 ⟨rfl, g1⟩
  have G1 : Aside (Gw w w1) := g1
  clear g1 SH
  go_wp2_with fail
  refine Calls.mono (NW.out _ G1.out) ?_
  rintro e w2 ⟨⟨E, ne, x⟩, g2⟩
  have G2 : Aside (Gw w w2) := G1.out.trans g2
  have NE : Aside (NewE eps k v g n E) := ne
  clear g2 ne G1 NW
  rcases x with ⟨x0, rfl⟩ | ⟨rfl, p, S, L, rfl, hS, br, hr⟩
  · have X0 : Aside (E ≠ 0) := x0
    clear x0
    go_wp2_with fail
    refine Calls.mono (CK.out _ G2.out) ?_
    rintro e w3 ⟨⟨r, rfl, cr⟩, g3⟩
    have G3 : Aside (Gw w w3) := G2.out.trans g3
    clear g3
    by_cases r0 : r = 0
    · subst r0
      have nb : ¬ (2 ≤ eps ∧ eps ≤ 64) := fun b => by
        rcases NE.out with ⟨nb, _⟩ | ⟨_, c⟩
        · exact nb b
        · exact X0.out (c.one cr)
      clear cr
      by_cases c : eps < 2
      · have t1 : decide (eps < 2) = true := by simpa using c
        clear nb c
        go_wp2_with fail
        go_ret
        exact ⟨rfl, G3.out⟩
      · have t1 : decide (eps < 2) = false := by simpa using c
        have t2 : decide (64 < eps) = true := decide_eq_true (by omega)
        clear nb c
        go_wp2_with fail
        go_ret
        exact ⟨rfl, G3.out⟩
    · have r0' : (r != 0) = true := by simpa using r0
      clear r0 cr
      go_wp2_with fail
      go_ret
      exact ⟨rfl, G3.out⟩
  · have R2 : Aside (HR w2 p S eps k v g n L) := hr
    clear br CK NE
    have BD : Hid (∀ (W : World) (y : Int), Gw w2 W → 0 ≤ y → y < 18446744073709551616 → Calls Tryz.prog 9 #[.pointer (some ⟨p, 0, none⟩), .int .u64 y] W fun e w' => e = .returned (.bool true) ∧ Gw W w') := fun W y gg y0 y1 => bound11 HH.out M (HH.out.gw R2.out gg) y y0 y1
    clear hr hS M
    go_wp2_with fail
    go_loopg [10] m (fun gg s10 wr => ∃ i : Nat, s10 = .int .i64 (i : Int) ∧ i ≤ m ∧ m - i ≤ gg ∧ Aside (Gw w2 wr))
    case atStart => exact ⟨0, rfl, Nat.zero_le _, by omega, (show Aside _ from Gw.refl w2)⟩
    case round =>
      obtain ⟨i, rfl, a1, a2, G⟩ := hrel
      obtain ⟨wS, hwS⟩ : ∃ wx, wx = wr := ⟨_, rfl⟩
      subst hwS
      by_cases hlt : i < m
      · obtain ⟨kb, ko, rfl, hkb, hkc⟩ := (QE.out.gw (G2.out.trans G.out)).cells (by omega)
        have c0 := hkc i hlt
        obtain ⟨y0, y1⟩ := QE.out.bd i hlt
        generalize qs i = y at c0 y0 y1
        have hlt' : (i : Int) < (m : Int) := by omega
        clear hkc
        go_wp2_with fail
        refine Calls.mono (BD.out _ y G.out y0 y1) ?_
        rintro e u1 ⟨rfl, gg⟩
        have G9 : Aside (Gw w2 u1) := G.out.trans gg
        clear gg c0 y0 y1
        go_wp2_with fail
        go_roundg (m - (i + 1))
        case measure => omega
        case rel => exact ⟨i + 1, by go_num, by omega, Nat.le_refl _, G9⟩
      · go_wp2_with fail
        go_ret
        exact ⟨rfl, G2.out.trans G.out⟩

set_option maxRecDepth 10000 in
set_option maxHeartbeats 8000000 in
theorem near_walk11 {HR : World → Nat → (Nat → Prop) → Int → (Nat → Int) → (Nat → Int) → (Nat → Bool) → Nat → List (List Sg) → Prop} (H : RunC HR) (M : ModelC) (ao : Option Addr) (n cp : Nat) (k v : Nat → Int) (g : Nat → Bool) (eps : Int) (e0 : -9223372036854775808 ≤ eps) (e1 : eps < 9223372036854775808) (lo : Option Addr) (lc : Nat) (L : List (List Sg)) (bo : Option Addr) (m bc : Nat) (qs : Nat → Int) (hn : n ≤ 2000000) (hcp : n ≤ cp) (hz : ao = none → n = 0 ∧ cp = 0) (sh : Short L) (hlc : L.length ≤ lc) (hm : m ≤ 2000000) (w : World) (h : ES w ao n k v g) (hv : VS w lo L) (hq : KS w bo m qs) :
    Calls Tryz.prog 4 #[.slice ao n cp, .int .i64 eps, .slice lo L.length lc, .slice bo m bc] w fun e w' => e = .returned (.bool true) ∧ Gw w w' := by
  have HE : Aside (ES w ao n k v g) := h
  have QE : Aside (KS w bo m qs) := hq
  have HH : Aside (RunC HR) := H
  have SH : Hid (Calls Tryz.prog 6 #[] w fun e w' => e = .returned (.bool true) ∧ Gw w w') := shown11 H w
  obtain ⟨ln, hln⟩ : ∃ ln, L.length = ln := ⟨_, rfl⟩
  have RO : Hid (∀ W, Gw w W → Calls Tryz.prog 10 #[.slice ao n cp, .int .i64 eps, .slice lo ln lc] W fun ex w' => OfOutR HR W w' ex eps k v g n L ∧ Gw W w') := fun W gg => by
    have := H.of eps ao n cp k v g lo lc L e0 e1 hn hcp hz sh hlc W (h.gw gg) (hv.gw gg)
    rw [hln] at this
    exact this
  have DO : Hid (∀ W, Gw w W → Calls Tryz.prog 11 #[.slice ao n cp, .int .i64 eps, .slice lo ln lc] W fun ex w' => OfOutR HDoc W w' ex eps k v g n L ∧ Gw W w') := fun W gg => by
    have := dc_of eps ao n cp k v g lo lc L e0 e1 hn hcp hz sh W (h.gw gg) (hv.gw gg)
    rw [hln] at this
    exact this
  rw [hln]
  clear h H hz hcp hq hv sh hlc hln
  go_enter Tryz.func4, Tryz.ntmps4
  go_wp2_with fail
  refine Calls.mono SH.out ?_
  rintro e w1 ⟨rfl, g1⟩
  have G1 : Aside (Gw w w1) := g1
  clear g1 SH
  go_wp2_with fail
  refine Calls.mono (RO.out _ G1.out) ?_
  rintro e w2 ⟨⟨E, oe, x⟩, g2⟩
  have G2 : Aside (Gw w w2) := G1.out.trans g2
  have OE : Aside (OfE eps k v g n L E) := oe
  clear g2 oe G1 RO
  rcases x with ⟨x0, rfl⟩ | ⟨rfl, p, S, rfl, hS, hr⟩
  · have X0 : Aside (E ≠ 0) := x0
    clear x0
    go_wp2_with fail
    refine Calls.mono (DO.out _ G2.out) ?_
    rintro e w3 ⟨⟨E', oe', x⟩, g3⟩
    have ee := oe'.one OE.out
    subst ee
    rcases x with ⟨_, rfl⟩ | ⟨x, _⟩
    case inr => exact absurd x X0.out
    have G3 : Aside (Gw w w3) := G2.out.trans g3
    clear g3 oe'
    go_wp2_with fail
    go_ret
    exact ⟨rfl, G3.out⟩
  · have R2 : Aside (HR w2 p S eps k v g n L) := hr
    clear DO OE
    have BD : Hid (∀ (W : World) (y : Int), Gw w2 W → 0 ≤ y → y < 18446744073709551616 → Calls Tryz.prog 9 #[.pointer (some ⟨p, 0, none⟩), .int .u64 y] W fun e w' => e = .returned (.bool true) ∧ Gw W w') := fun W y gg y0 y1 => bound11 HH.out M (HH.out.gw R2.out gg) y y0 y1
    clear hr hS M
    go_wp2_with fail
    go_loopg [14] m (fun gg s10 wr => ∃ i : Nat, s10 = .int .i64 (i : Int) ∧ i ≤ m ∧ m - i ≤ gg ∧ Aside (Gw w2 wr))
    case atStart => exact ⟨0, rfl, Nat.zero_le _, by omega, (show Aside _ from Gw.refl w2)⟩
    case round =>
      obtain ⟨i, rfl, a1, a2, G⟩ := hrel
      obtain ⟨wS, hwS⟩ : ∃ wx, wx = wr := ⟨_, rfl⟩
      subst hwS
      by_cases hlt : i < m
      · obtain ⟨kb, ko, rfl, hkb, hkc⟩ := (QE.out.gw (G2.out.trans G.out)).cells (by omega)
        have c0 := hkc i hlt
        obtain ⟨y0, y1⟩ := QE.out.bd i hlt
        generalize qs i = y at c0 y0 y1
        have hlt' : (i : Int) < (m : Int) := by omega
        clear hkc
        go_wp2_with fail
        refine Calls.mono (BD.out _ y G.out y0 y1) ?_
        rintro e u1 ⟨rfl, gg⟩
        have G9 : Aside (Gw w2 u1) := G.out.trans gg
        clear gg c0 y0 y1
        go_wp2_with fail
        go_roundg (m - (i + 1))
        case measure => omega
        case rel => exact ⟨i + 1, by go_num, by omega, Nat.le_refl _, G9⟩
      · go_wp2_with fail
        go_ret
        exact ⟨rfl, G2.out.trans G.out⟩

end Go.Proofs.YtdikiaeagcokdabGreat
