/- Package levels: climb, over the functions that it is handed. -/
import Derived.Test.YtmmkmakajolfhabYFirst
namespace Go.Proofs.Ytmmkmakajolfhab
open Go.RowKit
set_option linter.unusedVariables false

/-- What a function that climb is handed does: from keys of which I speaks, of rank r. -/
def OverC (K : Nat) (args : Value → Array Value) (I : Nat → World → Option Addr → Nat → Nat → (Nat → Int) → Prop) (Q : World → Prop) (X : List PanicEntry → World → Prop) : Prop :=
  ∀ (r : Nat) (W : World) (bo : Option Addr) (m c : Nat) (g : Nat → Int), I r W bo m c g → Calls Try.prog K (args (.slice bo m c)) W fun e w' =>
    (∃ (ao : Option Addr) (lc : Nat), e = .returned (.slice ao 0 lc) ∧ Q w') ∨
    (∃ (ao : Option Addr) (lc : Nat) (lv : List Sg) (r' : Nat), e = .returned (.slice ao lv.length lc) ∧ 0 < lv.length ∧ lv.length ≤ 4000000 ∧ GS w' ao lv ∧ r' < r ∧ ∀ (b : Nat) (w'' : World), Gw w' w'' → KS w'' (some ⟨b, 0, none⟩) lv.length (fst8 lv) → I r' w'' (some ⟨b, 0, none⟩) lv.length lv.length (fst8 lv)) ∨
    (∃ ch, e = .panicked ch ∧ X ch w')

set_option maxRecDepth 10000 in
set_option maxHeartbeats 2000000 in
theorem climb_build (p0 p1 : Value) (I : Nat → World → Option Addr → Nat → Nat → (Nat → Int) → Prop) (Q : World → Prop) (X : List PanicEntry → World → Prop) (O : OverC 23 (fun v => #[v, p0, p1]) I Q X) (r : Nat) (bo : Option Addr) (m c : Nat) (g : Nat → Int) (w : World) (h : I r w bo m c g) :
    Calls Try.prog 22 #[.slice bo m c, .func (.func 23) #[] #[p0, p1]] w fun e w' => (e = .returned (.tuple #[]) ∧ Q w') ∨ (∃ ch, e = .panicked ch ∧ X ch w') := by
  have HI : Aside (I r w bo m c g) := h
  have HO : Hid (OverC 23 (fun v => #[v, p0, p1]) I Q X) := O
  have FI : Hid _ := fun (ao : Option Addr) (c : Nat) (l : List Sg) (hl : l.length ≤ 4000000) (w : World) (h : GS w ao l) => firsts_any ao c l hl w h
  clear h O
  go_enter Try.func22, Try.ntmps22
  go_wp2_with fail
  refine (HO.out r _ bo m c g HI.out).mono ?_
  clear HI
  rintro e w1 (⟨ao, lc, rfl, hq⟩ | ⟨ao, lc, lv, r1, rfl, l0, l1, hG, hr, hI⟩ | ⟨ch, rfl, hx⟩)
  · have HQ : Aside (Q w1) := hq
    clear hq
    go_wp2_with fail
    go_loopg [4] 0 (fun gg s4 wr => s4 = .slice ao 0 lc ∧ Aside (Q wr))
    case atStart => exact ⟨rfl, HQ⟩
    case round =>
      obtain ⟨rfl, HQ⟩ := hrel
      go_wp2_with fail
      go_end0
      exact .inl ⟨rfl, HQ.out⟩
  · have LV : Aside (0 < lv.length ∧ lv.length ≤ 4000000) := ⟨l0, l1⟩
    have HG : Aside (GS w1 ao lv) := hG
    have HN : Aside (∀ (b : Nat) (w'' : World), Gw w1 w'' → KS w'' (some ⟨b, 0, none⟩) lv.length (fst8 lv) → I r1 w'' (some ⟨b, 0, none⟩) lv.length lv.length (fst8 lv)) := hI
    obtain ⟨ln, hln⟩ : ∃ ln, lv.length = ln := ⟨_, rfl⟩
    have LN : Aside (lv.length = ln) := hln
    rw [hln]
    clear hG hI l0 l1 hln
    go_wp2_with fail
    go_loopg [4] r (fun gg s4 wr => ∃ (ao : Option Addr) (lc ln : Nat), s4 = .slice ao ln lc ∧ ((ln = 0 ∧ Aside (Q wr)) ∨ (0 < ln ∧ ∃ (lv : List Sg) (r' : Nat), r' < gg ∧ Aside (lv.length = ln) ∧ Aside (lv.length ≤ 4000000) ∧ Aside (GS wr ao lv) ∧ Aside (∀ (b : Nat) (w'' : World), Gw wr w'' → KS w'' (some ⟨b, 0, none⟩) lv.length (fst8 lv) → I r' w'' (some ⟨b, 0, none⟩) lv.length lv.length (fst8 lv)))))
    case atStart => exact ⟨ao, lc, ln, rfl, .inr ⟨by rw [← LN.out]; exact LV.out.1, lv, r1, hr, LN, (show Aside _ from LV.out.2), HG, HN⟩⟩
    case round =>
      clear LV HG HN LN
      obtain ⟨ao, lc, ln, rfl, ⟨rfl, HQ⟩ | ⟨l0, lv, r2, hr2, LN, LL, HG, HN⟩⟩ := hrel
      · go_wp2_with fail
        go_end0
        exact .inl ⟨rfl, HQ.out⟩
      · have FI' : Hid (∀ W, GS W ao lv → Calls Try.prog 37 #[.slice ao ln lc] W fun e w' => (∃ b, e = .returned (.slice (some ⟨b, 0, none⟩) lv.length lv.length) ∧ W.heap.size ≤ b ∧ KS w' (some ⟨b, 0, none⟩) lv.length (fst8 lv)) ∧ Gw W w') := fun W h => by
          have := FI.out ao lc lv LL.out W h
          rw [LN.out] at this ⊢
          exact this
        have t0 : decide ((0 : Int) < (ln : Int)) = true := by simp; omega
        go_wp2_with fail
        refine (FI'.out _ HG.out).mono ?_
        rintro e w3 ⟨⟨b, rfl, hb, hk⟩, g3⟩
        have HI3 : Aside (I r2 w3 (some ⟨b, 0, none⟩) lv.length lv.length (fst8 lv)) := HN.out b w3 g3 hk
        clear hk g3 hb HN HG FI'
        generalize lv.length = q3 at HI3 ⊢
        generalize fst8 lv = g3 at HI3
        clear LN LL
        go_wp2_with fail
        refine (HO.out r2 _ _ _ _ _ HI3.out).mono ?_
        clear HI3
        rintro e w4 (⟨ao4, lc4, rfl, hq⟩ | ⟨ao4, lc4, lv4, r4, rfl, l4, l4', hG, hr4, hI⟩ | ⟨ch, rfl, hx⟩)
        · have HQ : Aside (Q w4) := hq
          clear hq
          go_wp2_with fail
          go_roundg 0
          case measure => omega
          case rel => exact ⟨ao4, lc4, 0, rfl, .inl ⟨rfl, HQ⟩⟩
        · have LL4 : Aside (lv4.length ≤ 4000000) := l4'
          have HG4 : Aside (GS w4 ao4 lv4) := hG
          have HN4 : Aside (∀ (b : Nat) (w'' : World), Gw w4 w'' → KS w'' (some ⟨b, 0, none⟩) lv4.length (fst8 lv4) → I r4 w'' (some ⟨b, 0, none⟩) lv4.length lv4.length (fst8 lv4)) := hI
          obtain ⟨ln4, hln⟩ : ∃ ln, lv4.length = ln := ⟨_, rfl⟩
          have LN4 : Aside (lv4.length = ln4) := hln
          rw [hln] at l4 ⊢
          clear hG hI hln l4'
          go_wp2_with fail
          go_roundg r2
          case measure => omega
          case rel => exact ⟨ao4, lc4, ln4, rfl, .inr ⟨l4, lv4, r4, hr4, LN4, LL4, HG4, HN4⟩⟩
        · have HX : Aside (X ch w4) := hx
          clear hx
          go_wp2_with fail
          exact ⟨rfl, .inr ⟨ch, rfl, HX.out⟩⟩
  · have HX : Aside (X ch w1) := hx
    clear hx
    go_wp2_with fail
    exact ⟨rfl, .inr ⟨ch, rfl, HX.out⟩⟩

set_option maxRecDepth 10000 in
set_option maxHeartbeats 2000000 in
theorem climb_check (p0 p1 p2 : Value) (I : Nat → World → Option Addr → Nat → Nat → (Nat → Int) → Prop) (Q : World → Prop) (X : List PanicEntry → World → Prop) (O : OverC 32 (fun v => #[v, p0, p1, p2]) I Q X) (r : Nat) (bo : Option Addr) (m c : Nat) (g : Nat → Int) (w : World) (h : I r w bo m c g) :
    Calls Try.prog 22 #[.slice bo m c, .func (.func 32) #[] #[p0, p1, p2]] w fun e w' => (e = .returned (.tuple #[]) ∧ Q w') ∨ (∃ ch, e = .panicked ch ∧ X ch w') := by
  have HI : Aside (I r w bo m c g) := h
  have HO : Hid (OverC 32 (fun v => #[v, p0, p1, p2]) I Q X) := O
  have FI : Hid _ := fun (ao : Option Addr) (c : Nat) (l : List Sg) (hl : l.length ≤ 4000000) (w : World) (h : GS w ao l) => firsts_any ao c l hl w h
  clear h O
  go_enter Try.func22, Try.ntmps22
  go_wp2_with fail
  refine (HO.out r _ bo m c g HI.out).mono ?_
  clear HI
  rintro e w1 (⟨ao, lc, rfl, hq⟩ | ⟨ao, lc, lv, r1, rfl, l0, l1, hG, hr, hI⟩ | ⟨ch, rfl, hx⟩)
  · have HQ : Aside (Q w1) := hq
    clear hq
    go_wp2_with fail
    go_loopg [4] 0 (fun gg s4 wr => s4 = .slice ao 0 lc ∧ Aside (Q wr))
    case atStart => exact ⟨rfl, HQ⟩
    case round =>
      obtain ⟨rfl, HQ⟩ := hrel
      go_wp2_with fail
      go_end0
      exact .inl ⟨rfl, HQ.out⟩
  · have LV : Aside (0 < lv.length ∧ lv.length ≤ 4000000) := ⟨l0, l1⟩
    have HG : Aside (GS w1 ao lv) := hG
    have HN : Aside (∀ (b : Nat) (w'' : World), Gw w1 w'' → KS w'' (some ⟨b, 0, none⟩) lv.length (fst8 lv) → I r1 w'' (some ⟨b, 0, none⟩) lv.length lv.length (fst8 lv)) := hI
    obtain ⟨ln, hln⟩ : ∃ ln, lv.length = ln := ⟨_, rfl⟩
    have LN : Aside (lv.length = ln) := hln
    rw [hln]
    clear hG hI l0 l1 hln
    go_wp2_with fail
    go_loopg [4] r (fun gg s4 wr => ∃ (ao : Option Addr) (lc ln : Nat), s4 = .slice ao ln lc ∧ ((ln = 0 ∧ Aside (Q wr)) ∨ (0 < ln ∧ ∃ (lv : List Sg) (r' : Nat), r' < gg ∧ Aside (lv.length = ln) ∧ Aside (lv.length ≤ 4000000) ∧ Aside (GS wr ao lv) ∧ Aside (∀ (b : Nat) (w'' : World), Gw wr w'' → KS w'' (some ⟨b, 0, none⟩) lv.length (fst8 lv) → I r' w'' (some ⟨b, 0, none⟩) lv.length lv.length (fst8 lv)))))
    case atStart => exact ⟨ao, lc, ln, rfl, .inr ⟨by rw [← LN.out]; exact LV.out.1, lv, r1, hr, LN, (show Aside _ from LV.out.2), HG, HN⟩⟩
    case round =>
      clear LV HG HN LN
      obtain ⟨ao, lc, ln, rfl, ⟨rfl, HQ⟩ | ⟨l0, lv, r2, hr2, LN, LL, HG, HN⟩⟩ := hrel
      · go_wp2_with fail
        go_end0
        exact .inl ⟨rfl, HQ.out⟩
      · have FI' : Hid (∀ W, GS W ao lv → Calls Try.prog 37 #[.slice ao ln lc] W fun e w' => (∃ b, e = .returned (.slice (some ⟨b, 0, none⟩) lv.length lv.length) ∧ W.heap.size ≤ b ∧ KS w' (some ⟨b, 0, none⟩) lv.length (fst8 lv)) ∧ Gw W w') := fun W h => by
          have := FI.out ao lc lv LL.out W h
          rw [LN.out] at this ⊢
          exact this
        have t0 : decide ((0 : Int) < (ln : Int)) = true := by simp; omega
        go_wp2_with fail
        refine (FI'.out _ HG.out).mono ?_
        rintro e w3 ⟨⟨b, rfl, hb, hk⟩, g3⟩
        have HI3 : Aside (I r2 w3 (some ⟨b, 0, none⟩) lv.length lv.length (fst8 lv)) := HN.out b w3 g3 hk
        clear hk g3 hb HN HG FI'
        generalize lv.length = q3 at HI3 ⊢
        generalize fst8 lv = g3 at HI3
        clear LN LL
        go_wp2_with fail
        refine (HO.out r2 _ _ _ _ _ HI3.out).mono ?_
        clear HI3
        rintro e w4 (⟨ao4, lc4, rfl, hq⟩ | ⟨ao4, lc4, lv4, r4, rfl, l4, l4', hG, hr4, hI⟩ | ⟨ch, rfl, hx⟩)
        · have HQ : Aside (Q w4) := hq
          clear hq
          go_wp2_with fail
          go_roundg 0
          case measure => omega
          case rel => exact ⟨ao4, lc4, 0, rfl, .inl ⟨rfl, HQ⟩⟩
        · have LL4 : Aside (lv4.length ≤ 4000000) := l4'
          have HG4 : Aside (GS w4 ao4 lv4) := hG
          have HN4 : Aside (∀ (b : Nat) (w'' : World), Gw w4 w'' → KS w'' (some ⟨b, 0, none⟩) lv4.length (fst8 lv4) → I r4 w'' (some ⟨b, 0, none⟩) lv4.length lv4.length (fst8 lv4)) := hI
          obtain ⟨ln4, hln⟩ : ∃ ln, lv4.length = ln := ⟨_, rfl⟩
          have LN4 : Aside (lv4.length = ln4) := hln
          rw [hln] at l4 ⊢
          clear hG hI hln l4'
          go_wp2_with fail
          go_roundg r2
          case measure => omega
          case rel => exact ⟨ao4, lc4, ln4, rfl, .inr ⟨l4, lv4, r4, hr4, LN4, LL4, HG4, HN4⟩⟩
        · have HX : Aside (X ch w4) := hx
          clear hx
          go_wp2_with fail
          exact ⟨rfl, .inr ⟨ch, rfl, HX.out⟩⟩
  · have HX : Aside (X ch w1) := hx
    clear hx
    go_wp2_with fail
    exact ⟨rfl, .inr ⟨ch, rfl, HX.out⟩⟩

end Go.Proofs.Ytmmkmakajolfhab
