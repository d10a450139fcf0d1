/- What the statements of layer 6 ask of package cut, as one structure; lists of ints alike; the examples; which keys are right. -/
import Derived.Test.YtlocnkoeffoflaaERef
import Derived.Deep.CondSized
namespace Go.Proofs.Ytlocnkoeffoflaa
open Go.RowKit
set_option linter.unusedVariables false

/-- Package cut. -/
structure CutC : Prop where
  ends : ∀ (eps : Int) (ao : Option Addr) (n cp : Nat) (f : Nat → Int), -9223372036854775808 ≤ eps → eps < 9223372036854775808 → n ≤ 2000000 → n ≤ cp → ∀ w : World, KS w ao n f → Calls Try.prog 9 #[.slice ao n cp, .int .i64 eps] w fun ex w' => EndsOut w.heap.size w' ex eps f n ∧ Gw w w'

theorem row_le {w : World} {base e size n cap : Nat} {ao : Option Addr} {xs : List Value} (h : w.ownsRow base e size (.slice ao n cap) n xs) : n ≤ cap := by
  by_cases k : Value.slice ao n cap = .slice none 0 0
  · cases k; exact Nat.le_refl _
  · obtain ⟨g, cap', e, _, h1, _⟩ := own_slice h k
    cases e
    exact h1

/-- A list of ints in memory. -/
structure LS (w : World) (ao : Option Addr) (l : List Nat) : Prop where
  cells : 0 < l.length → ∃ b off, ao = some ⟨b, off, none⟩ ∧ b < w.heap.size ∧ ∀ i, i < l.length → w.cell? ⟨b, off + i, none⟩ = some (.int .i64 ((l.getD i 0 : Nat) : Int))
theorem LS.gw {w w' : World} {ao : Option Addr} {l : List Nat} (h : LS w ao l) (g : Gw w w') : LS w' ao l :=
  ⟨fun h0 => by
    obtain ⟨b, off, e, hb, hc⟩ := h.cells h0
    exact ⟨b, off, e, Nat.lt_of_lt_of_le hb g.size, fun i hi => (g.cell b (off + i) hb).trans (hc i hi)⟩⟩
theorem ir_ls {w : World} {base : Nat} {v : Value} {l : List Nat} (h : IR w base v l) : ∃ ao cap, v = .slice ao l.length cap ∧ LS w ao l := by
  obtain ⟨ao, cap, e, h1, h2⟩ := ir_slice h
  refine ⟨ao, cap, e, ⟨fun h0 => ?_⟩⟩
  cases ao with
  | none => rw [(h1 rfl).1] at h0; simp at h0
  | some ad =>
    obtain ⟨g, e', hb, hg, hc⟩ := h2 ad rfl
    exact ⟨g, 0, by rw [e'], hg, fun i hi => by rw [Nat.zero_add]; exact hc i hi⟩

theorem list_get_eq {l m : List Nat} (hl : l.length = m.length) (h : ∀ i, i < l.length → l.getD i 0 = m.getD i 0) : l = m := by
  apply List.ext_getElem hl
  intro i h1 h2
  have := h i h1
  simpa [List.getD, h1, h2] using this

set_option maxHeartbeats 2000000 in
theorem same_any (ao bo : Option Addr) (c d : Nat) (l m : List Nat) (hl : l.length ≤ 4000000) (hm : m.length ≤ 4000000) (w : World) (h : LS w ao l) (k : LS w bo m) :
    Calls Try.prog 11 #[.slice ao l.length c, .slice bo m.length d] w fun e w' => e = .returned (.bool (decide (l = m))) ∧ Gw w w' := by
  have HL : Aside (LS w ao l) := h
  have HM : Aside (LS w bo m) := k
  clear h k
  by_cases he : l.length = m.length
  · have E : Aside (l.length = m.length) := he
    obtain ⟨z, hz⟩ : ∃ z, decide (l = m) = z := ⟨_, rfl⟩
    have Z : Aside (z = true ↔ l = m) := by rw [← hz]; exact decide_eq_true_iff
    rw [hz, ← he]
    clear hz he
    obtain ⟨n, hn⟩ : ∃ n, l.length = n := ⟨_, rfl⟩
    rw [hn] at hl
    rw [hn]
    have EN : Aside (l.length = n ∧ m.length = n) := ⟨hn, by rw [← E.out]; exact hn⟩
    clear hn E hm
    go_enter Try.func11, Try.ntmps11
    go_wp2_with fail
    go_loopg [5] n (fun gg s5 wr => ∃ i : Nat, s5 = .int .i64 i ∧ i ≤ n ∧ n - i ≤ gg ∧ Aside (∀ j, j < i → l.getD j 0 = m.getD j 0) ∧ Aside (Gw w wr))
    case atStart => exact ⟨0, rfl, Nat.zero_le _, by omega, (show Aside _ from fun j hj => by omega), (show Aside _ from Gw.refl w)⟩
    case round =>
      obtain ⟨i, rfl, h1, h2, J, G⟩ := hrel
      by_cases hlt : i < n
      · obtain ⟨b1, o1, rfl, hb1, hc1⟩ := (HL.out.gw G.out).cells (by rw [EN.out.1]; omega)
        obtain ⟨b2, o2, rfl, hb2, hc2⟩ := (HM.out.gw G.out).cells (by rw [EN.out.2]; omega)
        have q1 := hc1 i (by rw [EN.out.1]; exact hlt)
        have q2 := hc2 i (by rw [EN.out.2]; exact hlt)
        clear hc1 hc2
        obtain ⟨x, hx⟩ : ∃ x, l.getD i 0 = x := ⟨_, rfl⟩
        obtain ⟨y, hy⟩ : ∃ y, m.getD i 0 = y := ⟨_, rfl⟩
        have XY : Aside (l.getD i 0 = x ∧ m.getD i 0 = y) := ⟨hx, hy⟩
        rw [hx] at q1
        rw [hy] at q2
        clear hx hy
        by_cases hq : x = y
        · subst hq
          have NX : Aside (∀ j, j < i + 1 → l.getD j 0 = m.getD j 0) := fun j hj => by
            by_cases e : j = i
            · subst e; rw [XY.out.1, XY.out.2]
            · exact J.out j (by omega)
          clear J XY
          go_wp2_with fail
          go_quiet (fail)
          go_wp2_with fail
          go_roundg (n - (i + 1))
          case measure => omega
          case rel => exact ⟨i + 1, by go_num, by omega, Nat.le_refl _, NX, (show Aside _ from G.out.drewN _)⟩
        · have tq : ((x : Int) != (y : Int)) = true := by simp; omega
          have zf : z = false := by
            cases z with
            | false => rfl
            | true =>
              exfalso
              have e := Z.out.1 rfl
              apply hq
              rw [← XY.out.1, ← XY.out.2, e]
          subst zf
          clear J XY Z
          go_wp2_with fail
          go_quiet (fail)
          go_wp2_with fail
          go_ret
          exact ⟨rfl, G.out.drewN _⟩
      · have e : i = n := by omega
        subst e
        have zt : z = true := Z.out.2 (list_get_eq (by rw [EN.out.1, EN.out.2]) (fun j hj => J.out j (by rw [EN.out.1] at hj; exact hj)))
        subst zt
        clear J Z
        go_wp2_with fail
        go_ret
        exact ⟨rfl, G.out⟩
  · have t : ((l.length : Int) != (m.length : Int)) = true := by simp; omega
    have z : decide (l = m) = false := by
      rw [decide_eq_false_iff_not]
      intro e
      apply he
      rw [e]
    rw [z]
    clear z
    obtain ⟨n, hn⟩ : ∃ n, l.length = n := ⟨_, rfl⟩
    obtain ⟨n', hn'⟩ : ∃ n', m.length = n' := ⟨_, rfl⟩
    rw [hn, hn'] at t ⊢
    clear hn hn' he
    go_enter Try.func11, Try.ntmps11
    go_wp2_with fail
    go_ret
    exact ⟨rfl, Gw.refl w⟩

/-- What 'right' answers. -/
def RightOut (ex : Ending) (P : Prop) : Prop := ∃ r : Bool, ex = .returned (.tuple #[.bool r, .bool true]) ∧ (r = true ↔ P)
theorem RightOut.no {P : Prop} (h : ¬ P) : RightOut (.returned (.tuple #[.bool false, .bool true])) P := ⟨false, rfl, ⟨fun q => by simp at q, fun q => absurd q h⟩⟩
theorem RightOut.yes {P : Prop} (h : P) : RightOut (.returned (.tuple #[.bool true, .bool true])) P := ⟨true, rfl, ⟨fun _ => h, fun _ => rfl⟩⟩

set_option maxHeartbeats 2000000 in
theorem right_any (CC : CutC) (eps : Int) (ao : Option Addr) (n cp : Nat) (f : Nat → Int) (p0 : -9223372036854775808 ≤ eps) (p1 : eps < 9223372036854775808) (hn : n ≤ 2000000) (hcp : n ≤ cp) (w : World) (h : KS w ao n f) :
    Calls Try.prog 12 #[.slice ao n cp, .int .i64 eps] w fun e w' => RightOut e ((2 ≤ eps ∧ eps ≤ 64) ∧ Up f n) ∧ Gw w w' := by
  have HK : Aside (KS w ao n f) := h
  have EE : Hid _ := fun W h => CC.ends eps ao n cp f p0 p1 hn hcp W h
  clear h CC
  go_enter Try.func12, Try.ntmps12
  go_wp2_with fail
  refine (EE.out _ HK.out).mono ?_
  rintro ex w1 ⟨⟨v, l, err, rfl, hE, hI⟩, g1⟩
  have G1 : Aside (Gw w w1) := g1
  obtain ⟨bo, cap, rfl, hL⟩ := ir_ls hI
  have ER : Aside (EndsR eps f n l err) := hE
  clear g1 hE hI hL
  by_cases k1 : eps < 2
  · have t1 : decide (eps < 2) = true := by simpa using k1
    obtain ⟨rfl, rfl⟩ : l = [] ∧ err = 1 := by
      rcases ER.out with ⟨_, h1, h2⟩ | ⟨h1, _⟩ | ⟨h1, _⟩
      · exact ⟨h1, h2⟩
      all_goals omega
    clear ER
    simp only [List.length_nil]
    go_wp2_with fail
    exact bodyPost_ret (v := .tuple #[.bool false, .bool true]) (by simp [results, Try.results12, go_sem]) rfl ⟨RightOut.no fun q => by omega, G1.out⟩
  · have t1 : decide (eps < 2) = false := by simpa using k1
    by_cases k2 : 64 < eps
    · have t2 : decide (64 < eps) = true := by simpa using k2
      obtain ⟨rfl, rfl⟩ : l = [] ∧ err = 1 := by
        rcases ER.out with ⟨_, h1, h2⟩ | ⟨h1, _⟩ | ⟨h1, _⟩
        · exact ⟨h1, h2⟩
        all_goals omega
      clear ER
      simp only [List.length_nil]
      go_wp2_with fail
      exact bodyPost_ret (v := .tuple #[.bool false, .bool true]) (by simp [results, Try.results12, go_sem]) rfl ⟨RightOut.no fun q => by omega, G1.out⟩
    · have t2 : decide (64 < eps) = false := by simpa using k2
      go_wp2_with fail
      refine (rrising_any ao n cp f (by omega) _ (HK.out.gw G1.out)).mono ?_
      rintro ex w2 ⟨⟨r, rfl, hr⟩, g2⟩
      have HR : Aside (r = true ↔ Up f n) := hr
      have G2 : Aside (Gw w w2) := G1.out.trans g2
      clear hr g2 G1
      cases r with
      | false =>
        obtain ⟨rfl, rfl⟩ : l = [] ∧ err = 60 := by
          rcases ER.out with ⟨h1, _⟩ | ⟨_, _, h1, h2⟩ | ⟨_, h1, _⟩
          · omega
          · exact ⟨h1, h2⟩
          · have := HR.out.2 h1; simp at this
        have NU : Aside (¬ Up f n) := fun q => by have := HR.out.2 q; simp at this
        clear ER HR
        simp only [List.length_nil]
        go_wp2_with fail
        exact bodyPost_ret (v := .tuple #[.bool false, .bool true]) (by simp [results, Try.results12, go_sem]) rfl ⟨RightOut.no fun q => NU.out q.2, G2.out⟩
      | true =>
        obtain rfl : err = 0 := by
          rcases ER.out with ⟨h1, _⟩ | ⟨_, h1, _⟩ | ⟨_, _, _, h1⟩
          · omega
          · exact absurd (HR.out.1 rfl) h1
          · exact h1
        have UP : Aside (Up f n) := HR.out.1 rfl
        clear ER HR
        go_wp2_with fail
        exact bodyPost_ret (v := .tuple #[.bool true, .bool true]) (by simp [results, Try.results12, go_sem]) rfl ⟨RightOut.yes ⟨⟨by omega, by omega⟩, UP.out⟩, G2.out⟩

end Go.Proofs.Ytlocnkoeffoflaa
