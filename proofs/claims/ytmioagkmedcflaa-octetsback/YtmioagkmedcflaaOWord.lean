/- The document's Word of layer 10. -/
import Derived.Test.YtmioagkmedcflaaORef
namespace Go.Proofs.Ytmioagkmedcflaa
open Go.RowKit
set_option linter.unusedVariables false

/-- The bytes of a text. -/
def strB (s : ByteArray) (j : Nat) : Int := if h : j < s.size then ((s[j]'h).toNat : Int) else 0
/-- What Word answers. -/
def WordR (T : TypeId) (w : World) (p : Nat) (S : Nat → Prop) (f : Nat → Int) (m : Nat) (s : ByteArray) (e : Ending) (w' : World) : Prop :=
  (m < s.size ∧ e = .returned (.int .i64 100) ∧ Gw w w') ∨ (s.size ≤ m ∧ (∃ i, i < s.size ∧ f i ≠ strB s i) ∧ e = .returned (.int .i64 101) ∧ Gw w w') ∨ (s.size ≤ m ∧ (∀ i, i < s.size → f i = strB s i) ∧ e = .returned (.int .i64 0) ∧ (∃ S', RRd T w' p S' (fun i => f (s.size + i)) (m - s.size) ∧ ∀ q, S' q → S q) ∧ ∃ W v, Gw w W ∧ W.heap = w.heap ∧ w' = W.setCell ⟨p, 0, none⟩ v)
set_option maxRecDepth 10000 in
set_option maxHeartbeats 2000000 in
theorem rword_any {w : World} {p : Nat} {S : Nat → Prop} {f : Nat → Int} {m : Nat} (s : ByteArray) (hm : m ≤ 140737488355000) (h : RRd 63 w p S f m) :
    Calls Try.prog 29 #[.pointer (some ⟨p, 0, none⟩), .string s] w (WordR 63 w p S f m s) := by
  have HR : Aside (RRd 63 w p S f m) := h
  obtain ⟨bo, c, h1, hb, hc, hp, hS⟩ := h.blk
  obtain ⟨c0, f0⟩ := rd_cell h1
  have pl : p < w.heap.size := (Array.getElem?_eq_some_iff.1 h1).1
  have HB : Aside (BS w bo m f) := hb
  by_cases km : m < s.size
  · have t0 : (m : Int) < (s.size : Int) := by omega
    clear h h1 hb hp hS
    go_enter Try.func29, Try.ntmps29
    go_wp2_with fail
    go_ret
    exact .inl ⟨km, rfl, Gw.refl w⟩
  · have t0 : ¬ (m : Int) < (s.size : Int) := by omega
    have hs : s.size ≤ 140737488355000 := by omega
    have H1 : Aside (w.heap[p]? = some (.cells #[.slice bo m c] 63 (0, 0)) ∧ (∀ a, bo = some a → a.block ≠ p ∨ m = 0) ∧ ∀ q, S q ↔ q = p ∨ ∃ a, bo = some a ∧ q = a.block ∧ 0 < m) := ⟨h1, hp, hS⟩
    clear h h1 hb hp hS
    go_enter Try.func29, Try.ntmps29
    go_wp2_with fail
    go_loopg [5] s.size (fun gg s5 wr => ∃ j : Nat, s5 = .int .i64 (j : Int) ∧ j ≤ s.size ∧ s.size - j ≤ gg ∧ Aside (∀ i, i < j → f i = strB s i) ∧ Aside (Gw w wr ∧ wr.heap = w.heap))
    case atStart => exact ⟨0, rfl, Nat.zero_le _, by omega, (show Aside _ from fun i hi => absurd hi (by omega)), (show Aside _ from ⟨Gw.refl w, rfl⟩)⟩
    case round =>
      obtain ⟨j, rfl, a1, a2, EQ, GJ⟩ := hrel
      obtain ⟨wS, hwS⟩ : ∃ wx, wx = wr := ⟨_, rfl⟩
      subst hwS
      have d0 : wS.cell? ⟨p, 0, none⟩ = some (.slice bo m c) := (GJ.out.1.cell _ _ pl).trans c0
      have plS : p < wS.heap.size := by rw [GJ.out.2]; exact pl
      by_cases hlt : j < s.size
      · obtain ⟨bb, of, rfl, hbb, hbc⟩ := HB.out.cells (by omega)
        have d1 : wS.cell? ⟨bb, of + j, none⟩ = some (.int .u8 (f j)) := (GJ.out.1.cell _ _ hbb).trans (hbc j (by omega))
        have jm : j < m := by omega
        have jm' : (j : Int) < (m : Int) := by omega
        have jk' : (j : Int) < (s.size : Int) := by omega
        have SV : Aside (strB s j = ((s[j]'hlt).toNat : Int)) := by show strB s j = _; unfold strB; rw [dif_pos hlt]
        obtain ⟨y, hy⟩ : ∃ y, f j = y := ⟨_, rfl⟩
        have Y : Aside (f j = y) := hy
        rw [hy] at d1
        by_cases q : y = ((s[j]'hlt).toNat : Int)
        · have t1 : (y != ((s[j]'hlt).toNat : Int)) = false := by simp [bne, q]
          have E9 : Aside (∀ i, i < j + 1 → f i = strB s i) := fun i hi => by
            by_cases e : i = j
            · rw [e, Y.out, SV.out]; exact q
            · exact EQ.out i (by omega)
          have G9 : Aside (∀ nn, Gw w (wS.drewN nn) ∧ (wS.drewN nn).heap = w.heap) := fun nn => ⟨GJ.out.1.drewN nn, GJ.out.2⟩
          clear hbc hy q EQ GJ
          go_wp2_with fail
          go_quiet (fail)
          go_wp2_with fail
          go_roundg (s.size - (j + 1))
          case measure => omega
          case rel => exact ⟨j + 1, by go_num, by omega, Nat.le_refl _, E9, (show Aside _ from G9.out _)⟩
        · have t1 : (y != ((s[j]'hlt).toNat : Int)) = true := by simp [bne, q]
          have N9 : Aside (∃ i, i < s.size ∧ f i ≠ strB s i) := ⟨j, hlt, by rw [Y.out, SV.out]; exact q⟩
          clear hbc hy q EQ
          go_wp2_with fail
          go_quiet (fail)
          go_wp2_with fail
          go_ret
          exact .inr (.inl ⟨by omega, N9.out, rfl, GJ.out.1.drewN _⟩)
      · have ej : j = s.size := by omega
        have E9 : Aside (∀ i, i < s.size → f i = strB s i) := by rw [← ej]; exact EQ
        have f9 : wS.frozen? ⟨p, 0, none⟩ = false := by
          have := (rd_cell (by rw [GJ.out.2]; exact H1.out.1 : wS.heap[p]? = some (.cells #[.slice bo m c] 63 (0, 0)))).2
          exact this
        have hS9 : wS.heap[p]? = some (.cells #[.slice bo m c] 63 (0, 0)) := by rw [GJ.out.2]; exact H1.out.1
        have hB9 := HB.out.gw GJ.out.1
        obtain ⟨k, hk⟩ : ∃ k, s.size = k := ⟨_, rfl⟩
        have KS9 : Aside (s.size = k) := hk
        rw [hk] at ej km t0
        subst ej
        have jle : j ≤ m := by omega
        have FIN : Aside (∀ (bo' : Option Addr) (c' : Nat), m - j ≤ c' → (0 < m - j → ∃ b off, bo = some ⟨b, off, none⟩ ∧ bo' = some ⟨b, off + j, none⟩) → (∀ a, bo' = some a → ∃ a', bo = some a' ∧ a.block = a'.block) → WordR 63 w p S f m s (.returned (.int .i64 0)) (wS.setCell ⟨p, 0, none⟩ (.slice bo' (m - j) c'))) := fun bo' c' x1 x2 x3 => by
          refine .inr (.inr ⟨by rw [KS9.out]; exact jle, E9.out, rfl, ?_, wS, _, GJ.out.1, GJ.out.2, rfl⟩)
          rw [KS9.out]
          exact RRd.cut (k := j) hS9 hB9 H1.out.2.1 H1.out.2.2 jle x1 x2 x3
        by_cases cj : c = j
        · have mj : m = j := by omega
          subst mj
          subst cj
          have L9 := FIN.out bo 0 (by omega) (fun h => by omega) (fun a e => ⟨a, e, rfl⟩)
          rw [Nat.sub_self] at L9
          have L10 : Aside (WordR 63 w p S f c s (.returned (.int .i64 0)) (wS.setCell ⟨p, 0, none⟩ (.slice bo 0 0))) := L9
          clear a1 a2 EQ hlt FIN hS9 hB9 L9
          go_wp2_with fail
          go_ret
          exact L10.out
        · have cj' : ¬ j = c := fun e => cj e.symm
          have L10 : Aside (WordR 63 w p S f m s (.returned (.int .i64 0)) (wS.setCell ⟨p, 0, none⟩ (.slice (Option.map (fun x => x.add j) bo) (m - j) (c - j)))) := FIN.out _ _ (by omega) (fun h => by
              obtain ⟨b, off, e, _⟩ := hB9.cells (by omega)
              exact ⟨b, off, e, by rw [e]; simp [Addr.add_lit]⟩) (fun a e => by
              cases hbo : bo with
              | none => rw [hbo] at e; cases e
              | some a' =>
                rw [hbo] at e
                have e' : a'.add j = a := by simpa using e
                exact ⟨a', rfl, by rw [← e']; unfold Addr.add; split <;> rfl⟩)
          have ji : (j : Int) ≤ (m : Int) := by omega
          clear a1 a2 EQ hlt FIN hS9 hB9
          go_wp2_with fail
          all_goals go_ret
          all_goals exact L10.out

end Go.Proofs.Ytmioagkmedcflaa
