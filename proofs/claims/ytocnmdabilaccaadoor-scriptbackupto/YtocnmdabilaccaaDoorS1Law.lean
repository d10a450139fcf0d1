/- Layer 21's statements' own: same, copied; what is asked of package script. -/
import Derived.Test.YtocnmdabilaccaaDoorS1Ref7
import Derived.Test.YtocnmdabilaccaaDoorS2Tab
import Derived.Test.YtocnmdabilaccaaDoorHStep
namespace Go.Proofs.YtocnmdabilaccaaDoor
open Go.RowKit
set_option linter.unusedVariables false
/-- What is asked of package script. -/
structure ScriptC : Prop where
  parse : ∀ (t : List UInt8) (w : World), t.length ≤ 2000000 → Calls Tryd.prog 10 #[.string (Bs t)] w fun e w' => ParO w w' e (parse t) ∧ Gw w w'
  print : ∀ (ao : Option Addr) (cp : Nat) (L : List Cd) (w : World), L.length ≤ 2000000 → (∀ c ∈ L, c.nums.length ≤ 2000000) → CS w ao L → Tab w → Calls Tryd.prog 14 #[.slice ao L.length cp] w fun e w' => e = .returned (.tuple #[.string (Bs (print L).1), .int .i64 (print L).2]) ∧ Gw w w'
  op : ∀ (c : Cd) (bo : Option Addr) (cp : Nat) (w : World), c.nums.length ≤ 2000000 → KS w bo c.nums.length (fun j => c.nums.getD j 0) → Calls Tryd.prog 16 #[.agg #[.string (Bs c.word), .slice bo c.nums.length cp]] w fun e w' => e = opR (opOf c) ∧ Gw w w'
  tell : ∀ (kind okey oval code : Int) (is : Bool) (key value num : Int) (ao : Option Addr) (cp : Nat) (l : List (Int × Int)) (w : World), l.length ≤ 2000000 → PS2 w ao l → -9223372036854775808 ≤ code → code < 9223372036854775808 → 0 ≤ key → key < 18446744073709551616 → 0 ≤ value → value < 18446744073709551616 → -9223372036854775808 ≤ num → num < 9223372036854775808 → Tab w →
    Calls Tryd.prog 18 #[opw kind okey oval, anw code is key value num ao l.length cp] w fun e w' => e = .returned (.string (Bs (tellOf kind code is key value num l))) ∧ Gw w w'
set_option maxRecDepth 100000 in
set_option maxHeartbeats 8000000 in
theorem same21 (ao bo : Option Addr) (ca cb : Nat) (L : List Cd) (hl : L.length ≤ 2000000) (hn : ∀ c ∈ L, c.nums.length ≤ 2000000) (w : World) (ha : CS w ao L) (hb : CS w bo L) :
    Calls Tryd.prog 12 #[.slice ao L.length ca, .slice bo L.length cb] w fun e w' => e = .returned (.bool true) ∧ Gw w w' := by
  have EA : Hid (CS w ao L) := ha
  have EB : Hid (CS w bo L) := hb
  have HN : Hid (∀ c ∈ L, c.nums.length ≤ 2000000) := hn
  obtain ⟨n, hln⟩ : ∃ n, L.length = n := ⟨_, rfl⟩
  have LN : Aside (L.length = n) := hln
  rw [hln] at hl ⊢
  clear ha hb hln hn
  go_enter Tryd.func12, Tryd.ntmps12
  go_wp2_with fail
  go_loopg [5] n (fun gg s5 wr => ∃ i : Nat, s5 = .int .i64 i ∧ i ≤ n ∧ n - i ≤ gg ∧ Hid (Gw w wr))
  case atStart => exact ⟨0, rfl, Nat.zero_le _, by omega, Gw.refl w⟩
  case round =>
    obtain ⟨i, rfl, h1, h2, G⟩ := hrel
    by_cases ilt : i < n
    · have il : i < L.length := by rw [LN.out]; exact ilt
      obtain ⟨c, hc⟩ : ∃ c, L[i]? = some c := ⟨L[i], List.getElem?_eq_getElem il⟩
      have ilt' : (i : Int) < (n : Int) := by omega
      have CELL : Hid (∀ W, Gw w W → ∃ (ab af : Nat) (ko : Option Addr) (kc : Nat) (bb bf : Nat) (lo : Option Addr) (lc : Nat), ao = some ⟨ab, af, none⟩ ∧ bo = some ⟨bb, bf, none⟩ ∧ W.cell? ⟨ab, af + i * 2, none⟩ = some (.string (Bs c.word)) ∧ W.cell? ⟨ab, af + i * 2 + 1, none⟩ = some (.slice ko c.nums.length kc) ∧ KS W ko c.nums.length (fun j => c.nums.getD j 0) ∧ W.cell? ⟨bb, bf + i * 2, none⟩ = some (.string (Bs c.word)) ∧ W.cell? ⟨bb, bf + i * 2 + 1, none⟩ = some (.slice lo c.nums.length lc) ∧ KS W lo c.nums.length (fun j => c.nums.getD j 0)) := fun W g => by
        obtain ⟨ab, af, e1, _, hac⟩ := (EA.out.gw g).cells (by omega)
        obtain ⟨bb, bf, e2, _, hbc⟩ := (EB.out.gw g).cells (by omega)
        obtain ⟨ko, kc, a1, a2, a3, _⟩ := hac i c hc
        obtain ⟨lo, lc, b1, b2, b3, _⟩ := hbc i c hc
        exact ⟨ab, af, ko, kc, bb, bf, lo, lc, e1, e2, a1, a2, a3, b1, b2, b3⟩
      have nb := HN.out c (List.mem_of_getElem? hc)
      obtain ⟨ab, af, ko, kc, bb, bf, lo, lc, rfl, rfl, a1, a2, _, b1, b2, _⟩ := CELL.out wr G.out
      obtain ⟨cw, hcw⟩ : ∃ cw, c.word = cw := ⟨_, rfl⟩
      rw [hcw] at a1 b1
      obtain ⟨m, hm⟩ : ∃ m, c.nums.length = m := ⟨_, rfl⟩
      rw [hm] at a2 b2 nb
      have CM : Aside (c.nums.length = m) := hm
      obtain ⟨wI, hwI⟩ : ∃ wI, wI = wr := ⟨_, rfl⟩
      subst hwI
      clear hc hcw hm
      go_wp2_with fail
      go_quiet (fail)
      go_wp2_with fail
      go_loopg [6] m (fun gg s6 wr => ∃ k : Nat, s6 = .int .i64 k ∧ k ≤ m ∧ m - k ≤ gg ∧ Hid (Gw wI wr))
      case atStart => exact ⟨0, rfl, Nat.zero_le _, by omega, (Gw.refl wI).drewN _⟩
      case round =>
        obtain ⟨k, rfl, k1, k2, G2⟩ := hrel
        have G3 : Hid (Gw w wr) := G.out.trans G2.out
        obtain ⟨ab', af', ko, kc, bb', bf', lo, lc, e1, e2, _, a2, a3, _, b2, b3⟩ := CELL.out wr G3.out
        cases e1
        cases e2
        rw [CM.out] at a2 a3 b2 b3
        by_cases klt : k < m
        · have klt' : (k : Int) < (m : Int) := by omega
          obtain ⟨kb, kf, rfl, _, ka⟩ := a3.cells (by omega)
          obtain ⟨lb, lf, rfl, _, la⟩ := b3.cells (by omega)
          have x1 := ka k klt
          have x2 := la k klt
          try simp only at x1 x2
          generalize c.nums.getD k 0 = x at x1 x2
          clear ka la a3 b3
          go_wp2_with fail
          go_quiet (fail)
          go_wp2_with fail
          go_roundg (m - (k + 1))
          case measure => omega
          case rel => exact ⟨k + 1, by go_num, by omega, Nat.le_refl _, G2.out.drewN _⟩
        · clear a3 b3
          go_wp2_with fail
          go_roundg (n - (i + 1))
          case measure => omega
          case rel => exact ⟨i + 1, by go_num, by omega, Nat.le_refl _, G3⟩
    · go_wp2_with fail
      go_ret
      exact ⟨rfl, G.out⟩
end Go.Proofs.YtocnmdabilaccaaDoor
