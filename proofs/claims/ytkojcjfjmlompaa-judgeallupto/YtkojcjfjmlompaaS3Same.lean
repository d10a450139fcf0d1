/- Layer 23: lists that are the same. -/
import Derived.Test.YtkojcjfjmlompaaS3Mem
import Derived.BigQuiet
namespace Go.Proofs.Ytkojcjfjmlompaa
open Go.RowKit
set_option linter.unusedVariables false

/-- A list to be read: m cells an element. -/
structure LsR {α : Type} (m : Nat) (f : α → List Value) (w : World) (ao : Option Addr) (l : List α) : Prop where
  cells : 0 < l.length → ∃ b off, ao = some ⟨b, off, none⟩ ∧ b < w.heap.size ∧ ∀ (i : Nat) (x : α), l[i]? = some x → ∀ (j : Nat) (u : Value), (f x)[j]? = some u → w.cell? ⟨b, off + i * m + j, none⟩ = some u
theorem LsR.gw {α : Type} {m : Nat} {f : α → List Value} {w w' : World} {ao : Option Addr} {l : List α} (h : LsR m f w ao l) (g : Gw w w') : LsR m f w' ao l :=
  ⟨fun h0 => by
    obtain ⟨b, off, e, hb, hc⟩ := h.cells h0
    exact ⟨b, off, e, Nat.lt_of_lt_of_le hb g.size, fun i x hx j u hu => (g.cell _ _ hb).trans (hc i x hx j u hu)⟩⟩
theorem LsR.keep {α : Type} {m : Nat} {f : α → List Value} {w w' : World} {ao : Option Addr} {l : List α} (h : LsR m f w ao l) (sz : w.heap.size ≤ w'.heap.size) (k : ∀ a, ao = some a → 0 < l.length → w'.heap[a.block]? = w.heap[a.block]?) : LsR m f w' ao l :=
  ⟨fun h0 => by
    obtain ⟨b, off, e, hb, hc⟩ := h.cells h0
    have kb := k _ e h0
    exact ⟨b, off, e, Nat.lt_of_lt_of_le hb sz, fun i x hx j u hu => (World.cell?_of_block (a := ⟨b, off + i * m + j, none⟩) kb).trans (hc i x hx j u hu)⟩⟩
abbrev PLr := LsR 2 pc2
def nc1 (x : Int) : List Value := [.int .i64 x]
abbrev NLr := LsR 1 nc1
def fc2 (p : Int × Int) : List Value := [.int .i64 p.1, .int .i64 p.2]
abbrev FLr := LsR 2 fc2
/-- A row of one's own, read. -/
theorem row_ls {w : World} {base : Nat} {bo : Option Addr} {c : Nat} {l : Ps} (h : w.ownsRow base 44 2 (.slice bo l.length c) l.length (pcs l)) : PLr w bo l :=
  ⟨fun h0 => by
    obtain ⟨bo', c', e, _, _, AT⟩ := row_shape h
    cases e
    obtain ⟨g, e, gl, _⟩ := AT 0 l[0] (List.getElem?_eq_getElem h0)
    refine ⟨g, 0, e, gl, fun i x hx j u hu => ?_⟩
    obtain ⟨g', e', _, _, k0, k1, _⟩ := AT i x hx
    rw [e] at e'
    cases e'
    rw [Nat.zero_add]
    match j, hu with
    | 0, hu => simp [pc2] at hu; rw [← hu]; exact k0
    | 1, hu => simp [pc2] at hu; rw [← hu]; exact k1
    | j + 2, hu => simp [pc2] at hu⟩
set_option maxRecDepth 10000 in
set_option maxHeartbeats 4000000 in
theorem spairs23 (ao bo : Option Addr) (ca cb : Nat) (l : List (Int × Int)) (hn : l.length ≤ 4000000) (w : World) (ha : PLr w ao l) (hb : PLr w bo l) :
    Calls Try.prog 13 #[.slice ao l.length ca, .slice bo l.length cb] w fun e w' => e = .returned (.bool true) ∧ Gw w w' := by
  have EA : Aside _ := ha
  have EB : Aside _ := hb
  obtain ⟨n, hln⟩ : ∃ n, l.length = n := ⟨_, rfl⟩
  have LN : Aside _ := hln
  rw [hln] at hn ⊢
  clear ha hb hln
  go_enter Try.func13, Try.ntmps13
  go_wp2_with fail
  go_loopg [5] n (fun gg s5 wr => ∃ i : Nat, s5 = .int .i64 i ∧ i ≤ n ∧ n - i ≤ gg ∧ Aside (Gw w wr))
  case atStart => exact ⟨0, rfl, Nat.zero_le _, by omega, (show Aside _ from Gw.refl w)⟩
  case round =>
    obtain ⟨i, rfl, h1, h2, G⟩ := hrel
    by_cases hlt : i < n
    · obtain ⟨ab, af, rfl, hab, hac⟩ := (EA.out.gw G.out).cells (by rw [LN.out]; omega)
      obtain ⟨bb, bf, rfl, hbb, hbc⟩ := (EB.out.gw G.out).cells (by rw [LN.out]; omega)
      obtain ⟨x, hx⟩ : ∃ x, l[i]? = some x := ⟨l[i]'(by rw [LN.out]; exact hlt), List.getElem?_eq_getElem _⟩
      have hlt' : (i : Int) < (n : Int) := by omega
      obtain ⟨xk, xv⟩ := x
      have c0 := hac i _ hx 0 _ rfl
      have c1 := hac i _ hx 1 _ rfl
      have d0 := hbc i _ hx 0 _ rfl
      have d1 := hbc i _ hx 1 _ rfl
      dsimp only at c0 c1 d0 d1
      rw [Nat.add_zero] at c0 d0
      clear hac hbc hx
      go_wp2_with fail
      go_quiet (fail)
      go_wp2_with fail
      go_roundg (n - (i + 1))
      case measure => omega
      case rel => exact ⟨i + 1, by go_num, by omega, Nat.le_refl _, (show Aside _ from G.out.drewN _)⟩
    · go_wp2_with fail
      go_ret
      exact ⟨rfl, G.out⟩
set_option maxRecDepth 10000 in
set_option maxHeartbeats 4000000 in
theorem snums23 (ao bo : Option Addr) (ca cb : Nat) (l : List (Int)) (hn : l.length ≤ 4000000) (w : World) (ha : NLr w ao l) (hb : NLr w bo l) :
    Calls Try.prog 12 #[.slice ao l.length ca, .slice bo l.length cb] w fun e w' => e = .returned (.bool true) ∧ Gw w w' := by
  have EA : Aside _ := ha
  have EB : Aside _ := hb
  obtain ⟨n, hln⟩ : ∃ n, l.length = n := ⟨_, rfl⟩
  have LN : Aside _ := hln
  rw [hln] at hn ⊢
  clear ha hb hln
  go_enter Try.func12, Try.ntmps12
  go_wp2_with fail
  go_loopg [5] n (fun gg s5 wr => ∃ i : Nat, s5 = .int .i64 i ∧ i ≤ n ∧ n - i ≤ gg ∧ Aside (Gw w wr))
  case atStart => exact ⟨0, rfl, Nat.zero_le _, by omega, (show Aside _ from Gw.refl w)⟩
  case round =>
    obtain ⟨i, rfl, h1, h2, G⟩ := hrel
    by_cases hlt : i < n
    · obtain ⟨ab, af, rfl, hab, hac⟩ := (EA.out.gw G.out).cells (by rw [LN.out]; omega)
      obtain ⟨bb, bf, rfl, hbb, hbc⟩ := (EB.out.gw G.out).cells (by rw [LN.out]; omega)
      obtain ⟨x, hx⟩ : ∃ x, l[i]? = some x := ⟨l[i]'(by rw [LN.out]; exact hlt), List.getElem?_eq_getElem _⟩
      have hlt' : (i : Int) < (n : Int) := by omega
      have c0 := hac i _ hx 0 _ rfl
      have d0 := hbc i _ hx 0 _ rfl
      rw [Nat.add_zero, Nat.mul_one] at c0 d0
      clear hac hbc hx
      go_wp2_with fail
      go_quiet (fail)
      go_wp2_with fail
      go_roundg (n - (i + 1))
      case measure => omega
      case rel => exact ⟨i + 1, by go_num, by omega, Nat.le_refl _, (show Aside _ from G.out.drewN _)⟩
    · go_wp2_with fail
      go_ret
      exact ⟨rfl, G.out⟩
set_option maxRecDepth 10000 in
set_option maxHeartbeats 4000000 in
theorem sfaults23 (ao bo : Option Addr) (ca cb : Nat) (l : List (Int × Int)) (hn : l.length ≤ 8000000) (w : World) (ha : FLr w ao l) (hb : FLr w bo l) :
    Calls Try.prog 17 #[.slice ao l.length ca, .slice bo l.length cb] w fun e w' => e = .returned (.bool true) ∧ Gw w w' := by
  have EA : Aside _ := ha
  have EB : Aside _ := hb
  obtain ⟨n, hln⟩ : ∃ n, l.length = n := ⟨_, rfl⟩
  have LN : Aside _ := hln
  rw [hln] at hn ⊢
  clear ha hb hln
  go_enter Try.func17, Try.ntmps17
  go_wp2_with fail
  go_loopg [5] n (fun gg s5 wr => ∃ i : Nat, s5 = .int .i64 i ∧ i ≤ n ∧ n - i ≤ gg ∧ Aside (Gw w wr))
  case atStart => exact ⟨0, rfl, Nat.zero_le _, by omega, (show Aside _ from Gw.refl w)⟩
  case round =>
    obtain ⟨i, rfl, h1, h2, G⟩ := hrel
    by_cases hlt : i < n
    · obtain ⟨ab, af, rfl, hab, hac⟩ := (EA.out.gw G.out).cells (by rw [LN.out]; omega)
      obtain ⟨bb, bf, rfl, hbb, hbc⟩ := (EB.out.gw G.out).cells (by rw [LN.out]; omega)
      obtain ⟨x, hx⟩ : ∃ x, l[i]? = some x := ⟨l[i]'(by rw [LN.out]; exact hlt), List.getElem?_eq_getElem _⟩
      have hlt' : (i : Int) < (n : Int) := by omega
      obtain ⟨xk, xv⟩ := x
      have c0 := hac i _ hx 0 _ rfl
      have c1 := hac i _ hx 1 _ rfl
      have d0 := hbc i _ hx 0 _ rfl
      have d1 := hbc i _ hx 1 _ rfl
      dsimp only at c0 c1 d0 d1
      rw [Nat.add_zero] at c0 d0
      clear hac hbc hx
      go_wp2_with fail
      go_quiet (fail)
      go_wp2_with fail
      go_roundg (n - (i + 1))
      case measure => omega
      case rel => exact ⟨i + 1, by go_num, by omega, Nat.le_refl _, (show Aside _ from G.out.drewN _)⟩
    · go_wp2_with fail
      go_ret
      exact ⟨rfl, G.out⟩
set_option maxRecDepth 10000 in
set_option maxHeartbeats 4000000 in
/-- The document's: told of any two lists. -/
theorem rsame23 (ao bo : Option Addr) (ca cb : Nat) (l m : Ps) (hn : l.length ≤ 4000000) (hm : m.length ≤ 4000000) (w : World) (ha : PLr w ao l) (hb : PLr w bo m) :
    Calls Try.prog 22 #[.slice ao l.length ca, .slice bo m.length cb] w fun e w' => e = .returned (.bool (decide (l = m))) ∧ Gw w w' := by
  have EA : Aside _ := ha
  have EB : Aside _ := hb
  by_cases hlm : l.length = m.length
  · rw [← hlm]
    have ML : Aside (m.length = l.length) := hlm.symm
    obtain ⟨n, hln⟩ : ∃ n, l.length = n := ⟨_, rfl⟩
    have LN : Aside (l.length = n) := hln
    rw [hln] at hn ⊢
    clear ha hb hln hlm hm
    go_enter Try.func22, Try.ntmps22
    go_wp2_with fail
    go_loopg [5] n (fun gg s5 wr => ∃ i : Nat, s5 = .int .i64 i ∧ i ≤ n ∧ n - i ≤ gg ∧ Aside (l.take i = m.take i) ∧ Aside (Gw w wr))
    case atStart => exact ⟨0, rfl, Nat.zero_le _, by omega, (show Aside _ from by simp [Aside]), (show Aside _ from Gw.refl w)⟩
    case round =>
      obtain ⟨i, rfl, h1, h2, TE, G⟩ := hrel
      by_cases hlt : i < n
      · obtain ⟨ab, af, rfl, hab, hac⟩ := (EA.out.gw G.out).cells (by rw [LN.out]; omega)
        obtain ⟨bb, bf, rfl, hbb, hbc⟩ := (EB.out.gw G.out).cells (by rw [ML.out, LN.out]; omega)
        obtain ⟨x, hx⟩ : ∃ x, l[i]? = some x := ⟨l[i]'(by rw [LN.out]; exact hlt), List.getElem?_eq_getElem _⟩
        obtain ⟨y, hy⟩ : ∃ y, m[i]? = some y := ⟨m[i]'(by rw [ML.out, LN.out]; exact hlt), List.getElem?_eq_getElem _⟩
        have hlt' : (i : Int) < (n : Int) := by omega
        have NX : Aside (x = y → l.take (i + 1) = m.take (i + 1)) := fun e => by rw [List.take_add_one, List.take_add_one, hx, hy, e, TE.out]
        have NE : Aside (x ≠ y → l ≠ m) := fun e q => by rw [q, hy] at hx; exact e (Option.some.inj hx).symm
        obtain ⟨xk, xv⟩ := x
        obtain ⟨yk, yv⟩ := y
        have c0 := hac i _ hx 0 _ rfl
        have c1 := hac i _ hx 1 _ rfl
        have d0 := hbc i _ hy 0 _ rfl
        have d1 := hbc i _ hy 1 _ rfl
        dsimp only at c0 c1 d0 d1
        rw [Nat.add_zero] at c0 d0
        clear hac hbc hx hy
        by_cases q1 : xk = yk
        · subst q1
          by_cases q2 : xv = yv
          · subst q2
            have NX' : Aside (l.take (i + 1) = m.take (i + 1)) := NX.out rfl
            go_wp2_with fail
            go_quiet (fail)
            go_wp2_with fail
            go_roundg (n - (i + 1))
            case measure => omega
            case rel => exact ⟨i + 1, by go_num, by omega, Nat.le_refl _, NX', (show Aside _ from G.out.drewN _)⟩
          · have q2' : ((xv : Int) == yv) = false := by simpa using q2
            have NQ : Aside (l ≠ m) := NE.out (fun e => q2 (by cases e; rfl))
            go_wp2_with fail
            go_quiet (fail)
            go_wp2_with fail
            refine bodyPost_ret (v := .bool false) (by simp [results, Try.results22, go_sem]) rfl ⟨by rw [decide_eq_false NQ.out], G.out.drewN _⟩
        · have q1' : ((xk : Int) == yk) = false := by simpa using q1
          have NQ : Aside (l ≠ m) := NE.out (fun e => q1 (by cases e; rfl))
          go_wp2_with fail
          go_quiet (fail)
          go_wp2_with fail
          refine bodyPost_ret (v := .bool false) (by simp [results, Try.results22, go_sem]) rfl ⟨by rw [decide_eq_false NQ.out], G.out.drewN _⟩
      · have E : Aside (l = m) := by
          have := TE.out
          rw [List.take_of_length_le (by rw [LN.out]; omega), List.take_of_length_le (by rw [ML.out, LN.out]; omega)] at this
          exact this
        go_wp2_with fail
        refine bodyPost_ret (v := .bool true) (by simp [results, Try.results22, go_sem]) rfl ⟨by rw [decide_eq_true E.out], G.out⟩
  · have NQ : Aside (l ≠ m) := fun e => hlm (by rw [e])
    have ne : ((l.length : Int) == (m.length : Int)) = false := by simp; omega
    clear ha hb EA EB hlm
    go_enter Try.func22, Try.ntmps22
    go_wp2_with fail
    refine bodyPost_ret (v := .bool false) (by simp [results, Try.results22, go_sem]) rfl ⟨by rw [decide_eq_false NQ.out], Gw.refl w⟩
end Go.Proofs.Ytkojcjfjmlompaa
