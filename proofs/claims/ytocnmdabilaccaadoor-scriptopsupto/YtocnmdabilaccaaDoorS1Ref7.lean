/- The document's layer 21: the operation of a command. -/
import Derived.Test.YtocnmdabilaccaaDoorS1Ref6
namespace Go.Proofs.YtocnmdabilaccaaDoor
open Go.RowKit
set_option linter.unusedVariables false

def words7 : List (List UInt8) := [wPut, wDel, wGet, wFloor, wCeil, wRank, wRange]
theorem op_hit {c : Cd} {i : Nat} {x : List UInt8} (h : words7[i]? = some x) (e : x = c.word) (t : takes c.word = (c.nums.length : Int)) : opOf c = (true, (i : Int) + 1, c.nums.getD 0 0, c.nums.getD 1 0) := by
  have hi := (List.getElem?_eq_some_iff.1 h).1
  have k : kindOf c.word = (i : Int) + 1 := by
    rw [← e]
    match i, h with
    | 0, h => cases h; decide
    | 1, h => cases h; decide
    | 2, h => cases h; decide
    | 3, h => cases h; decide
    | 4, h => cases h; decide
    | 5, h => cases h; decide
    | 6, h => cases h; decide
    | i + 7, h => simp [words7] at hi; omega
  unfold opOf
  rw [if_neg (by rw [k]; rintro (q | q); omega; exact q t), k]
theorem op_miss {c : Cd} (h : ∀ (i : Nat) (x : List UInt8), words7[i]? = some x → ¬ (x = c.word ∧ takes c.word = (c.nums.length : Int))) : opOf c = (false, 0, 0, 0) := by
  unfold opOf
  rw [if_pos]
  by_cases t : takes c.word = (c.nums.length : Int)
  · left
    have n : ∀ (i : Nat) (x : List UInt8), words7[i]? = some x → c.word ≠ x := fun i x hx e => h i x hx ⟨e.symm, t⟩
    unfold kindOf
    rw [if_neg (n 0 _ rfl), if_neg (n 1 _ rfl), if_neg (n 2 _ rfl), if_neg (n 3 _ rfl), if_neg (n 4 _ rfl), if_neg (n 5 _ rfl), if_neg (n 6 _ rfl)]
  · exact .inr t
theorem op_nums {c : Cd} {i : Nat} {x : List UInt8} (h : words7[i]? = some x) (e : x = c.word) (t : takes c.word = (c.nums.length : Int)) : c.nums.length = 1 ∨ c.nums.length = 2 := by
  have hi := (List.getElem?_eq_some_iff.1 h).1
  have k : takes c.word = 1 ∨ takes c.word = 2 := by
    rw [← e]
    match i, h with
    | 0, h => cases h; decide
    | 1, h => cases h; decide
    | 2, h => cases h; decide
    | 3, h => cases h; decide
    | 4, h => cases h; decide
    | 5, h => cases h; decide
    | 6, h => cases h; decide
    | i + 7, h => simp [words7] at hi; omega
  omega
/-- What Op answers. -/
def opR (r : Bool × Int × Int × Int) : Ending := .returned (.tuple #[opw r.2.1 r.2.2.1 r.2.2.2, .bool r.1])
theorem box3w {b : Nat} {w : World} {x y z : Value} {t : TypeId} (h : w.heap[b]? = some (.cells #[x, y, z] t (0, 0))) (u v s : Value) :
    (((w.setCell ⟨b, 0, none⟩ u).setCell ⟨b, 1, none⟩ v).setCell ⟨b, 2, none⟩ s).heap[b]? = some (.cells #[u, v, s] t (0, 0)) := by
  have h1 : (w.setCell ⟨b, 0, none⟩ u).heap[b]? = some (.cells #[u, y, z] t (0, 0)) := by simp [World.setCell, Array.getElem?_modify, h]
  generalize w.setCell ⟨b, 0, none⟩ u = w1 at h1
  have h2 : (w1.setCell ⟨b, 1, none⟩ v).heap[b]? = some (.cells #[u, v, z] t (0, 0)) := by simp [World.setCell, Array.getElem?_modify, h1]
  generalize w1.setCell ⟨b, 1, none⟩ v = w2 at h2
  simp [World.setCell, Array.getElem?_modify, h2]
set_option maxRecDepth 100000 in
set_option maxHeartbeats 8000000 in
theorem op21 (c : Cd) (bo : Option Addr) (cp : Nat) (hn : c.nums.length ≤ 2000000) (w : World) (h : KS w bo c.nums.length (fun j => c.nums.getD j 0)) :
    Calls Tryd.prog 17 #[.agg #[.string (Bs c.word), .slice bo c.nums.length cp]] w fun e w' => e = opR (opOf c) ∧ Gw w w' := by
  obtain ⟨m, hm⟩ : ∃ m, c.nums.length = m := ⟨_, rfl⟩
  have CM : Aside (c.nums.length = m) := hm
  obtain ⟨cw, hcw⟩ : ∃ cw, c.word = cw := ⟨_, rfl⟩
  have CW : Aside (c.word = cw) := hcw
  have KH : Hid (KS w bo c.nums.length (fun j => c.nums.getD j 0)) := h
  obtain ⟨tk, htk⟩ : ∃ tk, takes cw = tk := ⟨_, rfl⟩
  have TKH : Aside (takes c.word = tk) := by show _ = _; rw [hcw]; exact htk
  have TK : Hid (∀ W, Calls Tryd.prog 31 #[.string (Bs cw)] W fun e w' => e = .returned (.int .i64 tk) ∧ w' = W) := fun W => by rw [← htk]; exact takes21 cw W
  rw [hm] at hn ⊢
  rw [hcw]
  clear h hm hcw htk
  obtain ⟨N, hN⟩ : ∃ N, w.heap.size = N := ⟨_, rfl⟩
  go_enter Tryd.func17, Tryd.ntmps17
  obtain ⟨w1, E1⟩ : ∃ W, w.alloc (.cells #[.string (Bs cw), .slice bo m cp] 30) = W := ⟨_, rfl⟩
  obtain ⟨w2, E2⟩ : ∃ W, w1.alloc (.cells #[.int .i64 0, .int .u64 0, .int .u64 0] 38) = W := ⟨_, rfl⟩
  obtain ⟨w3, E3⟩ : ∃ W, w2.alloc (.cells (words7.map fun l => .string (Bs l)).toArray 9) = W := ⟨_, rfl⟩
  obtain ⟨w0, E4⟩ : ∃ W, w3.alloc (.cells #[.int .i64 1, .int .i64 2, .int .i64 3, .int .i64 4, .int .i64 5, .int .i64 6, .int .i64 7] 3) = W := ⟨_, rfl⟩
  have z1 : w1.heap.size = N + 1 := by rw [← E1]; simp [hN]
  have z2 : w2.heap.size = N + 2 := by rw [← E2]; simp [z1]
  have z3 : w3.heap.size = N + 3 := by rw [← E3]; simp [z2]
  have z4 : w0.heap.size = N + 4 := by rw [← E4]; simp [z3]
  have g12 : Gw w1 w2 := by rw [← E2]; exact (Gw.refl _).alloc _ _
  have g23 : Gw w2 w3 := by rw [← E3]; exact (Gw.refl _).alloc _ _
  have g34 : Gw w3 w0 := by rw [← E4]; exact (Gw.refl _).alloc _ _
  have G0 : Hid (Gw w w0) := ((by rw [← E1]; exact (Gw.refl w).alloc _ _ : Gw w w1).trans g12).trans (g23.trans g34)
  have B0 : Hid (w0.heap[N]? = some (.cells #[.string (Bs cw), .slice bo m cp] 30 (0, 0))) := ((g12.trans (g23.trans g34)).below.block N (by omega)).trans (by rw [← E1, ← hN]; exact heap_alloc_new _ _)
  have B1 : Hid (w0.heap[N + 1]? = some (.cells #[.int .i64 0, .int .u64 0, .int .u64 0] 38 (0, 0))) := ((g23.trans g34).below.block (N + 1) (by omega)).trans (by rw [← E2, ← z1]; exact heap_alloc_new _ _)
  have B2 : Hid (w0.heap[N + 2]? = some (.cells (words7.map fun l => .string (Bs l)).toArray 9 (0, 0))) := (g34.below.block (N + 2) (by omega)).trans (by rw [← E3, ← z2]; exact heap_alloc_new _ _)
  have B3 : Hid (w0.heap[N + 3]? = some (.cells #[.int .i64 1, .int .i64 2, .int .i64 3, .int .i64 4, .int .i64 5, .int .i64 6, .int .i64 7] 3 (0, 0))) := by show _ = _; rw [← E4, ← z3]; exact heap_alloc_new _ _
  have ALL : Hid ((((w.alloc (.cells #[.string (Bs cw), .slice bo m cp] 30)).alloc (.cells #[.int .i64 0, .int .u64 0, .int .u64 0] 38)).alloc (.cells #[.string (Bs [112, 117, 116]), .string (Bs [100, 101, 108]), .string (Bs [103, 101, 116]), .string (Bs [102, 108, 111, 111, 114]), .string (Bs [99, 101, 105, 108]), .string (Bs [114, 97, 110, 107]), .string (Bs [114, 97, 110, 103, 101])] 9)).alloc (.cells #[.int .i64 1, .int .i64 2, .int .i64 3, .int .i64 4, .int .i64 5, .int .i64 6, .int .i64 7] 3) = w0) := by show _ = _; rw [← E4, ← E3, ← E2, ← E1]; rfl
  have Z4 : Hid (w0.heap.size = N + 4) := z4
  have WC : Hid (∀ W, Gw w0 W → ∀ i x, words7[i]? = some x → W.cell? ⟨N + 2, i, none⟩ = some (.string (Bs x)) ∧ W.cell? ⟨N + 3, i, none⟩ = some (.int .i64 ((i : Int) + 1))) := fun W g i x hx => by
    have hi := (List.getElem?_eq_some_iff.1 hx).1
    have e2 := (g.below.block (N + 2) (by omega)).trans B2.out
    have e3 := (g.below.block (N + 3) (by omega)).trans B3.out
    refine ⟨blkc e2 (by rw [List.getElem?_toArray, List.getElem?_map, hx]; rfl), blkc e3 ?_⟩
    match i, hi with
    | 0, _ => rfl
    | 1, _ => rfl
    | 2, _ => rfl
    | 3, _ => rfl
    | 4, _ => rfl
    | 5, _ => rfl
    | 6, _ => rfl
    | i + 7, hi => simp [words7] at hi; omega
  clear E1 E2 E3 E4 z1 z2 z3 z4 g12 g23 g34
  go_wp2
  rw [ALL.out]
  go_loopg [6] 7 (fun gg s6 wr => ∃ i : Nat, s6 = .int .i64 (i : Int) ∧ i ≤ 7 ∧ 7 - i ≤ gg ∧ Aside (∀ (j : Nat) (x : List UInt8), j < i → words7[j]? = some x → ¬ (x = c.word ∧ takes c.word = (c.nums.length : Int))) ∧ Hid (Gw w0 wr))
  case atStart => exact ⟨0, rfl, by omega, by omega, (fun j x h => by omega), Gw.refl w0⟩
  case round =>
    obtain ⟨i, rfl, i1, i2, MS, G⟩ := hrel
    have gz := G.out.size
    have zz := Z4.out
    by_cases ilt : i < 7
    · have ilt' : (i : Int) < 7 := by omega
      obtain ⟨x, hx⟩ : ∃ x, words7[i]? = some x := ⟨words7[i]'(by simpa [words7] using ilt), List.getElem?_eq_getElem _⟩
      obtain ⟨cx, ck⟩ := WC.out wr G.out i x hx
      have XH : Hid (words7[i]? = some x) := hx
      have b0 := (G.out.below.block N (by omega)).trans B0.out
      have a0 : wr.cell? ⟨N, 0, none⟩ = some (.string (Bs cw)) := blkc b0 rfl
      have a1 : wr.cell? ⟨N, 1, none⟩ = some (.slice bo m cp) := blkc b0 rfl
      have STEP : Hid (¬ (x = c.word ∧ takes c.word = (c.nums.length : Int)) → ∀ (j : Nat) (y : List UInt8), j < i + 1 → words7[j]? = some y → ¬ (y = c.word ∧ takes c.word = (c.nums.length : Int))) := fun q j y hj hy => by
        by_cases e : j = i
        · subst e
          rw [XH.out] at hy
          cases hy
          exact q
        · exact MS.out j y (by omega) hy
      clear hx b0
      by_cases xe : x = cw
      · have xb : (x == cw) = true := by simpa using xe
        by_cases te : tk = (m : Int)
        · have tb : (tk == (m : Int)) = true := by simpa using te
          go_wp2_with fail
          go_quiet (first | (go_at_call 31; exact Calls.quiet_of_same (TK.out _)))
          go_wp2_with fail
          have ec : x = c.word := by rw [CW.out]; exact xe
          have tc : takes c.word = (c.nums.length : Int) := by rw [TKH.out, CM.out]; exact te
          have OP : Aside (opOf c = (true, (i : Int) + 1, c.nums.getD 0 0, c.nums.getD 1 0)) := op_hit XH.out ec tc
          have m12 : m = 1 ∨ m = 2 := by have := op_nums XH.out ec tc; rw [CM.out] at this; exact this
          obtain ⟨wD, hwD⟩ : ∃ W, wr.drewN nq = W := ⟨_, rfl⟩
          have GD : Hid (Gw w0 wD) := by rw [← hwD]; exact G.out.drewN _
          rw [hwD]
          have sD := GD.out.size
          have KD := KH.out.gw (G0.out.trans GD.out)
          rw [CM.out] at KD
          obtain ⟨kb, kf, rfl, kbl, kc⟩ := KD.cells (by omega)
          have k0 := kc 0 (by omega)
          have kd := KD.bd 0 (by omega)
          obtain ⟨x0, hx0⟩ : ∃ y, c.nums.getD 0 0 = y := ⟨_, rfl⟩
          obtain ⟨x1, hx1⟩ : ∃ y, c.nums.getD 1 0 = y := ⟨_, rfl⟩
          rw [hx0, hx1] at OP
          simp only [hx0, Nat.add_zero] at k0 kd
          have K1 : Hid (m = 2 → ∀ W, Gw w0 W → W.cell? ⟨kb, kf + 1, none⟩ = some (.int .u64 x1)) := fun q W g => by
            have KW := KH.out.gw (G0.out.trans g)
            rw [CM.out] at KW
            obtain ⟨kb', kf', e', _, kc'⟩ := KW.cells (by omega)
            cases e'
            have := kc' 1 (by omega)
            simp only [hx1] at this
            exact this
          have X1 : Hid (m = 1 → x1 = 0) := fun q => by
            rw [← hx1]
            simp [List.getD, List.getElem?_eq_none (show c.nums.length ≤ 1 by rw [CM.out]; omega)]
          clear kc KD cx ck a0 a1
          obtain ⟨_, ck⟩ := WC.out wD GD.out i x XH.out
          have b0 := (GD.out.below.block N (by omega)).trans B0.out
          have a1 : wD.cell? ⟨N, 1, none⟩ = some (.slice (some ⟨kb, kf, none⟩) m cp) := blkc b0 rfl
          have m0 : (0 : Int) < (m : Int) := by omega
          have m0' : 0 < m := by omega
          have kbn : Hid (kb < N) := by
            show kb < N
            have := (KH.out.cells (by rw [CM.out]; omega))
            obtain ⟨kb', kf', e', hb', _⟩ := this
            cases e'
            omega
          clear b0 STEP te xe ec tc hx0 hx1
          have bN : N < wD.heap.size := by omega
          have bN3 : N + 3 < wD.heap.size := by omega
          have bN3' : N + 1 + 1 + 1 < wD.heap.size := by omega
          go_region
          obtain ⟨OB, hOB⟩ : ∃ OB, wD.heap.size = OB := ⟨_, rfl⟩
          obtain ⟨wE, hwE⟩ : ∃ W, (wD.alloc (.cells #[.int .i64 ((i : Int) + 1), .int .u64 x0, .int .u64 0] 38)).drew = W := ⟨_, rfl⟩
          rw [hwE, hOB]
          have gE : Gw wD wE := by rw [← hwE]; exact ((Gw.refl wD).alloc _ _).drew
          have EO : wE.heap[OB]? = some (.cells #[.int .i64 ((i : Int) + 1), .int .u64 x0, .int .u64 0] 38 (0, 0)) := by rw [← hwE, ← hOB]; exact heap_alloc_new wD _
          have GE : Hid (Gw w0 wE) := GD.out.trans gE
          have e0 := (GE.out.below.block N (by omega)).trans B0.out
          have a1' : wE.cell? ⟨N, 1, none⟩ = some (.slice (some ⟨kb, kf, none⟩) m cp) := blkc e0 rfl
          have NB := (GE.out.below.block (N + 1) (by omega)).trans B1.out
          have o0 : wE.cell? ⟨OB, 0, none⟩ = some (.int .i64 ((i : Int) + 1)) := blkc EO rfl
          have o1 : wE.cell? ⟨OB, 1, none⟩ = some (.int .u64 x0) := blkc EO rfl
          have o2 : wE.cell? ⟨OB, 2, none⟩ = some (.int .u64 0) := blkc EO rfl
          have f2 := blkf (o := 2) EO
          have bO := blkl EO
          have m00 : wE.cell? ⟨N + 1, 0, none⟩ = some (.int .i64 0) := blkc NB rfl
          have m01 : wE.cell? ⟨N + 1, 1, none⟩ = some (.int .u64 0) := blkc NB rfl
          have m02 : wE.cell? ⟨N + 1, 2, none⟩ = some (.int .u64 0) := blkc NB rfl
          have q0 := blkf (o := 0) NB
          have q1 := blkf (o := 1) NB
          have q2 := blkf (o := 2) NB
          have bl := blkl NB
          have ne : OB ≠ N + 1 := by omega
          have oN : N ≤ OB := by omega
          have EOH : Hid (wE.heap[OB]? = some (.cells #[.int .i64 ((i : Int) + 1), .int .u64 x0, .int .u64 0] 38 (0, 0))) := EO
          have NBH : Hid (wE.heap[N + 1]? = some (.cells #[.int .i64 0, .int .u64 0, .int .u64 0] 38 (0, 0))) := NB
          have kl := K1.out
          clear EO NB hwE gE e0 a1 k0 ck hwD hOB bN3 bN3'
          rcases m12 with e1 | e1
          · have x10 := X1.out e1
            subst e1 x10
            have TB := box3w NBH.out (.int .i64 ((i : Int) + 1)) (.int .u64 x0) (.int .u64 0)
            have T0 := blkc (o := 0) TB rfl
            have T1 := blkc (o := 1) TB rfl
            have T2 := blkc (o := 2) TB rfl
            have FIN : Hid (Gw w (((wE.setCell ⟨N + 1, 0, none⟩ (.int .i64 ((i : Int) + 1))).setCell ⟨N + 1, 1, none⟩ (.int .u64 x0)).setCell ⟨N + 1, 2, none⟩ (.int .u64 0))) := (((G0.out.trans GE.out).setCell (by show _ ≤ N + 1; omega) _).setCell (by show _ ≤ N + 1; omega) _).setCell (by show _ ≤ N + 1; omega) _
            clear TB kl
            go_wp2
            refine bodyPost_ret (v := .tuple #[opw ((i : Int) + 1) x0 0, .bool true]) (by simp [results, Tryd.results17, go_sem, T0, T1, T2, opw]) rfl ⟨by rw [OP.out]; rfl, FIN.out⟩
          · have k1 := kl e1 wE GE.out
            subst e1
            obtain ⟨wF, hwF⟩ : ∃ W, wE.setCell ⟨OB, 2, none⟩ (.int .u64 x1) = W := ⟨_, rfl⟩
            have FO : wF.heap[OB]? = some (.cells #[.int .i64 ((i : Int) + 1), .int .u64 x0, .int .u64 x1] 38 (0, 0)) := by rw [← hwF]; simp [World.setCell, Array.getElem?_modify, EOH.out]
            have NF : wF.heap[N + 1]? = some (.cells #[.int .i64 0, .int .u64 0, .int .u64 0] 38 (0, 0)) := by rw [← hwF, Go.Deep.blk_setCell_other _ _ _ _ (Ne.symm ne)]; exact NBH.out
            have o0' : wF.cell? ⟨OB, 0, none⟩ = some (.int .i64 ((i : Int) + 1)) := blkc FO rfl
            have o1' : wF.cell? ⟨OB, 1, none⟩ = some (.int .u64 x0) := blkc FO rfl
            have o2' : wF.cell? ⟨OB, 2, none⟩ = some (.int .u64 x1) := blkc FO rfl
            have m00' : wF.cell? ⟨N + 1, 0, none⟩ = some (.int .i64 0) := blkc NF rfl
            have m01' : wF.cell? ⟨N + 1, 1, none⟩ = some (.int .u64 0) := blkc NF rfl
            have m02' : wF.cell? ⟨N + 1, 2, none⟩ = some (.int .u64 0) := blkc NF rfl
            have p0 := blkf (o := 0) NF
            have p1 := blkf (o := 1) NF
            have p2 := blkf (o := 2) NF
            have bl' := blkl NF
            have GF : Hid (Gw w wF) := by rw [← hwF]; exact (G0.out.trans GE.out).setCell (by show _ ≤ OB; omega) _
            have TB := box3w NF (.int .i64 ((i : Int) + 1)) (.int .u64 x0) (.int .u64 x1)
            have T0 := blkc (o := 0) TB rfl
            have T1 := blkc (o := 1) TB rfl
            have T2 := blkc (o := 2) TB rfl
            have FIN : Hid (Gw w (((wF.setCell ⟨N + 1, 0, none⟩ (.int .i64 ((i : Int) + 1))).setCell ⟨N + 1, 1, none⟩ (.int .u64 x0)).setCell ⟨N + 1, 2, none⟩ (.int .u64 x1))) := ((GF.out.setCell (by show _ ≤ N + 1; omega) _).setCell (by show _ ≤ N + 1; omega) _).setCell (by show _ ≤ N + 1; omega) _
            clear TB FO NF kl
            go_wp2
            refine bodyPost_ret (v := .tuple #[opw ((i : Int) + 1) x0 x1, .bool true]) (by simp [results, Tryd.results17, go_sem, T0, T1, T2, opw]) rfl ⟨by rw [OP.out]; rfl, FIN.out⟩
        · have tb : (tk == (m : Int)) = false := by simpa using te
          have NX := STEP.out (fun q => te (by rw [← TKH.out, q.2, CM.out]))
          have NXH : Aside _ := NX
          clear NX
          go_wp2_with fail
          go_quiet (first | (go_at_call 31; exact Calls.quiet_of_same (TK.out _)))
          go_wp2
          go_roundg (7 - (i + 1))
          case measure => omega
          case rel => exact ⟨i + 1, by go_num, by omega, Nat.le_refl _, NXH, G.out.drewN _⟩
      · have xb : (x == cw) = false := by simpa using xe
        have NX := STEP.out (fun q => xe (by rw [q.1, CW.out]))
        have NXH : Aside _ := NX
        clear NX
        go_wp2_with fail
        go_quiet (fail)
        go_wp2
        go_roundg (7 - (i + 1))
        case measure => omega
        case rel => exact ⟨i + 1, by go_num, by omega, Nat.le_refl _, NXH, G.out.drewN _⟩
    · have OP : Aside (opOf c = (false, 0, 0, 0)) := op_miss fun j x hx => MS.out j x (by have := (List.getElem?_eq_some_iff.1 hx).1; simp [words7] at this; omega) hx
      have NB := (G.out.below.block (N + 1) (by omega)).trans B1.out
      have m0 : wr.cell? ⟨N + 1, 0, none⟩ = some (.int .i64 0) := blkc NB rfl
      have m1 : wr.cell? ⟨N + 1, 1, none⟩ = some (.int .u64 0) := blkc NB rfl
      have m2 : wr.cell? ⟨N + 1, 2, none⟩ = some (.int .u64 0) := blkc NB rfl
      have q0 := blkf (o := 0) NB
      have q1 := blkf (o := 1) NB
      have q2 := blkf (o := 2) NB
      have bl := blkl NB
      have TB := box3w NB (.int .i64 0) (.int .u64 0) (.int .u64 0)
      have T0 := blkc (o := 0) TB rfl
      have T1 := blkc (o := 1) TB rfl
      have T2 := blkc (o := 2) TB rfl
      have FIN : Hid (Gw w (((wr.setCell ⟨N + 1, 0, none⟩ (.int .i64 0)).setCell ⟨N + 1, 1, none⟩ (.int .u64 0)).setCell ⟨N + 1, 2, none⟩ (.int .u64 0))) := (((G0.out.trans G.out).setCell (by show _ ≤ N + 1; omega) _).setCell (by show _ ≤ N + 1; omega) _).setCell (by show _ ≤ N + 1; omega) _
      clear NB TB
      go_wp2
      refine bodyPost_ret (v := .tuple #[opw 0 0 0, .bool false]) (by simp [results, Tryd.results17, go_sem, T0, T1, T2, opw]) rfl ⟨by rw [OP.out]; rfl, FIN.out⟩
end Go.Proofs.YtocnmdabilaccaaDoor
