/- Layer 21's statements' own: shown. -/
import Derived.Test.YtocnmdabilaccabDoorS1Law
import Derived.Laws.StructEq
namespace Go.Proofs.YtocnmdabilaccabDoor
open Go.RowKit
set_option linter.unusedVariables false

theorem CO.cs2 {w : World} {base n cap : Nat} {bo : Option Addr} {L : List Cd} {V : List Value} (h : CO w base (.slice bo n cap) L V) : CS w bo L := by
  by_cases q : L = []
  · subst q
    exact ⟨fun h0 => by simp at h0⟩
  · rcases h.row.2 with ⟨e, e2⟩ | ⟨g, cp, cur, e, _⟩
    · exact absurd (List.eq_nil_of_length_eq_zero e2) q
    · cases e
      exact h.cs
theorem new2 (w : World) (a b : Obj) : ((w.alloc a).alloc b).heap[w.heap.size]? = some a ∧ ((w.alloc a).alloc b).heap[w.heap.size + 1]? = some b := by
  refine ⟨(heap_alloc_old _ _ (by simp)).trans (heap_alloc_new w a), ?_⟩
  have := heap_alloc_new (w.alloc a) b
  simpa using this
theorem ks_two {w : World} {b : Nat} {x y : Int} {t : TypeId} (h : w.heap[b]? = some (.cells #[.int .u64 x, .int .u64 y] t (0, 0))) (hx : 0 ≤ x ∧ x < 18446744073709551616) (hy : 0 ≤ y ∧ y < 18446744073709551616) : KS w (some ⟨b, 0, none⟩) 2 (fun j => [x, y].getD j 0) := by
  refine ⟨fun _ => ⟨b, 0, rfl, blkl h, fun i hi => ?_⟩, fun i hi => ?_⟩
  · match i, hi with
    | 0, _ => exact blkc h rfl
    | 1, _ => exact blkc h rfl
  · match i, hi with
    | 0, _ => exact hx
    | 1, _ => exact hy
theorem ks_none (w : World) (f : Nat → Int) : KS w none 0 f := ⟨fun h => by omega, fun i h => by omega⟩
theorem cs_two {w : World} {b : Nat} {x y : List UInt8} {l m : List Int} {lo mo : Option Addr} {lc mc : Nat} {t : TypeId} (h : w.heap[b]? = some (.cells #[.string (Bs x), .slice lo l.length lc, .string (Bs y), .slice mo m.length mc] t (0, 0)))
    (hl : KS w lo l.length (fun j => l.getD j 0)) (hm : KS w mo m.length (fun j => m.getD j 0)) (hln : lo = none → lc = 0) (hmn : mo = none → mc = 0) : CS w (some ⟨b, 0, none⟩) [⟨x, l⟩, ⟨y, m⟩] := by
  refine ⟨fun _ => ⟨b, 0, rfl, blkl h, fun i c hc => ?_⟩⟩
  match i, hc with
  | 0, hc => cases hc; exact ⟨lo, lc, blkc h rfl, blkc h rfl, hl, hln⟩
  | 1, hc => cases hc; exact ⟨mo, mc, blkc h rfl, blkc h rfl, hm, hmn⟩
  | i + 2, hc => simp at hc
theorem cs_one {w : World} {b : Nat} {x : List UInt8} {l : List Int} {lo : Option Addr} {lc : Nat} {t : TypeId} (h : w.heap[b]? = some (.cells #[.string (Bs x), .slice lo l.length lc] t (0, 0)))
    (hl : KS w lo l.length (fun j => l.getD j 0)) (hln : lo = none → lc = 0) : CS w (some ⟨b, 0, none⟩) [⟨x, l⟩] := by
  refine ⟨fun _ => ⟨b, 0, rfl, blkl h, fun i c hc => ?_⟩⟩
  match i, hc with
  | 0, hc => cases hc; exact ⟨lo, lc, blkc h rfl, blkc h rfl, hl, hln⟩
  | i + 1, hc => simp at hc
theorem ps_two {w : World} {b : Nat} {x y z u : Int} {t : TypeId} (h : w.heap[b]? = some (.cells #[.int .u64 x, .int .u64 y, .int .u64 z, .int .u64 u] t (0, 0))) (bd : ∀ p ∈ [(x, y), (z, u)], (0 ≤ p.1 ∧ p.1 < 18446744073709551616) ∧ (0 ≤ p.2 ∧ p.2 < 18446744073709551616)) : PS2 w (some ⟨b, 0, none⟩) [(x, y), (z, u)] := by
  refine ⟨fun _ => ⟨b, 0, rfl, blkl h, fun i c hc => ?_⟩, bd⟩
  match i, hc with
  | 0, hc => cases hc; exact ⟨blkc h rfl, blkc h rfl⟩
  | 1, hc => cases hc; exact ⟨blkc h rfl, blkc h rfl⟩
  | i + 2, hc => simp at hc
theorem ps_none (w : World) : PS2 w none [] := ⟨fun h => by simp at h, fun p h => by cases h⟩
theorem parse_a : parse [112, 117, 116, 32, 49, 32, 49, 48, 10, 10, 35, 32, 97, 108, 108, 10, 32, 32, 114, 97, 110, 103, 101, 32, 48, 32, 32, 32, 57, 32] = ([⟨[112, 117, 116], [1, 10]⟩, ⟨[114, 97, 110, 103, 101], [0, 9]⟩], 0, 0) := by kernel_rfl
theorem parse_b : parse [103, 101, 116, 32, 53, 10, 71, 101, 116, 32, 53] = ([], 2, 211) := by kernel_rfl
theorem parse_c : parse [103, 101, 116, 32, 48, 49] = ([], 1, 212) := by kernel_rfl
theorem parse_d : parse [103, 101, 116] = ([], 1, 213) := by kernel_rfl
theorem print_a : print [⟨[115, 97, 118, 101], []⟩, ⟨[112, 97, 116, 104], [0, 7]⟩] = ([115, 97, 118, 101, 10, 112, 97, 116, 104, 32, 48, 32, 55, 10], 0) := by kernel_rfl
theorem print_b : print [⟨[83, 97, 118, 101], []⟩] = ([], 211) := by kernel_rfl
theorem op_a : opOf ⟨[114, 97, 110, 103, 101], [9, 3]⟩ = (true, 7, 9, 3) := by kernel_rfl
theorem op_b : opOf ⟨[115, 116, 97, 116, 115], []⟩ = (false, 0, 0, 0) := by kernel_rfl
theorem tell_a : tellOf 7 0 false 0 0 0 [(3, 30), (4, 40)] = [50, 32, 51, 32, 51, 48, 32, 52, 32, 52, 48] := by kernel_rfl
theorem tell_b : tellOf 9 1 false 0 0 0 [] = [101, 114, 114, 111, 114, 32, 49] := by kernel_rfl
set_option maxRecDepth 100000 in
set_option maxHeartbeats 8000000 in
theorem shown21 (C : ScriptC) (w : World) (T : Tab w) : Calls Tryd.prog 5 #[] w fun e w' => e = .returned (.bool true) ∧ Gw w w' := by
  have PA : Hid (∀ W, Calls Tryd.prog 6 #[.string (Bs [112, 117, 116, 32, 49, 32, 49, 48, 10, 10, 35, 32, 97, 108, 108, 10, 32, 32, 114, 97, 110, 103, 101, 32, 48, 32, 32, 32, 57, 32])] W fun e w' => ParO W w' e ([⟨[112, 117, 116], [1, 10]⟩, ⟨[114, 97, 110, 103, 101], [0, 9]⟩], 0, 0) ∧ Gw W w') := fun W => by have := C.parse [112, 117, 116, 32, 49, 32, 49, 48, 10, 10, 35, 32, 97, 108, 108, 10, 32, 32, 114, 97, 110, 103, 101, 32, 48, 32, 32, 32, 57, 32] W (by decide); rw [parse_a] at this; exact this
  have PB : Hid (∀ W, Calls Tryd.prog 6 #[.string (Bs [103, 101, 116, 32, 53, 10, 71, 101, 116, 32, 53])] W fun e w' => ParO W w' e ([], 2, 211) ∧ Gw W w') := fun W => by have := C.parse [103, 101, 116, 32, 53, 10, 71, 101, 116, 32, 53] W (by decide); rw [parse_b] at this; exact this
  have PC : Hid (∀ W, Calls Tryd.prog 6 #[.string (Bs [103, 101, 116, 32, 48, 49])] W fun e w' => ParO W w' e ([], 1, 212) ∧ Gw W w') := fun W => by have := C.parse [103, 101, 116, 32, 48, 49] W (by decide); rw [parse_c] at this; exact this
  have PD : Hid (∀ W, Calls Tryd.prog 6 #[.string (Bs [103, 101, 116])] W fun e w' => ParO W w' e ([], 1, 213) ∧ Gw W w') := fun W => by have := C.parse [103, 101, 116] W (by decide); rw [parse_d] at this; exact this
  have RA : Hid (∀ W b, CS W (some ⟨b, 0, none⟩) [⟨[115, 97, 118, 101], []⟩, ⟨[112, 97, 116, 104], [0, 7]⟩] → Tab W → Calls Tryd.prog 8 #[.slice (some ⟨b, 0, none⟩) 2 2] W fun e w' => e = .returned (.tuple #[.string (Bs [115, 97, 118, 101, 10, 112, 97, 116, 104, 32, 48, 32, 55, 10]), .int .i64 0]) ∧ Gw W w') := fun W b h t => by have := C.print (some ⟨b, 0, none⟩) 2 _ W (by simp) (by simp) h t; rw [print_a] at this; exact this
  have RB : Hid (∀ W b, CS W (some ⟨b, 0, none⟩) [⟨[83, 97, 118, 101], []⟩] → Tab W → Calls Tryd.prog 8 #[.slice (some ⟨b, 0, none⟩) 1 1] W fun e w' => e = .returned (.tuple #[.string (Bs []), .int .i64 211]) ∧ Gw W w') := fun W b h t => by have := C.print (some ⟨b, 0, none⟩) 1 _ W (by simp) (by simp) h t; rw [print_b] at this; exact this
  have OA : Hid (∀ W b, KS W (some ⟨b, 0, none⟩) 2 (fun j => ([9, 3] : List Int).getD j 0) → Calls Tryd.prog 9 #[.agg #[.string (Bs [114, 97, 110, 103, 101]), .slice (some ⟨b, 0, none⟩) 2 2]] W fun e w' => e = .returned (.tuple #[.agg #[.int .i64 7, .int .u64 9, .int .u64 3], .bool true]) ∧ Gw W w') := fun W b h => by have := C.op ⟨[114, 97, 110, 103, 101], [9, 3]⟩ (some ⟨b, 0, none⟩) 2 W (by simp) h; rw [op_a] at this; exact this
  have OB : Hid (∀ W, Calls Tryd.prog 9 #[.agg #[.string (Bs [115, 116, 97, 116, 115]), .slice none 0 0]] W fun e w' => e = .returned (.tuple #[.agg #[.int .i64 0, .int .u64 0, .int .u64 0], .bool false]) ∧ Gw W w') := fun W => by have := C.op ⟨[115, 116, 97, 116, 115], []⟩ none 0 W (by simp) (ks_none W _); rw [op_b] at this; exact this
  have TA : Hid (∀ W b, PS2 W (some ⟨b, 0, none⟩) [(3, 30), (4, 40)] → Tab W → Calls Tryd.prog 10 #[.agg #[.int .i64 7, .int .u64 0, .int .u64 0], .agg #[.int .i64 0, .bool false, .int .u64 0, .int .u64 0, .int .i64 0, .slice (some ⟨b, 0, none⟩) 2 2]] W fun e w' => e = .returned (.string (Bs [50, 32, 51, 32, 51, 48, 32, 52, 32, 52, 48])) ∧ Gw W w') := fun W b h t => by have := C.tell 7 0 0 0 false 0 0 0 (some ⟨b, 0, none⟩) 2 _ W (by simp) h (by decide) (by decide) (by decide) (by decide) (by decide) (by decide) (by decide) (by decide) t; rw [tell_a] at this; exact this
  have TB : Hid (∀ W, Tab W → Calls Tryd.prog 10 #[.agg #[.int .i64 9, .int .u64 0, .int .u64 0], .agg #[.int .i64 1, .bool false, .int .u64 0, .int .u64 0, .int .i64 0, .slice none 0 0]] W fun e w' => e = .returned (.string (Bs [101, 114, 114, 111, 114, 32, 49])) ∧ Gw W w') := fun W t => by have := C.tell 9 0 0 1 false 0 0 0 none 0 [] W (by simp) (ps_none W) (by decide) (by decide) (by decide) (by decide) (by decide) (by decide) (by decide) (by decide) t; rw [tell_b] at this; exact this
  go_enter Tryd.func5, Tryd.ntmps5
  go_wp2_with fail
  refine (PA.out _).mono ?_
  rintro e w1 ⟨⟨bo1, n1, c1, V1, rfl, hn1, C1⟩, g1⟩
  have hn1' : n1 = 2 := hn1
  subst hn1'
  have C1H : Hid (CO w1 w.heap.size (.slice bo1 2 c1) [⟨[112, 117, 116], [1, 10]⟩, ⟨[114, 97, 110, 103, 101], [0, 9]⟩] V1) := C1
  have G1 : Hid (Gw w w1) := g1
  have T1 : Hid (Tab w1) := T.gw g1
  clear hn1 C1 g1
  dsimp only
  go_wp2_with fail
  refine (PB.out _).mono ?_
  rintro e w2 ⟨⟨bo2, n2, c2, V2, rfl, _, _⟩, g2⟩
  have G2 : Hid (Gw w1 w2) := g2
  clear g2
  dsimp only
  go_wp2_with fail
  refine (PC.out _).mono ?_
  rintro e w3 ⟨⟨bo3, n3, c3, V3, rfl, _, _⟩, g3⟩
  have G3 : Hid (Gw w1 w3) := G2.out.trans g3
  clear g3
  dsimp only
  go_wp2_with fail
  refine (PD.out _).mono ?_
  rintro e w4 ⟨⟨bo4, n4, c4, V4, rfl, _, _⟩, g4⟩
  have G4 : Hid (Gw w1 w4) := G3.out.trans g4
  clear g4
  dsimp only
  go_wp2_with fail
  refine (RA.out _ _ (cs_two (l := []) (m := [0, 7]) (new2 w4 _ _).2 (ks_none _ _) (ks_two (new2 w4 _ _).1 (by omega) (by omega)) (fun _ => rfl) (fun e => by cases e)) (T1.out.gw ((G4.out.alloc _ _).alloc _ _))).mono ?_
  rintro e w5 ⟨rfl, g5⟩
  have G5 : Hid (Gw w1 w5) := ((G4.out.alloc _ _).alloc _ _).trans g5
  clear g5
  dsimp only
  go_wp2_with fail
  refine (RB.out _ _ (cs_one (l := []) (heap_alloc_new w5 _) (ks_none _ _) (fun _ => rfl)) (T1.out.gw (G5.out.alloc _ _))).mono ?_
  rintro e w6 ⟨rfl, g6⟩
  have G6 : Hid (Gw w1 w6) := (G5.out.alloc _ _).trans g6
  clear g6
  dsimp only
  go_wp2_with fail
  refine (OA.out _ _ (ks_two (heap_alloc_new w6 _) (by omega) (by omega))).mono ?_
  rintro e w7 ⟨rfl, g7⟩
  have G7 : Hid (Gw w1 w7) := (G6.out.alloc _ _).trans g7
  clear g7
  dsimp only
  go_wp2_with fail
  obtain ⟨O1, hO1⟩ : ∃ O1, w7.heap.size = O1 := ⟨_, rfl⟩
  obtain ⟨w8, hw8⟩ : ∃ W, w7.alloc (.cells #[.int .i64 7, .int .u64 9, .int .u64 3] 37) = W := ⟨_, rfl⟩
  rw [hw8, hO1]
  have B8 : Hid (w8.heap[O1]? = some (.cells #[.int .i64 7, .int .u64 9, .int .u64 3] 37 (0, 0))) := by rw [← hw8, ← hO1]; exact heap_alloc_new _ _
  have G8 : Hid (Gw w1 w8) := by rw [← hw8]; exact G7.out.alloc _ _
  clear hw8 hO1
  refine (OB.out _).mono ?_
  rintro e w9 ⟨rfl, g9⟩
  have G9 : Hid (Gw w8 w9) := g9
  clear g9
  dsimp only
  go_wp2_with fail
  obtain ⟨wL, hwL⟩ : ∃ W, (((w9.alloc (.cells #[.int .i64 0, .int .u64 0, .int .u64 0] 37)).alloc (.cells #[.int .u64 1, .int .u64 10] 35)).alloc (.cells #[.int .u64 0, .int .u64 9] 35)).alloc (.cells #[.string (Bs [112, 117, 116]), .slice (some ⟨w9.heap.size + 1, 0, none⟩) 2 2, .string (Bs [114, 97, 110, 103, 101]), .slice (some ⟨w9.heap.size + 1 + 1, 0, none⟩) 2 2] 34) = W := ⟨_, rfl⟩
  obtain ⟨LB, hLB⟩ : ∃ LB, w9.heap.size + 1 + 1 + 1 = LB := ⟨_, rfl⟩
  have CSL : Hid (CS wL (some ⟨LB, 0, none⟩) [⟨[112, 117, 116], [1, 10]⟩, ⟨[114, 97, 110, 103, 101], [0, 9]⟩]) := by
    rw [← hwL, ← hLB]
    obtain ⟨wx, hwx⟩ : ∃ W, w9.alloc (.cells #[.int .i64 0, .int .u64 0, .int .u64 0] 37) = W := ⟨_, rfl⟩
    have zx : wx.heap.size = w9.heap.size + 1 := by rw [← hwx]; simp
    rw [hwx, ← zx]
    obtain ⟨wy, hwy⟩ : ∃ W, (wx.alloc (.cells #[.int .u64 1, .int .u64 10] 35)).alloc (.cells #[.int .u64 0, .int .u64 9] 35) = W := ⟨_, rfl⟩
    have zy : wy.heap.size = wx.heap.size + 1 + 1 := by rw [← hwy]; simp
    have n2 := new2 wx (.cells #[.int .u64 1, .int .u64 10] 35) (.cells #[.int .u64 0, .int .u64 9] 35)
    rw [hwy] at n2 ⊢
    have gy : ∀ o, Gw wy (wy.alloc (.cells o 34)) := fun o => (Gw.refl wy).alloc _ _
    rw [← zy]
    exact cs_two (l := [1, 10]) (m := [0, 9]) (heap_alloc_new wy _) ((ks_two n2.1 (by omega) (by omega)).gw (gy _)) ((ks_two n2.2 (by omega) (by omega)).gw (gy _)) (fun e => by cases e) (fun e => by cases e)
  have GL : Hid (Gw w8 wL) := by rw [← hwL]; exact (((G9.out.alloc _ _).alloc _ _).alloc _ _).alloc _ _
  rw [hwL]
  try rw [hLB]
  have zL : wL.heap.size = LB + 1 := by rw [← hwL, ← hLB]; simp
  clear hwL
  refine (TA.out _ _ (by rw [← zL]; exact ps_two (heap_alloc_new wL _) (by simp)) (T1.out.gw (G8.out.trans (GL.out.alloc _ _)))).mono ?_
  rintro e wT ⟨rfl, gT⟩
  have GT : Hid (Gw wL wT) := ((Gw.refl wL).alloc _ _).trans gT
  clear gT zL
  dsimp only
  have SM : Hid (Calls Tryd.prog 7 #[.slice bo1 2 c1, .slice (some ⟨LB, 0, none⟩) 2 2] wT fun e w' => e = .returned (.bool true) ∧ Gw wT w') := same21 bo1 (some ⟨LB, 0, none⟩) c1 2 [⟨[112, 117, 116], [1, 10]⟩, ⟨[114, 97, 110, 103, 101], [0, 9]⟩] (by simp) (by simp) wT (C1H.out.gw (G8.out.trans (GL.out.trans GT.out))).cs2 (CSL.out.gw GT.out)
  go_wp2_with fail
  refine SM.out.mono ?_
  rintro e wS ⟨rfl, gS⟩
  have B9 := (((GL.out.trans GT.out).trans gS).below.block O1 (blkl B8.out)).trans B8.out
  have o0 : wS.cell? ⟨O1, 0, none⟩ = some (.int .i64 7) := blkc B9 rfl
  have o1 : wS.cell? ⟨O1, 1, none⟩ = some (.int .u64 9) := blkc B9 rfl
  have o2 : wS.cell? ⟨O1, 2, none⟩ = some (.int .u64 3) := blkc B9 rfl
  have GS : Hid (Gw w wS) := G1.out.trans (G8.out.trans ((GL.out.trans GT.out).trans gS))
  clear B9 gS
  dsimp only
  go_wp2_with fail
  refine (TB.out _ (T.gw GS.out)).mono ?_
  rintro e wU ⟨rfl, gU⟩
  have GU : Hid (Gw w wU) := GS.out.trans gU
  clear gU
  dsimp only
  go_wp2_with fail
  refine bodyPost_ret (v := .bool true) (by simp [results, Tryd.results5, go_sem]) rfl ⟨rfl, GU.out⟩
end Go.Proofs.YtocnmdabilaccabDoor
