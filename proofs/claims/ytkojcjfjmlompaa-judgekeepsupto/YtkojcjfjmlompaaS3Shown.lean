/- Layer 23's statements' own: shown. -/
import Derived.Test.YtkojcjfjmlompaaS3Row
import Derived.Laws.StructEq
namespace Go.Proofs.Ytkojcjfjmlompaa
open Go.RowKit
set_option linter.unusedVariables false

theorem pc2_len (x : Int × Int) : (pc2 x).length = 2 := rfl
theorem oc3_len (x : Ot) : (oc3 x).length = 3 := rfl
theorem ls_blk {α : Type} {m : Nat} {f : α → List Value} (hm : ∀ x, (f x).length = m) {w : World} {b : Nat} {arr : Array Value} {t : TypeId} (h : w.heap[b]? = some (.cells arr t (0, 0))) (L : List α) (e : L.flatMap f = arr.toList) : LsR m f w (some ⟨b, 0, none⟩) L :=
  ⟨fun _ => ⟨b, 0, rfl, blkl h, fun i x hx j u hu => by
    have k := fm_at m f hm L i x hx j u hu
    rw [e] at k
    rw [Nat.zero_add]
    exact blkc h (by simpa using k)⟩⟩
/-- An answer's cells, its list being there. -/
def ac6 (x : Aw × Option Addr × Nat) : List Value := [.int .i64 x.1.c, .bool x.1.is, .int .u64 x.1.k, .int .u64 x.1.v, .int .i64 x.1.n, .slice x.2.1 x.1.L.length x.2.2]
theorem ac6_len (x : Aw × Option Addr × Nat) : (ac6 x).length = 6 := rfl
theorem al_ls {w : World} {ao : Option Addr} {L : List (Aw × Option Addr × Nat)} (h : LsR 6 ac6 w ao L) (k : ∀ x ∈ L, PLr w x.2.1 x.1.L ∧ (x.2.1 = none → x.1.L.length = 0 ∧ x.2.2 = 0)) : ALr w ao (L.map Prod.fst) :=
  ⟨fun h0 => by
    obtain ⟨b, off, e, hb, hc⟩ := h.cells (by simpa using h0)
    refine ⟨b, off, e, hb, fun i A hA => ?_⟩
    rw [List.getElem?_map] at hA
    cases hx : L[i]? with
    | none => rw [hx] at hA; cases hA
    | some x =>
      rw [hx] at hA
      simp only [Option.map_some, Option.some.injEq] at hA
      subst hA
      obtain ⟨k1, k2⟩ := k x (List.mem_of_getElem? hx)
      exact ⟨x.2.1, x.2.2, k1, k2, hc i x hx 0 _ rfl, hc i x hx 1 _ rfl, hc i x hx 2 _ rfl, hc i x hx 3 _ rfl, hc i x hx 4 _ rfl, hc i x hx 5 _ rfl⟩⟩
theorem pl_nil (w : World) (ao : Option Addr) : PLr w ao [] := ⟨fun h => by simp at h⟩
theorem al_blk {w : World} {b : Nat} {arr : Array Value} {t : TypeId} (h : w.heap[b]? = some (.cells arr t (0, 0))) (L : List Aw) (z : ∀ A ∈ L, A.L = []) (e : (L.map (fun A => (A, (none : Option Addr), 0))).flatMap ac6 = arr.toList) : ALr w (some ⟨b, 0, none⟩) L := by
  have := al_ls (ls_blk ac6_len h _ e) (fun x hx => by
    obtain ⟨A, hA, rfl⟩ := List.mem_map.1 hx
    rw [z A hA]
    exact ⟨pl_nil _ _, fun _ => ⟨rfl, rfl⟩⟩)
  rw [List.map_map] at this
  simpa [Function.comp_def] using this
theorem two_new (w : World) (a b : Obj) : ((w.alloc a).alloc b).heap[w.heap.size]? = some a ∧ ((w.alloc a).alloc b).heap[w.heap.size + 1]? = some b := by
  refine ⟨(heap_alloc_old _ _ (by simp)).trans (heap_alloc_new w a), ?_⟩
  have := heap_alloc_new (w.alloc a) b
  simpa using this
theorem all_a : tellsP 2 [(1, 1, 10), (1, 2, 20), (1, 3, 30), (3, 2, 0)] [aw0, aw0, ⟨161, false, 0, 0, 0, []⟩, ⟨0, true, 0, 20, 0, []⟩] = [] := by decide
theorem all_b : tellsP 2 [(1, 1, 10), (3, 1, 0)] [aw0, ⟨0, true, 0, 11, 1, []⟩] = [(1, 3), (1, 4)] := by decide
theorem all_c : tellsP 2 [(6, 5, 0), (6, 5, 0)] [aw0] = [(1, 6)] := by decide
theorem see_a : seeP (ansP 5 [] 2 7 0) ⟨0, true, 0, 0, 0, []⟩ = [2] ∧ nxtP 5 [] 2 7 0 = [] := by decide
theorem see_b : seeP (ansP 5 [] 9 0 0) ⟨1, false, 0, 0, 0, []⟩ = [] ∧ nxtP 5 [] 9 0 0 = [] := by decide
theorem see_c : seeP (ansP 5 [] 7 9 3) ⟨0, false, 0, 0, 0, [(4, 4)]⟩ = [5] ∧ nxtP 5 [] 7 9 3 = [] := by decide
set_option maxRecDepth 100000 in
set_option maxHeartbeats 8000000 in
theorem shown23 (HJ : World → Nat → (Nat → Prop) → Int → Ps → Prop) (C : JudgeC HJ) (w : World) : Calls Try.prog 7 #[] w fun e w' => e = .returned (.bool true) ∧ Gw w w' := by
  have bo : ∀ L : List Ot, (∀ o ∈ L, 0 ≤ o.2.1 ∧ o.2.1 < 100 ∧ 0 ≤ o.2.2 ∧ o.2.2 < 100) → ∀ o ∈ L, BdO o := fun L h o ho => by
    have := h o ho
    exact ⟨⟨by omega, by omega⟩, ⟨by omega, by omega⟩⟩
  have A1 : Hid (∀ W b b2, OLr W (some ⟨b, 0, none⟩) [(1, 1, 10), (1, 2, 20), (1, 3, 30), (3, 2, 0)] → ALr W (some ⟨b2, 0, none⟩) [aw0, aw0, ⟨161, false, 0, 0, 0, []⟩, ⟨0, true, 0, 20, 0, []⟩] → Calls Try.prog 15 #[.int .i64 2, .slice (some ⟨b, 0, none⟩) 4 4, .slice (some ⟨b2, 0, none⟩) 4 4] W fun e w' => AllJ W w' e []) := fun W b b2 h1 h2 => by
    have := C.all 2 (some ⟨b, 0, none⟩) (some ⟨b2, 0, none⟩) 4 4 _ _ W (by decide) (by decide) (by simp) (by simp) (by simp) (by simp) (bo _ (by decide)) (by decide) h1 h2
    rw [all_a] at this
    exact this
  have A2 : Hid (∀ W b b2, OLr W (some ⟨b, 0, none⟩) [(1, 1, 10), (3, 1, 0)] → ALr W (some ⟨b2, 0, none⟩) [aw0, ⟨0, true, 0, 11, 1, []⟩] → Calls Try.prog 15 #[.int .i64 2, .slice (some ⟨b, 0, none⟩) 2 2, .slice (some ⟨b2, 0, none⟩) 2 2] W fun e w' => AllJ W w' e [(1, 3), (1, 4)]) := fun W b b2 h1 h2 => by
    have := C.all 2 (some ⟨b, 0, none⟩) (some ⟨b2, 0, none⟩) 2 2 _ _ W (by decide) (by decide) (by simp) (by simp) (by simp) (by simp) (bo _ (by decide)) (by decide) h1 h2
    rw [all_b] at this
    exact this
  have A3 : Hid (∀ W b b2, OLr W (some ⟨b, 0, none⟩) [(6, 5, 0), (6, 5, 0)] → ALr W (some ⟨b2, 0, none⟩) [aw0] → Calls Try.prog 15 #[.int .i64 2, .slice (some ⟨b, 0, none⟩) 2 2, .slice (some ⟨b2, 0, none⟩) 1 1] W fun e w' => AllJ W w' e [(1, 6)]) := fun W b b2 h1 h2 => by
    have := C.all 2 (some ⟨b, 0, none⟩) (some ⟨b2, 0, none⟩) 2 1 _ _ W (by decide) (by decide) (by simp) (by simp) (by simp) (by simp) (bo _ (by decide)) (by decide) h1 h2
    rw [all_c] at this
    exact this
  have A4 : Hid (∀ W a b, Calls Try.prog 15 #[.int .i64 0, .slice a 0 0, .slice b 0 0] W fun e w' => (∃ bo c, e = .returned (.tuple #[.slice bo 0 c, .int .i64 1])) ∧ Gw W w') := fun W a b => C.no 0 a b 0 0 0 0 W (by decide)
  have N5 : Hid (∀ W, Calls Try.prog 8 #[.int .i64 5] W fun e w' => NewJ HJ W w' e 5) := fun W => C.new 5 W (by decide) (by decide)
  have S1 : Hid (∀ p S W, HJ W p S 5 [] → Calls Try.prog 10 #[.pointer (some ⟨p, 0, none⟩), .agg #[.int .i64 2, .int .u64 7, .int .u64 0], .agg #[.int .i64 0, .bool true, .int .u64 0, .int .u64 0, .int .i64 0, .slice none 0 0]] W fun e w' => SeeJ HJ W w' e p S 5 [] [2]) := fun p S W h => by
    have := C.see p S 5 [] (2, 7, 0) ⟨0, true, 0, 0, 0, []⟩ none 0 W (bo [(2, 7, 0)] (by decide) _ (by simp)) (by simp) (by simp) h (pl_nil _ _) (fun a e => by cases e)
    dsimp only at this
    rw [see_a.1, see_a.2] at this
    exact this
  have S2 : Hid (∀ p S W, HJ W p S 5 [] → Calls Try.prog 10 #[.pointer (some ⟨p, 0, none⟩), .agg #[.int .i64 9, .int .u64 0, .int .u64 0], .agg #[.int .i64 1, .bool false, .int .u64 0, .int .u64 0, .int .i64 0, .slice none 0 0]] W fun e w' => SeeJ HJ W w' e p S 5 [] []) := fun p S W h => by
    have := C.see p S 5 [] (9, 0, 0) ⟨1, false, 0, 0, 0, []⟩ none 0 W (bo [(9, 0, 0)] (by decide) _ (by simp)) (by simp) (by simp) h (pl_nil _ _) (fun a e => by cases e)
    dsimp only at this
    rw [see_b.1, see_b.2] at this
    exact this
  have S3 : Hid (∀ p S W b, HJ W p S 5 [] → PLr W (some ⟨b, 0, none⟩) [(4, 4)] → ¬ S b → Calls Try.prog 10 #[.pointer (some ⟨p, 0, none⟩), .agg #[.int .i64 7, .int .u64 9, .int .u64 3], .agg #[.int .i64 0, .bool false, .int .u64 0, .int .u64 0, .int .i64 0, .slice (some ⟨b, 0, none⟩) 1 1]] W fun e w' => SeeJ HJ W w' e p S 5 [] [5]) := fun p S W b h h2 h3 => by
    have := C.see p S 5 [] (7, 9, 3) ⟨0, false, 0, 0, 0, [(4, 4)]⟩ (some ⟨b, 0, none⟩) 1 W (bo [(7, 9, 3)] (by decide) _ (by simp)) (by simp) (by simp) h h2 (fun a e _ => by cases e; exact h3)
    dsimp only at this
    rw [see_c.1, see_c.2] at this
    exact this
  have KP : Hid (∀ {w w' : World} {p : Nat} {S : Nat → Prop}, HJ w p S 5 [] → Gw w w' → HJ w' p (fun q => S q ∧ q < w.heap.size) 5 []) := fun h g => C.keep h (fun q _ hl => g.below.block q hl)
  clear bo
  go_enter Try.func7, Try.ntmps7
  go_wp2_with fail
  refine (A1.out _ _ _ (ls_blk oc3_len (two_new w _ _).1 _ rfl) (al_blk (two_new w _ _).2 _ (by decide) rfl)).mono ?_
  rintro e w1 ⟨bo1, c1, rfl, _, _, _, g1⟩
  have OB : Hid (w1.heap[w.heap.size]? = some (.cells #[.int .i64 1, .int .u64 1, .int .u64 10, .int .i64 1, .int .u64 2, .int .u64 20, .int .i64 1, .int .u64 3, .int .u64 30, .int .i64 3, .int .u64 2, .int .u64 0] 33 (0, 0))) := (g1.below.block _ (blkl (two_new w _ _).1)).trans (two_new w _ _).1
  have G1 : Hid (Gw w w1) := (((Gw.refl w).alloc _ _).alloc _ _).trans g1
  obtain ⟨b0, hb0⟩ : ∃ b0, w.heap.size = b0 := ⟨_, rfl⟩
  rw [hb0] at OB
  dsimp only
  rw [hb0]
  have o0 : w1.cell? ⟨b0, 0, none⟩ = some (.int .i64 1) := blkc OB.out rfl
  have o1 : w1.cell? ⟨b0, 1, none⟩ = some (.int .u64 1) := blkc OB.out rfl
  have o2 : w1.cell? ⟨b0, 2, none⟩ = some (.int .u64 10) := blkc OB.out rfl
  clear g1 hb0 OB
  go_wp2_with fail
  refine (A2.out _ _ _ (ls_blk oc3_len (two_new w1 _ _).1 _ rfl) (al_blk (two_new w1 _ _).2 _ (by decide) rfl)).mono ?_
  rintro e w2 ⟨bo2, c2, rfl, f2, _, _, g2⟩
  have F2 : Hid (FLr w2 bo2 [(1, 3), (1, 4)]) := f2
  have G2 : Hid (Gw w w2) := ((G1.out.alloc _ _).alloc _ _).trans g2
  clear f2 g2 o0 o1 o2
  dsimp only
  go_wp2_with fail
  refine (A3.out _ _ _ (ls_blk oc3_len (two_new w2 _ _).1 _ rfl) (al_blk (two_new w2 _ _).2 _ (by decide) rfl)).mono ?_
  rintro e w3 ⟨bo3, c3, rfl, f3, _, _, g3⟩
  have g23 : Gw w2 w3 := (((Gw.refl w2).alloc _ _).alloc _ _).trans g3
  have F3 : Hid (FLr w3 bo2 [(1, 3), (1, 4)] ∧ FLr w3 bo3 [(1, 6)]) := ⟨F2.out.gw g23, f3⟩
  have G3 : Hid (Gw w w3) := G2.out.trans g23
  clear f3 g3 g23 F2
  dsimp only
  go_wp2_with fail
  refine (A4.out _ _ _).mono ?_
  rintro e w4 ⟨⟨bo4, c4, rfl⟩, g4⟩
  have g34 : Gw w3 w4 := (((Gw.refl w3).alloc _ _).alloc _ _).trans g4
  have F4 : Hid (FLr w4 bo2 [(1, 3), (1, 4)] ∧ FLr w4 bo3 [(1, 6)]) := ⟨F3.out.1.gw g34, F3.out.2.gw g34⟩
  have G4 : Hid (Gw w w4) := G3.out.trans g34
  clear g4 g34 F3
  dsimp only
  go_wp2_with fail
  refine (N5.out _).mono ?_
  rintro e w5 ⟨p, S, rfl, hj, hs, g5⟩
  have J5 : Hid (HJ w5 p S 5 [] ∧ ∀ q, S q → w4.heap.size ≤ q) := ⟨hj, hs⟩
  have G5 : Hid (Gw w4 w5) := g5
  clear hj hs g5
  dsimp only
  go_wp2_with fail
  refine (S1.out _ _ _ J5.out.1).mono ?_
  rintro e w6 ⟨S6, ⟨bo6, c6, rfl, n6, d6⟩, j6, x6, s6⟩
  have J6 : Hid (HJ w6 p S6 5 [] ∧ (∀ q, S6 q → w4.heap.size ≤ q) ∧ NLr w6 bo6 [2] ∧ (∀ a, bo6 = some a → 0 < ([2] : List Int).length → ¬ S6 a.block) ∧ Gw w4 w6) := ⟨j6, fun q hq => (s6 q hq).elim (J5.out.2 q) (fun k => Nat.le_trans G5.out.size k), n6, (fun a e h0 k => d6 a e h0 (.inl k)), Gx.gw G5.out x6 J5.out.2⟩
  clear n6 d6 j6 x6 s6
  dsimp only
  go_wp2_with fail
  refine (S2.out _ _ _ J6.out.1).mono ?_
  rintro e w7 ⟨S7, ⟨bo7, c7, rfl, _, _⟩, j7, x7, s7⟩
  have J7 : Hid (HJ w7 p S7 5 [] ∧ (∀ q, S7 q → w4.heap.size ≤ q) ∧ NLr w7 bo6 [2] ∧ (∀ a, bo6 = some a → 0 < ([2] : List Int).length → ¬ S7 a.block) ∧ Gw w4 w7) := by
    obtain ⟨a1, a2, a3, a4, a5⟩ := J6.out
    refine ⟨j7, fun q hq => (s7 q hq).elim (a2 q) (fun k => Nat.le_trans a5.size k), a3.gx x7 a4, fun a e h0 hq => ?_, Gx.gw a5 x7 a2⟩
    rcases s7 _ hq with k | k
    · exact a4 a e h0 k
    · obtain ⟨b, off, e', hb, _⟩ := a3.cells h0
      rw [e] at e'
      cases e'
      dsimp only at k
      omega
  clear j7 x7 s7
  dsimp only
  go_wp2_with fail
  have g8 : Gw w7 (w7.alloc (.cells #[.int .u64 4, .int .u64 4] 44)) := (Gw.refl w7).alloc _ _
  refine (S3.out p (fun q => S7 q ∧ q < w7.heap.size) _ _ (KP.out J7.out.1 g8) (ls_blk pc2_len (heap_alloc_new w7 _) [(4, 4)] rfl) (fun k => by have := k.2; omega)).mono ?_
  rintro e w8 ⟨S8, ⟨bo8, c8, rfl, n8, _⟩, j8, x8, s8⟩
  have J8 : Hid (NLr w8 bo6 [2] ∧ NLr w8 bo8 [5] ∧ Gw w4 w8) := by
    obtain ⟨a1, a2, a3, a4, a5⟩ := J7.out
    exact ⟨(a3.gw g8).gx x8 (fun a e h0 hq => a4 a e h0 hq.1), n8, Gx.gw (a5.trans g8) x8 (fun q hq => a2 q hq.1)⟩
  clear n8 j8 x8 s8 g8
  have F8 := F4.out.1.gw J8.out.2.2
  have F9 := F4.out.2.gw J8.out.2.2
  obtain ⟨v2, f2, rfl, _, k2⟩ := F8.cells (by simp)
  obtain ⟨v3, f3, rfl, _, k3⟩ := F9.cells (by simp)
  obtain ⟨v6, f6, rfl, _, k6⟩ := J8.out.1.cells (by simp)
  obtain ⟨v8, f8, rfl, _, k8⟩ := J8.out.2.1.cells (by simp)
  have x0 := k2 0 _ rfl 0 _ rfl
  have x1 := k2 0 _ rfl 1 _ rfl
  have x2 := k2 1 _ rfl 0 _ rfl
  have x3 := k2 1 _ rfl 1 _ rfl
  have y0 := k3 0 _ rfl 0 _ rfl
  have y1 := k3 0 _ rfl 1 _ rfl
  have z0 := k6 0 _ rfl 0 _ rfl
  have z1 := k8 0 _ rfl 0 _ rfl
  simp only [Nat.zero_mul, Nat.add_zero, Nat.one_mul] at x0 x1 x2 x3 y0 y1 z0 z1
  have GG : Hid (Gw w w8) := G4.out.trans J8.out.2.2
  clear k2 k3 k6 k8 F8 F9
  dsimp only
  go_wp2_with fail
  refine bodyPost_ret (v := .bool true) (by simp [results, Try.results7, go_sem]) rfl ⟨rfl, GG.out⟩
end Go.Proofs.Ytkojcjfjmlompaa
