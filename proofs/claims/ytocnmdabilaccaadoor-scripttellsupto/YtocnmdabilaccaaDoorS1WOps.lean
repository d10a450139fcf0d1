/- ScriptOps, ScriptTells: the walks. -/
import Derived.Test.YtocnmdabilaccaaDoorS1Shown
import Derived.Test.YtocnmdabilaccaaDoorHGrow
namespace Go.Proofs.YtocnmdabilaccaaDoor
open Go.RowKit
set_option linter.unusedVariables false
set_option maxRecDepth 100000 in
set_option maxHeartbeats 8000000 in
theorem ops_walk (C : ScriptC) (c : Cd) (bo : Option Addr) (cp : Nat) (hn : c.nums.length ≤ 2000000) (w : World) (T : Tab w) (h : KS w bo c.nums.length (fun j => c.nums.getD j 0)) :
    Calls Tryd.prog 5 #[.agg #[.string (Bs c.word), .slice bo c.nums.length cp]] w fun e w' => e = .returned (.bool true) ∧ Gw w w' := by
  have SH : Hid (∀ W, Gw w W → Calls Tryd.prog 9 #[] W fun e w' => e = .returned (.bool true) ∧ Gw W w') := fun W g => shown21 C W (T.gw g)
  obtain ⟨⟨is, k, a, b⟩, hr⟩ : ∃ r, opOf c = r := ⟨_, rfl⟩
  have PO : Hid (∀ W, Gw w W → Calls Tryd.prog 16 #[.agg #[.string (Bs c.word), .slice bo c.nums.length cp]] W fun e w' => e = .returned (.tuple #[.agg #[.int .i64 k, .int .u64 a, .int .u64 b], .bool is]) ∧ Gw W w') := fun W g => by have := C.op c bo cp W hn (h.gw g); rw [hr] at this; exact this
  have RO : Hid (∀ W, Gw w W → Calls Tryd.prog 17 #[.agg #[.string (Bs c.word), .slice bo c.nums.length cp]] W fun e w' => e = .returned (.tuple #[.agg #[.int .i64 k, .int .u64 a, .int .u64 b], .bool is]) ∧ Gw W w') := fun W g => by have := op21 c bo cp hn W (h.gw g); rw [hr] at this; exact this
  obtain ⟨m, hm⟩ : ∃ m, c.nums.length = m := ⟨_, rfl⟩
  obtain ⟨cw, hcw⟩ : ∃ cw, c.word = cw := ⟨_, rfl⟩
  rw [hm, hcw] at PO RO ⊢
  clear h hn hm hcw hr C
  obtain ⟨N, hN⟩ : ∃ N, w.heap.size = N := ⟨_, rfl⟩
  have NB0 : Hid (∀ W, Gw (w.alloc (.cells #[.string (Bs cw), .slice bo m cp] 30)) W → W.heap[N]? = some (.cells #[.string (Bs cw), .slice bo m cp] 30 (0, 0))) := fun W g => by rw [← hN]; exact (g.below.block _ (by simp)).trans (heap_alloc_new _ _)
  go_enter Tryd.func5, Tryd.ntmps5
  go_wp2_with fail
  refine (SH.out _ (by first | exact Gw.refl _ | exact (Gw.refl _).alloc _ _ | exact ((Gw.refl _).alloc _ _).alloc _ _)).mono ?_
  rintro e w1 ⟨rfl, g1⟩
  have B1 := NB0.out w1 g1
  have a0 : w1.cell? ⟨N, 0, none⟩ = some (.string (Bs cw)) := blkc B1 rfl
  have a1 : w1.cell? ⟨N, 1, none⟩ = some (.slice bo m cp) := blkc B1 rfl
  have G1 : Hid (Gw w w1) := ((Gw.refl w).alloc _ _).trans g1
  have GA : Hid (Gw (w.alloc (.cells #[.string (Bs cw), .slice bo m cp] 30)) w1) := g1
  clear g1 B1
  dsimp only
  go_wp2_with fail
  refine (PO.out _ G1.out).mono ?_
  rintro e w2 ⟨rfl, g2⟩
  have G2 : Hid (Gw w w2) := G1.out.trans g2
  have GA2 : Hid (Gw (w.alloc (.cells #[.string (Bs cw), .slice bo m cp] 30)) w2) := GA.out.trans g2
  clear g2 a0 a1
  dsimp only
  obtain ⟨O1, hO1⟩ : ∃ O1, w2.heap.size = O1 := ⟨_, rfl⟩
  obtain ⟨w3, hw3⟩ : ∃ W, w2.alloc (.cells #[.int .i64 k, .int .u64 a, .int .u64 b] 38) = W := ⟨_, rfl⟩
  have B3 : Hid (w3.heap[O1]? = some (.cells #[.int .i64 k, .int .u64 a, .int .u64 b] 38 (0, 0))) := by rw [← hw3, ← hO1]; exact heap_alloc_new _ _
  have G3 : Hid (Gw w w3) := by rw [← hw3]; exact G2.out.alloc _ _
  have D1 := NB0.out w3 (by rw [← hw3]; exact GA2.out.alloc _ _)
  have a0 : w3.cell? ⟨N, 0, none⟩ = some (.string (Bs cw)) := blkc D1 rfl
  have a1 : w3.cell? ⟨N, 1, none⟩ = some (.slice bo m cp) := blkc D1 rfl
  clear D1
  go_wp2_with fail
  refine (RO.out _ G3.out).mono ?_
  rintro e w4 ⟨rfl, g4⟩
  have B4 := (g4.below.block O1 (blkl B3.out)).trans B3.out
  have o0 : w4.cell? ⟨O1, 0, none⟩ = some (.int .i64 k) := blkc B4 rfl
  have o1 : w4.cell? ⟨O1, 1, none⟩ = some (.int .u64 a) := blkc B4 rfl
  have o2 : w4.cell? ⟨O1, 2, none⟩ = some (.int .u64 b) := blkc B4 rfl
  have bO := blkl B4
  have G4 : Hid (Gw w w4) := G3.out.trans g4
  clear B4 g4 a0 a1 hw3
  dsimp only
  go_wp2_with fail
  refine bodyPost_ret (v := .bool true) (by simp [results, Tryd.results5, go_sem]) rfl ⟨rfl, G4.out.alloc _ _⟩
set_option maxRecDepth 100000 in
set_option maxHeartbeats 8000000 in
theorem tells_walk (C : ScriptC) (kind okey oval code : Int) (is : Bool) (key value num : Int) (ao : Option Addr) (cp : Nat) (l : List (Int × Int)) (hl : l.length ≤ 2000000) (w : World) (T : Tab w) (h : PS2 w ao l)
    (c0 : -9223372036854775808 ≤ code) (c1 : code < 9223372036854775808) (k0 : 0 ≤ key) (k1 : key < 18446744073709551616) (v0 : 0 ≤ value) (v1 : value < 18446744073709551616) (n0 : -9223372036854775808 ≤ num) (n1 : num < 9223372036854775808) :
    Calls Tryd.prog 6 #[opw kind okey oval, anw code is key value num ao l.length cp] w fun e w' => e = .returned (.bool true) ∧ Gw w w' := by
  have SH : Hid (∀ W, Gw w W → Calls Tryd.prog 9 #[] W fun e w' => e = .returned (.bool true) ∧ Gw W w') := fun W g => shown21 C W (T.gw g)
  obtain ⟨S, hS⟩ : ∃ S, tellOf kind code is key value num l = S := ⟨_, rfl⟩
  obtain ⟨n, hn⟩ : ∃ n, l.length = n := ⟨_, rfl⟩
  have PT : Hid (∀ W, Gw w W → Calls Tryd.prog 18 #[.agg #[.int .i64 kind, .int .u64 okey, .int .u64 oval], .agg #[.int .i64 code, .bool is, .int .u64 key, .int .u64 value, .int .i64 num, .slice ao n cp]] W fun e w' => e = .returned (.string (Bs S)) ∧ Gw W w') := fun W g => by rw [← hS, ← hn]; exact C.tell kind okey oval code is key value num ao cp l W hl (h.gw g) c0 c1 k0 k1 v0 v1 n0 n1 (T.gw g)
  have RT : Hid (∀ W, Gw w W → Calls Tryd.prog 19 #[.agg #[.int .i64 kind, .int .u64 okey, .int .u64 oval], .agg #[.int .i64 code, .bool is, .int .u64 key, .int .u64 value, .int .i64 num, .slice ao n cp]] W fun e w' => e = .returned (.string (Bs S)) ∧ Gw W w') := fun W g => by rw [← hS, ← hn]; exact tell21 kind okey oval code is key value num ao cp l hl W (h.gw g) c0 c1 k0 k1 v0 v1 n0 n1
  unfold anw opw
  rw [hn]
  clear h hl hn hS C c0 c1 k0 k1 v0 v1 n0 n1
  obtain ⟨w0, E0⟩ : ∃ w0, (w.alloc (.cells #[.int .i64 kind, .int .u64 okey, .int .u64 oval] 38)).alloc (.cells #[.int .i64 code, .bool is, .int .u64 key, .int .u64 value, .int .i64 num, .slice ao n cp] 44) = w0 := ⟨_, rfl⟩
  have N2 := new2 w (.cells #[.int .i64 kind, .int .u64 okey, .int .u64 oval] 38) (.cells #[.int .i64 code, .bool is, .int .u64 key, .int .u64 value, .int .i64 num, .slice ao n cp] 44)
  rw [E0] at N2
  have N2H : Hid (w0.heap[w.heap.size]? = some (.cells #[.int .i64 kind, .int .u64 okey, .int .u64 oval] 38 (0, 0)) ∧ w0.heap[w.heap.size + 1]? = some (.cells #[.int .i64 code, .bool is, .int .u64 key, .int .u64 value, .int .i64 num, .slice ao n cp] 44 (0, 0))) := N2
  have G0 : Hid (Gw w w0) := by rw [← E0]; exact ((Gw.refl w).alloc _ _).alloc _ _
  have E0H : Hid ((w.alloc (.cells #[.int .i64 kind, .int .u64 okey, .int .u64 oval] 38)).alloc (.cells #[.int .i64 code, .bool is, .int .u64 key, .int .u64 value, .int .i64 num, .slice ao n cp] 44) = w0) := E0
  clear N2 E0
  obtain ⟨N, hN⟩ : ∃ N, w.heap.size = N := ⟨_, rfl⟩
  have NH : Hid (w.heap.size = N) := hN
  go_enter Tryd.func6, Tryd.ntmps6
  go_wp2_with fail
  rw [E0H.out]
  refine (SH.out _ (by first | exact G0.out | exact Gw.refl _ | exact (Gw.refl _).alloc _ _ | exact ((Gw.refl _).alloc _ _).alloc _ _)).mono ?_
  rintro e w1 ⟨rfl, g1⟩
  have G1 : Hid (Gw w w1) := G0.out.trans g1
  have b1 : w1.heap[N]? = some (.cells #[.int .i64 kind, .int .u64 okey, .int .u64 oval] 38 (0, 0)) := by rw [← hN]; exact (g1.below.block _ (blkl N2H.out.1)).trans N2H.out.1
  have b2 : w1.heap[N + 1]? = some (.cells #[.int .i64 code, .bool is, .int .u64 key, .int .u64 value, .int .i64 num, .slice ao n cp] 44 (0, 0)) := by rw [← hN]; exact (g1.below.block _ (blkl N2H.out.2)).trans N2H.out.2
  have c10 : ∀ g : GX w1, g.1.cell? ⟨N, 0, none⟩ = some (.int .i64 kind) := GX.cell (blkc b1 rfl) (blkl b1)
  have c11 : ∀ g : GX w1, g.1.cell? ⟨N, 1, none⟩ = some (.int .u64 okey) := GX.cell (blkc b1 rfl) (blkl b1)
  have c12 : ∀ g : GX w1, g.1.cell? ⟨N, 2, none⟩ = some (.int .u64 oval) := GX.cell (blkc b1 rfl) (blkl b1)
  have c20 : ∀ g : GX w1, g.1.cell? ⟨N + 1, 0, none⟩ = some (.int .i64 code) := GX.cell (blkc b2 rfl) (blkl b2)
  have c21 : ∀ g : GX w1, g.1.cell? ⟨N + 1, 1, none⟩ = some (.bool is) := GX.cell (blkc b2 rfl) (blkl b2)
  have c22 : ∀ g : GX w1, g.1.cell? ⟨N + 1, 2, none⟩ = some (.int .u64 key) := GX.cell (blkc b2 rfl) (blkl b2)
  have c23 : ∀ g : GX w1, g.1.cell? ⟨N + 1, 3, none⟩ = some (.int .u64 value) := GX.cell (blkc b2 rfl) (blkl b2)
  have c24 : ∀ g : GX w1, g.1.cell? ⟨N + 1, 4, none⟩ = some (.int .i64 num) := GX.cell (blkc b2 rfl) (blkl b2)
  have c25 : ∀ g : GX w1, g.1.cell? ⟨N + 1, 5, none⟩ = some (.slice ao n cp) := GX.cell (blkc b2 rfl) (blkl b2)
  clear g1 b1 b2
  dsimp only
  go_wp2_with fail
  have ne := GX.some w1
  refine wp_region_growx (by kernel_rfl) (by kernel_rfl) ?_
  repeat (go_big_quiet_step (fail))
  go_big_quiet_want
  go_big_quiet_op
  go_big_quiet_call (exact growx_of (PT.out _ (G1.out.trans (GX.gw _))))
  repeat (go_big_quiet_step (fail))
  go_big_quiet_want
  go_big_quiet_op
  go_big_quiet_call (exact growx_of (RT.out _ (G1.out.trans (GX.gw _))))
  repeat (go_big_quiet_step (fail))
  refine wpQuiet_nil ?_
  rintro _ ⟨gw, rfl⟩
  go_wp2_with fail
  refine bodyPost_ret (v := .bool true) (by simp [results, Tryd.results6, go_sem]) rfl ⟨rfl, G1.out.trans gw.gw⟩
end Go.Proofs.YtocnmdabilaccaaDoor
