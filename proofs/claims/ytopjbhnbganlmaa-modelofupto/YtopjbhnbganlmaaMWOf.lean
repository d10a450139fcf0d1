/- ModelOf's walk. -/
import Derived.Test.YtopjbhnbganlmaaPSt
import Derived.Test.YtopjbhnbganlmaaM7Lent
namespace Go.Proofs.Ytopjbhnbganlmaa
open Go.RowKit
set_option linter.unusedVariables false
attribute [local go_sem] run_store_float

set_option maxRecDepth 10000 in
set_option maxHeartbeats 4000000 in
theorem mof_walk (MM : ModelC) (O5 : Of5C) (ao : Option Addr) (n cp : Nat) (f : Nat → Int) (eps fr : Int) (p0 : -9223372036854775808 ≤ eps) (p1 : eps < 9223372036854775808) (q0 : -9223372036854775808 ≤ fr) (q1 : fr < 9223372036854775808) (hn : n ≤ 1048576) (w : World) (h : KS w ao n f) :
    Calls Try.prog 4 #[.slice ao n cp, .int .i64 eps, .int .i64 fr] w fun e w' => e = .returned (.bool true) ∧ Gw w w' := by
  have HK : Aside (KS w ao n f) := h
  clear h
  have SH : Hid (∀ W, Calls Try.prog 9 #[] W fun e w' => e = .returned (.bool true) ∧ Gw W w') := fun W => shown7 MM W
  have LE : Hid _ := fun W h => lent7_any ao n cp f (by omega) W h
  have KE : Hid _ := fun b W h r => kept7_any ao b n cp f (by omega) W h r
  have OM : Hid _ := fun b W h => MM.of eps fr (some ⟨b, 0, none⟩) n (n + 3) f p0 p1 q0 q1 (by omega) (by omega) W h
  have RO : Hid _ := fun W h => rof7_any O5 eps fr ao n cp f p0 p1 q0 q1 (by omega) W h
  have SM : Hid _ := fun k sl ic F T W => same7_any k sl ic F T W
  clear MM O5
  go_enter Try.func4, Try.ntmps4
  go_wp2_with fail
  refine (SH.out _).mono ?_
  rintro e w1 ⟨rfl, g1⟩
  have G1 : Aside (Gw w w1) := g1
  clear g1
  go_wp2_with fail
  refine (LE.out _ (HK.out.gw G1.out)).mono ?_
  rintro e w2 ⟨⟨lb, rfl, hlb, hR⟩, g2⟩
  have R2 : Aside (w2.rowIs lb 22 (n + 3) (fun i => .int .u64 (mk7 n f i))) := hR
  have G2 : Aside (Gw w w2) := G1.out.trans g2
  clear g2 hR hlb G1
  go_wp2_with fail
  refine (OM.out lb _ (ks_lent7 R2.out HK.out.bd)).mono ?_
  rintro e w3 ⟨⟨k, s, ic, F, T, er, rfl, hO⟩, g3⟩
  have O3 : Aside (SegR eps fr f n k s ic F T er) := hO
  have S4 : Aside (Sb (w3.alloc (.cells #[.int .u64 k, .float .f64 s, .float .f64 ic, .int .i64 F, .int .i64 T] 28)) w3.heap.size k s ic F T) := heap_alloc_new w3 _
  have G4 : Aside (Gw w (w3.alloc (.cells #[.int .u64 k, .float .f64 s, .float .f64 ic, .int .i64 F, .int .i64 T] 28))) := (G2.out.trans g3).alloc _ _
  have R4 : Aside ((w3.alloc (.cells #[.int .u64 k, .float .f64 s, .float .f64 ic, .int .i64 F, .int .i64 T] 28)).rowIs lb 22 (n + 3) (fun i => .int .u64 (mk7 n f i))) := rowIs_gb (rowIs_gb R2.out g3) ((Gw.refl w3).alloc _ _)
  clear hO g3 R2 G2
  go_wp2_with fail
  generalize w3.alloc (.cells #[.int .u64 k, .float .f64 s, .float .f64 ic, .int .i64 F, .int .i64 T] 28) = w4 at S4 G4 R4 ⊢
  obtain ⟨b, hb⟩ : ∃ b, w3.heap.size = b := ⟨_, rfl⟩
  rw [hb] at S4 ⊢
  clear hb
  refine (RO.out _ (HK.out.gw G4.out)).mono ?_
  rintro e w5 ⟨⟨k', s', ic', F', T', er', rfl, hO⟩, g5⟩
  obtain ⟨⟨rfl, rfl, rfl, rfl, rfl⟩, rfl⟩ := hO.one O3.out
  have S6 : Aside (Sb (w5.alloc (.cells #[.int .u64 k', .float .f64 s', .float .f64 ic', .int .i64 F', .int .i64 T'] 28)) b k' s' ic' F' T') := (S4.out.gw g5).gw ((Gw.refl w5).alloc _ _)
  have X6 : Aside (Sb (w5.alloc (.cells #[.int .u64 k', .float .f64 s', .float .f64 ic', .int .i64 F', .int .i64 T'] 28)) w5.heap.size k' s' ic' F' T') := heap_alloc_new w5 _
  have G6 : Aside (Gw w (w5.alloc (.cells #[.int .u64 k', .float .f64 s', .float .f64 ic', .int .i64 F', .int .i64 T'] 28))) := (G4.out.trans g5).alloc _ _
  have R6 : Aside ((w5.alloc (.cells #[.int .u64 k', .float .f64 s', .float .f64 ic', .int .i64 F', .int .i64 T'] 28)).rowIs lb 22 (n + 3) (fun i => .int .u64 (mk7 n f i))) := rowIs_gb (rowIs_gb R4.out g5) ((Gw.refl w5).alloc _ _)
  clear hO g5 R4 G4 S4 O3
  obtain ⟨z0, z1, z2, z3, z4⟩ := S6.out.cells
  have zl := S6.out.lt
  obtain ⟨y0, y1, y2, y3, y4⟩ := X6.out.cells
  have yl := X6.out.lt
  go_wp2_with fail
  refine (SM.out _ _ _ _ _ _).mono ?_
  rintro e w7 ⟨rfl, g7⟩
  have R7 : Aside (w7.rowIs lb 22 (n + 3) (fun i => .int .u64 (mk7 n f i))) := rowIs_gb R6.out g7
  have G7 : Aside (Gw w w7) := G6.out.trans g7
  clear g7 S6 X6 G6 R6 z0 z1 z2 z3 z4 zl y0 y1 y2 y3 y4 yl
  go_wp2_with fail
  refine (KE.out lb _ (HK.out.gw G7.out) R7.out).mono ?_
  rintro e w8 ⟨rfl, g8⟩
  have G8 : Aside (Gw w w8) := G7.out.trans g8
  clear g8 G7 R7
  go_wp2_with fail
  go_ret
  exact ⟨by simp, G8.out⟩

end Go.Proofs.Ytopjbhnbganlmaa
