/- ModelOff's walk. -/
import Derived.Test.YtopjbhnbganlmaaPSt
import Derived.Deep.RegionHeld3
import Derived.Deep.DeepCutAuto
import Derived.Test.YtopjbhnbganlmaaM7Lent
namespace Go.Proofs.Ytopjbhnbganlmaa
open Go.RowKit
set_option linter.unusedVariables false
attribute [local go_sem] run_store_float

set_option maxRecDepth 10000 in
set_option maxHeartbeats 4000000 in
theorem moff_walk (MM : ModelC) (k sl ic fr te : Int) (k0 : 0 ≤ k) (k1 : k < 18446744073709551616) (s0 : 0 ≤ sl) (s1 : sl < 18446744073709551616) (i0 : 0 ≤ ic) (i1 : ic < 18446744073709551616) (f0 : -9223372036854775808 ≤ fr) (f1 : fr < 9223372036854775808) (t0 : -9223372036854775808 ≤ te) (t1 : te < 9223372036854775808) (ao : Option Addr) (n cp : Nat) (f : Nat → Int) (hn : n * 8 ≤ 140737488351232) (w : World) (h : KS w ao n f) :
    Calls Try.prog 6 #[rawV k sl ic fr te, .slice ao n cp] w fun e w' => e = .returned (.bool true) ∧ Gw w w' := by
  have HK : Aside (KS w ao n f) := h
  clear h
  have SH : Hid (∀ W, Calls Try.prog 9 #[] W fun e w' => e = .returned (.bool true) ∧ Gw W w') := fun W => shown7 MM W
  have OK : Aside (SegOk k sl.toNat ic.toNat fr te) := ⟨k0, k1, by omega, by omega, f0, f1, t0, t1⟩
  have SO : Hid _ := fun W => segof_any k sl ic fr te W
  have LE : Hid _ := fun W h => lent7_any ao n cp f hn W h
  have KE : Hid _ := fun b W h r => kept7_any ao b n cp f hn W h r
  have OM : Hid _ := fun b W h => MM.off k sl.toNat ic.toNat fr te (some ⟨b, 0, none⟩) n (n + 3) f OK.out hn (by omega) W h
  have RO : Hid _ := fun W h => roff_any k sl.toNat ic.toNat fr te k0 k1 f0 f1 t0 t1 ao n cp f (by omega) W h
  clear MM
  generalize sl.toNat = S at OK SO OM RO
  generalize ic.toNat = I at OK SO OM RO
  have R0 : Aside (Rb (w.alloc (.cells #[.int .u64 k, .int .u64 sl, .int .u64 ic, .int .i64 fr, .int .i64 te] 24)) w.heap.size k sl ic fr te) := heap_alloc_new w _
  have G0 : Aside (Gw w (w.alloc (.cells #[.int .u64 k, .int .u64 sl, .int .u64 ic, .int .i64 fr, .int .i64 te] 24))) := (Gw.refl w).alloc _ _
  go_enter Try.func6, Try.ntmps6
  go_wp2_with fail
  obtain ⟨rb, hrb⟩ : ∃ b, w.heap.size = b := ⟨_, rfl⟩
  rw [hrb] at R0 ⊢
  clear hrb
  refine (SH.out _).mono ?_
  rintro e w1 ⟨rfl, g1⟩
  have R1 : Aside (Rb w1 rb k sl ic fr te) := R0.out.gw g1
  have G1 : Aside (Gw w w1) := G0.out.trans g1
  obtain ⟨z0, z1, z2, z3, z4⟩ := R1.out.cells
  have zl := R1.out.lt
  clear g1 R0 G0
  go_wp2_with fail
  refine (SO.out _).mono ?_
  rintro e w2 ⟨rfl, g2⟩
  have S3 : Aside (Sb (w2.alloc (.cells #[.int .u64 k, .float .f64 S, .float .f64 I, .int .i64 fr, .int .i64 te] 28)) w2.heap.size k S I fr te) := heap_alloc_new w2 _
  have BW : Aside (w.heap.size ≤ w2.heap.size) := (G1.out.trans g2).size
  have G3 : Aside (Gw w (w2.alloc (.cells #[.int .u64 k, .float .f64 S, .float .f64 I, .int .i64 fr, .int .i64 te] 28))) := (G1.out.trans g2).alloc _ _
  clear g2 R1 G1 z0 z1 z2 z3 z4 zl
  go_wp2_with fail
  generalize w2.alloc (.cells #[.int .u64 k, .float .f64 S, .float .f64 I, .int .i64 fr, .int .i64 te] 28) = w3 at S3 G3 ⊢
  obtain ⟨b, hb⟩ : ∃ b, w2.heap.size = b := ⟨_, rfl⟩
  rw [hb] at S3 BW ⊢
  clear hb
  obtain ⟨z0, z1, z2, z3, z4⟩ := S3.out.cells
  have zl := S3.out.lt
  refine (LE.out _ (HK.out.gw G3.out)).mono ?_
  rintro e w4 ⟨⟨lb, rfl, hlb, hR⟩, g4⟩
  have R4 : Aside (w4.rowIs lb 22 (n + 3) (fun i => .int .u64 (mk7 n f i))) := hR
  have S4 : Aside (Sb w4 b k S I fr te) := S3.out.gw g4
  have G4 : Aside (Gw w w4) := G3.out.trans g4
  clear g4 hR hlb S3 G3 z0 z1 z2 z3 z4 zl
  obtain ⟨z0, z1, z2, z3, z4⟩ := S4.out.cells
  have zl := S4.out.lt
  go_wp2_with fail
  refine (OM.out lb _ (ks_lent7 R4.out HK.out.bd)).mono ?_
  rintro e w5 ⟨⟨N, er, rfl, hO⟩, g5⟩
  have O5 : Aside (OffR k S I fr te n f N er) := hO
  have R5 : Aside (w5.rowIs lb 22 (n + 3) (fun i => .int .u64 (mk7 n f i))) := rowIs_gb R4.out g5
  have S5 : Aside (Sb w5 b k S I fr te) := S4.out.gw g5
  have G5 : Aside (Gw w w5) := G4.out.trans g5
  clear g5 hO S4 G4 R4 z0 z1 z2 z3 z4 zl
  obtain ⟨z0, z1, z2, z3, z4⟩ := S5.out.cells
  have zl := S5.out.lt
  go_wp2_with fail
  refine (RO.out _ (HK.out.gw G5.out)).mono ?_
  rintro e w6 ⟨⟨N', er', rfl, hO⟩, g6⟩
  obtain ⟨rfl, rfl⟩ := hO.uniq O5.out
  have R6 : Aside (w6.rowIs lb 22 (n + 3) (fun i => .int .u64 (mk7 n f i))) := rowIs_gb R5.out g6
  have G6 : Aside (Gw w w6) := G5.out.trans g6
  clear g6 hO O5 S5 G5 R5 z0 z1 z2 z3 z4 zl
  go_wp2_with fail
  refine (KE.out lb _ (HK.out.gw G6.out) R6.out).mono ?_
  rintro e w7 ⟨rfl, g7⟩
  have G7 : Aside (Gw w w7) := G6.out.trans g7
  clear g7 G6 R6
  go_wp2_with fail
  go_ret
  exact ⟨by simp, G7.out⟩

end Go.Proofs.Ytopjbhnbganlmaa
