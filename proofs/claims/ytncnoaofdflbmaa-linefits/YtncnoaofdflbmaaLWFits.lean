/- LineFits' walk. -/
import Derived.Test.YtncnoaofdflbmaaLWOf
namespace Go.Proofs.Ytncnoaofdflbmaa
open Go.RowKit
set_option linter.unusedVariables false

theorem Tells.one {x y : Ending} {P : Prop} (h : Tells x P) (k : Tells y P) : x = y := by
  obtain ⟨r, rfl, hr⟩ := h
  obtain ⟨s, rfl, hs⟩ := k
  have : r = s := by rw [Bool.eq_iff_iff, hr, hs]
  rw [this]

set_option maxRecDepth 10000 in
set_option maxHeartbeats 4000000 in
theorem linefits_walk (LL : LineC) (DD : DocC) (a b c : Int) (ao : Option Addr) (n cp : Nat) (f : Nat → Int) (eps : Int) (a0 : 0 ≤ a) (a1 : a < 18446744073709551616) (b0 : 0 ≤ b) (b1 : b < 18446744073709551616) (c0 : -9223372036854775808 ≤ c) (c1 : c < 9223372036854775808) (p0 : -9223372036854775808 ≤ eps) (p1 : eps < 9223372036854775808) (hn : n * 8 ≤ 140737488351232) (w : World) (h : KS w ao n f) :
    Calls Try.prog 5 #[.agg #[.int .u64 a, .int .u64 b, .int .i64 c], .slice ao n cp, .int .i64 eps] w fun e w' => e = .returned (.bool true) ∧ Gw w w' := by
  have HK : Aside (KS w ao n f) := h
  clear h
  have SH : Hid (∀ W, Calls Try.prog 9 #[] W fun e w' => e = .returned (.bool true) ∧ Gw W w') := fun W => xshown LL W
  have LE : Hid _ := fun W h => lent5_any ao n cp f hn W h
  have KE : Hid _ := fun b W h r => kept5_any ao b n cp f hn W h r
  have FL : Hid _ := fun q W h => LL.fits a b c eps (some ⟨q, 0, none⟩) n (n + 3) f a0 a1 b0 b1 c0 c1 p0 p1 hn W h
  have FD : Hid _ := fun W h => DD.fits a b c eps ao n cp f a0 a1 b0 b1 c0 c1 p0 p1 hn W h
  clear LL DD
  have G0 : Aside (Gw w (w.alloc (.cells #[.int .u64 a, .int .u64 b, .int .i64 c] 27))) := (Gw.refl w).alloc _ _
  have L0 : Aside (Ln (w.alloc (.cells #[.int .u64 a, .int .u64 b, .int .i64 c] 27)) w.heap.size a b c) := heap_alloc_new w _
  go_enter Try.func5, Try.ntmps5
  go_wp2_with fail
  refine (SH.out _).mono ?_
  rintro e w1 ⟨rfl, g1⟩
  have G1 : Aside (Gw w w1) := G0.out.trans g1
  have L1 : Aside (Ln w1 w.heap.size a b c) := L0.out.gw g1
  clear g1 G0 L0
  go_wp2_with fail
  refine (LE.out _ (HK.out.gw G1.out)).mono ?_
  rintro e w2 ⟨⟨q, rfl, hb, hR⟩, g2⟩
  have R2 : Aside (w2.rowIs q 25 (n + 3) (fun i => .int .u64 (mk5 n f i))) := hR
  have G2 : Aside (Gw w w2) := G1.out.trans g2
  have L2 : Aside (Ln w2 w.heap.size a b c) := L1.out.gw g2
  have k0 := L2.out.c0
  have k1 := L2.out.c1
  have k2 := L2.out.c2
  clear hR g2 hb G1 L1
  go_wp2_with fail
  refine (FL.out q _ (ks_lent R2.out HK.out.bd)).mono ?_
  rintro e w3 ⟨hT, g3⟩
  obtain ⟨r, rfl, hr⟩ := hT
  have T3 : Aside (r = true ↔ FitR eps f n a b c) := hr
  have G3 : Aside (Gw w w3) := G2.out.trans g3
  have L3 : Aside (Ln w3 w.heap.size a b c) := L2.out.gw g3
  have R3 : Aside (w3.rowIs q 25 (n + 3) (fun i => .int .u64 (mk5 n f i))) := rowIs_gb R2.out g3
  clear k0 k1 k2 g3 hr G2 L2 R2
  have k0 := L3.out.c0
  have k1 := L3.out.c1
  have k2 := L3.out.c2
  go_wp2_with fail
  refine (FD.out _ (HK.out.gw G3.out)).mono ?_
  rintro e w4 ⟨hT, g4⟩
  obtain ⟨s, rfl, hs⟩ := hT
  have E : s = r := by rw [Bool.eq_iff_iff, T3.out, hs]
  subst E
  have G4 : Aside (Gw w w4) := G3.out.trans g4
  have R4 : Aside (w4.rowIs q 25 (n + 3) (fun i => .int .u64 (mk5 n f i))) := rowIs_gb R3.out g4
  clear k0 k1 k2 g4 hs G3 L3 R3 T3
  go_wp2_with fail
  refine (KE.out q _ (HK.out.gw G4.out) R4.out).mono ?_
  rintro e w5 ⟨rfl, g5⟩
  have G5 : Aside (Gw w w5) := G4.out.trans g5
  clear g5
  go_wp2_with fail
  go_ret
  exact ⟨rfl, G5.out⟩

end Go.Proofs.Ytncnoaofdflbmaa
