/- LineAt's walk. -/
import Derived.Test.YtncnoaofdflbmaaLC
namespace Go.Proofs.Ytncnoaofdflbmaa
open Go.RowKit
set_option linter.unusedVariables false

set_option maxRecDepth 10000 in
set_option maxHeartbeats 4000000 in
theorem lineat_walk (LL : LineC) (DD : DocC) (a b c d : Int) (a0 : 0 ≤ a) (a1 : a < 18446744073709551616) (b0 : 0 ≤ b) (b1 : b < 18446744073709551616) (c0 : -9223372036854775808 ≤ c) (c1 : c < 9223372036854775808) (d0 : 0 ≤ d) (d1 : d < 18446744073709551616) (w : World) :
    Calls Try.prog 4 #[.agg #[.int .u64 a, .int .u64 b, .int .i64 c], .int .u64 d] w fun e w' => e = .returned (.bool true) ∧ Gw w w' := by
  have SH : Hid (∀ W, Calls Try.prog 9 #[] W fun e w' => e = .returned (.bool true) ∧ Gw W w') := fun W => xshown LL W
  have AL : Hid _ := fun W => LL.tell a b c d a0 a1 b0 b1 c0 c1 d0 d1 W
  have AD : Hid _ := fun W => DD.tell a b c d a0 a1 b0 b1 c0 c1 d0 d1 W
  clear LL DD
  have G0 : Aside (Gw w (w.alloc (.cells #[.int .u64 a, .int .u64 b, .int .i64 c] 27))) := (Gw.refl w).alloc _ _
  have L0 : Aside (Ln (w.alloc (.cells #[.int .u64 a, .int .u64 b, .int .i64 c] 27)) w.heap.size a b c) := heap_alloc_new w _
  go_enter Try.func4, Try.ntmps4
  go_wp2_with fail
  refine (SH.out _).mono ?_
  rintro e w1 ⟨rfl, g1⟩
  have G1 : Aside (Gw w w1) := G0.out.trans g1
  have L1 : Aside (Ln w1 w.heap.size a b c) := L0.out.gw g1
  have k0 := L1.out.c0
  have k1 := L1.out.c1
  have k2 := L1.out.c2
  clear g1 G0 L0
  go_wp2_with fail
  refine (AL.out _).mono ?_
  rintro e w2 ⟨⟨r, err, rfl, hA⟩, g2⟩
  have A2 : Aside (AtR a b c d r err) := hA
  have G2 : Aside (Gw w w2) := G1.out.trans g2
  have L2 : Aside (Ln w2 w.heap.size a b c) := L1.out.gw g2
  clear k0 k1 k2 hA g2 G1 L1
  have k0 := L2.out.c0
  have k1 := L2.out.c1
  have k2 := L2.out.c2
  go_wp2_with fail
  refine (AD.out _).mono ?_
  rintro e w3 ⟨⟨r', err', rfl, hA⟩, g3⟩
  obtain ⟨rfl, rfl⟩ := hA.one A2.out
  have G3 : Aside (Gw w w3) := G2.out.trans g3
  clear hA g3 A2 k0 k1 k2
  go_wp2_with fail
  go_ret
  exact ⟨rfl, G3.out⟩

end Go.Proofs.Ytncnoaofdflbmaa
