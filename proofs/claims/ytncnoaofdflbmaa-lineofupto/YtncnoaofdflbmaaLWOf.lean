/- LineOf's walk. -/
import Derived.Test.YtncnoaofdflbmaaLC
import Derived.Test.YtncnoaofdflbmaaL5Lent
namespace Go.Proofs.Ytncnoaofdflbmaa
open Go.RowKit
set_option linter.unusedVariables false

theorem ks_lent {w : World} {b n : Nat} {f : Nat → Int} (h : w.rowIs b 25 (n + 3) (fun i => .int .u64 (mk5 n f i))) (bd : ∀ i, i < n → 0 ≤ f i ∧ f i < 18446744073709551616) : KS w (some ⟨b, 0, none⟩) n f :=
  ⟨fun h0 => ⟨b, 0, rfl, h.lt, fun i hi => by rw [Nat.zero_add, h.cell (by omega)]; simp [mk5, hi]⟩, bd⟩

set_option maxRecDepth 10000 in
set_option maxHeartbeats 4000000 in
theorem lineof_walk (LL : LineC) (DD : DocC) (ao : Option Addr) (n cp : Nat) (f : Nat → Int) (eps : Int) (p0 : -9223372036854775808 ≤ eps) (p1 : eps < 9223372036854775808) (hn : n ≤ 1048576) (w : World) (h : KS w ao n f) :
    Calls Try.prog 3 #[.slice ao n cp, .int .i64 eps] w fun e w' => e = .returned (.bool true) ∧ Gw w w' := by
  have HK : Aside (KS w ao n f) := h
  clear h
  have SH : Hid (∀ W, Calls Try.prog 9 #[] W fun e w' => e = .returned (.bool true) ∧ Gw W w') := fun W => xshown LL W
  have LE : Hid _ := fun W h => lent5_any ao n cp f (by omega) W h
  have KE : Hid _ := fun b W h r => kept5_any ao b n cp f (by omega) W h r
  have OL : Hid _ := fun b W h => LL.of eps (some ⟨b, 0, none⟩) n (n + 3) f p0 p1 (by omega) W h
  have OD : Hid _ := fun W h => DD.of eps ao n cp f p0 p1 (by omega) W h
  clear LL DD
  go_enter Try.func3, Try.ntmps3
  go_wp2_with fail
  refine (SH.out _).mono ?_
  rintro e w1 ⟨rfl, g1⟩
  have G1 : Aside (Gw w w1) := g1
  clear g1
  go_wp2_with fail
  refine (LE.out _ (HK.out.gw G1.out)).mono ?_
  rintro e w2 ⟨⟨b, rfl, hb, hR⟩, g2⟩
  have R2 : Aside (w2.rowIs b 25 (n + 3) (fun i => .int .u64 (mk5 n f i))) := hR
  have G2 : Aside (Gw w w2) := G1.out.trans g2
  clear hR g2 hb G1
  go_wp2_with fail
  refine (OL.out b _ (ks_lent R2.out HK.out.bd)).mono ?_
  rintro e w3 ⟨⟨x, y, z, err, rfl, hO, xb, yb, zb⟩, g3⟩
  have O3 : Aside (OfR eps f n x y z err) := hO
  have G3 : Aside (Gw w (w3.alloc (.cells #[.int .u64 x, .int .u64 y, .int .i64 z] 27))) := (G2.out.trans g3).alloc _ _
  have R3 : Aside ((w3.alloc (.cells #[.int .u64 x, .int .u64 y, .int .i64 z] 27)).rowIs b 25 (n + 3) (fun i => .int .u64 (mk5 n f i))) := rowIs_gb (rowIs_gb R2.out g3) ((Gw.refl _).alloc _ _)
  have L3 : Aside (Ln (w3.alloc (.cells #[.int .u64 x, .int .u64 y, .int .i64 z] 27)) w3.heap.size x y z) := heap_alloc_new w3 _
  clear hO g3 G2 R2
  go_wp2_with fail
  generalize w3.alloc (.cells #[.int .u64 x, .int .u64 y, .int .i64 z] 27) = w4 at G3 R3 L3 ⊢
  obtain ⟨q3, hq3⟩ : ∃ q, w3.heap.size = q := ⟨_, rfl⟩
  rw [hq3] at L3 ⊢
  clear hq3
  refine (OD.out _ (HK.out.gw G3.out)).mono ?_
  rintro e w5 ⟨⟨x', y', z', err', rfl, hO, _⟩, g5⟩
  obtain ⟨⟨rfl, rfl, rfl⟩, rfl⟩ := hO.one O3.out
  have G5 : Aside (Gw w (w5.alloc (.cells #[.int .u64 x', .int .u64 y', .int .i64 z'] 27))) := (G3.out.trans g5).alloc _ _
  have R5 : Aside ((w5.alloc (.cells #[.int .u64 x', .int .u64 y', .int .i64 z'] 27)).rowIs b 25 (n + 3) (fun i => .int .u64 (mk5 n f i))) := rowIs_gb (rowIs_gb R3.out g5) ((Gw.refl _).alloc _ _)
  have L5 : Aside (Ln (w5.alloc (.cells #[.int .u64 x', .int .u64 y', .int .i64 z'] 27)) q3 x' y' z') := (L3.out.gw g5).gw ((Gw.refl _).alloc _ _)
  have M5 : Aside (Ln (w5.alloc (.cells #[.int .u64 x', .int .u64 y', .int .i64 z'] 27)) w5.heap.size x' y' z') := heap_alloc_new w5 _
  clear hO g5 G3 R3 L3 O3
  go_wp2_with fail
  generalize w5.alloc (.cells #[.int .u64 x', .int .u64 y', .int .i64 z'] 27) = w6 at G5 R5 L5 M5 ⊢
  obtain ⟨q5, hq5⟩ : ∃ q, w5.heap.size = q := ⟨_, rfl⟩
  rw [hq5] at M5 ⊢
  clear hq5
  refine (KE.out b _ (HK.out.gw G5.out) R5.out).mono ?_
  rintro e w7 ⟨rfl, g7⟩
  have G7 : Aside (Gw w w7) := G5.out.trans g7
  have L7 : Aside (Ln w7 q3 x' y' z') := L5.out.gw g7
  have M7 : Aside (Ln w7 q5 x' y' z') := M5.out.gw g7
  have a0 := L7.out.c0
  have a1 := L7.out.c1
  have a2 := L7.out.c2
  have b0 := M7.out.c0
  have b1 := M7.out.c1
  have b2 := M7.out.c2
  clear g7 L5 M5 G5 R5
  go_wp2_with fail
  go_ret
  exact ⟨rfl, G7.out⟩

end Go.Proofs.Ytncnoaofdflbmaa
