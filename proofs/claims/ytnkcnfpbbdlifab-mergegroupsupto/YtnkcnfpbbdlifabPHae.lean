/- Package merge: which of two heads is ahead; the first of three; a head rises. -/
import Derived.Test.YtnkcnfpbbdlifabPCom
import Derived.BigQuiet
namespace Go.Proofs.Ytnkcnfpbbdlifab
open Go.RowKit
set_option linter.unusedVariables false

theorem ahead_e {α : Type} (x y : Hd α) (w : World) : Calls Try.prog 42 #[x.v, y.v] w fun e w' => e = .returned (.bool (aheadB x y)) ∧ Gw w w' := by
  obtain ⟨k1, i1, ⟨b1, o1, c1, l1⟩⟩ := x
  obtain ⟨k2, i2, ⟨b2, o2, c2, l2⟩⟩ := y
  simp only [Hd.v]
  obtain ⟨n1, hn1⟩ : ∃ n, l1.length = n := ⟨_, rfl⟩
  obtain ⟨n2, hn2⟩ : ∃ n, l2.length = n := ⟨_, rfl⟩
  rw [hn1, hn2]
  have AB : ∀ r : Bool, ((decide (k1 < k2) || (decide (k1 = k2) && decide (i1 < i2))) = r) → Aside (aheadB (⟨k1, i1, ⟨b1, o1, c1, l1⟩⟩ : Hd α) ⟨k2, i2, ⟨b2, o2, c2, l2⟩⟩ = r) := fun r h => h
  have G : Aside (Gw w ((w.alloc (.cells #[.int .u64 k1, .int .i64 (i1 : Int), .slice (some ⟨b1, o1, none⟩) n1 c1] 69)).alloc (.cells #[.int .u64 k2, .int .i64 (i2 : Int), .slice (some ⟨b2, o2, none⟩) n2 c2] 69))) := ((Gw.refl w).alloc _ _).alloc _ _
  by_cases t1 : k1 < k2
  · have A := AB true (by simp [t1])
    have t1' : decide (k1 < k2) = true := by simpa using t1
    clear AB t1
    go_enter Try.func42, Try.ntmps42
    go_wp2_with fail
    go_ret
    exact ⟨by rw [A.out]; rfl, G.out⟩
  · have t1' : decide (k1 < k2) = false := by simpa using t1
    by_cases t2 : k1 = k2
    · have t2' : (k1 == k2) = true := by simpa using t2
      by_cases t3 : i1 < i2
      · have A := AB true (by simp [t2, t3])
        have t3' : decide ((i1 : Int) < (i2 : Int)) = true := by simpa using t3
        clear AB t1 t2
        go_enter Try.func42, Try.ntmps42
        go_wp2_with fail
        go_ret
        exact ⟨by rw [A.out]; rfl, G.out⟩
      · have A := AB false (by simp [t1, t3])
        have t3' : decide ((i1 : Int) < (i2 : Int)) = false := by simpa using t3
        clear AB t1 t2
        go_enter Try.func42, Try.ntmps42
        go_wp2_with fail
        go_ret
        exact ⟨by rw [A.out]; rfl, G.out⟩
    · have A := AB false (by simp [t1, t2])
      have t2' : (k1 == k2) = false := by simpa using t2
      clear AB t1 t2
      go_enter Try.func42, Try.ntmps42
      go_wp2_with fail
      go_ret
      exact ⟨by rw [A.out]; rfl, G.out⟩
end Go.Proofs.Ytnkcnfpbbdlifab
