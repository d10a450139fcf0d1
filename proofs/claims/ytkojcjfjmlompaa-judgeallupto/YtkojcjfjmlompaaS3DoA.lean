/- Layer 23, the document's Do: every kind. -/
import Derived.Test.YtkojcjfjmlompaaS3DoD
import Derived.Test.YtkojcjfjmlompaaS3Do1
import Derived.Test.YtkojcjfjmlompaaS3Do2
import Derived.Test.YtkojcjfjmlompaaS3Do3
import Derived.Test.YtkojcjfjmlompaaS3Do4
import Derived.Test.YtkojcjfjmlompaaS3Do5
import Derived.Test.YtkojcjfjmlompaaS3Do7
namespace Go.Proofs.Ytkojcjfjmlompaa
open Go.RowKit
set_option linter.unusedVariables false
theorem ans_len (most : Int) (l : Ps) (kd k v : Int) : (ansP most l kd k v).L.length ≤ l.length := by
  unfold ansP hitP
  repeat' split
  all_goals first
    | exact Nat.zero_le _
    | (refine Nat.le_trans (run_len _ _) ?_; simp)
theorem do23 (p : Nat) (S : Nat → Prop) (most : Int) (l : Ps) (kd x y : Int) (hx : 0 ≤ x ∧ x < 18446744073709551616) (hy : 0 ≤ y ∧ y < 18446744073709551616) (hn : l.length ≤ 4000000) (w : World) (h : HPl w p S most l) :
    Calls Try.prog 18 #[.pointer (some ⟨p, 0, none⟩), .agg #[.int .i64 kd, .int .u64 x, .int .u64 y]] w fun e w' => DoO w w' e p S most (nxtP most l kd x y) (ansP most l kd x y) := by
  by_cases k1 : kd = 1
  · subst k1; exact do23_1 p S most l x y hx hy hn w h
  by_cases k2 : kd = 2
  · subst k2; exact do23_2 p S most l x y hn w h
  rw [same_nxt l most kd x y k1 k2]
  by_cases k3 : kd = 3
  · subst k3; exact do23_3 p S most l x y hn w h
  by_cases k4 : kd = 4
  · subst k4; exact do23_4 p S most l x y hn w h
  by_cases k5 : kd = 5
  · subst k5; exact do23_5 p S most l x y hn w h
  by_cases k6 : kd = 6
  · subst k6; exact do23_6 p S most l x y hn w h
  by_cases k7 : kd = 7
  · subst k7; exact do23_7 p S most l x y hn w h
  exact do23_d p S most l kd x y (by simpa using k1) (by simpa using k2) (by simpa using k3) (by simpa using k4) (by simpa using k5) (by simpa using k6) (by simpa using k7) hn w h
end Go.Proofs.Ytkojcjfjmlompaa
