/- Comparisons of whole numbers, word by word. -/
import Derived.Test.YtfoliapennaneaaRNear
namespace Go.Proofs.Ytfoliapennaneaa
open Go.RowKit Go.Shelf
set_option linter.unusedVariables false

theorem cmpi_lt {a b : Int} (h : a < b) : cmpi a b = -1 := if_pos h
theorem cmpi_eq {a b : Int} (h : a = b) : cmpi a b = 0 := by unfold cmpi; rw [if_neg (by omega), if_pos h]
theorem cmpi_gt {a b : Int} (h : b < a) : cmpi a b = 1 := by unfold cmpi; rw [if_neg (by omega), if_neg (by omega)]

theorem inan_int (a : Int) (w : World) : Calls Try.prog 45 #[.int .i64 a] w fun e w' => e = .returned (.bool false) ∧ w' = w := by
  go_enter Try.func45, Try.ntmps45
  go_wp2
  go_ret
  exact ⟨rfl, rfl⟩
theorem inan_u64 (a : Int) (w : World) : Calls Try.prog 46 #[.int .u64 a] w fun e w' => e = .returned (.bool false) ∧ w' = w := by
  go_enter Try.func46, Try.ntmps46
  go_wp2
  go_ret
  exact ⟨rfl, rfl⟩

theorem compare_int (a b : Int) (w : World) : Calls Try.prog 41 #[.int .i64 a, .int .i64 b] w fun e w' => e = .returned (.int .i64 (cmpi a b)) ∧ w' = w := by
  rcases Int.lt_trichotomy a b with h | h | h
  · rw [cmpi_lt h]
    go_enter Try.func41, Try.ntmps41
    go_wp2_with (go_at_call 45; refine (inan_int _ _).mono ?_; rintro e w' ⟨rfl, rfl⟩)
    go_ret
    exact ⟨rfl, rfl⟩
  · rw [cmpi_eq h]
    subst h
    go_enter Try.func41, Try.ntmps41
    go_wp2_with (go_at_call 45; refine (inan_int _ _).mono ?_; rintro e w' ⟨rfl, rfl⟩)
    go_ret
    exact ⟨rfl, rfl⟩
  · rw [cmpi_gt h]
    have h' : ¬ a < b := by omega
    go_enter Try.func41, Try.ntmps41
    go_wp2_with (go_at_call 45; refine (inan_int _ _).mono ?_; rintro e w' ⟨rfl, rfl⟩)
    go_ret
    exact ⟨rfl, rfl⟩

theorem compare_u64 (a b : Int) (w : World) : Calls Try.prog 42 #[.int .u64 a, .int .u64 b] w fun e w' => e = .returned (.int .i64 (cmpi a b)) ∧ w' = w := by
  rcases Int.lt_trichotomy a b with h | h | h
  · rw [cmpi_lt h]
    go_enter Try.func42, Try.ntmps42
    go_wp2_with (go_at_call 46; refine (inan_u64 _ _).mono ?_; rintro e w' ⟨rfl, rfl⟩)
    go_ret
    exact ⟨rfl, rfl⟩
  · rw [cmpi_eq h]
    subst h
    go_enter Try.func42, Try.ntmps42
    go_wp2_with (go_at_call 46; refine (inan_u64 _ _).mono ?_; rintro e w' ⟨rfl, rfl⟩)
    go_ret
    exact ⟨rfl, rfl⟩
  · rw [cmpi_gt h]
    have h' : ¬ a < b := by omega
    go_enter Try.func42, Try.ntmps42
    go_wp2_with (go_at_call 46; refine (inan_u64 _ _).mono ?_; rintro e w' ⟨rfl, rfl⟩)
    go_ret
    exact ⟨rfl, rfl⟩

/-- cmp.Or of three ints that lie in a row. -/
def or3 (a b c : Int) : Int := if a = 0 then if b = 0 then c else b else a
theorem or_any (p : Nat) (a b c : Int) (w : World) (c0 : w.cell? ⟨p, 0, none⟩ = some (.int .i64 a)) (c1 : w.cell? ⟨p, 1, none⟩ = some (.int .i64 b)) (c2 : w.cell? ⟨p, 2, none⟩ = some (.int .i64 c)) :
    Calls Try.prog 40 #[.slice (some ⟨p, 0, none⟩) 3 3] w fun e w' => e = .returned (.int .i64 (or3 a b c)) ∧ w' = w := by
  unfold or3
  by_cases ha : a = 0
  · subst ha
    by_cases hb : b = 0
    · subst hb
      by_cases hc : c = 0
      · subst hc
        go_enter Try.func40, Try.ntmps40
        go_wp2
        refine wp_loop_rounds 4 ?_
        repeat (rw [rounds_succ]; go_wp2)
        go_ret
        exact ⟨rfl, rfl⟩
      · have hc' : (c == 0) = false := by simp [hc]
        go_enter Try.func40, Try.ntmps40
        go_wp2
        refine wp_loop_rounds 4 ?_
        repeat (rw [rounds_succ]; go_wp2)
        go_ret
        exact ⟨rfl, rfl⟩
    · have hb' : (b == 0) = false := by simp [hb]
      rw [if_pos rfl, if_neg hb]
      go_enter Try.func40, Try.ntmps40
      go_wp2
      refine wp_loop_rounds 4 ?_
      repeat (rw [rounds_succ]; go_wp2)
      go_ret
      exact ⟨rfl, rfl⟩
  · have ha' : (a == 0) = false := by simp [ha]
    rw [if_neg ha]
    go_enter Try.func40, Try.ntmps40
    go_wp2
    refine wp_loop_rounds 4 ?_
    repeat (rw [rounds_succ]; go_wp2)
    go_ret
    exact ⟨rfl, rfl⟩

def scv (e : Int) (h l : Nat) : Value := .agg #[.int .i64 e, .int .u64 h, .int .u64 l]
set_option maxHeartbeats 4000000 in
theorem scompare (e1 e2 : Int) (h1 l1 h2 l2 : Nat) (w : World) :
    Calls Try.prog 33 #[.agg #[.int .i64 e1, .int .u64 h1, .int .u64 l1], .agg #[.int .i64 e2, .int .u64 h2, .int .u64 l2]] w fun e w' => e = .returned (.int .i64 (or3 (cmpi e1 e2) (cmpi h1 h2) (cmpi l1 l2))) ∧ Gb w w' := by
  go_enter Try.func33, Try.ntmps33
  go_wp2
  go_region_held3 (fun w' => w'.cell? ⟨w.heap.size, 0, none⟩ = some (.int .i64 e1) ∧ w'.cell? ⟨w.heap.size, 1, none⟩ = some (.int .u64 h1) ∧ w'.cell? ⟨w.heap.size, 2, none⟩ = some (.int .u64 l1) ∧ w'.cell? ⟨w.heap.size + 1, 0, none⟩ = some (.int .i64 e2) ∧ w'.cell? ⟨w.heap.size + 1, 1, none⟩ = some (.int .u64 h2) ∧ w'.cell? ⟨w.heap.size + 1, 2, none⟩ = some (.int .u64 l2)) (go_keep)
    (first | (go_at_call 41; refine (compare_int _ _ _).mono ?_; rintro e w' ⟨rfl, rfl⟩) | (go_at_call 42; refine (compare_u64 _ _ _).mono ?_; rintro e w' ⟨rfl, rfl⟩) | (go_at_call 40; refine (or_any (w.heap.size + 1 + 1) (cmpi e1 e2) (cmpi h1 h2) (cmpi l1 l2) _ (by simp [go_sem]) (by simp [go_sem]) (by simp [go_sem])).mono ?_; rintro e w' ⟨rfl, rfl⟩))
  all_goals go_wp2
  all_goals go_ret
  all_goals exact ⟨rfl, (((Gb.refl w).alloc _ _).alloc _ _).alloc _ _ |>.drew⟩
end Go.Proofs.Ytfoliapennaneaa
