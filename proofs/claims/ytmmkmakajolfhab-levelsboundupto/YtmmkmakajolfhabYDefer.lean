/- Package levels: what Build and Check defer. -/
import Derived.Test.YtmmkmakajolfhabYNeed
namespace Go.Proofs.Ytmmkmakajolfhab
open Go.RowKit
set_option linter.unusedVariables false
set_option linter.unusedSimpArgs false

set_option maxRecDepth 10000 in
theorem caught_build (bl be : Nat) (v0 v1 : Value) (E : Int) (ne : ¬ bl = be) (w : World) (h0 : w.cell? ⟨bl, 0, none⟩ = some v0) (f0 : w.frozen? ⟨bl, 0, none⟩ = false) (h1 : w.cell? ⟨be, 0, none⟩ = some v1) (f1 : w.frozen? ⟨be, 0, none⟩ = false) :
    CallsD Try.prog 19 #[.pointer (some ⟨bl, 0, none⟩), .pointer (some ⟨be, 0, none⟩)] (.panicking (thrown E)) w fun e u' w' =>
      e = .returned (.tuple #[]) ∧ u' = .panicking [{ v := .iface 25 (.int .i64 E), recovered := true }] ∧ w' = (w.setCell ⟨bl, 0, none⟩ (.slice none 0 0)).setCell ⟨be, 0, none⟩ (.int .i64 E) := by
  refine callsD_of_wpS Try.func19 rfl fun c₀ cs hu => ?_
  apply wpS_seq
  apply wpS_region
  simp [wpOpsS, go_sem, recoverD, hu, Try.ntmps19, Exit.thenS]
  apply wpS_seq
  apply wpS_region
  simp [wpOpsS, go_sem, recoverD, Exit.thenS]
  refine wpS_cond (t := true) (by simp [Act.eval, Array.replicate]) ?_
  simp only [if_true]
  refine wpS_of_wp ?_
  change Code.wp _ _ _ ⟨#[.pointer (some ⟨bl, 0, none⟩), .pointer (some ⟨be, 0, none⟩), .iface 25 (.int .i64 E), .iface 25 (.int .i64 E), .iface 25 (.int .i64 E), .bool true, undef, undef], []⟩ w
  go_wp2_with fail
  refine (told_any E _).mono ?_
  rintro e w1 ⟨rfl, rfl⟩
  go_wp2_with fail
  simp [bodyPostS, results, Try.results19, go_sem]
theorem idle_build (bl be : Nat) (w : World) :
    CallsD Try.prog 19 #[.pointer (some ⟨bl, 0, none⟩), .pointer (some ⟨be, 0, none⟩)] .returning w fun e u' w' => e = .returned (.tuple #[]) ∧ u' = .returning ∧ w' = w := by
  refine callsD_of_wpS Try.func19 rfl fun c₀ cs hu => ?_
  apply wpS_seq
  apply wpS_region
  simp [wpOpsS, go_sem, recoverD, hu, Try.ntmps19, Exit.thenS]
  apply wpS_seq
  apply wpS_region
  simp [wpOpsS, go_sem, recoverD, Exit.thenS]
  refine wpS_cond (t := false) (by simp [Act.eval, Array.replicate]) ?_
  simp only [Bool.false_eq_true, if_false]
  refine wpS_of_wp (wp_skip ?_)
  cases c₀
  simp_all [bodyPostS, results, Try.results19]
set_option maxRecDepth 10000 in
theorem caught_check (be : Nat) (v1 : Value) (E : Int) (w : World) (h1 : w.cell? ⟨be, 0, none⟩ = some v1) (f1 : w.frozen? ⟨be, 0, none⟩ = false) :
    CallsD Try.prog 30 #[.pointer (some ⟨be, 0, none⟩)] (.panicking (thrown E)) w fun e u' w' =>
      e = .returned (.tuple #[]) ∧ u' = .panicking [{ v := .iface 25 (.int .i64 E), recovered := true }] ∧ w' = w.setCell ⟨be, 0, none⟩ (.int .i64 E) := by
  refine callsD_of_wpS Try.func30 rfl fun c₀ cs hu => ?_
  apply wpS_seq
  apply wpS_region
  simp [wpOpsS, go_sem, recoverD, hu, Try.ntmps30, Exit.thenS]
  apply wpS_seq
  apply wpS_region
  simp [wpOpsS, go_sem, recoverD, Exit.thenS]
  refine wpS_cond (t := true) (by simp [Act.eval, Array.replicate]) ?_
  simp only [if_true]
  refine wpS_of_wp ?_
  change Code.wp _ _ _ ⟨#[.pointer (some ⟨be, 0, none⟩), .iface 25 (.int .i64 E), .iface 25 (.int .i64 E), .iface 25 (.int .i64 E), .bool true, undef, undef], []⟩ w
  go_wp2_with fail
  refine (told_any E _).mono ?_
  rintro e w1 ⟨rfl, rfl⟩
  go_wp2_with fail
  simp [bodyPostS, results, Try.results30, go_sem]
theorem idle_check (be : Nat) (w : World) :
    CallsD Try.prog 30 #[.pointer (some ⟨be, 0, none⟩)] .returning w fun e u' w' => e = .returned (.tuple #[]) ∧ u' = .returning ∧ w' = w := by
  refine callsD_of_wpS Try.func30 rfl fun c₀ cs hu => ?_
  apply wpS_seq
  apply wpS_region
  simp [wpOpsS, go_sem, recoverD, hu, Try.ntmps30, Exit.thenS]
  apply wpS_seq
  apply wpS_region
  simp [wpOpsS, go_sem, recoverD, Exit.thenS]
  refine wpS_cond (t := false) (by simp [Act.eval, Array.replicate]) ?_
  simp only [Bool.false_eq_true, if_false]
  refine wpS_of_wp (wp_skip ?_)
  cases c₀
  simp_all [bodyPostS, results, Try.results30]
end Go.Proofs.Ytmmkmakajolfhab
