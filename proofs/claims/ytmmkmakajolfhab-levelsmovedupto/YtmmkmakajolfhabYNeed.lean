/- Package levels: need, told, mayBe, MaxHeight, rise, needBase. -/
import Derived.Test.YtmmkmakajolfhabVCheck
import Derived.Test.YtmmkmakajolfhabPLn
import Derived.Defers
import Derived.Recover
namespace Go.Proofs.Ytmmkmakajolfhab
open Go.RowKit
set_option linter.unusedVariables false

/-- What need throws. -/
abbrev thrown (err : Int) : List PanicEntry := [{ v := .iface 25 (.int .i64 err), recovered := false }]

theorem need_ok (err : Int) (w : World) : Calls Try.prog 31 #[.bool true, .int .i64 err] w fun e w' => e = .returned (.tuple #[]) ∧ w' = w := by
  go_enter Try.func31, Try.ntmps31
  go_wp2_with fail
  go_end0
  exact ⟨rfl, rfl⟩
theorem need_bad (err : Int) (w : World) : Calls Try.prog 31 #[.bool false, .int .i64 err] w fun e w' => e = .panicked (thrown err) ∧ w' = w := by
  go_enter Try.func31, Try.ntmps31
  go_wp2_with fail
  exact ⟨rfl, rfl, rfl⟩
theorem assert_errno (err : Int) (xT : TypeId) (w : World) : (Instr.typeAssert (.iface 25 (.int .i64 err)) xT 25 true).run Try.prog w = .ok (.tuple #[.int .i64 err, .bool true]) w := by kernel_rfl
set_option maxRecDepth 10000 in
theorem told_any (err : Int) (w : World) : Calls Try.prog 20 #[.iface 25 (.int .i64 err)] w fun e w' => e = .returned (.int .i64 err) ∧ w' = w := by
  have ha := assert_errno err
  go_enter Try.func20, Try.ntmps20
  go_wp2_with fail
  go_ret
  exact ⟨rfl, rfl⟩
theorem maybe_yes (eps : Int) (h : 2 ≤ eps ∧ eps ≤ 64) (w : World) : Calls Try.prog 35 #[.int .i64 eps] w fun e w' => e = .returned (.bool true) ∧ w' = w := by
  have t1 : decide (2 ≤ eps) = true := by simpa using h.1
  have t2 : decide (eps ≤ 64) = true := by simpa using h.2
  clear h
  go_enter Try.func35, Try.ntmps35
  go_wp2_with fail
  go_ret
  exact ⟨rfl, rfl⟩
theorem maybe_no (eps : Int) (h : ¬ (2 ≤ eps ∧ eps ≤ 64)) (w : World) : Calls Try.prog 35 #[.int .i64 eps] w fun e w' => e = .returned (.bool false) ∧ w' = w := by
  by_cases h1 : 2 ≤ eps
  · have t1 : decide (2 ≤ eps) = true := by simpa using h1
    have t2 : decide (eps ≤ 64) = false := by simp; omega
    clear h h1
    go_enter Try.func35, Try.ntmps35
    go_wp2_with fail
    go_ret
    exact ⟨rfl, rfl⟩
  · have t1 : decide (2 ≤ eps) = false := by simpa using h1
    clear h h1
    go_enter Try.func35, Try.ntmps35
    go_wp2_with fail
    go_ret
    exact ⟨rfl, rfl⟩

theorem xmaxh_some (e : Nat) (e2 : 2 ≤ e) (e64 : e ≤ 64) : ∀ N : Nat, 0 < N → N < 9223372036854775808 → ∀ w : World, Calls Try.prog 18 #[.int .i64 (N : Int), .int .i64 (e : Int)] w fun ex w' => ex = .returned (.int .i64 ((hgt e N : Nat) : Int)) ∧ w' = w := by
  intro N
  induction N using Nat.strongRecOn with
  | ind N ih =>
    intro n0 n1 w
    have IH : Hid (∀ m, m < N → 0 < m → m < 9223372036854775808 → ∀ w : World, Calls Try.prog 18 #[.int .i64 (m : Int), .int .i64 (e : Int)] w fun ex w' => ex = .returned (.int .i64 ((hgt e m : Nat) : Int)) ∧ w' = w) := ih
    clear ih
    have MB : Hid (∀ w : World, Calls Try.prog 35 #[.int .i64 (e : Int)] w fun e w' => e = .returned (.bool true) ∧ w' = w) := fun w => maybe_yes e ⟨by omega, by omega⟩ w
    have t3 : decide ((N : Int) < 1) = false := by simp; omega
    have w2 : IntKind.i64.wrap (2 * (e : Int)) = 2 * (e : Int) := by rw [IntKind.wrap_i64]; omega
    have w3 : IntKind.i64.wrap (2 * (e : Int) - 1) = 2 * (e : Int) - 1 := by rw [IntKind.wrap_i64]; omega
    have ez : ((e : Int) == 0) = false := by simp; omega
    by_cases c : N ≤ 2 * e - 1
    · have HR : hgt e N = 1 := hgt_one n0 c
      rw [HR]
      have tc : decide ((N : Int) ≤ 2 * (e : Int) - 1) = true := by simp; omega
      clear HR c
      go_enter Try.func18, Try.ntmps18
      go_wp2_with (go_at_call 35; refine (MB.out _).mono ?_; rintro ex w1 ⟨rfl, rfl⟩)
      go_ret
      exact ⟨rfl, rfl⟩
    · have tc : decide ((N : Int) ≤ 2 * (e : Int) - 1) = false := by simp; omega
      have dl := div_less e2 c
      have HR := hgt_more e2 c
      have hl := hgt_le e2 N
      rw [HR] at hl ⊢
      obtain ⟨d, hd⟩ : ∃ d, N / e = d := ⟨_, rfl⟩
      have td : Int.tdiv (N : Int) (e : Int) = (d : Int) := by rw [← hd]; rfl
      rw [hd] at dl hl ⊢
      have IH1 : Hid (∀ w : World, Calls Try.prog 18 #[.int .i64 ((d : Int) + 1), .int .i64 (e : Int)] w fun ex w' => ex = .returned (.int .i64 ((hgt e (d + 1) : Nat) : Int)) ∧ w' = w) := fun w => IH.out (d + 1) dl (Nat.succ_pos _) (by omega) w
      obtain ⟨R, hR⟩ : ∃ R, hgt e (d + 1) = R := ⟨_, rfl⟩
      rw [hR] at hl IH1 ⊢
      clear hd HR IH hR
      go_enter Try.func18, Try.ntmps18
      go_wp2_with (first
        | (go_at_call 35; refine (MB.out _).mono ?_; rintro ex w1 ⟨rfl, rfl⟩)
        | (go_at_call 18; refine (IH1.out _).mono ?_; rintro ex w2 ⟨rfl, rfl⟩))
      go_ret
      exact ⟨by simp; omega, rfl⟩
theorem xmaxh_any (n eps : Int) (n0 : -9223372036854775808 ≤ n) (n1 : n < 9223372036854775808) (e0 : -9223372036854775808 ≤ eps) (e1 : eps < 9223372036854775808) (w : World) :
    Calls Try.prog 18 #[.int .i64 n, .int .i64 eps] w fun ex w' => ex = .returned (.int .i64 (mxh n eps)) ∧ w' = w := by
  by_cases h : 2 ≤ eps ∧ eps ≤ 64
  · by_cases h1 : 1 ≤ n
    · obtain ⟨e, rfl⟩ : ∃ e : Nat, eps = e := ⟨eps.toNat, by omega⟩
      obtain ⟨N, rfl⟩ : ∃ N : Nat, n = N := ⟨n.toNat, by omega⟩
      have MX : mxh (N : Int) (e : Int) = (hgt e N : Nat) := by
        unfold mxh
        rw [if_pos ⟨h.1, h.2, h1⟩, Int.toNat_natCast, Int.toNat_natCast]
      rw [MX]
      exact xmaxh_some e (by omega) (by omega) N (by omega) (by omega) w
    · have t3 : decide (n < 1) = true := by simp; omega
      have MX : mxh n eps = 0 := if_neg (fun q => h1 q.2.2)
      have MB : Hid (∀ w : World, Calls Try.prog 35 #[.int .i64 eps] w fun e w' => e = .returned (.bool true) ∧ w' = w) := fun w => maybe_yes eps h w
      rw [MX]
      clear MX h h1
      go_enter Try.func18, Try.ntmps18
      go_wp2_with (go_at_call 35; refine (MB.out _).mono ?_; rintro ex w1 ⟨rfl, rfl⟩)
      go_ret
      exact ⟨rfl, rfl⟩
  · have MX : mxh n eps = 0 := if_neg (fun q => h ⟨q.1, q.2.1⟩)
    have MB : Hid (∀ w : World, Calls Try.prog 35 #[.int .i64 eps] w fun e w' => e = .returned (.bool false) ∧ w' = w) := fun w => maybe_no eps h w
    rw [MX]
    clear MX h
    go_enter Try.func18, Try.ntmps18
    go_wp2_with (go_at_call 35; refine (MB.out _).mono ?_; rintro ex w1 ⟨rfl, rfl⟩)
    go_ret
    exact ⟨rfl, rfl⟩

theorem rise8_any (ao : Option Addr) (n c : Nat) (f : Nat → Int) (hn : n < 4611686018427387904) (w : World) (h : KS w ao n f) :
    Calls Try.prog 36 #[.slice ao n c] w fun e w' => (∃ r : Bool, e = .returned (.bool r) ∧ (r = true ↔ Up f n)) ∧ Gw w w' := by
  have HK : Aside (KS w ao n f) := h
  clear h
  go_enter Try.func36, Try.ntmps36
  go_wp2_with fail
  refine (rising_any ao n c f hn w HK.out).mono ?_
  rintro e w1 ⟨⟨r, rfl, hr⟩, g1⟩
  have HR : Aside (r = true ↔ Up f n) := hr
  clear hr
  go_wp2_with fail
  go_ret
  exact ⟨⟨r, rfl, HR.out⟩, g1⟩

/-- What needBase does. -/
def BaseOut (e : Ending) (eps : Int) (f : Nat → Int) (n : Nat) : Prop :=
  (¬ (2 ≤ eps ∧ eps ≤ 64) ∧ e = .panicked (thrown 1)) ∨ ((2 ≤ eps ∧ eps ≤ 64) ∧ ¬ Up f n ∧ e = .panicked (thrown 80)) ∨ ((2 ≤ eps ∧ eps ≤ 64) ∧ Up f n ∧ e = .returned (.tuple #[]))
theorem needbase_any (eps : Int) (ao : Option Addr) (n c : Nat) (f : Nat → Int) (hn : n < 4611686018427387904) (w : World) (h : KS w ao n f) :
    Calls Try.prog 21 #[.slice ao n c, .int .i64 eps] w fun e w' => BaseOut e eps f n ∧ Gw w w' := by
  have HK : Aside (KS w ao n f) := h
  clear h
  by_cases k0 : ¬ (2 ≤ eps ∧ eps ≤ 64)
  · have R : Aside (BaseOut (.panicked (thrown 1)) eps f n) := .inl ⟨k0, rfl⟩
    have MB : Hid _ := fun w => maybe_no eps k0 w
    clear k0
    go_enter Try.func21, Try.ntmps21
    go_wp2_with fail
    refine (MB.out _).mono ?_
    rintro e w1 ⟨rfl, rfl⟩
    go_wp2_with fail
    refine (need_bad 1 _).mono ?_
    rintro e w1 ⟨rfl, rfl⟩
    go_wp2_with fail
    exact ⟨rfl, R.out, Gw.refl _⟩
  · have KE : Aside (2 ≤ eps ∧ eps ≤ 64) := Classical.not_not.1 k0
    have MB : Hid _ := fun w => maybe_yes eps KE.out w
    clear k0
    go_enter Try.func21, Try.ntmps21
    go_wp2_with fail
    refine (MB.out _).mono ?_
    rintro e w1 ⟨rfl, rfl⟩
    go_wp2_with fail
    refine (need_ok 1 _).mono ?_
    rintro e w1 ⟨rfl, rfl⟩
    go_wp2_with fail
    refine (rise8_any ao n c f hn _ HK.out).mono ?_
    rintro e w2 ⟨⟨r, rfl, hr⟩, g2⟩
    have HR : Aside (r = true ↔ Up f n) := hr
    have G2 : Aside (Gw w1 w2) := g2
    clear hr g2
    cases r with
    | false =>
      have R : Aside (BaseOut (.panicked (thrown 80)) eps f n) := .inr (.inl ⟨KE.out, fun q => by have := HR.out.2 q; simp at this, rfl⟩)
      go_wp2_with fail
      refine (need_bad 80 _).mono ?_
      rintro e w3 ⟨rfl, rfl⟩
      go_wp2_with fail
      exact ⟨rfl, R.out, G2.out⟩
    | true =>
      have R : Aside (BaseOut (.returned (.tuple #[])) eps f n) := .inr (.inr ⟨KE.out, HR.out.1 rfl, rfl⟩)
      go_wp2_with fail
      refine (need_ok 80 _).mono ?_
      rintro e w3 ⟨rfl, rfl⟩
      go_wp2_with fail
      go_end0
      exact ⟨R.out, G2.out⟩

end Go.Proofs.Ytmmkmakajolfhab
