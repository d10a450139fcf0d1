/- RatioAlong's walk: the program and the document reckon the same three rounded steps. -/
import Derived.Test.YtfoliapennaneabRShown
namespace Go.Proofs.Ytfoliapennaneab
open Go.RowKit Go.Shelf
set_option linter.unusedVariables false

/-- The bits of a NaN that the language does not fix. -/
def nanw (x y : Nat) (w : World) : Nat := (Question.nanBits .f64 x y).cut (w.tape w.drawn (.nanBits .f64 x y))
theorem nanw_rg (x y : Nat) (w : World) : 9218868437227405312 < rg (nanw x y w) := by
  unfold nanw rg
  generalize w.tape w.drawn (.nanBits .f64 x y) = t
  show 9218868437227405312 < (t % 2 * 2 ^ 63 + 9218868437227405312 + 1 + t / 2 % (2 ^ 52 - 1)) % 9223372036854775808
  have : t / 2 % (2 ^ 52 - 1) < 2 ^ 52 - 1 := Nat.mod_lt _ (by decide)
  generalize t / 2 % (2 ^ 52 - 1) = a at *
  have h2 : t % 2 < 2 := Nat.mod_lt _ (by decide)
  generalize t % 2 = c at *
  omega
theorem run_mul_none (t : TypeId) (x y : Nat) (h : Ieee.double.mul x y = none) (w : World) : (binOp .mul t (.float .f64 x) (.float .f64 y)).run Try.prog w = .ok (.float .f64 (nanw x y w)) w.drew := by
  have h' : FloatKind.f64.format.mul x y = none := h
  simp [binOp, Op.floatArith, h']
  rfl
theorem run_add_none (t : TypeId) (x y : Nat) (h : Ieee.double.add x y = none) (w : World) : (binOp .add t (.float .f64 x) (.float .f64 y)).run Try.prog w = .ok (.float .f64 (nanw x y w)) w.drew := by
  have h' : FloatKind.f64.format.add x y = none := h
  simp [binOp, Op.floatArith, h']
  rfl
theorem add_nan {x y : Nat} (h : 9218868437227405312 < rg x) : Ieee.double.add x y = none := by
  unfold Ieee.Format.add; rw [read_nan h]; rfl

/-- What the steps give: a float, or something that is no number. -/
def AL (s y base r : Nat) : Prop := (∃ p, Ieee.double.mul s y = some p ∧ Ieee.double.add p base = some r) ∨ ((∀ p, Ieee.double.mul s y = some p → Ieee.double.add p base = none) ∧ 9218868437227405312 < rg r)

theorem AL.same {s y base a b : Nat} (h : AL s y base a) (k : AL s y base b) : (9218868437227405312 < rg a ∧ 9218868437227405312 < rg b) ∨ a = b := by
  rcases h with ⟨p, h1, h2⟩ | ⟨h1, h2⟩
  · rcases k with ⟨q, k1, k2⟩ | ⟨k1, k2⟩
    · rw [h1] at k1; cases k1
      rw [h2] at k2; cases k2
      exact .inr rfl
    · have := k1 p h1; rw [h2] at this; cases this
  · rcases k with ⟨q, k1, k2⟩ | ⟨k1, k2⟩
    · have := h1 q k1; rw [k2] at this; cases this
    · exact .inl ⟨h2, k2⟩

theorem along_any (s y far base : Nat) (hf : far < 18446744073709551616) (ey : floatOfInt .f64 (far : Int) = y) (w : World) :
    Calls Try.prog 7 #[.float .f64 s, .int .u64 far, .float .f64 base] w fun e w' => (∃ r, e = .returned (.float .f64 r) ∧ AL s y base r) ∧ ∃ n, w' = w.drewN n := by
  cases h1 : Ieee.double.mul s y with
  | some p =>
    cases h2 : Ieee.double.add p base with
    | some r => exact (along_some s y far base p r hf ey h1 h2 w).mono fun e w' h => ⟨⟨r, h.1, .inl ⟨p, h1, h2⟩⟩, 0, h.2⟩
    | none =>
      have k1 : ∀ w, (binOp .mul 24 (.float .f64 s) (.float .f64 y)).run Try.prog w = .ok (.float .f64 p) w := fun w => run_float_arith w .mul _ _ _ _ _ h1
      have k2 : ∀ w, (binOp .add 24 (.float .f64 p) (.float .f64 base)).run Try.prog w = .ok (.float .f64 (nanw p base w)) w.drew := fun w => run_add_none _ _ _ h2 w
      have a : Hid (AL s y base (nanw p base w)) := .inr ⟨fun q hq => (by rw [h1] at hq; cases hq; exact h2), nanw_rg _ _ _⟩
      clear h1 h2
      go_enter Try.func7, Try.ntmps7
      go_wp2
      go_ret
      exact ⟨⟨_, rfl, a.out⟩, 1, rfl⟩
  | none =>
    have k1 : ∀ w, (binOp .mul 24 (.float .f64 s) (.float .f64 y)).run Try.prog w = .ok (.float .f64 (nanw s y w)) w.drew := fun w => run_mul_none _ _ _ h1 w
    have k2 : ∀ w', (binOp .add 24 (.float .f64 (nanw s y w)) (.float .f64 base)).run Try.prog w' = .ok (.float .f64 (nanw (nanw s y w) base w')) w'.drew := fun w' => run_add_none _ _ _ (add_nan (nanw_rg s y w)) w'
    have a : Hid (AL s y base (nanw (nanw s y w) base w.drew)) := .inr ⟨fun q hq => (by rw [h1] at hq; cases hq), nanw_rg _ _ _⟩
    clear h1
    go_enter Try.func7, Try.ntmps7
    go_wp2
    go_ret
    exact ⟨⟨_, rfl, a.out⟩, 2, rfl⟩

theorem ralong_any (s y far base : Nat) (hf : far < 18446744073709551616) (ey : floatOfInt .f64 (far : Int) = y) (w : World) :
    Calls Try.prog 8 #[.float .f64 s, .int .u64 far, .float .f64 base] w fun e w' => (∃ r, e = .returned (.float .f64 r) ∧ AL s y base r) ∧ ∃ n, w' = w.drewN n := by
  cases h1 : Ieee.double.mul s y with
  | some p =>
    have k1 : ∀ w, (binOp .mul 24 (.float .f64 s) (.float .f64 y)).run Try.prog w = .ok (.float .f64 p) w := fun w => run_float_arith w .mul _ _ _ _ _ h1
    cases h2 : Ieee.double.add p base with
    | some r =>
      have k2 : ∀ w, (binOp .add 24 (.float .f64 p) (.float .f64 base)).run Try.prog w = .ok (.float .f64 r) w := fun w => run_float_arith w .add _ _ _ _ _ h2
      have a : Hid (AL s y base r) := .inl ⟨p, h1, h2⟩
      clear h1 h2
      go_enter Try.func8, Try.ntmps8
      go_wp2
      go_ret
      exact ⟨⟨_, rfl, a.out⟩, 0, rfl⟩
    | none =>
      have k2 : ∀ w, (binOp .add 24 (.float .f64 p) (.float .f64 base)).run Try.prog w = .ok (.float .f64 (nanw p base w)) w.drew := fun w => run_add_none _ _ _ h2 w
      have a : Hid (AL s y base (nanw p base w)) := .inr ⟨fun q hq => (by rw [h1] at hq; cases hq; exact h2), nanw_rg _ _ _⟩
      clear h1 h2
      go_enter Try.func8, Try.ntmps8
      go_wp2
      go_ret
      exact ⟨⟨_, rfl, a.out⟩, 1, rfl⟩
  | none =>
    have k1 : ∀ w, (binOp .mul 24 (.float .f64 s) (.float .f64 y)).run Try.prog w = .ok (.float .f64 (nanw s y w)) w.drew := fun w => run_mul_none _ _ _ h1 w
    have k2 : ∀ w', (binOp .add 24 (.float .f64 (nanw s y w)) (.float .f64 base)).run Try.prog w' = .ok (.float .f64 (nanw (nanw s y w) base w')) w'.drew := fun w' => run_add_none _ _ _ (add_nan (nanw_rg s y w)) w'
    have a : Hid (AL s y base (nanw (nanw s y w) base w.drew)) := .inr ⟨fun q hq => (by rw [h1] at hq; cases hq), nanw_rg _ _ _⟩
    clear h1
    go_enter Try.func8, Try.ntmps8
    go_wp2
    go_ret
    exact ⟨⟨_, rfl, a.out⟩, 2, rfl⟩

theorem same_any (a b : Nat) (h : (9218868437227405312 < rg a ∧ 9218868437227405312 < rg b) ∨ a = b) (w : World) :
    Calls Try.prog 9 #[.float .f64 a, .float .f64 b] w fun e w' => e = .returned (.bool true) ∧ w' = w := by
  have s1 := self_ne a
  have s2 := self_ne b
  by_cases n : 9218868437227405312 < rg a
  · have n2 : 9218868437227405312 < rg b := by
      rcases h with h | h
      · exact h.2
      · rw [← h]; exact n
    rw [decide_eq_true n] at s1
    rw [decide_eq_true n2] at s2
    go_enter Try.func9, Try.ntmps9
    go_wp2
    go_ret
    exact ⟨rfl, rfl⟩
  · obtain rfl : a = b := h.resolve_left fun k => n k.1
    rw [decide_eq_false n] at s1
    clear s2 h
    go_enter Try.func9, Try.ntmps9
    go_wp2_with (simp only [f64bits])
    go_ret
    exact ⟨rfl, rfl⟩

set_option maxRecDepth 10000 in
set_option maxHeartbeats 2000000 in
theorem along_law0 (s far base : Nat) (hf : far < 18446744073709551616) (w : World) :
    Calls Try.prog 3 #[.int .u64 s, .int .u64 far, .int .u64 base] w fun e w' => e = .returned (.bool true) ∧ Gb w w' := by
  have t1 : (s : Int).toNat = s := Int.toNat_natCast s
  have t2 : (base : Int).toNat = base := Int.toNat_natCast base
  go_enter Try.func3, Try.ntmps3
  go_wp2_with fail
  refine (shown_any _).mono ?_
  rintro e w1 ⟨rfl, g1⟩
  go_wp2_with (simp only [f64from])
  refine (along_any s _ far base hf rfl _).mono ?_
  rintro e w2 ⟨⟨a, rfl, ha⟩, n, rfl⟩
  have ha' : Hid (AL s (floatOfInt .f64 (far : Int)) base a) := ha
  clear ha
  go_wp2_with fail
  refine (ralong_any s _ far base hf rfl _).mono ?_
  rintro e w2 ⟨⟨b, rfl, hb⟩, m, rfl⟩
  have hs := AL.same (s := s) (y := floatOfInt .f64 (far : Int)) (base := base) ha'.out hb
  clear ha' hb
  go_wp2_with fail
  refine (same_any a b hs _).mono ?_
  rintro e w2 ⟨rfl, rfl⟩
  clear hs
  go_wp2
  go_ret
  refine ⟨rfl, ?_⟩
  first | exact g1.drewN _ | (rw [World.drewN_drewN]; exact g1.drewN _)

theorem along_law (s : Int) (s0 : 0 ≤ s) (s1 : s < 18446744073709551616) (far : Int) (f0 : 0 ≤ far) (f1 : far < 18446744073709551616) (base : Int) (b0 : 0 ≤ base) (b1 : base < 18446744073709551616) (w : World) :
    Calls Try.prog 3 #[.int .u64 s, .int .u64 far, .int .u64 base] w fun e w' => e = .returned (.bool true) ∧ Gb w w' := by
  obtain ⟨s, rfl⟩ := Int.eq_ofNat_of_zero_le s0
  obtain ⟨far, rfl⟩ := Int.eq_ofNat_of_zero_le f0
  obtain ⟨base, rfl⟩ := Int.eq_ofNat_of_zero_le b0
  exact along_law0 s far base (by omega) w
end Go.Proofs.Ytfoliapennaneab
