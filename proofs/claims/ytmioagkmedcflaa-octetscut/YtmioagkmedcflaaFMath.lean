/- Floats as whole numbers of 2^-1074: the ladder of finite floats, and which rung is nearest to a fraction: no Go in it. -/
import Derived.Laws.FloatArith
namespace Go.Proofs.Ytmioagkmedcflaa
open Ieee

/-- The b-th float from 0 upwards, in units of 2^-1074. -/
def V (b : Nat) : Nat := if b < 4503599627370496 then b else (4503599627370496 + b % 4503599627370496) * 2 ^ (b / 4503599627370496 - 1)

theorem V_form (e m : Nat) (h : m ≤ 9007199254740992) (h' : 4503599627370496 ≤ m ∨ e = 0) : V (e * 4503599627370496 + m) = m * 2 ^ e := by
  unfold V
  by_cases c : m < 4503599627370496
  · obtain rfl : e = 0 := by omega
    rw [if_pos (by omega)]; simp
  · rw [if_neg (by omega)]
    by_cases k : m = 9007199254740992
    · have q : (e * 4503599627370496 + m) / 4503599627370496 = e + 2 := by omega
      have r : (e * 4503599627370496 + m) % 4503599627370496 = 0 := by omega
      rw [q, r, k, show e + 2 - 1 = e + 1 from rfl, Nat.pow_succ]; omega
    · have q : (e * 4503599627370496 + m) / 4503599627370496 = e + 1 := by omega
      have r : 4503599627370496 + (e * 4503599627370496 + m) % 4503599627370496 = m := by omega
      rw [q, r, show e + 1 - 1 = e from rfl]

theorem form (b : Nat) : ∃ e m, b = e * 4503599627370496 + m ∧ m < 9007199254740992 ∧ (4503599627370496 ≤ m ∨ e = 0) ∧ e = b / 4503599627370496 - 1 := by
  refine ⟨b / 4503599627370496 - 1, b - (b / 4503599627370496 - 1) * 4503599627370496, ?_, ?_, ?_, rfl⟩ <;> omega

theorem V_step (b : Nat) : V (b + 1) = V b + 2 ^ (b / 4503599627370496 - 1) := by
  obtain ⟨e, m, hb, h1, h2, he⟩ := form b
  have a := V_form e m (by omega) h2
  have c := V_form e (m + 1) (by omega) (by omega)
  rw [← he, hb, Nat.add_assoc, a, c, Nat.add_mul, Nat.one_mul]

theorem V_succ (b : Nat) : V b < V (b + 1) := by
  rw [V_step]; have := Nat.two_pow_pos (b / 4503599627370496 - 1); omega

theorem V_lt {a b : Nat} (h : a < b) : V a < V b := by
  induction b with
  | zero => omega
  | succ n ih =>
    have := V_succ n
    by_cases k : a = n
    · subst k; exact this
    · have := ih (by omega); omega
theorem V_le {a b : Nat} (h : a ≤ b) : V a ≤ V b := by
  by_cases k : a = b
  · subst k; exact Nat.le_refl _
  · exact Nat.le_of_lt (V_lt (by omega))
theorem V_lt_iff {a b : Nat} : V a < V b ↔ a < b :=
  ⟨fun h => by
    by_cases k : a < b
    · exact k
    · have := V_le (Nat.le_of_not_lt k); omega, V_lt⟩
theorem V_le_iff {a b : Nat} : V a ≤ V b ↔ a ≤ b :=
  ⟨fun h => by
    by_cases k : a ≤ b
    · exact k
    · have := V_lt (Nat.lt_of_not_le k); omega, V_le⟩
theorem V_inj {a b : Nat} (h : V a = V b) : a = b := by
  have h1 : a ≤ b := V_le_iff.1 (by omega)
  have h2 : b ≤ a := V_le_iff.1 (by omega)
  omega
theorem V_zero : V 0 = 0 := rfl
theorem V_pos {b : Nat} (h : 0 < b) : 0 < V b := V_lt h

/-- x / y, in units of 2^-1074, lies nearest to the b-th float; of two the even one. -/
structure Nr (x y b : Nat) : Prop where
  lo : (V (b - 1) + V b) * y ≤ 2 * x
  hi : 2 * x ≤ (V b + V (b + 1)) * y
  loe : (V (b - 1) + V b) * y = 2 * x → b % 2 = 0
  hie : 2 * x = (V b + V (b + 1)) * y → b % 2 = 0

theorem mul_mid {A B x y x' y' : Nat} (h1 : A * y ≤ 2 * x) (h2 : 2 * x' ≤ B * y') (h : x * y' ≤ x' * y) (hB : B ≤ A) (hy : 0 < y) (hy' : 0 < y') :
    A = B ∧ A * y = 2 * x ∧ 2 * x' = B * y' := by
  have a1 : A * y * y' ≤ 2 * (x * y') := by rw [← Nat.mul_assoc]; exact Nat.mul_le_mul_right _ h1
  have a2 : 2 * (x' * y) ≤ B * y' * y := by rw [← Nat.mul_assoc]; exact Nat.mul_le_mul_right _ h2
  have a3 : B * (y' * y) ≤ A * (y' * y) := Nat.mul_le_mul_right _ hB
  rw [Nat.mul_assoc, Nat.mul_comm y y'] at a1
  rw [Nat.mul_assoc] at a2
  have e : A * (y' * y) = B * (y' * y) := by omega
  have hAB : A = B := Nat.eq_of_mul_eq_mul_right (Nat.mul_pos hy' hy) e
  refine ⟨hAB, ?_, ?_⟩
  · have : A * y * y' = 2 * x * y' := by rw [Nat.mul_assoc, Nat.mul_comm y y', Nat.mul_assoc 2]; omega
    exact Nat.eq_of_mul_eq_mul_right hy' this
  · have : 2 * x' * y = B * y' * y := by rw [Nat.mul_assoc, Nat.mul_assoc]; omega
    exact Nat.eq_of_mul_eq_mul_right hy this

theorem Nr.mono {x y b x' y' b' : Nat} (h : Nr x y b) (h' : Nr x' y' b') (hy : 0 < y) (hy' : 0 < y') (hx : x * y' ≤ x' * y) : b ≤ b' := by
  rcases Nat.lt_or_ge b' b with k | k
  · exfalso
    have k1 : V b' ≤ V (b - 1) := V_le (by omega)
    have k2 : V (b' + 1) ≤ V b := V_le (by omega)
    obtain ⟨e1, e2, e3⟩ := mul_mid h.lo h'.hi hx (by omega) hy hy'
    have p1 := h.loe e2
    have p2 := h'.hie e3
    have : b' = b - 1 := V_inj (by omega)
    omega
  · exact k

theorem Nr.uniq {x y b b' : Nat} (h : Nr x y b) (h' : Nr x y b') (hy : 0 < y) : b = b' :=
  Nat.le_antisymm (h.mono h' hy hy (Nat.le_refl _)) (h'.mono h hy hy (Nat.le_refl _))

theorem Nr.scale {x y x' y' b : Nat} (h : Nr x y b) (hy : 0 < y) (hy' : 0 < y') (e : x * y' = x' * y) : Nr x' y' b := by
  have s1 : ∀ A, A * y' * y = A * y * y' := fun A => by rw [Nat.mul_assoc, Nat.mul_assoc, Nat.mul_comm y]
  have s2 : 2 * x' * y = 2 * x * y' := by rw [Nat.mul_assoc, Nat.mul_assoc, e]
  refine ⟨?_, ?_, ?_, ?_⟩
  · refine Nat.le_of_mul_le_mul_right ?_ hy
    rw [s1, s2]; exact Nat.mul_le_mul_right _ h.lo
  · refine Nat.le_of_mul_le_mul_right ?_ hy
    rw [s1, s2]; exact Nat.mul_le_mul_right _ h.hi
  · intro k
    refine h.loe (Nat.eq_of_mul_eq_mul_right hy' ?_)
    rw [← s1, ← s2, k]
  · intro k
    refine h.hie (Nat.eq_of_mul_eq_mul_right hy' ?_)
    rw [← s1, ← s2, k]

theorem Nr.exact (b y : Nat) (hy : 0 < y) : Nr (V b * y) y b := by
  have h1 := V_le (show b - 1 ≤ b by omega)
  have h2 := V_succ b
  have e : 2 * (V b * y) = (V b + V b) * y := by rw [Nat.add_mul]; omega
  refine ⟨?_, ?_, ?_, ?_⟩
  · rw [e]; exact Nat.mul_le_mul_right _ (by omega)
  · rw [e]; exact Nat.mul_le_mul_right _ (by omega)
  · rw [e]; intro k
    have := Nat.eq_of_mul_eq_mul_right hy k
    have : b - 1 = b := V_inj (by omega)
    omega
  · rw [e]; intro k
    have := Nat.eq_of_mul_eq_mul_right hy k
    omega

theorem Nr.of_eq {x y b : Nat} (hy : 0 < y) (e : x = V b * y) : Nr x y b := e ▸ Nr.exact b y hy

/-- n / g to the nearest whole number; of two the even one. -/
def rne (n g : Nat) : Nat := n / g + (decide (g < 2 * (n % g)) || (g == 2 * (n % g) && n / g % 2 == 1)).toNat

theorem rne_spec (n g : Nat) (hg : 0 < g) : (2 * rne n g) * g ≤ 2 * n + g ∧ 2 * n ≤ (2 * rne n g + 1) * g ∧ (2 * rne n g * g = 2 * n + g → rne n g % 2 = 0) ∧ (2 * n = (2 * rne n g + 1) * g → rne n g % 2 = 0) ∧ n / g ≤ rne n g ∧ rne n g ≤ n / g + 1 ∧ (rne n g = n / g + 1 → n / g % 2 = 1 ∨ g < 2 * (n % g)) := by
  have hd := Nat.div_add_mod n g
  have hm := Nat.mod_lt n hg
  unfold rne
  generalize n / g = q at *
  generalize n % g = r at *
  have e1 : (2 * (q + 1)) * g = 2 * (g * q) + 2 * g := by rw [Nat.mul_add, Nat.add_mul, Nat.mul_comm g q, ← Nat.mul_assoc]
  have e2 : (2 * (q + 1) + 1) * g = 2 * (g * q) + 3 * g := by rw [Nat.add_mul, e1]; omega
  have e3 : (2 * q) * g = 2 * (g * q) := by rw [Nat.mul_comm g q, ← Nat.mul_assoc]
  have e4 : (2 * q + 1) * g = 2 * (g * q) + g := by rw [Nat.add_mul, e3]; omega
  by_cases h : (decide (g < 2 * r) || (g == 2 * r && q % 2 == 1)) = true
  · rw [h]
    simp only [Bool.toNat_true]
    have h' : g < 2 * r ∨ g = 2 * r ∧ q % 2 = 1 := by simpa using h
    rw [e1, e2]
    refine ⟨?_, ?_, ?_, ?_, ?_, ?_, ?_⟩ <;> omega
  · rw [Bool.eq_false_iff.2 h]
    simp only [Bool.toNat_false, Nat.add_zero]
    have h' : ¬ (g < 2 * r ∨ g = 2 * r ∧ q % 2 = 1) := by simpa using h
    rw [e3, e4]
    refine ⟨?_, ?_, ?_, ?_, ?_, ?_, ?_⟩ <;> omega

theorem Nr.of_rne (n g e : Nat) (hg : 0 < g) (hq : n / g < 9007199254740992) (h2 : 4503599627370496 ≤ n / g ∨ e = 0) :
    Nr (n * 2 ^ e) g (e * 4503599627370496 + rne n g) := by
  obtain ⟨r1, r2, r3, r4, r5, r6, r7⟩ := rne_spec n g hg
  generalize hm : rne n g = m at *
  have hp := Nat.two_pow_pos e
  have hV : V (e * 4503599627370496 + m) = m * 2 ^ e := V_form e m (by omega) (by omega)
  generalize hb : e * 4503599627370496 + m = b at *
  have hup : V (b + 1) ≥ (m + 1) * 2 ^ e := by
    rw [V_step, hV, Nat.add_mul, Nat.one_mul]
    have : 2 ^ e ≤ 2 ^ (b / 4503599627370496 - 1) := Nat.pow_le_pow_right (by decide) (by omega)
    omega
  have sx : 2 * (n * 2 ^ e) = 2 * n * 2 ^ e := by rw [Nat.mul_assoc]
  have up1 : (2 * m + 1) * g * 2 ^ e ≤ (V b + V (b + 1)) * g := by
    rw [Nat.mul_assoc, Nat.mul_comm g, ← Nat.mul_assoc]
    refine Nat.mul_le_mul_right _ ?_
    rw [hV]; simp only [Nat.add_mul, Nat.one_mul] at hup ⊢; rw [Nat.mul_assoc]; omega
  have u2 : 2 * n * 2 ^ e ≤ (2 * m + 1) * g * 2 ^ e := Nat.mul_le_mul_right _ r2
  have par : b % 2 = m % 2 := by omega
  have hie : 2 * (n * 2 ^ e) = (V b + V (b + 1)) * g → b % 2 = 0 := by
    intro k
    rw [sx] at k
    have : 2 * n * 2 ^ e = (2 * m + 1) * g * 2 ^ e := by omega
    have := r4 (Nat.eq_of_mul_eq_mul_right hp this)
    omega
  by_cases hlow : m = 4503599627370496 ∧ 0 < e
  · obtain ⟨m0, e0⟩ := hlow
    have q0 : n / g = m := by omega
    have n0 : g * m ≤ n := by rw [← q0]; exact Nat.mul_div_le n g
    have n1 : V b * g ≤ n * 2 ^ e := by
      rw [hV, Nat.mul_assoc, Nat.mul_comm _ g, ← Nat.mul_assoc, Nat.mul_comm m]
      exact Nat.mul_le_mul_right _ n0
    have n2 : V (b - 1) < V b := V_lt (by omega)
    have n3 : (V (b - 1) + V b) * g < (V b + V b) * g := Nat.mul_lt_mul_of_pos_right (by omega) hg
    have n4 : (V b + V b) * g = V b * g + V b * g := by rw [Nat.add_mul]
    exact ⟨by omega, by omega, by omega, hie⟩
  · by_cases hb0 : b = 0
    · have : (V (b - 1) + V b) * g = 0 := by rw [hb0]; simp [V_zero]
      exact ⟨by omega, by omega, by omega, hie⟩
    · have hm0 : 0 < m := by omega
      have lo0 : V (b - 1) + 2 ^ e ≤ V b := by
        have s := V_step (b - 1)
        rw [show b - 1 + 1 = b from by omega] at s
        rw [s]
        have : 2 ^ e ≤ 2 ^ ((b - 1) / 4503599627370496 - 1) := Nat.pow_le_pow_right (by decide) (by omega)
        omega
      have lo1 : (V (b - 1) + V b) * g + g * 2 ^ e ≤ 2 * m * g * 2 ^ e := by
        have z : (V (b - 1) + V b + 2 ^ e) * g ≤ (2 * m * 2 ^ e) * g := Nat.mul_le_mul_right _ (by rw [hV] at lo0 ⊢; rw [Nat.mul_assoc]; omega)
        rw [Nat.add_mul, Nat.mul_comm (2 ^ e) g] at z
        rw [Nat.mul_assoc (2 * m), Nat.mul_comm g, ← Nat.mul_assoc] 
        rw [Nat.mul_comm (2 ^ e) g]
        exact z
      have lo2 : 2 * m * g * 2 ^ e ≤ 2 * n * 2 ^ e + g * 2 ^ e := by
        rw [← Nat.add_mul]; exact Nat.mul_le_mul_right _ r1
      have loe : (V (b - 1) + V b) * g = 2 * (n * 2 ^ e) → b % 2 = 0 := by
        intro k
        rw [sx] at k
        have : 2 * m * g * 2 ^ e = (2 * n + g) * 2 ^ e := by rw [Nat.add_mul]; omega
        have := r3 (Nat.eq_of_mul_eq_mul_right hp this)
        omega
      exact ⟨by omega, by omega, loe, hie⟩
end Go.Proofs.Ytmioagkmedcflaa
