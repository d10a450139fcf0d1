/- Plain arithmetic of a quotient found bit by bit, its digits of 16 bits: no Go in it. -/
import Derived.Test.YtncnoaofdflbmabMathMul
namespace Go.Proofs.Ytncnoaofdflbmab
open Go.RowKit
set_option linter.unusedVariables false

theorem p2 (k : Nat) : (0 : Int) < 2 ^ k := Int.pow_pos (by decide)
theorem pw2 (k : Nat) : (65536 : Int) ^ k = 2 ^ (16 * k) := by
  rw [Int.pow_mul]; rfl
theorem div_half (u : Int) (e : Nat) : u / 2 ^ (e + 1) = u / 2 ^ e / 2 := by
  rw [Int.pow_succ, Int.ediv_ediv_of_nonneg (by have := p2 e; omega)]
/-- The bits from number t on of the quotient. -/
def qp (Q : Int) (t : Nat) : Int := Q / 2 ^ t * 2 ^ t
/-- The rest so far. -/
def rp (u d : Int) (t : Nat) : Int := u / 2 ^ t % d
/-- The next bit. -/
def bt (u : Int) (e : Nat) : Int := u / 2 ^ e % 2
theorem bt_01 (u : Int) (e : Nat) : bt u e = 0 ∨ bt u e = 1 := by unfold bt; omega
theorem rp_bd (u d : Int) (t : Nat) (hd : 0 < d) : 0 ≤ rp u d t ∧ rp u d t < d :=
  ⟨Int.emod_nonneg _ (by omega), Int.emod_lt_of_pos _ hd⟩
theorem quo_step (u d : Int) (e : Nat) (hd : 0 < d) :
    (d ≤ 2 * rp u d (e + 1) + bt u e → rp u d e = 2 * rp u d (e + 1) + bt u e - d ∧ qp (u / d) e = qp (u / d) (e + 1) + 2 ^ e) ∧
    (2 * rp u d (e + 1) + bt u e < d → rp u d e = 2 * rp u d (e + 1) + bt u e ∧ qp (u / d) e = qp (u / d) (e + 1)) := by
  have hP := p2 e
  have hu : u / 2 ^ e = 2 * (u / 2 ^ (e + 1)) + bt u e := by unfold bt; rw [div_half]; omega
  have swap : ∀ t, u / d / 2 ^ t = u / 2 ^ t / d := fun t => by
    rw [Int.ediv_ediv_of_nonneg (by omega), Int.ediv_ediv_of_nonneg (by have := p2 t; omega), Int.mul_comm]
  have b01 := bt_01 u e
  obtain ⟨r0, r1⟩ := rp_bd u d (e + 1) hd
  have ep := Int.mul_ediv_add_emod (u / 2 ^ (e + 1)) d
  have er : u / 2 ^ (e + 1) % d = rp u d (e + 1) := rfl
  rw [er] at ep
  unfold qp
  rw [swap, swap]
  generalize u / 2 ^ (e + 1) / d = p at *
  have hpow : (2 : Int) ^ (e + 1) = 2 ^ e * 2 := Int.pow_succ _ _
  have e0 : rp u d e = u / 2 ^ e % d := rfl
  have hval : u / 2 ^ e = (2 * rp u d (e + 1) + bt u e) + (2 * p) * d := by
    rw [hu, Int.mul_assoc, Int.mul_comm p d]; omega
  rw [e0, hval, Int.add_mul_emod_self_right, Int.add_mul_ediv_right _ _ (by omega), hpow]
  generalize rp u d (e + 1) = r at *
  generalize bt u e = b at *
  constructor
  · intro h
    have m : (2 * r + b) % d = 2 * r + b - d := by
      have : 2 * r + b = (2 * r + b - d) + 1 * d := by omega
      rw [this, Int.add_mul_emod_self_right, Int.emod_eq_of_lt (by omega) (by omega)]; omega
    have q : (2 * r + b) / d = 1 := by
      have : 2 * r + b = (2 * r + b - d) + 1 * d := by omega
      rw [this, Int.add_mul_ediv_right _ _ (by omega), Int.ediv_eq_zero_of_lt (by omega) (by omega)]; omega
    refine ⟨m, ?_⟩
    rw [q, Int.add_mul, Int.mul_comm (2 ^ e) 2, ← Int.mul_assoc, Int.mul_comm p 2]; omega
  · intro h
    refine ⟨Int.emod_eq_of_lt (by omega) h, ?_⟩
    rw [Int.ediv_eq_zero_of_lt (by omega) h, Int.mul_comm (2 ^ e) 2, ← Int.mul_assoc, Int.mul_comm p 2]; simp

theorem lt16 (b : Nat) (h : b < 16) : b = 0 ∨ b = 1 ∨ b = 2 ∨ b = 3 ∨ b = 4 ∨ b = 5 ∨ b = 6 ∨ b = 7 ∨ b = 8 ∨ b = 9 ∨ b = 10 ∨ b = 11 ∨ b = 12 ∨ b = 13 ∨ b = 14 ∨ b = 15 := by omega

/-- A digit's bit is the number's. -/
theorem bt_dg (u : Int) (i b : Nat) (h : b < 16) : dg u i / 2 ^ b % 2 = bt u (16 * i + b) := by
  unfold dg bt
  rw [pw2, Int.pow_add, ← Int.ediv_ediv_of_nonneg (by have := p2 (16 * i); omega)]
  generalize u / 2 ^ (16 * i) = v
  rcases lt16 b h with rfl | rfl | rfl | rfl | rfl | rfl | rfl | rfl | rfl | rfl | rfl | rfl | rfl | rfl | rfl | rfl <;> simp <;> omega

/-- One bit more of the quotient: its digit alone grows. -/
theorem dg_bit (Q : Int) (i b : Nat) (h : b < 16) (k : Nat) :
    dg (qp Q (16 * i + b + 1) + 2 ^ (16 * i + b)) k = if k = i then dg (qp Q (16 * i + b + 1)) i + 2 ^ b else dg (qp Q (16 * i + b + 1)) k := by
  unfold qp
  generalize Q / 2 ^ (16 * i + b + 1) = c
  unfold dg
  rw [pw2, pw2]
  have he : (2 : Int) ^ (16 * i + b + 1) = 2 ^ (16 * i + b) * 2 := Int.pow_succ _ _
  rcases Nat.lt_trichotomy k i with hk | hk | hk
  · rw [if_neg (by omega)]
    obtain ⟨m, rfl⟩ : ∃ m, i = k + 1 + m := ⟨i - k - 1, by omega⟩
    have hf : (2 : Int) ^ (16 * (k + 1 + m) + b) = (2 ^ (16 * m + b) * 65536) * 2 ^ (16 * k) := by
      rw [show 16 * (k + 1 + m) + b = (16 * m + b) + 16 + 16 * k by omega, Int.pow_add, Int.pow_add]; rfl
    have h1 : c * 2 ^ (16 * (k + 1 + m) + b + 1) = (c * 2 * 2 ^ (16 * m + b) * 65536) * 2 ^ (16 * k) := by
      rw [he, hf]
      generalize (2 : Int) ^ (16 * m + b) = A
      generalize (2 : Int) ^ (16 * k) = B
      rw [← Int.mul_assoc, ← Int.mul_assoc, ← Int.mul_assoc, Int.mul_assoc (c * A * 65536), Int.mul_comm B 2, ← Int.mul_assoc]
      congr 1
      rw [Int.mul_assoc c 2, Int.mul_comm 2 A, ← Int.mul_assoc, Int.mul_assoc (c * A), Int.mul_comm 65536 2, ← Int.mul_assoc]
    rw [h1, hf, ← Int.add_mul, Int.mul_ediv_cancel _ (by have := p2 (16 * k); omega), Int.mul_ediv_cancel _ (by have := p2 (16 * k); omega)]
    omega
  · subst hk
    rw [if_pos rfl]
    have hf : (2 : Int) ^ (16 * k + b) = 2 ^ b * 2 ^ (16 * k) := by rw [Nat.add_comm, Int.pow_add]
    have h1 : c * 2 ^ (16 * k + b + 1) = (c * 2 * 2 ^ b) * 2 ^ (16 * k) := by
      rw [he, hf, Int.mul_comm (2 ^ b * 2 ^ (16 * k)) 2, ← Int.mul_assoc, ← Int.mul_assoc]
    rw [h1, hf, ← Int.add_mul, Int.mul_ediv_cancel _ (by have := p2 (16 * k); omega), Int.mul_ediv_cancel _ (by have := p2 (16 * k); omega)]
    rcases lt16 b h with rfl | rfl | rfl | rfl | rfl | rfl | rfl | rfl | rfl | rfl | rfl | rfl | rfl | rfl | rfl | rfl <;> simp <;> omega
  · rw [if_neg (by omega)]
    obtain ⟨m, hm⟩ : ∃ m, 16 * k = (16 * i + b + 1) + m := ⟨16 * k - (16 * i + b + 1), by omega⟩
    have hE := p2 (16 * i + b)
    have hZ : (2 : Int) ^ (16 * i + b) / 2 ^ (16 * i + b + 1) = 0 := Int.ediv_eq_zero_of_lt (by omega) (by omega)
    rw [hm, Int.pow_add 2 (16 * i + b + 1) m, ← Int.ediv_ediv_of_nonneg (by have := p2 (16 * i + b + 1); omega), ← Int.ediv_ediv_of_nonneg (by have := p2 (16 * i + b + 1); omega), Int.add_comm, Int.add_mul_ediv_right _ _ (by have := p2 (16 * i + b + 1); omega),
      hZ, Int.mul_ediv_cancel _ (by have := p2 (16 * i + b + 1); omega), Int.zero_add]

theorem qp_top (Q : Int) (h0 : 0 ≤ Q) (h1 : Q < 2 ^ 128) : qp Q 128 = 0 := by
  unfold qp; rw [Int.ediv_eq_zero_of_lt h0 h1]; simp
theorem rp_top (u d : Int) (h0 : 0 ≤ u) (h1 : u < 2 ^ 128) : rp u d 128 = 0 := by
  unfold rp; rw [Int.ediv_eq_zero_of_lt h0 h1]; simp
theorem qp_end (Q : Int) : qp Q 0 = Q := by unfold qp; simp
theorem rp_end (u d : Int) : rp u d 0 = u % d := by unfold rp; simp
/-- k, halved. -/
theorem half_next (b : Nat) : (2 : Int) ^ (b + 1) / 2 = 2 ^ b := by rw [Int.pow_succ]; exact Int.mul_ediv_cancel _ (by decide)
theorem p2_le (b : Nat) (h : b < 16) : (2 : Int) ^ b ≤ 32768 := by
  rcases lt16 b h with rfl | rfl | rfl | rfl | rfl | rfl | rfl | rfl | rfl | rfl | rfl | rfl | rfl | rfl | rfl | rfl <;> decide

end Go.Proofs.Ytncnoaofdflbmab
