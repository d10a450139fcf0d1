/- Lines over keys, in plain words: the least slope is near; how great it is; which two keys want it; what is true where Of tells a line. -/
import Derived.Test.YtncnoaofdflbmabLPlain
namespace Go.Proofs.Ytncnoaofdflbmab
set_option linter.unusedVariables false

/-- The least slope, where some line fits, is near to all ranks. -/
theorem near_of {e : Int} {f : Nat → Int} {n : Nat} {a b : Int} (he : 0 ≤ e) (u : Up f n) (h : LowOn e f (Prs n) a b) (hF : FitsOn e f (Prs n)) : NearR e f n a b := by
  have b1 := h.b1
  have p := prs_pairs u
  refine near_mk he b1 h.bound (fun i j s => ?_)
  rcases h.att with q | ⟨i0, j0, s0, m0, r⟩
  · rw [q, Int.zero_mul]
    have := s.1
    exact Int.mul_nonneg (by omega) (by omega)
  · have D0 := p.pos i0 j0 s0
    have k := hF i0 j0 i j s0 s
    have k1 := Int.mul_le_mul_of_nonneg_right k (show 0 ≤ b by omega)
    rw [Int.mul_right_comm _ (f j - f i) b, r, Int.mul_right_comm _ (f j0 - f i0) b, Int.mul_right_comm a (f j0 - f i0) (f j - f i)] at k1
    exact Int.le_of_mul_le_mul_right k1 D0

/-- The least slope's numerator. -/
theorem low_num {e : Int} {f : Nat → Int} {n : Nat} {a b : Int} (he : 0 ≤ e) (u : Up f n) (h : LowOn e f (Prs n) a b) : a ≤ n := by
  have b1 := h.b1
  have p := prs_pairs u
  rcases h.att with q | ⟨i, j, s, m0, r⟩
  · omega
  · have D := p.pos i j s
    have dv : b ∣ a * (f j - f i) := ⟨(j : Int) - i - 2 * e, by rw [← r, Int.mul_comm]⟩
    obtain ⟨k, hk⟩ := cop_dvd h.low dv
    have k1 : 0 < k := by
      rcases Int.lt_trichotomy 0 k with q | q | q
      · exact q
      · rw [← q, Int.mul_zero] at hk; omega
      · have : b * k ≤ 0 := Int.mul_nonpos_of_nonneg_of_nonpos (by omega) (by omega)
        omega
    rw [hk, ← Int.mul_assoc, Int.mul_right_comm] at r
    have r' : (j : Int) - i - 2 * e = a * k := Int.eq_of_mul_eq_mul_right (show b ≠ 0 by omega) r
    have a0 := h.a0
    have : a * 1 ≤ a * k := Int.mul_le_mul_of_nonneg_left (by omega) a0
    have := s.1; have := s.2
    omega

/-- Two keys want more than a slope. -/
def Steep (e : Int) (f : Nat → Int) (n : Nat) (num den : Int) : Prop := ∃ i k, i < k ∧ k < n ∧ num * (f k - f i) < ((k : Int) - i - 2 * e) * den

theorem steep_less {e : Int} {f : Nat → Int} {n : Nat} {a b c : Int} (u : Up f n) (h : LowOn e f (Prs n) a b) (hc : c < a) (c0 : 0 ≤ c) : Steep e f n c b := by
  rcases h.att with q | ⟨i, j, s, m0, r⟩
  · omega
  · have D := (prs_pairs u).pos i j s
    refine ⟨i, j, s.1, s.2, ?_⟩
    rw [r]
    exact Int.mul_lt_mul_of_pos_right hc D
theorem steep_never {e : Int} {f : Nat → Int} {n : Nat} {a b : Int} (h : LowOn e f (Prs n) a b) : ¬ Steep e f n a b := by
  rintro ⟨i, k, h1, h2, q⟩
  have := h.bound i k ⟨h1, h2⟩
  omega

/-- What is true where Of tells a line. -/
structure Told (eps : Int) (f : Nat → Int) (n : Nat) (a b c : Int) : Prop where
  e1 : 2 ≤ eps
  e2 : eps ≤ 64
  n0 : 0 < n
  up : Up f n
  fits : FitsOn (eps - 1) f (Prs n)
  low : LowOn (eps - 1) f (Prs n) a b
  base : BaseR (eps - 1) f n a b c
theorem OfR.cases {eps : Int} {f : Nat → Int} {n : Nat} {a b c err : Int} (h : OfR eps f n a b c err) : (¬ err = 0 ∧ a = 0 ∧ b = 0 ∧ c = 0) ∨ (err = 0 ∧ Told eps f n a b c) := by
  rcases h with ⟨_, h1, h2, h3, rfl⟩ | ⟨_, _, h1, h2, h3, rfl⟩ | ⟨_, _, _, h1, h2, h3, rfl⟩ | ⟨k1, k2, k3, k4, k5, rfl⟩
  · exact .inl ⟨by decide, h1, h2, h3⟩
  · exact .inl ⟨by decide, h1, h2, h3⟩
  · exact .inl ⟨by decide, h1, h2, h3⟩
  · exact .inr ⟨rfl, k1.1, k1.2, k2.1, k2.2, k3, k4, k5⟩
theorem Told.stays {eps : Int} {f : Nat → Int} {n : Nat} {a b c : Int} (h : Told eps f n a b c) (hn : n ≤ 100000000) : FitR eps f n a b c ∧ (-(eps - 1) ≤ c ∧ c ≤ n) := by
  have := h.e1
  have s := of_stays ⟨h.e1, h.e2⟩ h.up h.n0 hn h.fits h.low (near_of (by omega) h.up h.low h.fits) h.base
  exact ⟨⟨⟨h.e1, h.e2⟩, h.n0, h.up, s.1⟩, s.2⟩
theorem Told.less {eps : Int} {f : Nat → Int} {n : Nat} {a b c : Int} (h : Told eps f n a b c) : ¬ FitR eps f n a b (c - 1) := fun q => less_base h.base q.2.2.2

end Go.Proofs.Ytncnoaofdflbmab
