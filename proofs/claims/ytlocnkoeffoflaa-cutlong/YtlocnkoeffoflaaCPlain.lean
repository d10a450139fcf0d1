/- Chains of points that bend one way, in plain words: which point a new one touches, and what the chain is when it is laid down. -/
import Derived.Test.YtlocnkoeffoflaaHPlain2
namespace Go.Proofs.Ytlocnkoeffoflaa
set_option linter.unusedVariables false

theorem cut3 {B C J d u v A : Int} (h1 : B * d * v ≤ A * u * v) (h2 : A * v * u ≤ J * d * u) (d0 : 0 < d) : B * v ≤ J * u := by
  rw [Int.mul_right_comm B d v] at h1
  rw [Int.mul_right_comm A v u, Int.mul_right_comm J d u] at h2
  exact Int.le_of_mul_le_mul_right (Int.le_trans h1 h2) d0

/-- Left of the point that is touched. -/
theorem cross_left {ga gt gp gj xa xt xp xj : Int} (d0 : xa < xt) (u0 : xt < xp) (v0 : xj ≤ xt) (h1 : (gt - ga) * (xp - xa) < (gp - ga) * (xt - xa)) (h2 : (gt - ga) * (xj - xa) ≤ (gj - ga) * (xt - xa)) :
    (gp - gt) * (xj - xt) ≤ (gj - gt) * (xp - xt) := by
  have a1 : (gt - ga) * (xp - xt) ≤ (gp - gt) * (xt - xa) := by
    have e1 : (gt - ga) * (xp - xa) = (gt - ga) * (xp - xt) + (gt - ga) * (xt - xa) := by rw [← Int.mul_add]; congr 1; omega
    have e2 : (gp - ga) * (xt - xa) = (gp - gt) * (xt - xa) + (gt - ga) * (xt - xa) := by rw [← Int.add_mul]; congr 1; omega
    omega
  have a2 : (gt - ga) * (xj - xt) ≤ (gj - gt) * (xt - xa) := by
    have e1 : (gt - ga) * (xj - xa) = (gt - ga) * (xj - xt) + (gt - ga) * (xt - xa) := by rw [← Int.mul_add]; congr 1; omega
    have e2 : (gj - ga) * (xt - xa) = (gj - gt) * (xt - xa) + (gt - ga) * (xt - xa) := by rw [← Int.add_mul]; congr 1; omega
    omega
  refine cut3 (C := 0) (d := xt - xa) (A := gt - ga) ?_ (Int.mul_le_mul_of_nonneg_right a2 (by omega)) (by omega)
  exact Int.mul_le_mul_of_nonpos_right a1 (by omega)

/-- Right of it. -/
theorem cross_right {gt gb gp gj xt xb xp xj : Int} (w0 : xt < xb) (u0 : xt < xp) (v0 : xt ≤ xj) (h1 : (gp - gt) * (xb - xt) ≤ (gb - gt) * (xp - xt)) (h2 : (gb - gt) * (xj - xt) ≤ (gj - gt) * (xb - xt)) :
    (gp - gt) * (xj - xt) ≤ (gj - gt) * (xp - xt) :=
  cut3 (C := 0) (d := xb - xt) (A := gb - gt) (Int.mul_le_mul_of_nonneg_right h1 (by omega)) (Int.mul_le_mul_of_nonneg_right h2 (by omega)) (by omega)

/-- Not above a step drawn out: not above the next one. -/
theorem cross_next {ga gt gb gp xa xt xb xp : Int} (d0 : xa < xt) (w0 : xt < xb) (u0 : xt < xp) (h1 : (gp - ga) * (xt - xa) ≤ (gt - ga) * (xp - xa)) (h2 : (gt - ga) * (xb - xa) ≤ (gb - ga) * (xt - xa)) :
    (gp - gt) * (xb - xt) ≤ (gb - gt) * (xp - xt) := by
  have a1 : (gp - gt) * (xt - xa) ≤ (gt - ga) * (xp - xt) := by
    have e1 : (gt - ga) * (xp - xa) = (gt - ga) * (xp - xt) + (gt - ga) * (xt - xa) := by rw [← Int.mul_add]; congr 1; omega
    have e2 : (gp - ga) * (xt - xa) = (gp - gt) * (xt - xa) + (gt - ga) * (xt - xa) := by rw [← Int.add_mul]; congr 1; omega
    omega
  have a2 : (gt - ga) * (xb - xt) ≤ (gb - gt) * (xt - xa) := by
    have e1 : (gt - ga) * (xb - xa) = (gt - ga) * (xb - xt) + (gt - ga) * (xt - xa) := by rw [← Int.mul_add]; congr 1; omega
    have e2 : (gb - ga) * (xt - xa) = (gb - gt) * (xt - xa) + (gt - ga) * (xt - xa) := by rw [← Int.add_mul]; congr 1; omega
    omega
  exact cut3 (C := 0) (d := xt - xa) (A := gt - ga) (Int.mul_le_mul_of_nonneg_right a1 (by omega)) (Int.mul_le_mul_of_nonneg_right a2 (by omega)) (by omega)

/-- A chain: m of n points (X i, g i), by their places, the first and the last among them; no point is below the line of a step. -/
structure Chn (X g : Nat → Int) (n m : Nat) (c : Nat → Nat) : Prop where
  pos : 0 < m
  first : c 0 = 0
  last : c (m - 1) + 1 = n
  up : ∀ i, i + 1 < m → c i < c (i + 1)
  abv : ∀ i j, i + 1 < m → j < n → (g (c (i + 1)) - g (c i)) * (X j - X (c i)) ≤ (g j - g (c i)) * (X (c (i + 1)) - X (c i))

theorem Chn.lt {X g : Nat → Int} {n m : Nat} {c : Nat → Nat} (h : Chn X g n m c) : ∀ {i j : Nat}, i < j → j < m → c i < c j := by
  intro i j hij hj
  induction j with
  | zero => omega
  | succ j ih =>
    have h1 := h.up j hj
    by_cases e : i = j
    · subst e; exact h1
    · have h2 := ih (by omega) (by omega)
      omega
theorem Chn.le {X g : Nat → Int} {n m : Nat} {c : Nat → Nat} (h : Chn X g n m c) {i j : Nat} (hij : i ≤ j) (hj : j < m) : c i ≤ c j := by
  by_cases e : i = j
  · subst e; omega
  · have := h.lt (show i < j by omega) hj; omega
theorem Chn.bd {X g : Nat → Int} {n m : Nat} {c : Nat → Nat} (h : Chn X g n m c) {i : Nat} (hi : i < m) : c i < n := by
  have h1 := h.le (show i ≤ m - 1 by omega) (by omega)
  have h2 := h.last
  omega
theorem Chn.len {X g : Nat → Int} {n m : Nat} {c : Nat → Nat} (h : Chn X g n m c) : m ≤ n := by
  have hs : ∀ i, i < m → i ≤ c i := by
    intro i
    induction i with
    | zero => intro _; omega
    | succ i ih => intro hi; have := ih (by omega); have := h.up i hi; omega
  have h1 := hs (m - 1) (by have := h.pos; omega)
  have h2 := h.last
  have h3 := h.pos
  omega

/-- The new point is not above the step i, drawn out. -/
def Blo (X g : Nat → Int) (c : Nat → Nat) (x y : Int) (i : Nat) : Prop := (y - g (c i)) * (X (c (i + 1)) - X (c i)) ≤ (g (c (i + 1)) - g (c i)) * (x - X (c i))

theorem Chn.mono {X g : Nat → Int} {n m : Nat} {c : Nat → Nat} {x y : Int} (h : Chn X g n m c) (u : Up X n) (hx : X (n - 1) < x) : ∀ {i j : Nat}, i ≤ j → j + 1 < m → Blo X g c x y i → Blo X g c x y j := by
  intro i j hij hj hi
  induction j with
  | zero => have : i = 0 := by omega
            subst this; exact hi
  | succ j ih =>
    by_cases e : i = j + 1
    · subst e; exact hi
    · have hb := ih (by omega) (by omega)
      have b1 := h.bd (show j + 1 < m by omega)
      have b2 := h.bd (show j + 1 + 1 < m by omega)
      have x1 := u.le (show c (j + 1) ≤ n - 1 by omega) (by omega)
      exact cross_next (u.lt (h.up j (by omega)) b1) (u.lt (h.up (j + 1) hj) b2) (by omega) hb (h.abv j (c (j + 1 + 1)) (by omega) b2)

/-- The point that a new one touches. -/
structure Tch (X g : Nat → Int) (m : Nat) (c : Nat → Nat) (x y : Int) (t : Nat) : Prop where
  lt : t < m
  lo : ∀ i, i < t → ¬ Blo X g c x y i
  hi : ∀ i, t ≤ i → i + 1 < m → Blo X g c x y i

/-- No point is below the line from there to the new one. -/
theorem Chn.touch {X g : Nat → Int} {n m : Nat} {c : Nat → Nat} {x y : Int} {t : Nat} (h : Chn X g n m c) (u : Up X n) (hx : X (n - 1) < x) (ht : Tch X g m c x y t) :
    ∀ j, j < n → (y - g (c t)) * (X j - X (c t)) ≤ (g j - g (c t)) * (x - X (c t)) := by
  intro j hj
  have tl := ht.lt
  have bt := h.bd tl
  have xt := u.le (show c t ≤ n - 1 by omega) (by omega)
  rcases Nat.lt_or_ge (c t) j with q | q
  · -- behind it
    have htm : t + 1 < m := by
      rcases Nat.lt_or_ge (t + 1) m with r | r
      · exact r
      · have e : t = m - 1 := by omega
        have := h.last
        rw [← e] at this
        omega
    have b1 := h.bd htm
    exact cross_right (u.lt (h.up t htm) b1) (by omega) (u.le (by omega) hj) (ht.hi t (Nat.le_refl _) htm) (h.abv t j htm hj)
  · by_cases e : t = 0
    · subst e
      have := h.first
      have ej : j = c 0 := by omega
      rw [← ej]
      have e1 : X j - X j = 0 := by omega
      have e2 : g j - g j = 0 := by omega
      rw [e1, e2, Int.mul_zero, Int.zero_mul]
      exact Int.le_refl _
    · obtain ⟨s, rfl⟩ : ∃ s, t = s + 1 := ⟨t - 1, by omega⟩
      have nb := ht.lo s (by omega)
      unfold Blo at nb
      exact cross_left (u.lt (h.up s tl) bt) (by omega) (u.le q (by omega)) (by omega) (h.abv s j tl hj)

theorem chn_one (X g : Nat → Int) : Chn X g 1 1 (fun _ => 0) :=
  ⟨by omega, rfl, rfl, fun i hi => by omega, fun i j hi => by omega⟩

/-- A place more, behind k of them. -/
def cput (c : Nat → Nat) (k n : Nat) (i : Nat) : Nat := if i = k then n else c i
theorem cput_at (c : Nat → Nat) (k n : Nat) : cput c k n k = n := if_pos rfl
theorem cput_lo {c : Nat → Nat} {k n i : Nat} (h : i < k) : cput c k n i = c i := if_neg (by omega)

/-- What is left of the chain, and the new point. -/
theorem Chn.lay {X g : Nat → Int} {n m : Nat} {c : Nat → Nat} {x : Int} {t : Nat} (h : Chn X g n m c) (u : Up X n) (hx : X (n - 1) < x) (ht : Tch X g m c x (g n) t) :
    Chn (upd X n x) g (n + 1) (t + 2) (cput c (t + 1) n) := by
  have tl := ht.lt
  have all := h.touch u hx ht
  have cl : ∀ i, i ≤ t → cput c (t + 1) n i = c i := fun i hi => cput_lo (by omega)
  have cn : cput c (t + 1) n (t + 1) = n := cput_at _ _ _
  have bd : ∀ i, i ≤ t → c i < n := fun i hi => h.bd (by omega)
  refine ⟨by omega, by rw [cl 0 (by omega)]; exact h.first, by rw [show t + 2 - 1 = t + 1 by omega, cn], fun i hi => ?_, fun i j hi hj => ?_⟩
  · by_cases e : i = t
    · subst e; rw [cn, cl _ (by omega)]; exact bd _ (by omega)
    · rw [cl i (by omega), cl (i + 1) (by omega)]; exact h.up i (by omega)
  · by_cases e : i = t
    · subst e
      rw [cn, cl _ (by omega), upd_at, upd_lo (bd i (by omega))]
      by_cases q : j = n
      · subst q; rw [upd_at]; exact Int.le_refl _
      · rw [upd_lo (by omega)]
        exact all j (by omega)
    · rw [cl i (by omega), cl (i + 1) (by omega), upd_lo (bd i (by omega)), upd_lo (bd (i + 1) (by omega))]
      by_cases q : j = n
      · subst q
        rw [upd_at]
        have nb := ht.lo i (by omega)
        unfold Blo at nb
        omega
      · rw [upd_lo (by omega)]
        exact h.abv i j (by omega) (by omega)

/-! The slopes, not in lowest terms. -/

/-- a / b is the greatest of 0 and all (j - i - 2 e) / (f j - f i). -/
structure LowU (e : Int) (f : Nat → Int) (S : Nat → Nat → Prop) (a b : Int) : Prop where
  a0 : 0 ≤ a
  b1 : 1 ≤ b
  bound : ∀ i j, S i j → ((j : Int) - i - 2 * e) * b ≤ a * (f j - f i)
  att : a = 0 ∨ ∃ i j, S i j ∧ 0 < (j : Int) - i - 2 * e ∧ ((j : Int) - i - 2 * e) * b = a * (f j - f i)

/-- a / b is the least of all (j - i + 2 e) / (f j - f i); without a pair it is 1 / 0. -/
def TopU (e : Int) (f : Nat → Int) (S : Nat → Nat → Prop) (a b : Int) : Prop :=
  (a = 1 ∧ b = 0 ∧ ∀ i j, ¬ S i j) ∨
  (1 ≤ a ∧ 1 ≤ b ∧ (∀ i j, S i j → a * (f j - f i) ≤ ((j : Int) - i + 2 * e) * b) ∧ ∃ i j, S i j ∧ a * (f j - f i) = ((j : Int) - i + 2 * e) * b)

theorem LowU.red {e : Int} {f : Nat → Int} {S : Nat → Nat → Prop} {a b c d g : Int} (h : LowU e f S a b) (g0 : 0 < g) (ea : c * g = a) (eb : d * g = b) (hg : Int.gcd c d = 1) : LowOn e f S c d := by
  have c0 : 0 ≤ c := by
    rcases Int.lt_or_le c 0 with q | q
    · have := Int.mul_neg_of_neg_of_pos q g0
      have := h.a0
      omega
    · exact q
  have d1 : 1 ≤ d := by
    rcases Int.lt_or_le 0 d with q | q
    · omega
    · have := Int.mul_nonpos_of_nonpos_of_nonneg q (show 0 ≤ g by omega)
      have := h.b1
      omega
  refine ⟨c0, d1, hg, fun i j s => ?_, ?_⟩
  · have := h.bound i j s
    rw [← ea, ← eb, ← Int.mul_assoc, Int.mul_right_comm c g] at this
    exact Int.le_of_mul_le_mul_right this g0
  · rcases h.att with q | ⟨i, j, s, m0, r⟩
    · left
      rcases Int.mul_eq_zero.1 (ea.trans q) with z | z
      · exact z
      · omega
    · refine .inr ⟨i, j, s, m0, ?_⟩
      rw [← ea, ← eb, ← Int.mul_assoc, Int.mul_right_comm c g] at r
      exact Int.eq_of_mul_eq_mul_right (by omega) r

theorem TopU.red {e : Int} {f : Nat → Int} {S : Nat → Nat → Prop} {a b c d g : Int} (h : TopU e f S a b) (hb : b ≠ 0) (g0 : 0 < g) (ea : c * g = a) (eb : d * g = b) (hg : Int.gcd c d = 1) : TopOn e f S c d := by
  rcases h with ⟨_, q, _⟩ | ⟨a1, b1, bound, i, j, s, r⟩
  · exact absurd q hb
  · have c1 : 1 ≤ c := by
      rcases Int.lt_or_le 0 c with q | q
      · omega
      · have := Int.mul_nonpos_of_nonpos_of_nonneg q (show 0 ≤ g by omega)
        omega
    have d1 : 1 ≤ d := by
      rcases Int.lt_or_le 0 d with q | q
      · omega
      · have := Int.mul_nonpos_of_nonpos_of_nonneg q (show 0 ≤ g by omega)
        omega
    refine .inr ⟨c1, d1, hg, fun i j s => ?_, i, j, s, ?_⟩
    · have := bound i j s
      rw [← ea, ← eb, ← Int.mul_assoc, Int.mul_right_comm c g] at this
      exact Int.le_of_mul_le_mul_right this g0
    · rw [← ea, ← eb, ← Int.mul_assoc, Int.mul_right_comm c g] at r
      exact Int.eq_of_mul_eq_mul_right (by omega) r

/-- Every fraction has lowest terms. -/
theorem low_ex {a b : Int} (a0 : 0 ≤ a) (b1 : 1 ≤ b) : ∃ c d g : Int, 0 < g ∧ c * g = a ∧ d * g = b ∧ Int.gcd c d = 1 := by
  have hg : 0 < Int.gcd a b := Int.gcd_pos_of_ne_zero_right _ (by omega)
  exact ⟨a / Int.gcd a b, b / Int.gcd a b, Int.gcd a b, by omega, Int.ediv_mul_cancel (Int.gcd_dvd_left _ _), Int.ediv_mul_cancel (Int.gcd_dvd_right _ _), Int.gcd_ediv_gcd_ediv_gcd hg⟩

/-- The bounds agree just if the least slope is not above the greatest one. -/
theorem fitsU {e : Int} {f : Nat → Int} {S : Nat → Nat → Prop} {a b c d : Int} (he : 0 ≤ e) (p : Pairs f S) (h : LowU e f S a b) (k : TopU e f S c d) (hd : d ≠ 0) : a * d ≤ c * b ↔ FitsOn e f S := by
  have b1 := h.b1
  obtain ⟨a', b', g, g0, ea, eb, hg⟩ := low_ex h.a0 h.b1
  have k1 : 1 ≤ c ∧ 1 ≤ d := by
    rcases k with ⟨_, q, _⟩ | ⟨c1, d1, _⟩
    · exact absurd q hd
    · exact ⟨c1, d1⟩
  obtain ⟨c', d', g', g0', ec, ed, hg'⟩ := low_ex (show 0 ≤ c by omega) k1.2
  have H := h.red g0 ea eb hg
  have K := k.red hd g0' ec ed hg'
  rw [← fits_iff he p H K]
  have d1 : 1 ≤ d' := by
    rcases Int.lt_or_le 0 d' with q | q
    · omega
    · have := Int.mul_nonpos_of_nonpos_of_nonneg q (show 0 ≤ g' by omega)
      omega
  have b1' := H.b1
  have e1 : a * d = a' * d' * (g * g') := by rw [← ea, ← ed, mul4]
  have e2 : c * b = c' * b' * (g * g') := by rw [← ec, ← eb, mul4, Int.mul_comm g' g]
  have gg : 0 < g * g' := Int.mul_pos g0 g0'
  have key : a * d ≤ c * b ↔ a' * d' ≤ c' * b' := by
    rw [e1, e2]
    exact ⟨fun q => Int.le_of_mul_le_mul_right q gg, fun q => Int.mul_le_mul_of_nonneg_right q (by omega)⟩
  rw [key]
  unfold Blw
  constructor
  · intro q r
    rcases r with ⟨_, r⟩ | ⟨_, _, r⟩
    · omega
    · omega
  · intro q
    rcases Int.lt_or_le (c' * b') (a' * d') with r | r
    · exact absurd (.inr ⟨by omega, by omega, r⟩) q
    · exact r

theorem LowU.congr {e : Int} {f g : Nat → Int} {S T : Nat → Nat → Prop} {a b : Int} (h : LowU e f S a b) (st : ∀ i j, S i j ↔ T i j) (q : ∀ i j, S i j → f j - f i = g j - g i) : LowU e g T a b :=
  ⟨h.a0, h.b1, fun i j s => by rw [← q i j ((st i j).2 s)]; exact h.bound i j ((st i j).2 s), by
    rcases h.att with h0 | ⟨i, j, s, m, r⟩
    · exact .inl h0
    · exact .inr ⟨i, j, (st i j).1 s, m, by rw [← q i j s]; exact r⟩⟩
theorem TopU.congr {e : Int} {f g : Nat → Int} {S T : Nat → Nat → Prop} {a b : Int} (h : TopU e f S a b) (st : ∀ i j, S i j ↔ T i j) (q : ∀ i j, S i j → f j - f i = g j - g i) : TopU e g T a b := by
  rcases h with ⟨h1, h2, no⟩ | ⟨a1, b1, hb, i, j, s, r⟩
  · exact .inl ⟨h1, h2, fun i j s => no i j ((st i j).2 s)⟩
  · exact .inr ⟨a1, b1, fun i j s => by rw [← q i j ((st i j).2 s)]; exact hb i j ((st i j).2 s), i, j, (st i j).1 s, by rw [← q i j s]; exact r⟩

/-- Both kinds of pairs: old ones, and those with the new key. -/
theorem prs_succ {n p q : Nat} (s : Prs (n + 1) p q) : Prs n p q ∨ (p < n ∧ q = n) := by
  unfold Prs at *; omega

/-- The least slope with one key more: r / s is the greatest that the new key asks for, by the point t. -/
theorem low_more {e : Int} {f : Nat → Int} {n t : Nat} {x a b r s : Int} (u : Up (upd f n x) (n + 1)) (h : LowU e f (Prs n) a b) (ht : t < n) (er : r = (n : Int) - t - 2 * e) (es : s = x - f t)
    (hb : ∀ j, j < n → ((n : Int) - j - 2 * e) * s ≤ r * (x - f j)) :
    (r * b < a * s → LowU e (upd f n x) (Prs (n + 1)) a b) ∧ (¬ r * b < a * s → LowU e (upd f n x) (Prs (n + 1)) r s) := by
  have s1 : 1 ≤ s := by
    have := u.lt ht (show n < n + 1 by omega)
    rw [upd_at, upd_lo ht] at this
    omega
  have a0 := h.a0; have b1 := h.b1
  have up : ∀ j, j < n → 0 < x - f j := fun j hj => by
    have := u.lt hj (show n < n + 1 by omega)
    rw [upd_at, upd_lo hj] at this
    omega
  have old : ∀ i j, Prs n i j → 0 < f j - f i := fun i j q => by
    have q1 := q.1; have q2 := q.2
    have := u.lt q1 (show j < n + 1 by omega)
    rw [upd_lo q2, upd_lo (by omega)] at this
    omega
  constructor
  · intro hlt
    refine ⟨h.a0, h.b1, fun i j q => ?_, ?_⟩
    · rcases prs_succ q with q | ⟨q, rfl⟩
      · rw [upd_lo q.2, upd_lo (by have := q.1; have := q.2; omega)]
        exact h.bound i j q
      · rw [upd_at, upd_lo q]
        have h1 := hb i q
        have D := up i q
        have m1 : ((j : Int) - i - 2 * e) * s * b ≤ r * (x - f i) * b := Int.mul_le_mul_of_nonneg_right h1 (by omega)
        have m2 : r * b * (x - f i) ≤ a * s * (x - f i) := Int.mul_le_mul_of_nonneg_right (by omega) (by omega)
        rw [Int.mul_right_comm _ s b, Int.mul_right_comm r _ b] at m1
        rw [Int.mul_right_comm a s] at m2
        exact Int.le_of_mul_le_mul_right (Int.le_trans m1 m2) (by omega)
    · rcases h.att with q | ⟨i, j, q, m0, eq⟩
      · exact .inl q
      · refine .inr ⟨i, j, ⟨q.1, by have := q.2; omega⟩, m0, ?_⟩
        rw [upd_lo q.2, upd_lo (by have := q.1; have := q.2; omega)]
        exact eq
  · intro hge
    have r0 : 0 ≤ r := by
      rcases Int.lt_or_le r 0 with q | q
      · have h1 := Int.mul_neg_of_neg_of_pos q (show 0 < b by omega)
        have h2 : 0 ≤ a * s := Int.mul_nonneg a0 (by omega)
        omega
      · exact q
    refine ⟨r0, s1, fun i j q => ?_, ?_⟩
    · rcases prs_succ q with q | ⟨q, rfl⟩
      · rw [upd_lo q.2, upd_lo (by have := q.1; have := q.2; omega)]
        have h1 := h.bound i j q
        have D := old i j q
        have m1 : ((j : Int) - i - 2 * e) * b * s ≤ a * (f j - f i) * s := Int.mul_le_mul_of_nonneg_right h1 (by omega)
        have m2 : a * s * (f j - f i) ≤ r * b * (f j - f i) := Int.mul_le_mul_of_nonneg_right (by omega) (by omega)
        rw [Int.mul_right_comm _ b s, Int.mul_right_comm a _ s] at m1
        rw [Int.mul_right_comm r b] at m2
        exact Int.le_of_mul_le_mul_right (Int.le_trans m1 m2) (by omega)
      · rw [upd_at, upd_lo q]
        exact hb i q
    · by_cases z : r = 0
      · exact .inl z
      · refine .inr ⟨t, n, ⟨ht, by omega⟩, by omega, ?_⟩
        rw [upd_at, upd_lo ht, ← er, ← es]

/-- The greatest slope with one key more. -/
theorem top_more {e : Int} {f : Nat → Int} {n t : Nat} {x a b r s : Int} (he : 0 ≤ e) (u : Up (upd f n x) (n + 1)) (h : TopU e f (Prs n) a b) (ht : t < n) (er : r = (n : Int) - t + 2 * e) (es : s = x - f t)
    (hb : ∀ j, j < n → r * (x - f j) ≤ ((n : Int) - j + 2 * e) * s) :
    (a * s < r * b → TopU e (upd f n x) (Prs (n + 1)) a b) ∧ (¬ a * s < r * b → TopU e (upd f n x) (Prs (n + 1)) r s) := by
  have s1 : 1 ≤ s := by
    have := u.lt ht (show n < n + 1 by omega)
    rw [upd_at, upd_lo ht] at this
    omega
  have up : ∀ j, j < n → 0 < x - f j := fun j hj => by
    have := u.lt hj (show n < n + 1 by omega)
    rw [upd_at, upd_lo hj] at this
    omega
  have old : ∀ i j, Prs n i j → 0 < f j - f i := fun i j q => by
    have q1 := q.1; have q2 := q.2
    have := u.lt q1 (show j < n + 1 by omega)
    rw [upd_lo q2, upd_lo (by omega)] at this
    omega
  have r1 : 1 ≤ r := by omega
  constructor
  · intro hlt
    rcases h with ⟨rfl, rfl, _⟩ | ⟨a1, b1, bound, i, j, q, eq⟩
    · omega
    · refine .inr ⟨a1, b1, fun i j q => ?_, i, j, ⟨q.1, by have := q.2; omega⟩, ?_⟩
      · rcases prs_succ q with q | ⟨q, rfl⟩
        · rw [upd_lo q.2, upd_lo (by have := q.1; have := q.2; omega)]
          exact bound i j q
        · rw [upd_at, upd_lo q]
          have h1 := hb i q
          have D := up i q
          have m1 : r * (x - f i) * b ≤ ((j : Int) - i + 2 * e) * s * b := Int.mul_le_mul_of_nonneg_right h1 (by omega)
          have m2 : a * s * (x - f i) ≤ r * b * (x - f i) := Int.mul_le_mul_of_nonneg_right (by omega) (by omega)
          rw [Int.mul_right_comm _ s b, Int.mul_right_comm r _ b] at m1
          rw [Int.mul_right_comm a s] at m2
          exact Int.le_of_mul_le_mul_right (Int.le_trans m2 m1) (by omega)
      · rw [upd_lo q.2, upd_lo (by have := q.1; have := q.2; omega)]
        exact eq
  · intro hge
    refine .inr ⟨r1, s1, fun i j q => ?_, t, n, ⟨ht, by omega⟩, ?_⟩
    · rcases prs_succ q with q | ⟨q, rfl⟩
      · rcases h with ⟨_, _, no⟩ | ⟨a1, b1, bound, _⟩
        · exact absurd q (no i j)
        · rw [upd_lo q.2, upd_lo (by have := q.1; have := q.2; omega)]
          have h1 := bound i j q
          have D := old i j q
          have m1 : a * (f j - f i) * s ≤ ((j : Int) - i + 2 * e) * b * s := Int.mul_le_mul_of_nonneg_right h1 (by omega)
          have m2 : r * b * (f j - f i) ≤ a * s * (f j - f i) := Int.mul_le_mul_of_nonneg_right (by omega) (by omega)
          rw [Int.mul_right_comm _ b s, Int.mul_right_comm a _ s] at m1
          rw [Int.mul_right_comm r b] at m2
          exact Int.le_of_mul_le_mul_right (Int.le_trans m2 m1) (by omega)
      · rw [upd_at, upd_lo q]
        exact hb i q
    · rw [upd_at, upd_lo ht, ← er, ← es]

/-- What is touched on the upper chain asks for the greatest slope; on the lower one for the least. -/
theorem touch_low {e : Int} {f : Nat → Int} {n m t : Nat} {c : Nat → Nat} {x : Int} (h : Chn f (fun j => 1 * (j : Int)) n m c) (u : Up f n) (hx : f (n - 1) < x) (ht : Tch f (fun j => 1 * (j : Int)) m c x (1 * ((n : Int) - 2 * e)) t) :
    ∀ j, j < n → ((n : Int) - j - 2 * e) * (x - f (c t)) ≤ ((n : Int) - c t - 2 * e) * (x - f j) := by
  intro j hj
  have := h.touch u hx ht j hj
  simp only [Int.one_mul] at this
  have e1 : ((n : Int) - c t - 2 * e) * (x - f j) = ((n : Int) - c t - 2 * e) * (x - f (c t)) - ((n : Int) - 2 * e - c t) * (f j - f (c t)) := by
    rw [show (n : Int) - 2 * e - c t = (n : Int) - c t - 2 * e by omega, ← Int.mul_sub]; congr 1; omega
  have e2 : ((n : Int) - j - 2 * e) * (x - f (c t)) = ((n : Int) - c t - 2 * e) * (x - f (c t)) - ((j : Int) - c t) * (x - f (c t)) := by
    rw [← Int.sub_mul]; congr 1; omega
  omega
theorem touch_top {e : Int} {f : Nat → Int} {n m t : Nat} {c : Nat → Nat} {x : Int} (h : Chn f (fun j => -1 * (j : Int)) n m c) (u : Up f n) (hx : f (n - 1) < x) (ht : Tch f (fun j => -1 * (j : Int)) m c x (-1 * ((n : Int) + 2 * e)) t) :
    ∀ j, j < n → ((n : Int) - c t + 2 * e) * (x - f j) ≤ ((n : Int) - j + 2 * e) * (x - f (c t)) := by
  intro j hj
  have := h.touch u hx ht j hj
  have q1 : (-1 * ((n : Int) + 2 * e) - -1 * (c t : Int)) = -((n : Int) - c t + 2 * e) := by omega
  have q2 : (-1 * (j : Int) - -1 * (c t : Int)) = -((j : Int) - c t) := by omega
  rw [q1, q2, Int.neg_mul, Int.neg_mul] at this
  have e1 : ((n : Int) - c t + 2 * e) * (x - f j) = ((n : Int) - c t + 2 * e) * (x - f (c t)) - ((n : Int) - c t + 2 * e) * (f j - f (c t)) := by
    rw [← Int.mul_sub]; congr 1; omega
  have e2 : ((n : Int) - j + 2 * e) * (x - f (c t)) = ((n : Int) - c t + 2 * e) * (x - f (c t)) - ((j : Int) - c t) * (x - f (c t)) := by
    rw [← Int.sub_mul]; congr 1; omega
  omega

end Go.Proofs.Ytlocnkoeffoflaa
