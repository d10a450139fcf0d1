import Derived.Test.YtmmkmakajolfhaaGreatPBs
import Derived.ArgAppend
/- The document's own answer for layer 4: products, lowest terms, which fraction is below. -/
namespace Go.Proofs.YtmmkmakajolfhaaGreat
open Go.RowKit
set_option linter.unusedVariables false

theorem parts_mul (a1 a0 b1 b0 : Int) : (a1 * 4294967296 + a0) * (b1 * 4294967296 + b0) = a1 * b1 * 18446744073709551616 + (a1 * b0 + a0 * b1) * 4294967296 + a0 * b0 := by
  rw [Int.add_mul, Int.mul_add, Int.mul_add, mul4 a1 4294967296 b1 4294967296, Int.mul_right_comm a1 4294967296 b0, ← Int.mul_assoc a0 b1 4294967296, Int.add_mul]
  omega
theorem mul_lt32 {x y : Int} (hx : 0 ≤ x) (hx' : x < 4294967296) (hy : 0 ≤ y) (hy' : y < 4294967296) : 0 ≤ x * y ∧ x * y ≤ 18446744065119617025 := by
  refine ⟨Int.mul_nonneg hx hy, ?_⟩
  have h1 : x * y ≤ 4294967295 * y := Int.mul_le_mul_of_nonneg_right (by omega) hy
  omega

theorem td32 {x : Int} (h : 0 ≤ x) : x.tdiv 4294967296 = x / 4294967296 := Int.tdiv_eq_ediv_of_nonneg h
theorem tm32 {x : Int} (h : 0 ≤ x) : x.tmod 4294967296 = x % 4294967296 := Int.tmod_eq_emod_of_nonneg h
theorem wu {x : Int} (h : 0 ≤ x) (h' : x < 18446744073709551616) : IntKind.u64.wrap x = x := by rw [IntKind.wrap_u64]; omega

set_option maxHeartbeats 1000000 in
theorem whole_core (a b x0 x1 y0 y1 p00 p10 p01 p11 t0 one t1 two t2 t3 t4 t5 t6 hi lo : Int)
    (r1 : a.tmod 4294967296 = x0) (r2 : IntKind.u64.wrap (a.tdiv 4294967296) = x1) (r3 : b.tmod 4294967296 = y0) (r4 : IntKind.u64.wrap (b.tdiv 4294967296) = y1)
    (r5 : IntKind.u64.wrap (x0 * y0) = p00) (r6 : IntKind.u64.wrap (p00.tdiv 4294967296) = t0) (r7 : IntKind.u64.wrap (x1 * y0) = p10) (r8 : IntKind.u64.wrap (p10 + t0) = one)
    (r9 : IntKind.u64.wrap (x0 * y1) = p01) (r10 : one.tmod 4294967296 = t1) (r11 : IntKind.u64.wrap (p01 + t1) = two) (r12 : IntKind.u64.wrap (x1 * y1) = p11)
    (r13 : IntKind.u64.wrap (one.tdiv 4294967296) = t2) (r14 : IntKind.u64.wrap (p11 + t2) = t3) (r15 : IntKind.u64.wrap (two.tdiv 4294967296) = t4) (r16 : IntKind.u64.wrap (t3 + t4) = hi)
    (r17 : IntKind.u64.wrap (two * 4294967296) = t5) (r18 : p00.tmod 4294967296 = t6) (r19 : IntKind.u64.wrap (t5 + t6) = lo) (w : World) :
    Calls Tryz.prog 59 #[.int .u64 a, .int .u64 b] w fun e w' => e = .returned (.tuple #[.int .u64 hi, .int .u64 lo]) ∧ w' = w := by
  go_enter Tryz.func59, Tryz.ntmps59
  go_wp2
  go_ret2
  exact ⟨rfl, rfl⟩

theorem whole_any (a b : Int) (a0 : 0 ≤ a) (a1 : a < 18446744073709551616) (b0 : 0 ≤ b) (b1 : b < 18446744073709551616) (w : World) :
    Calls Tryz.prog 59 #[.int .u64 a, .int .u64 b] w fun e w' => e = .returned (.tuple #[.int .u64 (a * b / 18446744073709551616), .int .u64 (a * b % 18446744073709551616)]) ∧ w' = w := by
  obtain ⟨x0, hx0⟩ : ∃ x, a % 4294967296 = x := ⟨_, rfl⟩
  obtain ⟨x1, hx1⟩ : ∃ x, a / 4294967296 = x := ⟨_, rfl⟩
  obtain ⟨y0, hy0⟩ : ∃ x, b % 4294967296 = x := ⟨_, rfl⟩
  obtain ⟨y1, hy1⟩ : ∃ x, b / 4294967296 = x := ⟨_, rfl⟩
  have ea : a = x1 * 4294967296 + x0 := by omega
  have eb : b = y1 * 4294967296 + y0 := by omega
  have m := parts_mul x1 x0 y1 y0
  rw [← ea, ← eb] at m
  have q00 := mul_lt32 (x := x0) (y := y0) (by omega) (by omega) (by omega) (by omega)
  have q10 := mul_lt32 (x := x1) (y := y0) (by omega) (by omega) (by omega) (by omega)
  have q01 := mul_lt32 (x := x0) (y := y1) (by omega) (by omega) (by omega) (by omega)
  have q11 := mul_lt32 (x := x1) (y := y1) (by omega) (by omega) (by omega) (by omega)
  obtain ⟨p00, e00⟩ : ∃ p, x0 * y0 = p := ⟨_, rfl⟩
  obtain ⟨p10, e10⟩ : ∃ p, x1 * y0 = p := ⟨_, rfl⟩
  obtain ⟨p01, e01⟩ : ∃ p, x0 * y1 = p := ⟨_, rfl⟩
  obtain ⟨p11, e11⟩ : ∃ p, x1 * y1 = p := ⟨_, rfl⟩
  rw [e00] at q00 m; rw [e10] at q10 m; rw [e01] at q01 m; rw [e11] at q11 m
  obtain ⟨one, eone⟩ : ∃ x, p10 + p00 / 4294967296 = x := ⟨_, rfl⟩
  obtain ⟨two, etwo⟩ : ∃ x, p01 + one % 4294967296 = x := ⟨_, rfl⟩
  generalize a * b = ab at m ⊢
  refine whole_core a b x0 x1 y0 y1 p00 p10 p01 p11 (p00 / 4294967296) one (one % 4294967296) two (one / 4294967296) (p11 + one / 4294967296) (two / 4294967296) (two * 4294967296 % 18446744073709551616) (p00 % 4294967296) _ _
    (by rw [tm32 a0]; exact hx0) (by rw [td32 a0, wu (by omega) (by omega)]; exact hx1) (by rw [tm32 b0]; exact hy0) (by rw [td32 b0, wu (by omega) (by omega)]; exact hy1)
    (by rw [e00, wu (by omega) (by omega)]) (by rw [td32 (by omega), wu (by omega) (by omega)]) (by rw [e10, wu (by omega) (by omega)]) (by rw [eone, wu (by omega) (by omega)])
    (by rw [e01, wu (by omega) (by omega)]) (tm32 (by omega)) (by rw [etwo, wu (by omega) (by omega)]) (by rw [e11, wu (by omega) (by omega)])
    (by rw [td32 (by omega), wu (by omega) (by omega)]) (by rw [wu (by omega) (by omega)]) (by rw [td32 (by omega), wu (by omega) (by omega)]) (by rw [wu (by omega) (by omega)]; omega)
    (by rw [IntKind.wrap_u64]) (tm32 (by omega)) (by rw [IntKind.wrap_u64]; omega) w

set_option maxHeartbeats 1000000 in
theorem below4_any (a b c d : Int) (a0 : 0 ≤ a) (a1 : a < 18446744073709551616) (b0 : 0 ≤ b) (b1 : b < 18446744073709551616) (c0 : 0 ≤ c) (c1 : c < 18446744073709551616) (d0 : 0 ≤ d) (d1 : d < 18446744073709551616) (w : World) :
    Calls Tryz.prog 43 #[.agg #[.int .u64 a, .int .u64 b], .agg #[.int .u64 c, .int .u64 d]] w fun e w' => (∃ r : Bool, e = .returned (.bool r) ∧ (r = true ↔ Blw a b c d)) ∧ Gw w w' := by
  have hG := ((Gw.refl w).alloc #[.int .u64 a, .int .u64 b] 72).alloc #[.int .u64 c, .int .u64 d] 72
  have GG : Hid (Gw w ((w.alloc (.cells #[.int .u64 a, .int .u64 b] 72)).alloc (.cells #[.int .u64 c, .int .u64 d] 72))) := hG
  clear hG
  by_cases hb : b = 0
  · subst hb
    go_enter Tryz.func43, Tryz.ntmps43
    go_wp2_with fail
    go_ret
    exact ⟨⟨false, by simp, by simp [Blw]⟩, GG.out⟩
  · have hb' : (b == 0) = false := by simpa using hb
    by_cases hd : d = 0
    · subst hd
      go_enter Tryz.func43, Tryz.ntmps43
      go_wp2_with fail
      go_ret
      exact ⟨⟨true, by simp [hb], by simp [Blw, hb]⟩, GG.out⟩
    · have hd' : (d == 0) = false := by simpa using hd
      go_enter Tryz.func43, Tryz.ntmps43
      go_wp2_with fail
      refine (whole_any a d a0 a1 d0 d1 _).mono ?_
      rintro e w1 ⟨rfl, rfl⟩
      go_wp2_with fail
      refine (whole_any c b c0 c1 b0 b1 _).mono ?_
      rintro e w1 ⟨rfl, rfl⟩
      obtain ⟨xh, hxh⟩ : ∃ x, a * d / 18446744073709551616 = x := ⟨_, rfl⟩
      obtain ⟨xl, hxl⟩ : ∃ x, a * d % 18446744073709551616 = x := ⟨_, rfl⟩
      obtain ⟨yh, hyh⟩ : ∃ x, c * b / 18446744073709551616 = x := ⟨_, rfl⟩
      obtain ⟨yl, hyl⟩ : ∃ x, c * b % 18446744073709551616 = x := ⟨_, rfl⟩
      rw [hxh, hxl, hyh, hyl]
      have K : Hid (Blw a b c d ↔ (xh < yh ∨ (xh = yh ∧ xl < yl))) := by
        show Blw a b c d ↔ _
        unfold Blw
        constructor
        · intro hh
          rcases hh with ⟨_, q⟩ | ⟨_, _, q⟩
          · exact absurd q hd
          · omega
        · intro hh
          exact .inr ⟨hb, hd, by omega⟩
      clear hxh hxl hyh hyl a0 a1 b0 b1 c0 c1 d0 d1
      rcases Int.lt_trichotomy xh yh with q | q | q
      · go_wp2_with fail
        go_ret
        exact ⟨⟨true, by simp, by rw [K.out]; simp [q]⟩, GG.out⟩
      · subst q
        go_wp2_with fail
        go_ret
        exact ⟨⟨decide (xl < yl), by simp, by rw [K.out]; simp⟩, GG.out⟩
      · have q1 : ¬ xh < yh := by omega
        have q2 : (xh == yh) = false := by simp; omega
        go_wp2_with fail
        go_ret
        exact ⟨⟨false, by simp [q1], by rw [K.out]; simp; omega⟩, GG.out⟩

/-- A fraction in lowest terms, and what it came of. -/
structure LowF (num den c d g : Int) : Prop where
  g0 : 0 < g
  ec : c * g = num
  ed : d * g = den
  low : Int.gcd c d = 1
  c0 : 0 ≤ c
  d1 : 1 ≤ d
  cb : c ≤ num
  db : d ≤ den

theorem lowf (num den : Nat) (h0 : 0 < den) : LowF num den ((num / num.gcd den : Nat) : Int) ((den / num.gcd den : Nat) : Int) (num.gcd den : Nat) := by
  have hg : 0 < num.gcd den := Nat.gcd_pos_of_pos_right _ h0
  have e1 : num / num.gcd den * num.gcd den = num := Nat.div_mul_cancel (Nat.gcd_dvd_left _ _)
  have e2 : den / num.gcd den * num.gcd den = den := Nat.div_mul_cancel (Nat.gcd_dvd_right _ _)
  refine ⟨by omega, by rw [← Int.natCast_mul, e1], by rw [← Int.natCast_mul, e2], ?_, Int.natCast_nonneg _, ?_, by have := Nat.div_le_self num (num.gcd den); omega, by have := Nat.div_le_self den (num.gcd den); omega⟩
  · have := Nat.coprime_div_gcd_div_gcd (m := num) (n := den) hg
    exact this
  · have : 0 < den / num.gcd den := Nat.div_pos (Nat.le_of_dvd h0 (Nat.gcd_dvd_right _ _)) hg
    omega

set_option maxHeartbeats 1000000 in
theorem lowest4_nat (num den : Nat) (hn : num < 18446744073709551616) (hd : den < 18446744073709551616) (h0 : 0 < den) (w : World) :
    Calls Tryz.prog 42 #[.int .u64 num, .int .u64 den] w fun e w' => e = .returned (.agg #[.int .u64 ((num / num.gcd den : Nat) : Int), .int .u64 ((den / num.gcd den : Nat) : Int)]) ∧ Gw w w' := by
  have hg : 0 < num.gcd den := Nat.gcd_pos_of_pos_right _ h0
  have h2 : ((num.gcd den : Int) == 0) = false := by simp; omega
  have e1 : (num : Int) / (num.gcd den : Nat) = ((num / num.gcd den : Nat) : Int) := (Int.natCast_ediv _ _).symm
  have e2 : (den : Int) / (num.gcd den : Nat) = ((den / num.gcd den : Nat) : Int) := (Int.natCast_ediv _ _).symm
  have b1 : num / num.gcd den < 18446744073709551616 := Nat.lt_of_le_of_lt (Nat.div_le_self _ _) hn
  have b2 : den / num.gcd den < 18446744073709551616 := Nat.lt_of_le_of_lt (Nat.div_le_self _ _) hd
  generalize num / num.gcd den = a at *
  generalize den / num.gcd den = b at *
  generalize hG : num.gcd den = G at *
  have hG' : Aside (num.gcd den = G) := hG
  clear hG
  go_enter Tryz.func42, Tryz.ntmps42
  go_wp2_with fail
  go_loopg [5, 6] den (fun gg p q wr => ∃ c d : Nat, p = .int .u64 c ∧ q = .int .u64 d ∧ c < 18446744073709551616 ∧ d < 18446744073709551616 ∧ d ≤ gg ∧ Aside (Nat.gcd c d = G) ∧ wr = w.alloc (.cells #[.int .u64 0, .int .u64 0] 72))
  case atStart => exact ⟨num, den, rfl, rfl, hn, hd, Nat.le_refl _, hG', rfl⟩
  case round =>
    obtain ⟨c, d, rfl, rfl, hc, hd', hgk, hgg, rfl⟩ := hrel
    by_cases h : d = 0
    · subst h
      obtain rfl : c = G := by
        have := hgg.out
        rw [Nat.gcd_zero_right] at this
        exact this
      clear hgg hG'
      go_wp2_with fail
      go_region
      all_goals
        go_wp2_with fail
        refine bodyPost_ret (v := .agg #[.int .u64 a, .int .u64 b]) (by simp [results, Tryz.results42, go_sem]) rfl ⟨rfl, ((Gw.refl w).alloc _ _).drew⟩
    · have h1 : ((d : Int) == 0) = false := by simp; omega
      have e3 : (c : Int) % (d : Int) = ((c % d : Nat) : Int) := (Int.natCast_emod _ _).symm
      have hlt : c % d < d := Nat.mod_lt _ (by omega)
      go_wp2_with fail
      go_roundg (c % d)
      case measure => omega
      case rel =>
        refine ⟨d, c % d, rfl, ?_, by omega, by omega, Nat.le_refl _, ?_, rfl⟩
        · first | rfl | simp
        · show Nat.gcd d (c % d) = G
          rw [← hgg.out, Nat.gcd_comm c d, Nat.gcd_rec d c, Nat.gcd_comm]

theorem lowest4_any (num den : Int) (n0 : 0 ≤ num) (hn : num < 18446744073709551616) (d0 : 0 < den) (hd : den < 18446744073709551616) (w : World) :
    Calls Tryz.prog 42 #[.int .u64 num, .int .u64 den] w fun e w' => (∃ c d g, e = .returned (.agg #[.int .u64 c, .int .u64 d]) ∧ LowF num den c d g) ∧ Gw w w' := by
  obtain ⟨a, rfl⟩ : ∃ a : Nat, num = a := ⟨num.toNat, by omega⟩
  obtain ⟨b, rfl⟩ : ∃ b : Nat, den = b := ⟨den.toNat, by omega⟩
  refine (lowest4_nat a b (by omega) (by omega) (by omega) w).mono ?_
  rintro e w' ⟨rfl, g⟩
  exact ⟨⟨_, _, _, rfl, lowf a b (by omega)⟩, g⟩

end Go.Proofs.YtmmkmakajolfhaaGreat

/- The document's own Fit in memory: New, Count, Least, Most. -/
namespace Go.Proofs.YtmmkmakajolfhaaGreat
open Go.RowKit
set_option linter.unusedVariables false

/-- A variable of two cells that may be written. -/
def Bx (w : World) (b : Nat) (t : TypeId) (u v : Value) : Prop := w.heap[b]? = some (.cells #[u, v] t (0, 0))
theorem Bx.lt {w : World} {b : Nat} {t : TypeId} {u v : Value} (h : Bx w b t u v) : b < w.heap.size := (Array.getElem?_eq_some_iff.1 h).1
theorem Bx.c0 {w : World} {b : Nat} {t : TypeId} {u v : Value} (h : Bx w b t u v) : w.cell? ⟨b, 0, none⟩ = some u := by unfold Bx at h; simp [World.cell?, h]
theorem Bx.c1 {w : World} {b : Nat} {t : TypeId} {u v : Value} (h : Bx w b t u v) : w.cell? ⟨b, 1, none⟩ = some v := by unfold Bx at h; simp [World.cell?, h]
theorem Bx.fz {w : World} {b : Nat} {t : TypeId} {u v : Value} (h : Bx w b t u v) (o : Nat) : w.frozen? ⟨b, o, none⟩ = false := by unfold Bx at h; simp [World.frozen?, h]
theorem Bx.gw {w w' : World} {b : Nat} {t : TypeId} {u v : Value} (h : Bx w b t u v) (g : Gw w w') : Bx w' b t u v := (g.below.block b h.lt).trans h
theorem Bx.new (w : World) (t : TypeId) (u v : Value) : Bx (w.alloc (.cells #[u, v] t)) w.heap.size t u v := heap_alloc_new w _
theorem Bx.set {w : World} {b : Nat} {t : TypeId} {u v : Value} (h : Bx w b t u v) (u' v' : Value) : Bx ((w.setCell ⟨b, 0, none⟩ u').setCell ⟨b, 1, none⟩ v') b t u' v' := by
  unfold Bx at h ⊢
  simp [World.setCell, Array.getElem?_modify, h]
theorem Bx.far {w : World} {b : Nat} {t : TypeId} {u v : Value} (h : Bx w b t u v) {q o : Nat} (x : Value) (hq : b ≠ q) : Bx (w.setCell ⟨q, o, none⟩ x) b t u v := (Go.Deep.blk_setCell_other _ _ _ _ hq).trans h
theorem Bx.alloc {w : World} {b : Nat} {t : TypeId} {u v : Value} (h : Bx w b t u v) (o : Obj) : Bx (w.alloc o) b t u v := (heap_alloc_old w o h.lt).trans h
theorem Bx.at {w : World} {b b' : Nat} {t : TypeId} {u v : Value} (h : Bx w b t u v) (e : b = b') : Bx w b' t u v := e ▸ h

/-- The document's Fit: its block, its list of keys, both slopes. -/
structure RF (w : World) (p : Nat) (v : Value) (e : Int) (n : Nat) (f : Nat → Int) (a b c d : Int) : Prop where
  blk : w.heap[p]? = some (.cells #[.int .i64 (e + 1), v, .int .u64 a, .int .u64 b, .int .u64 c, .int .u64 d] 74 (0, 0))
  own : w.ownsRow 0 24 1 v n ((List.range n).map fun i => Value.int .u64 (f i))
  ne : ∀ q, v.ownBlock = some q → q ≠ p
  up : Up f n
  bd : ∀ i, i < n → 0 ≤ f i ∧ f i < 18446744073709551616
  low : LowOn e f (Prs n) a b
  top : TopOn e f (Prs n) c d
  fit : FitsOn e f (Prs n)
  e1 : 1 ≤ e ∧ e ≤ 63
  wd : (a < 18446744073709551616 ∧ b < 18446744073709551616) ∧ (0 ≤ c ∧ c < 18446744073709551616) ∧ (0 ≤ d ∧ d < 18446744073709551616)

theorem RF.lt {w : World} {p : Nat} {v : Value} {e : Int} {n : Nat} {f : Nat → Int} {a b c d : Int} (h : RF w p v e n f a b c d) : p < w.heap.size := (Array.getElem?_eq_some_iff.1 h.blk).1
theorem RF.cells {w : World} {p : Nat} {v : Value} {e : Int} {n : Nat} {f : Nat → Int} {a b c d : Int} (h : RF w p v e n f a b c d) :
    w.cell? ⟨p, 0, none⟩ = some (.int .i64 (e + 1)) ∧ w.cell? ⟨p, 1, none⟩ = some v ∧ w.cell? ⟨p, 2, none⟩ = some (.int .u64 a) ∧ w.cell? ⟨p, 3, none⟩ = some (.int .u64 b) ∧ w.cell? ⟨p, 4, none⟩ = some (.int .u64 c) ∧ w.cell? ⟨p, 5, none⟩ = some (.int .u64 d) := by
  have := h.blk
  refine ⟨?_, ?_, ?_, ?_, ?_, ?_⟩ <;> simp [World.cell?, this]
theorem RF.frozen {w : World} {p : Nat} {v : Value} {e : Int} {n : Nat} {f : Nat → Int} {a b c d : Int} (h : RF w p v e n f a b c d) (o : Nat) : w.frozen? ⟨p, o, none⟩ = false := by
  have := h.blk
  simp [World.frozen?, this]

/-- The blocks that it is made of. -/
def rfp (p : Nat) (v : Value) (q : Nat) : Prop := q = p ∨ v.ownBlock = some q
theorem RF.in {w : World} {p : Nat} {v : Value} {e : Int} {n : Nat} {f : Nat → Int} {a b c d : Int} (h : RF w p v e n f a b c d) (q : Nat) (hq : rfp p v q) : q < w.heap.size := by
  rcases hq with rfl | hq
  · exact h.lt
  · exact (h.own.lt q hq).2
theorem RF.keep {w w' : World} {p : Nat} {v : Value} {e : Int} {n : Nat} {f : Nat → Int} {a b c d : Int} (h : RF w p v e n f a b c d) (k : ∀ q, rfp p v q → w'.heap[q]? = w.heap[q]?) : RF w' p v e n f a b c d := by
  refine ⟨(k p (.inl rfl)).trans h.blk, ⟨h.own.1, ?_⟩, h.ne, h.up, h.bd, h.low, h.top, h.fit, h.e1, h.wd⟩
  rcases h.own.2 with q | ⟨g, cap, cur, rfl, hb, hh, r⟩
  · exact .inl q
  · exact .inr ⟨g, cap, cur, rfl, hb, (k g (.inr rfl)).trans hh, r⟩
theorem RF.gw {w w' : World} {p : Nat} {v : Value} {e : Int} {n : Nat} {f : Nat → Int} {a b c d : Int} (h : RF w p v e n f a b c d) (g : Gw w w') : RF w' p v e n f a b c d :=
  h.keep fun q hq => g.below.block q (h.in q hq)

/-- The list of keys, as it is read. -/
theorem RF.ks {w : World} {p : Nat} {v : Value} {e : Int} {n : Nat} {f : Nat → Int} {a b c d : Int} (h : RF w p v e n f a b c d) : ∃ ao cap, v = .slice ao n cap ∧ KS w ao n f := by
  have ho := h.own
  rcases h.own.2 with ⟨rfl, rfl⟩ | ⟨g, cap, cur, rfl, _⟩
  · exact ⟨none, 0, rfl, ⟨fun q => by omega, h.bd⟩⟩
  · exact ⟨_, cap, rfl, ⟨fun q => ⟨g, 0, rfl, (ho.lt g rfl).2, fun i hi => by rw [Nat.zero_add, ho.cellAt i (by omega)]; simp [hi]⟩, h.bd⟩⟩

theorem rnew_bad (eps : Int) (h : ¬ (2 ≤ eps ∧ eps ≤ 64)) (w : World) :
    Calls Tryz.prog 30 #[.int .i64 eps] w fun e w' => e = .returned (.tuple #[.pointer none, .int .i64 1]) ∧ Gw w w' := by
  by_cases h1 : eps < 2
  · go_enter Tryz.func30, Tryz.ntmps30
    go_wp2_with fail
    go_ret2
    exact ⟨rfl, Gw.refl w⟩
  · have h2 : 64 < eps := by omega
    go_enter Tryz.func30, Tryz.ntmps30
    go_wp2_with fail
    go_ret2
    exact ⟨rfl, Gw.refl w⟩
theorem rnew_ok (eps : Int) (h1 : 2 ≤ eps) (h2 : eps ≤ 64) (w : World) :
    Calls Tryz.prog 30 #[.int .i64 eps] w fun e w' => (∃ p, e = .returned (.tuple #[.pointer (some ⟨p, 0, none⟩), .int .i64 0]) ∧ w.heap.size ≤ p ∧ RF w' p (.slice none 0 0) (eps - 1) 0 (fun _ => 0) 0 1 1 0) ∧ Gw w w' := by
  have h3 : ¬ eps < 2 := by omega
  have h4 : ¬ 64 < eps := by omega
  go_enter Tryz.func30, Tryz.ntmps30
  go_wp2_with fail
  go_ret2
  refine ⟨⟨w.heap.size, rfl, Nat.le_refl _, ⟨?_, World.ownsRow_nil _ _ _ _, (fun q hq => by cases hq), (fun j hj => by omega), (fun i hi => by omega), low_zero _ _ (by decide), top_none _ _ (by decide), (fun i j i' j' s => by have := s.2; omega), by omega, by omega⟩⟩, (Gw.refl w).alloc _ _⟩
  rw [heap_alloc_new, show eps - 1 + 1 = eps by omega]

theorem rleast_any {w : World} {p : Nat} {v : Value} {e : Int} {n : Nat} {f : Nat → Int} {a b c d : Int} (h : RF w p v e n f a b c d) :
    Calls Tryz.prog 44 #[.pointer (some ⟨p, 0, none⟩)] w fun e w' => e = .returned (.agg #[.int .u64 a, .int .u64 b]) ∧ Gw w w' := by
  obtain ⟨_, _, c2, c3, _⟩ := h.cells
  have hl := h.lt
  clear h
  go_enter Tryz.func44, Tryz.ntmps44
  go_wp2_with fail
  refine bodyPost_ret (v := .agg #[.int .u64 a, .int .u64 b]) (by simp [results, Tryz.results44, go_sem]) rfl ⟨rfl, (Gw.refl w).alloc _ _⟩

end Go.Proofs.YtmmkmakajolfhaaGreat

/- The document's Add. -/
namespace Go.Proofs.YtmmkmakajolfhaaGreat
open Go.RowKit
set_option linter.unusedVariables false

/-- All but some blocks are as they were. -/
structure Gs (S : Nat → Prop) (w w' : World) : Prop where
  os : w'.os = w.os
  tape : w'.tape = w.tape
  output : w'.output = w.output
  size : w.heap.size ≤ w'.heap.size
  block : ∀ q, q < w.heap.size → ¬ S q → w'.heap[q]? = w.heap[q]?

theorem Gw.gs {w w' : World} (h : Gw w w') (S : Nat → Prop) : Gs S w w' := ⟨h.below.os, h.below.tape, h.below.output, h.below.size, fun q hq _ => h.below.block q hq⟩

theorem Gs.set {S : Nat → Prop} {w w' : World} (h : Gs S w w') {q : Nat} (hq : S q) (o : Nat) (v : Value) : Gs S w (w'.setCell ⟨q, o, none⟩ v) :=
  ⟨h.os, h.tape, h.output, by simpa [World.setCell] using h.size, fun k hk hs => (Go.Deep.blk_setCell_other _ _ _ _ (fun e => hs (by rw [e]; exact hq))).trans (h.block k hk hs)⟩
theorem Gs.grown {S : Nat → Prop} {w w' w'' : World} {row : Option Nat} (h : Gs S w w') (g : w'.grownBy w'' row) (hr : ∀ k, row = some k → S k) : Gs S w w'' :=
  ⟨g.os.trans h.os, g.tape.trans h.tape, g.output.trans h.output, Nat.le_trans h.size g.size, fun k hk hs => (g.block k (Nat.lt_of_lt_of_le hk h.size) (fun e => hs (hr k e.symm))).trans (h.block k hk hs)⟩

theorem own_base {w : World} {base e size n : Nat} {v : Value} {xs : List Value} (h : w.ownsRow base e size v n xs) : w.ownsRow 0 e size v n xs := by
  refine ⟨h.1, ?_⟩
  rcases h.2 with q | ⟨g, cap, cur, rfl, _, r⟩
  · exact .inl q
  · exact .inr ⟨g, cap, cur, rfl, Nat.zero_le _, r⟩
theorem own_pos {w : World} {base e size n : Nat} {v : Value} {xs : List Value} (h : w.ownsRow base e size v (n + 1) xs) : ∃ g cap, v = .slice (some ⟨g, 0, none⟩) (n + 1) cap ∧ base ≤ g ∧ g < w.heap.size := by
  rcases h.2 with ⟨_, q⟩ | ⟨g, cap, cur, rfl, hg, hh, _⟩
  · omega
  · exact ⟨g, cap, rfl, hg, (Array.getElem?_eq_some_iff.1 hh).1⟩

theorem rf_store {W : World} {p : Nat} {v v0 x2 x3 x4 x5 : Value} {e : Int} {n : Nat} {f : Nat → Int} {a b c d : Int}
    (blk : W.heap[p]? = some (.cells #[.int .i64 (e + 1), v0, x2, x3, x4, x5] 74 (0, 0)))
    (own : W.ownsRow 0 24 1 v n ((List.range n).map fun i => Value.int .u64 (f i))) (ne : ∀ q, v.ownBlock = some q → q ≠ p) (up : Up f n) (bd : ∀ i, i < n → 0 ≤ f i ∧ f i < 18446744073709551616)
    (low : LowOn e f (Prs n) a b) (top : TopOn e f (Prs n) c d) (fit : FitsOn e f (Prs n)) (e1 : 1 ≤ e ∧ e ≤ 63) (wd : (a < 18446744073709551616 ∧ b < 18446744073709551616) ∧ (0 ≤ c ∧ c < 18446744073709551616) ∧ (0 ≤ d ∧ d < 18446744073709551616)) :
    RF (((((W.setCell ⟨p, 1, none⟩ v).setCell ⟨p, 2, none⟩ (.int .u64 a)).setCell ⟨p, 3, none⟩ (.int .u64 b)).setCell ⟨p, 4, none⟩ (.int .u64 c)).setCell ⟨p, 5, none⟩ (.int .u64 d)) p v e n f a b c d := by
  refine ⟨?_, ⟨own.1, ?_⟩, ne, up, bd, low, top, fit, e1, wd⟩
  · simp [World.setCell, Array.getElem?_modify, blk]
  · rcases own.2 with q | ⟨g, cap, cur, rfl, hb, hh, r⟩
    · exact .inl q
    · have hgp := ne g rfl
      refine .inr ⟨g, cap, cur, rfl, hb, ?_, r⟩
      rw [Go.Deep.blk_setCell_other _ _ _ _ hgp, Go.Deep.blk_setCell_other _ _ _ _ hgp, Go.Deep.blk_setCell_other _ _ _ _ hgp, Go.Deep.blk_setCell_other _ _ _ _ hgp, Go.Deep.blk_setCell_other _ _ _ _ hgp]
      exact hh

set_option maxHeartbeats 16000000 in
theorem radd4_more {w : World} {p : Nat} {v : Value} {e : Int} {n : Nat} {f : Nat → Int} {a b c d : Int} (h : RF w p v e n f a b c d) (x : Int) (x0 : 0 ≤ x) (x1 : x < 18446744073709551616) (hn : n ≤ 4000000) (hx : 0 < n → f (n - 1) < x) :
    Calls Tryz.prog 31 #[.pointer (some ⟨p, 0, none⟩), .int .u64 x] w fun ex w' =>
      (∃ ok : Bool, ex = .returned (.tuple #[.bool ok, .int .i64 0]) ∧ (ok = true ↔ FitsOn e (upd f n x) (Prs (n + 1))) ∧ (ok = false → Gw w w') ∧ (ok = true → ∃ v' a' b' c' d', RF w' p v' e (n + 1) (upd f n x) a' b' c' d' ∧ ∀ q, rfp p v' q → rfp p v q ∨ w.heap.size ≤ q)) ∧ Gs (rfp p v) w w' := by
  obtain ⟨c0, c1, c2, c3, c4, c5⟩ := h.cells
  have hl := h.lt
  obtain ⟨e1, e2⟩ := h.e1
  have HR : Aside (RF w p v e n f a b c d) := h
  have UP : Aside (Up (upd f n x) (n + 1)) := up_upd h.up hx
  have CM : Hid (∀ M c g : Int, 0 < M → c * g = M → 0 < g → 1 ≤ c) := by
    show ∀ M c g : Int, 0 < M → c * g = M → 0 < g → 1 ≤ c
    intro M c g h0 h1 h2
    rcases Int.lt_or_le 0 c with q | q
    · omega
    · have := Int.mul_le_mul_of_nonneg_right q (show 0 ≤ g by omega)
      omega
  have HX : Aside (∀ i, i < n → f i < x) := by
    show ∀ i, i < n → f i < x
    intro i hi
    have q1 := hx (by omega)
    have q2 := h.up.le (show i ≤ n - 1 by omega) (by omega)
    omega
  have ST : Aside (LowOn e (upd f n x) (Prs1 n 0) a b ∧ TopOn e (upd f n x) (Prs1 n 0) c d ∧ (a < 18446744073709551616 ∧ b < 18446744073709551616) ∧ (0 ≤ c ∧ c < 18446744073709551616) ∧ (0 ≤ d ∧ d < 18446744073709551616)) :=
    ⟨h.low.congr (prs1_zero n) (fun i j s => by rw [upd_lo s.2, upd_lo (by have := s.1; have := s.2; omega)]), h.top.congr (prs1_zero n) (fun i j s => by rw [upd_lo s.2, upd_lo (by have := s.1; have := s.2; omega)]), h.wd⟩
  obtain ⟨ao, cap, ev, ks⟩ := h.ks
  rw [ev] at c1
  clear h
  by_cases hz : n = 0
  · have z0 : ¬ 0 < n := by omega
    have z1 : decide ((0 : Int) < n) = false := by simp; omega
    have Z : Aside (n = 0) := hz
    clear hz ks hx
    go_enter Tryz.func31, Tryz.ntmps31
    go_wp2_with fail
    clear c0 c1 c2 c3 c4 c5 ev z0 z1
    go_loopg [10] n (fun gg s10 wr => ∃ (i : Nat) (a' b' c' d' : Int), s10 = .int .i64 i ∧ i ≤ n ∧ n - i ≤ gg ∧ Aside (Bx wr (w.heap.size) 72 (.int .u64 a') (.int .u64 b')) ∧ Aside (Bx wr (w.heap.size + 1) 72 (.int .u64 c') (.int .u64 d')) ∧ Aside (LowOn e (upd f n x) (Prs1 n i) a' b' ∧ TopOn e (upd f n x) (Prs1 n i) c' d' ∧ (a' < 18446744073709551616 ∧ b' < 18446744073709551616) ∧ (0 ≤ c' ∧ c' < 18446744073709551616) ∧ (0 ≤ d' ∧ d' < 18446744073709551616)) ∧ Aside (Gw w wr))
    case atStart => exact ⟨0, a, b, c, d, rfl, Nat.zero_le _, by omega, (show Aside _ from (Bx.new w _ _ _).alloc _), (show Aside _ from (Bx.new _ _ _ _).at (by simp)), ST, (show Aside _ from ((Gw.refl w).alloc _ _).alloc _ _)⟩
    case round =>
      obtain ⟨i, a', b', c', d', rfl, h1, h2, XL, XT, I, G⟩ := hrel
      obtain ⟨⟨wa, wb⟩, ⟨wc0, wc1⟩, ⟨wd0, wd1⟩⟩ := I.out.2.2
      have wa0 := I.out.1.a0
      have wb0 := I.out.1.b1
      by_cases hlt : i < n
      · have := Z.out; omega
      · obtain rfl : i = n := by omega
        have LO : Hid (LowOn e (upd f i x) (Prs (i + 1)) a' b') := I.out.1.congr (prs1_all i) (fun _ _ _ => rfl)
        have TO : Hid (TopOn e (upd f i x) (Prs (i + 1)) c' d') := I.out.2.1.congr (prs1_all i) (fun _ _ _ => rfl)
        have PP := prs_pairs UP.out
        have FI : Hid (¬ Blw c' d' a' b' ↔ FitsOn e (upd f i x) (Prs (i + 1))) := fits_iff (by omega) PP LO.out TO.out
        clear PP I
        have z1 := XT.out.c0
        have z2 := XT.out.c1
        have z3 := XL.out.c0
        have z4 := XL.out.c1
        have XL' : Hid (Bx wr (w.heap.size) 72 (.int .u64 a') (.int .u64 b')) := XL.out
        have XT' : Hid (Bx wr (w.heap.size + 1) 72 (.int .u64 c') (.int .u64 d')) := XT.out
        have G' : Hid (Gw w wr) := G.out
        clear XL XT G
        go_wp2_with fail
        refine (below4_any c' d' a' b' wc0 wc1 wd0 wd1 wa0 wa (by omega) wb _).mono ?_
        rintro ex w5 ⟨⟨r, rfl, hr⟩, g5⟩
        have XL5 : Hid (Bx w5 (w.heap.size) 72 (.int .u64 a') (.int .u64 b')) := XL'.out.gw g5
        have XT5 : Hid (Bx w5 (w.heap.size + 1) 72 (.int .u64 c') (.int .u64 d')) := XT'.out.gw g5
        have G5 : Hid (Gw w w5) := G'.out.trans g5
        clear XL' XT' G' g5 z1 z2 z3 z4
        cases r with
        | true =>
          have K : Hid (Blw c' d' a' b') := hr.1 rfl
          clear hr
          go_wp2_with fail
          go_ret2
          exact ⟨⟨false, rfl, ⟨fun q => Bool.noConfusion q, fun q => absurd K.out (FI.out.2 q)⟩, fun _ => G5.out, fun q => Bool.noConfusion q⟩, G5.out.gs _⟩
        | false =>
          have K : Hid (FitsOn e (upd f i x) (Prs (i + 1))) := FI.out.1 (fun hb => Bool.noConfusion (hr.2 hb))
          clear hr FI
          have R5 : Hid (RF w5 p v e i f a b c d) := HR.out.gw G5.out
          obtain ⟨_, p1, _⟩ := R5.out.cells
          have own5 := R5.out.own
          have FIN : Hid (∀ (W : World) (v' : Value), W.heap[p]? = w5.heap[p]? → W.ownsRow 0 24 1 v' (i + 1) ((List.range i).map (fun j => Value.int .u64 (f j)) ++ [.int .u64 x]) → (∀ q, v'.ownBlock = some q → q ≠ p) →
              RF (((((W.setCell ⟨p, 1, none⟩ v').setCell ⟨p, 2, none⟩ (.int .u64 a')).setCell ⟨p, 3, none⟩ (.int .u64 b')).setCell ⟨p, 4, none⟩ (.int .u64 c')).setCell ⟨p, 5, none⟩ (.int .u64 d')) p v' e (i + 1) (upd f i x) a' b' c' d') := by
            intro W v' h1 h2 h3
            refine rf_store (h1.trans R5.out.blk) ?_ h3 UP.out ?_ LO.out TO.out K.out ⟨e1, e2⟩ ⟨⟨wa, wb⟩, ⟨wc0, wc1⟩, ⟨wd0, wd1⟩⟩
            · have e3 : (List.range (i + 1)).map (fun j => Value.int .u64 (upd f i x j)) = (List.range i).map (fun j => Value.int .u64 (f j)) ++ [.int .u64 x] := by
                rw [List.range_succ, List.map_append]
                congr 1
                · refine List.map_congr_left fun j hj => ?_
                  rw [upd_lo (List.mem_range.1 hj)]
                · simp [upd_at]
              rw [e3]
              exact h2
            · intro j hj
              by_cases q : j = i
              · subst q; rw [upd_at]; exact ⟨x0, x1⟩
              · rw [upd_lo (by omega)]; exact HR.out.bd j (by omega)
          obtain ⟨ii, hii, hz, hs, hby⟩ := info_parts info_k
          rcases own5.2 with ⟨ev, i0⟩ | ⟨g, cp, cur, ev, _, hg, hnc, hcm, _⟩
          · rw [ev] at p1
            subst i0
            clear ev own5
            go_wp2_with (at_builtin; refine wpList_append_grows _ rfl _ _ 22 rfl 24 ii (.int .u64 0) 1 8 Tryz.underlying22 hii hz hs hby rfl (by decide) none 0 0 [] rfl (fun _ => ⟨rfl, rfl⟩) rfl (fun _ q => by cases q) ⟨w5.heap.size, 0, none⟩ 1 1 [.int .u64 x] rfl rfl (new_one w5 x) (ints_oneCell .u64 [x]) (by decide) (by simp [maxLen]) (by decide) ?_)
            intro v' w7 q1 q2
            obtain ⟨g', cap', ev', hg', hg7⟩ := own_pos q1
            subst ev'
            have B7 : Hid (w7.heap[p]? = w5.heap[p]?) := by
              show w7.heap[p]? = w5.heap[p]?
              rw [q2.block p (by simp; have := R5.out.lt; omega) (fun q => by cases q)]
              exact heap_alloc_old _ _ R5.out.lt
            have R7 : Hid (w7.heap[p]? = some (.cells #[.int .i64 (e + 1), v, .int .u64 a, .int .u64 b, .int .u64 c, .int .u64 d] 74 (0, 0))) := B7.out.trans R5.out.blk
            have hR7 := R7.out
            have t0 : ∀ o, w7.frozen? ⟨p, o, none⟩ = false := fun o => by simp [World.frozen?, hR7]
            have t1 : w7.cell? ⟨p, 1, none⟩ = some v := by simp [World.cell?, hR7]
            have t2 : w7.cell? ⟨p, 2, none⟩ = some (.int .u64 a) := by simp [World.cell?, hR7]
            have t3 : w7.cell? ⟨p, 3, none⟩ = some (.int .u64 b) := by simp [World.cell?, hR7]
            have t4 : w7.cell? ⟨p, 4, none⟩ = some (.int .u64 c) := by simp [World.cell?, hR7]
            have t5 : w7.cell? ⟨p, 5, none⟩ = some (.int .u64 d) := by simp [World.cell?, hR7]
            clear hR7
            have YL : Bx w7 (w.heap.size) 72 (.int .u64 a') (.int .u64 b') := (q2.block _ (by simp; have := XL5.out.lt; omega) (fun q => by cases q)).trans (XL5.out.alloc _)
            have YT : Bx w7 (w.heap.size + 1) 72 (.int .u64 c') (.int .u64 d') := (q2.block _ (by simp; have := XT5.out.lt; omega) (fun q => by cases q)).trans (XT5.out.alloc _)
            have y1 := YL.c0
            have y2 := YL.c1
            have y3 := YT.c0
            have y4 := YT.c1
            have hpL : p ≠ w.heap.size := by omega
            have hpT : p ≠ w.heap.size + 1 := by omega
            have Q1 : Hid (w7.ownsRow 0 24 1 (.slice (some ⟨g', 0, none⟩) 1 cap') 1 ((List.range 0).map (fun j => Value.int .u64 (f j)) ++ [.int .u64 x])) := own_base q1
            have Q2 : Hid (Gs (rfp p v) w w7) := ((G5.out.alloc _ _).gs _).grown q2 (fun k hk => by cases hk)
            have FP : Hid (∀ q, rfp p (.slice (some ⟨g', 0, none⟩) 1 cap') q → rfp p v q ∨ w.heap.size ≤ q) := by
              show ∀ q, rfp p (.slice (some ⟨g', 0, none⟩) 1 cap') q → rfp p v q ∨ w.heap.size ≤ q
              intro q hq
              rcases hq with rfl | hq
              · exact .inl (.inl rfl)
              · cases hq
                exact .inr (show w.heap.size ≤ g' by have := G5.out.size; first | omega | (simp at hg'; omega))
            have NE : Hid (g' ≠ p) := by
              show g' ≠ p
              have := G5.out.size
              first | omega | (simp at hg'; omega)
            clear q1 q2 YL YT hii hz hs hby
            go_wp2_with fail
            go_ret2
            exact ⟨⟨true, rfl, ⟨fun _ => K.out, fun _ => rfl⟩, (fun q => Bool.noConfusion q), fun _ => ⟨_, _, _, _, _, FIN.out w7 _ B7.out Q1.out (fun q hq => by cases hq; exact NE.out), FP.out⟩⟩, ((((Q2.out.set (.inl rfl) _ _).set (.inl rfl) _ _).set (.inl rfl) _ _).set (.inl rfl) _ _).set (.inl rfl) _ _⟩
          · rw [ev] at p1 own5
            have EV : Hid (v = .slice (some ⟨g, 0, none⟩) i cp) := ev
            have GP : Hid (g ≠ p) := R5.out.ne g (by rw [ev]; rfl)
            have GL : Hid (g < w.heap.size) := (HR.out.own.lt g (by rw [ev]; rfl)).2
            have O5 : Hid (w5.ownsRow 0 24 1 (.slice (some ⟨g, 0, none⟩) i cp) i ((List.range i).map fun j => Value.int .u64 (f j))) := own5
            clear ev own5 hg
            by_cases room : i + 1 ≤ cp
            · go_wp2_with (at_builtin; refine wpList_append_fits _ rfl _ _ 22 rfl 0 24 ii 1 Tryz.underlying22 hii hs g i cp _ rfl (O5.out.alloc _) ⟨w5.heap.size, 0, none⟩ 1 1 [.int .u64 x] rfl rfl (new_one w5 x) (ints_oneCell .u64 [x]) room ?_)
              intro w7 q1 q2
              have hg7 := (q1.lt g rfl).2
              have B7 : Hid (w7.heap[p]? = w5.heap[p]?) := by
                show w7.heap[p]? = w5.heap[p]?
                rw [q2.block p (by simp; have := R5.out.lt; omega) (fun q => by cases q; exact GP.out rfl)]
                exact heap_alloc_old _ _ R5.out.lt
              have R7 : Hid (w7.heap[p]? = some (.cells #[.int .i64 (e + 1), v, .int .u64 a, .int .u64 b, .int .u64 c, .int .u64 d] 74 (0, 0))) := B7.out.trans R5.out.blk
              have hR7 := R7.out
              have t0 : ∀ o, w7.frozen? ⟨p, o, none⟩ = false := fun o => by simp [World.frozen?, hR7]
              have t1 : w7.cell? ⟨p, 1, none⟩ = some v := by simp [World.cell?, hR7]
              have t2 : w7.cell? ⟨p, 2, none⟩ = some (.int .u64 a) := by simp [World.cell?, hR7]
              have t3 : w7.cell? ⟨p, 3, none⟩ = some (.int .u64 b) := by simp [World.cell?, hR7]
              have t4 : w7.cell? ⟨p, 4, none⟩ = some (.int .u64 c) := by simp [World.cell?, hR7]
              have t5 : w7.cell? ⟨p, 5, none⟩ = some (.int .u64 d) := by simp [World.cell?, hR7]
              clear hR7
              have YL : Bx w7 (w.heap.size) 72 (.int .u64 a') (.int .u64 b') := (q2.block _ (by simp; have := XL5.out.lt; omega) (fun q => by cases q; have := GL.out; omega)).trans (XL5.out.alloc _)
              have YT : Bx w7 (w.heap.size + 1) 72 (.int .u64 c') (.int .u64 d') := (q2.block _ (by simp; have := XT5.out.lt; omega) (fun q => by cases q; have := GL.out; omega)).trans (XT5.out.alloc _)
              have y1 := YL.c0
              have y2 := YL.c1
              have y3 := YT.c0
              have y4 := YT.c1
              have hpL : p ≠ w.heap.size := by omega
              have hpT : p ≠ w.heap.size + 1 := by omega
              have Q1 : Hid (w7.ownsRow 0 24 1 (.slice (some ⟨g, 0, none⟩) (i + 1) cp) (i + 1) ((List.range i).map (fun j => Value.int .u64 (f j)) ++ [.int .u64 x])) := own_base q1
              have Q2 : Hid (Gs (rfp p v) w w7) := ((G5.out.alloc _ _).gs _).grown q2 (fun k hk => by cases hk; exact .inr (by rw [EV.out]; rfl))
              have FP : Hid (∀ q, rfp p (.slice (some ⟨g, 0, none⟩) (i + 1) cp) q → rfp p v q ∨ w.heap.size ≤ q) := by
                show ∀ q, rfp p (.slice (some ⟨g, 0, none⟩) (i + 1) cp) q → rfp p v q ∨ w.heap.size ≤ q
                intro q hq
                rcases hq with rfl | hq
                · exact .inl (.inl rfl)
                · cases hq
                  exact .inl (.inr (by rw [EV.out]; rfl))
              have NE : Hid (g ≠ p) := GP.out
              clear q1 q2 YL YT hii hz hs hby
              go_wp2_with fail
              go_ret2
              exact ⟨⟨true, rfl, ⟨fun _ => K.out, fun _ => rfl⟩, (fun q => Bool.noConfusion q), fun _ => ⟨_, _, _, _, _, FIN.out w7 _ B7.out Q1.out (fun q hq => by cases hq; exact NE.out), FP.out⟩⟩, ((((Q2.out.set (.inl rfl) _ _).set (.inl rfl) _ _).set (.inl rfl) _ _).set (.inl rfl) _ _).set (.inl rfl) _ _⟩
            · go_wp2_with (at_builtin; refine wpList_append_grows _ rfl _ _ 22 rfl 24 ii (.int .u64 0) 1 8 Tryz.underlying22 hii hz hs hby rfl (by decide) (some ⟨g, 0, none⟩) i cp ((List.range i).map fun j => Value.int .u64 (f j)) rfl (fun q => by cases q) (by simp) (fun bb q => by cases q; exact (O5.out.alloc _).cells rfl) ⟨w5.heap.size, 0, none⟩ 1 1 [.int .u64 x] rfl rfl (new_one w5 x) (ints_oneCell .u64 [x]) (by omega) (by simp only [maxLen]; omega) (by omega) ?_)
              intro v' w7 q1 q2
              obtain ⟨g', cap', ev', hg', hg7⟩ := own_pos q1
              subst ev'
              have B7 : Hid (w7.heap[p]? = w5.heap[p]?) := by
                show w7.heap[p]? = w5.heap[p]?
                rw [q2.block p (by simp; have := R5.out.lt; omega) (fun q => by cases q)]
                exact heap_alloc_old _ _ R5.out.lt
              have R7 : Hid (w7.heap[p]? = some (.cells #[.int .i64 (e + 1), v, .int .u64 a, .int .u64 b, .int .u64 c, .int .u64 d] 74 (0, 0))) := B7.out.trans R5.out.blk
              have hR7 := R7.out
              have t0 : ∀ o, w7.frozen? ⟨p, o, none⟩ = false := fun o => by simp [World.frozen?, hR7]
              have t1 : w7.cell? ⟨p, 1, none⟩ = some v := by simp [World.cell?, hR7]
              have t2 : w7.cell? ⟨p, 2, none⟩ = some (.int .u64 a) := by simp [World.cell?, hR7]
              have t3 : w7.cell? ⟨p, 3, none⟩ = some (.int .u64 b) := by simp [World.cell?, hR7]
              have t4 : w7.cell? ⟨p, 4, none⟩ = some (.int .u64 c) := by simp [World.cell?, hR7]
              have t5 : w7.cell? ⟨p, 5, none⟩ = some (.int .u64 d) := by simp [World.cell?, hR7]
              clear hR7
              have YL : Bx w7 (w.heap.size) 72 (.int .u64 a') (.int .u64 b') := (q2.block _ (by simp; have := XL5.out.lt; omega) (fun q => by cases q)).trans (XL5.out.alloc _)
              have YT : Bx w7 (w.heap.size + 1) 72 (.int .u64 c') (.int .u64 d') := (q2.block _ (by simp; have := XT5.out.lt; omega) (fun q => by cases q)).trans (XT5.out.alloc _)
              have y1 := YL.c0
              have y2 := YL.c1
              have y3 := YT.c0
              have y4 := YT.c1
              have hpL : p ≠ w.heap.size := by omega
              have hpT : p ≠ w.heap.size + 1 := by omega
              have Q1 : Hid (w7.ownsRow 0 24 1 (.slice (some ⟨g', 0, none⟩) (i + 1) cap') (i + 1) ((List.range i).map (fun j => Value.int .u64 (f j)) ++ [.int .u64 x])) := own_base q1
              have Q2 : Hid (Gs (rfp p v) w w7) := ((G5.out.alloc _ _).gs _).grown q2 (fun k hk => by cases hk)
              have FP : Hid (∀ q, rfp p (.slice (some ⟨g', 0, none⟩) (i + 1) cap') q → rfp p v q ∨ w.heap.size ≤ q) := by
                show ∀ q, rfp p (.slice (some ⟨g', 0, none⟩) (i + 1) cap') q → rfp p v q ∨ w.heap.size ≤ q
                intro q hq
                rcases hq with rfl | hq
                · exact .inl (.inl rfl)
                · cases hq
                  exact .inr (show w.heap.size ≤ g' by have := G5.out.size; first | omega | (simp at hg'; omega))
              have NE : Hid (g' ≠ p) := by
                show g' ≠ p
                have := G5.out.size
                first | omega | (simp at hg'; omega)
              clear q1 q2 YL YT hii hz hs hby
              go_wp2_with fail
              go_ret2
              exact ⟨⟨true, rfl, ⟨fun _ => K.out, fun _ => rfl⟩, (fun q => Bool.noConfusion q), fun _ => ⟨_, _, _, _, _, FIN.out w7 _ B7.out Q1.out (fun q hq => by cases hq; exact NE.out), FP.out⟩⟩, ((((Q2.out.set (.inl rfl) _ _).set (.inl rfl) _ _).set (.inl rfl) _ _).set (.inl rfl) _ _).set (.inl rfl) _ _⟩
  · obtain ⟨bk, off, eo, hb, hc⟩ := ks.cells (by omega)
    subst eo
    obtain ⟨pr, hpr⟩ : ∃ pr : Nat, (n : Int) - 1 = pr := ⟨n - 1, by omega⟩
    have hpn : pr < n := by omega
    have hw := wrap_nat pr (by omega)
    have hpos : 0 < n := by omega
    have k1 := hc pr hpn
    have xk : ¬ x ≤ f pr := by
      have := HX.out pr hpn
      omega
    clear hz ks hx hc
    generalize f pr = fp at k1 xk
    go_enter Tryz.func31, Tryz.ntmps31
    go_wp2_with fail
    clear c0 c1 c2 c3 c4 c5 ev k1 xk hw hpr
    go_loopg [10] n (fun gg s10 wr => ∃ (i : Nat) (a' b' c' d' : Int), s10 = .int .i64 i ∧ i ≤ n ∧ n - i ≤ gg ∧ Aside (Bx wr (w.heap.size) 72 (.int .u64 a') (.int .u64 b')) ∧ Aside (Bx wr (w.heap.size + 1) 72 (.int .u64 c') (.int .u64 d')) ∧ Aside (LowOn e (upd f n x) (Prs1 n i) a' b' ∧ TopOn e (upd f n x) (Prs1 n i) c' d' ∧ (a' < 18446744073709551616 ∧ b' < 18446744073709551616) ∧ (0 ≤ c' ∧ c' < 18446744073709551616) ∧ (0 ≤ d' ∧ d' < 18446744073709551616)) ∧ Aside (Gw w wr))
    case atStart => exact ⟨0, a, b, c, d, rfl, Nat.zero_le _, by omega, (show Aside _ from (Bx.new w _ _ _).alloc _), (show Aside _ from (Bx.new _ _ _ _).at (by simp)), ST, (show Aside _ from ((Gw.refl w).alloc _ _).alloc _ _)⟩
    case round =>
      obtain ⟨i, a', b', c', d', rfl, h1, h2, XL, XT, I, G⟩ := hrel
      obtain ⟨⟨wa, wb⟩, ⟨wc0, wc1⟩, ⟨wd0, wd1⟩⟩ := I.out.2.2
      have wa0 := I.out.1.a0
      have wb0 := I.out.1.b1
      by_cases hlt : i < n
      · have hh := HR.out.gw G.out
        obtain ⟨_, c1, _⟩ := hh.cells
        obtain ⟨ao, cap, ev, ks⟩ := hh.ks
        rw [ev] at c1
        obtain ⟨bk, off, rfl, hb, hc⟩ := ks.cells (by omega)
        have k1 := hc i hlt
        have fb := HR.out.bd i hlt
        have fx : f i < x := HX.out i hlt
        clear hh ks hc ev
        have TP : Hid (TopOn e (upd f n x) (Prs1 n i) c' d') := I.out.2.1
        have LP : Hid (LowOn e (upd f n x) (Prs1 n i) a' b') := I.out.1
        have E0 : Hid (upd f n x n - upd f n x i = x - f i) := by show _ = _; rw [upd_at, upd_lo hlt]
        obtain ⟨fi, hfi⟩ : ∃ y, f i = y := ⟨_, rfl⟩
        rw [hfi] at k1 fb fx E0
        clear hfi
        obtain ⟨D, hD⟩ : ∃ y, x - fi = y := ⟨_, rfl⟩
        obtain ⟨m, hm⟩ : ∃ y, (n : Int) - i - 2 * e = y := ⟨_, rfl⟩
        obtain ⟨M, hM⟩ : ∃ y, (n : Int) - i + 2 * e = y := ⟨_, rfl⟩
        have EM : Hid ((n : Int) - i + 2 * e = M ∧ upd f n x n - upd f n x i = D) := ⟨hM, by rw [E0.out, hD]⟩
        have Em : Hid ((n : Int) - i - 2 * e = m) := hm
        have wM := wu (x := M) (by omega) (by omega)
        have D0 : 0 < D := by omega
        have D1 : D < 18446744073709551616 := by omega
        have M0 : 0 < M := by omega
        have M1 : M < 10000000 := by omega
        have m1 : m < 10000000 := by omega
        clear E0
        by_cases hm0 : 0 < m
        · have wm := wu (x := m) (by omega) (by omega)
          go_wp2_with fail
          refine (lowest4_any m D (by omega) (by omega) (by omega) (by omega) _).mono ?_
          rintro ex w1 ⟨⟨lc, ld, lg, rfl, hl4⟩, g1⟩
          obtain ⟨q0, q1⟩ := hl4.c0, hl4.d1
          have q2 : lc < 18446744073709551616 := by have := hl4.cb; omega
          have q3 : ld < 18446744073709551616 := by have := hl4.db; omega
          have XL2 : Hid (Bx (w1.alloc (.cells #[.int .u64 lc, .int .u64 ld] 72)) (w.heap.size) 72 (.int .u64 a') (.int .u64 b')) := (XL.out.gw g1).alloc _
          have XT2 : Hid (Bx (w1.alloc (.cells #[.int .u64 lc, .int .u64 ld] 72)) (w.heap.size + 1) 72 (.int .u64 c') (.int .u64 d')) := (XT.out.gw g1).alloc _
          have G2 : Hid (Gw w (w1.alloc (.cells #[.int .u64 lc, .int .u64 ld] 72))) := (G.out.trans g1).alloc _ _
          have HL : Hid (LowF m D lc ld lg) := hl4
          have z1 := (XL.out.gw g1).c0
          have z2 := (XL.out.gw g1).c1
          have z3 := (XL.out.gw g1).lt
          clear hl4 g1
          go_wp2_with fail
          refine (below4_any a' b' lc ld wa0 wa (by omega) wb q0 q2 (by omega) q3 _).mono ?_
          rintro ex w2 ⟨⟨r1, rfl, hr1⟩, g2⟩
          have XL4 : Hid (Bx w2 (w.heap.size) 72 (.int .u64 a') (.int .u64 b')) := XL2.out.gw g2
          have XT4 : Hid (Bx w2 (w.heap.size + 1) 72 (.int .u64 c') (.int .u64 d')) := XT2.out.gw g2
          have G4 : Hid (Gw w w2) := G2.out.trans g2
          have y1 := (Bx.new w1 72 (.int .u64 lc) (.int .u64 ld)).gw g2
          have y2 := y1.c0
          have y3 := y1.c1
          clear y1 XL2 XT2 G2 g2 z1 z2 z3
          have z1 := XL4.out.c0
          have z2 := XL4.out.c1
          have z3 := XL4.out.fz 0
          have z4 := XL4.out.fz 1
          cases r1 with
          | true =>
            have K1 : Hid (Blw a' b' lc ld) := hr1.1 rfl
            clear hr1
            have XL1 : Hid (Bx ((w2.setCell ⟨w.heap.size, 0, none⟩ (.int .u64 lc)).setCell ⟨w.heap.size, 1, none⟩ (.int .u64 ld)) (w.heap.size) 72 (.int .u64 lc) (.int .u64 ld)) := XL4.out.set _ _
            have XT1 : Hid (Bx ((w2.setCell ⟨w.heap.size, 0, none⟩ (.int .u64 lc)).setCell ⟨w.heap.size, 1, none⟩ (.int .u64 ld)) (w.heap.size + 1) 72 (.int .u64 c') (.int .u64 d')) := (XT4.out.far _ (by omega)).far _ (by omega)
            have G1 : Hid (Gw w (((w2.setCell ⟨w.heap.size, 0, none⟩ (.int .u64 lc)).setCell ⟨w.heap.size, 1, none⟩ (.int .u64 ld)))) := (G4.out.setCell (by simp) _).setCell (by simp) _
            have LW : Hid (LowOn e (upd f n x) (Prs1 n (i + 1)) lc ld ∧ lc < 18446744073709551616 ∧ ld < 18446744073709551616) := ⟨LowOn.congr (LowOn.take (prs1_pairs UP.out (by omega)) LP.out HL.out.g0 (CM.out m _ _ (by omega) HL.out.ec HL.out.g0) q1 HL.out.low (by rw [HL.out.ec, ← Em.out]) (by rw [HL.out.ed, ← EM.out.2]) K1.out) (prs1_succ n i) (fun _ _ _ => rfl), q2, q3⟩
            clear XL XT G I
            go_wp2_with fail
            refine (lowest4_any M D (by omega) (by omega) (by omega) (by omega) _).mono ?_
            rintro ex w3 ⟨⟨sc, sd, sg, rfl, hs⟩, g3⟩
            obtain ⟨s0, s1⟩ := hs.c0, hs.d1
            have s2 : sc < 18446744073709551616 := by have := hs.cb; omega
            have s3 : sd < 18446744073709551616 := by have := hs.db; omega
            have XL3 : Hid (Bx (w3.alloc (.cells #[.int .u64 sc, .int .u64 sd] 72)) (w.heap.size) 72 (.int .u64 lc) (.int .u64 ld)) := (XL1.out.gw g3).alloc _
            have XT3 : Hid (Bx (w3.alloc (.cells #[.int .u64 sc, .int .u64 sd] 72)) (w.heap.size + 1) 72 (.int .u64 c') (.int .u64 d')) := (XT1.out.gw g3).alloc _
            have G3 : Hid (Gw w (w3.alloc (.cells #[.int .u64 sc, .int .u64 sd] 72))) := (G1.out.trans g3).alloc _ _
            have HS : Hid (LowF M D sc sd sg) := hs
            have z1 := (XT1.out.gw g3).c0
            have z2 := (XT1.out.gw g3).c1
            have z3 := (XT1.out.gw g3).lt
            have z4 : w.heap.size < w3.heap.size := (XL1.out.gw g3).lt
            clear hs XL1 XT1 G1 g3
            go_wp2_with fail
            refine (below4_any sc sd c' d' s0 s2 (by omega) s3 wc0 wc1 wd0 wd1 _).mono ?_
            rintro ex w5 ⟨⟨r2, rfl, hr2⟩, g5⟩
            have XL5 : Hid (Bx w5 (w.heap.size) 72 (.int .u64 lc) (.int .u64 ld)) := XL3.out.gw g5
            have XT5 : Hid (Bx w5 (w.heap.size + 1) 72 (.int .u64 c') (.int .u64 d')) := XT3.out.gw g5
            have G5 : Hid (Gw w w5) := G3.out.trans g5
            have y1 := (Bx.new w3 72 (.int .u64 sc) (.int .u64 sd)).gw g5
            have y2 := y1.c0
            have y3 := y1.c1
            clear y1 XL3 XT3 G3 g5 z1 z2 z3 z4
            have z1 := XT5.out.c0
            have z2 := XT5.out.c1
            have z3 := XT5.out.fz 0
            have z4 := XT5.out.fz 1
            cases r2 with
            | true =>
              have K : Hid (Blw sc sd c' d') := hr2.1 rfl
              clear hr2
              go_wp2_with fail
              go_roundg (n - (i + 1))
              case measure => omega
              case rel =>
                refine ⟨i + 1, lc, ld, sc, sd, by go_num, by omega, Nat.le_refl _, (show Aside _ from ((XL5.out.far _ (by omega)).far _ (by omega))), (show Aside _ from XT5.out.set _ _), (show Aside _ from ⟨LW.out.1, TopOn.congr (TopOn.take (prs1_pairs UP.out (by omega)) TP.out HS.out.g0 (CM.out M _ _ (by omega) HS.out.ec HS.out.g0) s1 HS.out.low (by rw [HS.out.ec, ← EM.out.1]) (by rw [HS.out.ed, ← EM.out.2]) K.out) (prs1_succ n i) (fun _ _ _ => rfl), LW.out.2, ⟨by omega, s2⟩, ⟨by omega, s3⟩⟩), (show Aside _ from (G5.out.setCell (by simp) _).setCell (by simp) _)⟩
            | false =>
              have K : Hid (¬ Blw sc sd c' d') := fun hb => Bool.noConfusion (hr2.2 hb)
              clear hr2
              go_wp2_with fail
              go_roundg (n - (i + 1))
              case measure => omega
              case rel =>
                refine ⟨i + 1, lc, ld, c', d', by go_num, by omega, Nat.le_refl _, (show Aside _ from XL5.out), (show Aside _ from XT5.out), (show Aside _ from ⟨LW.out.1, TopOn.congr (TopOn.keep TP.out HS.out.g0 (CM.out M _ _ (by omega) HS.out.ec HS.out.g0) s1 (by rw [HS.out.ec, ← EM.out.1]) (by rw [HS.out.ed, ← EM.out.2]) K.out) (prs1_succ n i) (fun _ _ _ => rfl), LW.out.2, ⟨wc0, wc1⟩, ⟨wd0, wd1⟩⟩), (show Aside _ from G5.out)⟩
          | false =>
            have K1 : Hid (¬ Blw a' b' lc ld) := fun hb => Bool.noConfusion (hr1.2 hb)
            clear hr1 z1 z2 z3 z4
            have XL1 : Hid (Bx w2 (w.heap.size) 72 (.int .u64 a') (.int .u64 b')) := XL4.out
            have XT1 : Hid (Bx w2 (w.heap.size + 1) 72 (.int .u64 c') (.int .u64 d')) := XT4.out
            have G1 : Hid (Gw w (w2)) := G4.out
            have LW : Hid (LowOn e (upd f n x) (Prs1 n (i + 1)) a' b' ∧ a' < 18446744073709551616 ∧ b' < 18446744073709551616) := ⟨LowOn.congr (LowOn.keep LP.out HL.out.g0 q1 (by rw [HL.out.ec, ← Em.out]) (by rw [HL.out.ed, ← EM.out.2]) K1.out) (prs1_succ n i) (fun _ _ _ => rfl), wa, wb⟩
            clear XL XT G I
            go_wp2_with fail
            refine (lowest4_any M D (by omega) (by omega) (by omega) (by omega) _).mono ?_
            rintro ex w3 ⟨⟨sc, sd, sg, rfl, hs⟩, g3⟩
            obtain ⟨s0, s1⟩ := hs.c0, hs.d1
            have s2 : sc < 18446744073709551616 := by have := hs.cb; omega
            have s3 : sd < 18446744073709551616 := by have := hs.db; omega
            have XL3 : Hid (Bx (w3.alloc (.cells #[.int .u64 sc, .int .u64 sd] 72)) (w.heap.size) 72 (.int .u64 a') (.int .u64 b')) := (XL1.out.gw g3).alloc _
            have XT3 : Hid (Bx (w3.alloc (.cells #[.int .u64 sc, .int .u64 sd] 72)) (w.heap.size + 1) 72 (.int .u64 c') (.int .u64 d')) := (XT1.out.gw g3).alloc _
            have G3 : Hid (Gw w (w3.alloc (.cells #[.int .u64 sc, .int .u64 sd] 72))) := (G1.out.trans g3).alloc _ _
            have HS : Hid (LowF M D sc sd sg) := hs
            have z1 := (XT1.out.gw g3).c0
            have z2 := (XT1.out.gw g3).c1
            have z3 := (XT1.out.gw g3).lt
            have z4 : w.heap.size < w3.heap.size := (XL1.out.gw g3).lt
            clear hs XL1 XT1 G1 g3
            go_wp2_with fail
            refine (below4_any sc sd c' d' s0 s2 (by omega) s3 wc0 wc1 wd0 wd1 _).mono ?_
            rintro ex w5 ⟨⟨r2, rfl, hr2⟩, g5⟩
            have XL5 : Hid (Bx w5 (w.heap.size) 72 (.int .u64 a') (.int .u64 b')) := XL3.out.gw g5
            have XT5 : Hid (Bx w5 (w.heap.size + 1) 72 (.int .u64 c') (.int .u64 d')) := XT3.out.gw g5
            have G5 : Hid (Gw w w5) := G3.out.trans g5
            have y1 := (Bx.new w3 72 (.int .u64 sc) (.int .u64 sd)).gw g5
            have y2 := y1.c0
            have y3 := y1.c1
            clear y1 XL3 XT3 G3 g5 z1 z2 z3 z4
            have z1 := XT5.out.c0
            have z2 := XT5.out.c1
            have z3 := XT5.out.fz 0
            have z4 := XT5.out.fz 1
            cases r2 with
            | true =>
              have K : Hid (Blw sc sd c' d') := hr2.1 rfl
              clear hr2
              go_wp2_with fail
              go_roundg (n - (i + 1))
              case measure => omega
              case rel =>
                refine ⟨i + 1, a', b', sc, sd, by go_num, by omega, Nat.le_refl _, (show Aside _ from ((XL5.out.far _ (by omega)).far _ (by omega))), (show Aside _ from XT5.out.set _ _), (show Aside _ from ⟨LW.out.1, TopOn.congr (TopOn.take (prs1_pairs UP.out (by omega)) TP.out HS.out.g0 (CM.out M _ _ (by omega) HS.out.ec HS.out.g0) s1 HS.out.low (by rw [HS.out.ec, ← EM.out.1]) (by rw [HS.out.ed, ← EM.out.2]) K.out) (prs1_succ n i) (fun _ _ _ => rfl), LW.out.2, ⟨by omega, s2⟩, ⟨by omega, s3⟩⟩), (show Aside _ from (G5.out.setCell (by simp) _).setCell (by simp) _)⟩
            | false =>
              have K : Hid (¬ Blw sc sd c' d') := fun hb => Bool.noConfusion (hr2.2 hb)
              clear hr2
              go_wp2_with fail
              go_roundg (n - (i + 1))
              case measure => omega
              case rel =>
                refine ⟨i + 1, a', b', c', d', by go_num, by omega, Nat.le_refl _, (show Aside _ from XL5.out), (show Aside _ from XT5.out), (show Aside _ from ⟨LW.out.1, TopOn.congr (TopOn.keep TP.out HS.out.g0 (CM.out M _ _ (by omega) HS.out.ec HS.out.g0) s1 (by rw [HS.out.ec, ← EM.out.1]) (by rw [HS.out.ed, ← EM.out.2]) K.out) (prs1_succ n i) (fun _ _ _ => rfl), LW.out.2, ⟨wc0, wc1⟩, ⟨wd0, wd1⟩⟩), (show Aside _ from G5.out)⟩
        · have m0' : m ≤ 0 := by omega
          have XL1 : Hid (Bx wr (w.heap.size) 72 (.int .u64 a') (.int .u64 b')) := XL.out
          have XT1 : Hid (Bx wr (w.heap.size + 1) 72 (.int .u64 c') (.int .u64 d')) := XT.out
          have G1 : Hid (Gw w (wr)) := G.out
          have LW : Hid (LowOn e (upd f n x) (Prs1 n (i + 1)) a' b' ∧ a' < 18446744073709551616 ∧ b' < 18446744073709551616) := ⟨LowOn.congr (LowOn.skip LP.out (by rw [EM.out.2]; exact D0) (by rw [Em.out]; exact m0')) (prs1_succ n i) (fun _ _ _ => rfl), wa, wb⟩
          clear XL XT G I
          go_wp2_with fail
          refine (lowest4_any M D (by omega) (by omega) (by omega) (by omega) _).mono ?_
          rintro ex w3 ⟨⟨sc, sd, sg, rfl, hs⟩, g3⟩
          obtain ⟨s0, s1⟩ := hs.c0, hs.d1
          have s2 : sc < 18446744073709551616 := by have := hs.cb; omega
          have s3 : sd < 18446744073709551616 := by have := hs.db; omega
          have XL3 : Hid (Bx (w3.alloc (.cells #[.int .u64 sc, .int .u64 sd] 72)) (w.heap.size) 72 (.int .u64 a') (.int .u64 b')) := (XL1.out.gw g3).alloc _
          have XT3 : Hid (Bx (w3.alloc (.cells #[.int .u64 sc, .int .u64 sd] 72)) (w.heap.size + 1) 72 (.int .u64 c') (.int .u64 d')) := (XT1.out.gw g3).alloc _
          have G3 : Hid (Gw w (w3.alloc (.cells #[.int .u64 sc, .int .u64 sd] 72))) := (G1.out.trans g3).alloc _ _
          have HS : Hid (LowF M D sc sd sg) := hs
          have z1 := (XT1.out.gw g3).c0
          have z2 := (XT1.out.gw g3).c1
          have z3 := (XT1.out.gw g3).lt
          have z4 : w.heap.size < w3.heap.size := (XL1.out.gw g3).lt
          clear hs XL1 XT1 G1 g3
          go_wp2_with fail
          refine (below4_any sc sd c' d' s0 s2 (by omega) s3 wc0 wc1 wd0 wd1 _).mono ?_
          rintro ex w5 ⟨⟨r2, rfl, hr2⟩, g5⟩
          have XL5 : Hid (Bx w5 (w.heap.size) 72 (.int .u64 a') (.int .u64 b')) := XL3.out.gw g5
          have XT5 : Hid (Bx w5 (w.heap.size + 1) 72 (.int .u64 c') (.int .u64 d')) := XT3.out.gw g5
          have G5 : Hid (Gw w w5) := G3.out.trans g5
          have y1 := (Bx.new w3 72 (.int .u64 sc) (.int .u64 sd)).gw g5
          have y2 := y1.c0
          have y3 := y1.c1
          clear y1 XL3 XT3 G3 g5 z1 z2 z3 z4
          have z1 := XT5.out.c0
          have z2 := XT5.out.c1
          have z3 := XT5.out.fz 0
          have z4 := XT5.out.fz 1
          cases r2 with
          | true =>
            have K : Hid (Blw sc sd c' d') := hr2.1 rfl
            clear hr2
            go_wp2_with fail
            go_roundg (n - (i + 1))
            case measure => omega
            case rel =>
              refine ⟨i + 1, a', b', sc, sd, by go_num, by omega, Nat.le_refl _, (show Aside _ from ((XL5.out.far _ (by omega)).far _ (by omega))), (show Aside _ from XT5.out.set _ _), (show Aside _ from ⟨LW.out.1, TopOn.congr (TopOn.take (prs1_pairs UP.out (by omega)) TP.out HS.out.g0 (CM.out M _ _ (by omega) HS.out.ec HS.out.g0) s1 HS.out.low (by rw [HS.out.ec, ← EM.out.1]) (by rw [HS.out.ed, ← EM.out.2]) K.out) (prs1_succ n i) (fun _ _ _ => rfl), LW.out.2, ⟨by omega, s2⟩, ⟨by omega, s3⟩⟩), (show Aside _ from (G5.out.setCell (by simp) _).setCell (by simp) _)⟩
          | false =>
            have K : Hid (¬ Blw sc sd c' d') := fun hb => Bool.noConfusion (hr2.2 hb)
            clear hr2
            go_wp2_with fail
            go_roundg (n - (i + 1))
            case measure => omega
            case rel =>
              refine ⟨i + 1, a', b', c', d', by go_num, by omega, Nat.le_refl _, (show Aside _ from XL5.out), (show Aside _ from XT5.out), (show Aside _ from ⟨LW.out.1, TopOn.congr (TopOn.keep TP.out HS.out.g0 (CM.out M _ _ (by omega) HS.out.ec HS.out.g0) s1 (by rw [HS.out.ec, ← EM.out.1]) (by rw [HS.out.ed, ← EM.out.2]) K.out) (prs1_succ n i) (fun _ _ _ => rfl), LW.out.2, ⟨wc0, wc1⟩, ⟨wd0, wd1⟩⟩), (show Aside _ from G5.out)⟩
      · obtain rfl : i = n := by omega
        have LO : Hid (LowOn e (upd f i x) (Prs (i + 1)) a' b') := I.out.1.congr (prs1_all i) (fun _ _ _ => rfl)
        have TO : Hid (TopOn e (upd f i x) (Prs (i + 1)) c' d') := I.out.2.1.congr (prs1_all i) (fun _ _ _ => rfl)
        have PP := prs_pairs UP.out
        have FI : Hid (¬ Blw c' d' a' b' ↔ FitsOn e (upd f i x) (Prs (i + 1))) := fits_iff (by omega) PP LO.out TO.out
        clear PP I
        have z1 := XT.out.c0
        have z2 := XT.out.c1
        have z3 := XL.out.c0
        have z4 := XL.out.c1
        have XL' : Hid (Bx wr (w.heap.size) 72 (.int .u64 a') (.int .u64 b')) := XL.out
        have XT' : Hid (Bx wr (w.heap.size + 1) 72 (.int .u64 c') (.int .u64 d')) := XT.out
        have G' : Hid (Gw w wr) := G.out
        clear XL XT G
        go_wp2_with fail
        refine (below4_any c' d' a' b' wc0 wc1 wd0 wd1 wa0 wa (by omega) wb _).mono ?_
        rintro ex w5 ⟨⟨r, rfl, hr⟩, g5⟩
        have XL5 : Hid (Bx w5 (w.heap.size) 72 (.int .u64 a') (.int .u64 b')) := XL'.out.gw g5
        have XT5 : Hid (Bx w5 (w.heap.size + 1) 72 (.int .u64 c') (.int .u64 d')) := XT'.out.gw g5
        have G5 : Hid (Gw w w5) := G'.out.trans g5
        clear XL' XT' G' g5 z1 z2 z3 z4
        cases r with
        | true =>
          have K : Hid (Blw c' d' a' b') := hr.1 rfl
          clear hr
          go_wp2_with fail
          go_ret2
          exact ⟨⟨false, rfl, ⟨fun q => Bool.noConfusion q, fun q => absurd K.out (FI.out.2 q)⟩, fun _ => G5.out, fun q => Bool.noConfusion q⟩, G5.out.gs _⟩
        | false =>
          have K : Hid (FitsOn e (upd f i x) (Prs (i + 1))) := FI.out.1 (fun hb => Bool.noConfusion (hr.2 hb))
          clear hr FI
          have R5 : Hid (RF w5 p v e i f a b c d) := HR.out.gw G5.out
          obtain ⟨_, p1, _⟩ := R5.out.cells
          have own5 := R5.out.own
          have FIN : Hid (∀ (W : World) (v' : Value), W.heap[p]? = w5.heap[p]? → W.ownsRow 0 24 1 v' (i + 1) ((List.range i).map (fun j => Value.int .u64 (f j)) ++ [.int .u64 x]) → (∀ q, v'.ownBlock = some q → q ≠ p) →
              RF (((((W.setCell ⟨p, 1, none⟩ v').setCell ⟨p, 2, none⟩ (.int .u64 a')).setCell ⟨p, 3, none⟩ (.int .u64 b')).setCell ⟨p, 4, none⟩ (.int .u64 c')).setCell ⟨p, 5, none⟩ (.int .u64 d')) p v' e (i + 1) (upd f i x) a' b' c' d') := by
            intro W v' h1 h2 h3
            refine rf_store (h1.trans R5.out.blk) ?_ h3 UP.out ?_ LO.out TO.out K.out ⟨e1, e2⟩ ⟨⟨wa, wb⟩, ⟨wc0, wc1⟩, ⟨wd0, wd1⟩⟩
            · have e3 : (List.range (i + 1)).map (fun j => Value.int .u64 (upd f i x j)) = (List.range i).map (fun j => Value.int .u64 (f j)) ++ [.int .u64 x] := by
                rw [List.range_succ, List.map_append]
                congr 1
                · refine List.map_congr_left fun j hj => ?_
                  rw [upd_lo (List.mem_range.1 hj)]
                · simp [upd_at]
              rw [e3]
              exact h2
            · intro j hj
              by_cases q : j = i
              · subst q; rw [upd_at]; exact ⟨x0, x1⟩
              · rw [upd_lo (by omega)]; exact HR.out.bd j (by omega)
          obtain ⟨ii, hii, hz, hs, hby⟩ := info_parts info_k
          rcases own5.2 with ⟨ev, i0⟩ | ⟨g, cp, cur, ev, _, hg, hnc, hcm, _⟩
          · omega
          · rw [ev] at p1 own5
            have EV : Hid (v = .slice (some ⟨g, 0, none⟩) i cp) := ev
            have GP : Hid (g ≠ p) := R5.out.ne g (by rw [ev]; rfl)
            have GL : Hid (g < w.heap.size) := (HR.out.own.lt g (by rw [ev]; rfl)).2
            have O5 : Hid (w5.ownsRow 0 24 1 (.slice (some ⟨g, 0, none⟩) i cp) i ((List.range i).map fun j => Value.int .u64 (f j))) := own5
            clear ev own5 hg
            by_cases room : i + 1 ≤ cp
            · go_wp2_with (at_builtin; refine wpList_append_fits _ rfl _ _ 22 rfl 0 24 ii 1 Tryz.underlying22 hii hs g i cp _ rfl (O5.out.alloc _) ⟨w5.heap.size, 0, none⟩ 1 1 [.int .u64 x] rfl rfl (new_one w5 x) (ints_oneCell .u64 [x]) room ?_)
              intro w7 q1 q2
              have hg7 := (q1.lt g rfl).2
              have B7 : Hid (w7.heap[p]? = w5.heap[p]?) := by
                show w7.heap[p]? = w5.heap[p]?
                rw [q2.block p (by simp; have := R5.out.lt; omega) (fun q => by cases q; exact GP.out rfl)]
                exact heap_alloc_old _ _ R5.out.lt
              have R7 : Hid (w7.heap[p]? = some (.cells #[.int .i64 (e + 1), v, .int .u64 a, .int .u64 b, .int .u64 c, .int .u64 d] 74 (0, 0))) := B7.out.trans R5.out.blk
              have hR7 := R7.out
              have t0 : ∀ o, w7.frozen? ⟨p, o, none⟩ = false := fun o => by simp [World.frozen?, hR7]
              have t1 : w7.cell? ⟨p, 1, none⟩ = some v := by simp [World.cell?, hR7]
              have t2 : w7.cell? ⟨p, 2, none⟩ = some (.int .u64 a) := by simp [World.cell?, hR7]
              have t3 : w7.cell? ⟨p, 3, none⟩ = some (.int .u64 b) := by simp [World.cell?, hR7]
              have t4 : w7.cell? ⟨p, 4, none⟩ = some (.int .u64 c) := by simp [World.cell?, hR7]
              have t5 : w7.cell? ⟨p, 5, none⟩ = some (.int .u64 d) := by simp [World.cell?, hR7]
              clear hR7
              have YL : Bx w7 (w.heap.size) 72 (.int .u64 a') (.int .u64 b') := (q2.block _ (by simp; have := XL5.out.lt; omega) (fun q => by cases q; have := GL.out; omega)).trans (XL5.out.alloc _)
              have YT : Bx w7 (w.heap.size + 1) 72 (.int .u64 c') (.int .u64 d') := (q2.block _ (by simp; have := XT5.out.lt; omega) (fun q => by cases q; have := GL.out; omega)).trans (XT5.out.alloc _)
              have y1 := YL.c0
              have y2 := YL.c1
              have y3 := YT.c0
              have y4 := YT.c1
              have hpL : p ≠ w.heap.size := by omega
              have hpT : p ≠ w.heap.size + 1 := by omega
              have Q1 : Hid (w7.ownsRow 0 24 1 (.slice (some ⟨g, 0, none⟩) (i + 1) cp) (i + 1) ((List.range i).map (fun j => Value.int .u64 (f j)) ++ [.int .u64 x])) := own_base q1
              have Q2 : Hid (Gs (rfp p v) w w7) := ((G5.out.alloc _ _).gs _).grown q2 (fun k hk => by cases hk; exact .inr (by rw [EV.out]; rfl))
              have FP : Hid (∀ q, rfp p (.slice (some ⟨g, 0, none⟩) (i + 1) cp) q → rfp p v q ∨ w.heap.size ≤ q) := by
                show ∀ q, rfp p (.slice (some ⟨g, 0, none⟩) (i + 1) cp) q → rfp p v q ∨ w.heap.size ≤ q
                intro q hq
                rcases hq with rfl | hq
                · exact .inl (.inl rfl)
                · cases hq
                  exact .inl (.inr (by rw [EV.out]; rfl))
              have NE : Hid (g ≠ p) := GP.out
              clear q1 q2 YL YT hii hz hs hby
              go_wp2_with fail
              go_ret2
              exact ⟨⟨true, rfl, ⟨fun _ => K.out, fun _ => rfl⟩, (fun q => Bool.noConfusion q), fun _ => ⟨_, _, _, _, _, FIN.out w7 _ B7.out Q1.out (fun q hq => by cases hq; exact NE.out), FP.out⟩⟩, ((((Q2.out.set (.inl rfl) _ _).set (.inl rfl) _ _).set (.inl rfl) _ _).set (.inl rfl) _ _).set (.inl rfl) _ _⟩
            · go_wp2_with (at_builtin; refine wpList_append_grows _ rfl _ _ 22 rfl 24 ii (.int .u64 0) 1 8 Tryz.underlying22 hii hz hs hby rfl (by decide) (some ⟨g, 0, none⟩) i cp ((List.range i).map fun j => Value.int .u64 (f j)) rfl (fun q => by cases q) (by simp) (fun bb q => by cases q; exact (O5.out.alloc _).cells rfl) ⟨w5.heap.size, 0, none⟩ 1 1 [.int .u64 x] rfl rfl (new_one w5 x) (ints_oneCell .u64 [x]) (by omega) (by simp only [maxLen]; omega) (by omega) ?_)
              intro v' w7 q1 q2
              obtain ⟨g', cap', ev', hg', hg7⟩ := own_pos q1
              subst ev'
              have B7 : Hid (w7.heap[p]? = w5.heap[p]?) := by
                show w7.heap[p]? = w5.heap[p]?
                rw [q2.block p (by simp; have := R5.out.lt; omega) (fun q => by cases q)]
                exact heap_alloc_old _ _ R5.out.lt
              have R7 : Hid (w7.heap[p]? = some (.cells #[.int .i64 (e + 1), v, .int .u64 a, .int .u64 b, .int .u64 c, .int .u64 d] 74 (0, 0))) := B7.out.trans R5.out.blk
              have hR7 := R7.out
              have t0 : ∀ o, w7.frozen? ⟨p, o, none⟩ = false := fun o => by simp [World.frozen?, hR7]
              have t1 : w7.cell? ⟨p, 1, none⟩ = some v := by simp [World.cell?, hR7]
              have t2 : w7.cell? ⟨p, 2, none⟩ = some (.int .u64 a) := by simp [World.cell?, hR7]
              have t3 : w7.cell? ⟨p, 3, none⟩ = some (.int .u64 b) := by simp [World.cell?, hR7]
              have t4 : w7.cell? ⟨p, 4, none⟩ = some (.int .u64 c) := by simp [World.cell?, hR7]
              have t5 : w7.cell? ⟨p, 5, none⟩ = some (.int .u64 d) := by simp [World.cell?, hR7]
              clear hR7
              have YL : Bx w7 (w.heap.size) 72 (.int .u64 a') (.int .u64 b') := (q2.block _ (by simp; have := XL5.out.lt; omega) (fun q => by cases q)).trans (XL5.out.alloc _)
              have YT : Bx w7 (w.heap.size + 1) 72 (.int .u64 c') (.int .u64 d') := (q2.block _ (by simp; have := XT5.out.lt; omega) (fun q => by cases q)).trans (XT5.out.alloc _)
              have y1 := YL.c0
              have y2 := YL.c1
              have y3 := YT.c0
              have y4 := YT.c1
              have hpL : p ≠ w.heap.size := by omega
              have hpT : p ≠ w.heap.size + 1 := by omega
              have Q1 : Hid (w7.ownsRow 0 24 1 (.slice (some ⟨g', 0, none⟩) (i + 1) cap') (i + 1) ((List.range i).map (fun j => Value.int .u64 (f j)) ++ [.int .u64 x])) := own_base q1
              have Q2 : Hid (Gs (rfp p v) w w7) := ((G5.out.alloc _ _).gs _).grown q2 (fun k hk => by cases hk)
              have FP : Hid (∀ q, rfp p (.slice (some ⟨g', 0, none⟩) (i + 1) cap') q → rfp p v q ∨ w.heap.size ≤ q) := by
                show ∀ q, rfp p (.slice (some ⟨g', 0, none⟩) (i + 1) cap') q → rfp p v q ∨ w.heap.size ≤ q
                intro q hq
                rcases hq with rfl | hq
                · exact .inl (.inl rfl)
                · cases hq
                  exact .inr (show w.heap.size ≤ g' by have := G5.out.size; first | omega | (simp at hg'; omega))
              have NE : Hid (g' ≠ p) := by
                show g' ≠ p
                have := G5.out.size
                first | omega | (simp at hg'; omega)
              clear q1 q2 YL YT hii hz hs hby
              go_wp2_with fail
              go_ret2
              exact ⟨⟨true, rfl, ⟨fun _ => K.out, fun _ => rfl⟩, (fun q => Bool.noConfusion q), fun _ => ⟨_, _, _, _, _, FIN.out w7 _ B7.out Q1.out (fun q hq => by cases hq; exact NE.out), FP.out⟩⟩, ((((Q2.out.set (.inl rfl) _ _).set (.inl rfl) _ _).set (.inl rfl) _ _).set (.inl rfl) _ _).set (.inl rfl) _ _⟩

end Go.Proofs.YtmmkmakajolfhaaGreat

/- The document's Add, every key. -/
namespace Go.Proofs.YtmmkmakajolfhaaGreat
open Go.RowKit
set_option linter.unusedVariables false

set_option maxHeartbeats 1000000 in
theorem radd4_back {w : World} {p : Nat} {v : Value} {e : Int} {n : Nat} {f : Nat → Int} {a b c d : Int} (h : RF w p v e n f a b c d) (x : Int) (x0 : 0 ≤ x) (x1 : x < 18446744073709551616) (hn : n ≤ 4000000) (hp : 0 < n) (hx : x ≤ f (n - 1)) :
    Calls Tryz.prog 31 #[.pointer (some ⟨p, 0, none⟩), .int .u64 x] w fun ex w' => ex = .returned (.tuple #[.bool false, .int .i64 40]) ∧ Gw w w' := by
  obtain ⟨c0, c1, _⟩ := h.cells
  have hl := h.lt
  obtain ⟨ao, cap, ev, ks⟩ := h.ks
  rw [ev] at c1
  obtain ⟨bk, off, eo, hb, hc⟩ := ks.cells hp
  subst eo
  obtain ⟨pr, hpr⟩ : ∃ pr : Nat, (n : Int) - 1 = pr := ⟨n - 1, by omega⟩
  have hpn : pr < n := by omega
  have hw := wrap_nat pr (by omega)
  have k1 := hc pr hpn
  rw [show n - 1 = pr by omega] at hx
  clear h ks hc ev
  generalize f pr = fp at k1 hx
  go_enter Tryz.func31, Tryz.ntmps31
  go_wp2_with fail
  go_ret2
  exact ⟨rfl, Gw.refl w⟩

/-- The document's Fit, its slopes left out. -/
def RFit (w : World) (p : Nat) (S : Nat → Prop) (e : Int) (n : Nat) (f : Nat → Int) : Prop := ∃ v a b c d, RF w p v e n f a b c d ∧ ∀ q, S q ↔ rfp p v q

theorem radd4_any {w : World} {p : Nat} {S : Nat → Prop} {e : Int} {n : Nat} {f : Nat → Int} (h : RFit w p S e n f) (x : Int) (x0 : 0 ≤ x) (x1 : x < 18446744073709551616) (hn : n ≤ 4000000) :
    Calls Tryz.prog 31 #[.pointer (some ⟨p, 0, none⟩), .int .u64 x] w fun ex w' =>
      (∃ (ok : Bool) (err : Int) (S' : Nat → Prop), ex = .returned (.tuple #[.bool ok, .int .i64 err]) ∧ AddR e n f x ok err ∧ RFit w' p S' e (if ok then n + 1 else n) (if ok then upd f n x else f) ∧ ∀ q, S' q → S q ∨ w.heap.size ≤ q) ∧ Gs S w w' := by
  obtain ⟨v, a, b, c, d, h, hS⟩ := h
  by_cases hx : 0 < n ∧ x ≤ f (n - 1)
  · refine (radd4_back h x x0 x1 hn hx.1 hx.2).mono ?_
    rintro ex w' ⟨rfl, g⟩
    exact ⟨⟨false, 40, S, rfl, .inl ⟨hx.1, hx.2, rfl, rfl⟩, ⟨v, a, b, c, d, h.gw g, hS⟩, fun q hq => .inl hq⟩, g.gs S⟩
  · refine (radd4_more h x x0 x1 hn (fun h0 => by
      rcases Int.lt_or_le (f (n - 1)) x with q | q
      · exact q
      · exact absurd ⟨h0, q⟩ hx)).mono ?_
    rintro ex w' ⟨⟨ok, rfl, h1, h2, h3⟩, g⟩
    have g' : Gs S w w' := ⟨g.os, g.tape, g.output, g.size, fun q hq hs => g.block q hq (fun r => hs ((hS q).2 r))⟩
    cases ok with
    | true =>
      obtain ⟨v', a', b', c', d', hr, hf⟩ := h3 rfl
      exact ⟨⟨true, 0, rfp p v', rfl, .inr ⟨hx, rfl, h1⟩, ⟨v', a', b', c', d', hr, fun q => Iff.rfl⟩, fun q hq => by
        rcases hf q hq with r | r
        · exact .inl ((hS q).2 r)
        · exact .inr r⟩, g'⟩
    | false => exact ⟨⟨false, 0, S, rfl, .inr ⟨hx, rfl, h1⟩, ⟨v, a, b, c, d, h.gw (h2 rfl), hS⟩, fun q hq => .inl hq⟩, g'⟩

end Go.Proofs.YtmmkmakajolfhaaGreat

/- What the statements of layer 4 ask of package hull, as one structure; and their examples. -/
namespace Go.Proofs.YtmmkmakajolfhaaGreat
open Go.RowKit
set_option linter.unusedVariables false

theorem Gs.gw {S : Nat → Prop} {W w w' : World} (h : Gw W w) (g : Gs S w w') (hS : ∀ q, S q → W.heap.size ≤ q) : Gw W w' :=
  ⟨⟨g.os.trans h.below.os, g.tape.trans h.below.tape, g.output.trans h.below.output, Nat.le_trans h.below.size g.size, fun q hq => (g.block q (Nat.lt_of_lt_of_le hq h.below.size) (fun s => by have := hS q s; omega)).trans (h.below.block q hq)⟩⟩

/-- Package hull: 'HF w p S e n f': at block p lies a Fit of eps e + 1, of the n keys f, made of the blocks S. -/
structure HullC (HF : World → Nat → (Nat → Prop) → Int → Nat → (Nat → Int) → Prop) : Prop where
  keep : ∀ {w w' : World} {p : Nat} {S : Nat → Prop} {e : Int} {n : Nat} {f : Nat → Int}, HF w p S e n f → (∀ q, S q → w'.heap[q]? = w.heap[q]?) → HF w' p S e n f
  lt : ∀ {w : World} {p : Nat} {S : Nat → Prop} {e : Int} {n : Nat} {f : Nat → Int}, HF w p S e n f → ∀ q, S q → q < w.heap.size
  ext : ∀ {w : World} {p : Nat} {S : Nat → Prop} {e : Int} {n : Nat} {f g : Nat → Int}, HF w p S e n f → (∀ i, i < n → f i = g i) → HF w p S e n g
  facts : ∀ {w : World} {p : Nat} {S : Nat → Prop} {e : Int} {n : Nat} {f : Nat → Int}, HF w p S e n f → Up f n ∧ (∀ i, i < n → 0 ≤ f i ∧ f i < 18446744073709551616) ∧ FitsOn e f (Prs n) ∧ 1 ≤ e ∧ e ≤ 63
  bad : ∀ (eps : Int), ¬ (2 ≤ eps ∧ eps ≤ 64) → ∀ w : World, Calls Tryz.prog 37 #[.int .i64 eps] w fun ex w' => ex = .returned (.tuple #[.pointer none, .int .i64 1]) ∧ Gw w w'
  new : ∀ (eps : Int), 2 ≤ eps → eps ≤ 64 → ∀ w : World, Calls Tryz.prog 37 #[.int .i64 eps] w fun ex w' => (∃ p S, ex = .returned (.tuple #[.pointer (some ⟨p, 0, none⟩), .int .i64 0]) ∧ (∀ q, S q → w.heap.size ≤ q) ∧ HF w' p S (eps - 1) 0 (fun _ => 0)) ∧ Gw w w'
  add : ∀ {w : World} {p : Nat} {S : Nat → Prop} {e : Int} {n : Nat} {f : Nat → Int}, HF w p S e n f → ∀ x : Int, 0 ≤ x → x < 18446744073709551616 → n ≤ 3000000 →
    Calls Tryz.prog 51 #[.pointer (some ⟨p, 0, none⟩), .int .u64 x] w fun ex w' =>
      (∃ (ok : Bool) (err : Int) (S' : Nat → Prop), ex = .returned (.tuple #[.bool ok, .int .i64 err]) ∧ AddR e n f x ok err ∧ HF w' p S' e (if ok then n + 1 else n) (if ok then upd f n x else f) ∧ ∀ q, S' q → S q ∨ w.heap.size ≤ q) ∧ Gs S w w'
  least : ∀ {w : World} {p : Nat} {S : Nat → Prop} {e : Int} {n : Nat} {f : Nat → Int}, HF w p S e n f → n ≤ 3000001 → Calls Tryz.prog 54 #[.pointer (some ⟨p, 0, none⟩)] w fun ex w' => (∃ a b, ex = .returned (.agg #[.int .u64 a, .int .u64 b]) ∧ LowOn e f (Prs n) a b ∧ a < 18446744073709551616 ∧ b < 18446744073709551616) ∧ Gw w w'

theorem HullC.gw {HF : World → Nat → (Nat → Prop) → Int → Nat → (Nat → Int) → Prop} (H : HullC HF) {w w' : World} {p : Nat} {S : Nat → Prop} {e : Int} {n : Nat} {f : Nat → Int} (h : HF w p S e n f) (g : Gw w w') : HF w' p S e n f :=
  H.keep h fun q hq => g.below.block q (H.lt h q hq)

/-- The examples' keys. -/
def lin (j : Nat) : Int := 10 * ((j : Int) + 1)
theorem lin_diff (i j : Nat) : lin j - lin i = 10 * ((j : Int) - i) := by unfold lin; omega
theorem lin_up (n : Nat) : Up lin n := fun j _ => by unfold lin; omega
theorem lin_near (n : Nat) : NearR 1 lin n 1 10 := by
  intro i j hi hj
  have := lin_diff j i
  omega
theorem lin_fits (n : Nat) : FitsOn 1 lin (Prs n) := near_fits (lin_up n) (by decide) (lin_near n)
theorem lin_ext (n : Nat) (x : Int) (hx : x = 10 * ((n : Int) + 1)) : ∀ i, upd lin n x i = lin i := by
  intro i
  by_cases h : i = n
  · subst h; rw [upd_at, hx]; rfl
  · exact if_neg h
theorem lin_low : LowOn 1 lin (Prs 5) 1 20 := by
  refine ⟨by decide, by decide, by decide, fun i j s => ?_, .inr ⟨0, 4, ⟨by decide, by decide⟩, by decide, by decide⟩⟩
  have := lin_diff i j
  have := s.1; have := s.2
  omega
theorem lin_top : TopOn 1 lin (Prs 5) 3 20 := by
  refine .inr ⟨by decide, by decide, by decide, fun i j s => ?_, 0, 4, ⟨by decide, by decide⟩, by decide⟩
  have := lin_diff i j
  have := s.1; have := s.2
  omega
theorem lin_six : FitsOn 1 (upd lin 5 51) (Prs 6) := by
  refine near_fits (a := 1) (b := 10) (up_upd (lin_up 5) (fun _ => by decide)) (by decide) (near_mk (by decide) (by decide) (fun i j s => ?_) (fun i j s => ?_))
  all_goals
    have := s.1; have := s.2
    have e1 : upd lin 5 51 i = lin i := upd_lo (by omega)
    by_cases h : j = 5
    · subst h
      rw [upd_at, e1]
      unfold lin
      omega
    · rw [upd_lo (by omega), e1]
      have := lin_diff i j
      omega
theorem lin_far : ¬ FitsOn 1 (upd (upd lin 5 51) 6 9223372036854775808) (Prs 7) := by
  intro h
  have := h 0 5 5 6 ⟨by decide, by decide⟩ ⟨by decide, by decide⟩
  exact absurd this (by decide +kernel)


end Go.Proofs.YtmmkmakajolfhaaGreat
