/- The walks of package wide's sums: each call returns the sum, the difference, the negative, modulo 2^128. -/
import Derived.Test.YtnnlffogfaiaeaaRows
import Derived.Test.YtnnlffogfaiaeaaMath
import Derived.Test.YtnnlffogfaiaeaaShelf
import Derived.Shelf.Spec.BitsCarry
import Derived.WalkKit
import Derived.WalkSpells
import Derived.WalkLawsBesides
import Derived.StillTactics
import Derived.Laws.Pointers
import Derived.Deep.RegionHeld3
import Derived.RowKit3
namespace Go.Proofs.Ytnnlffogfaiaeaa
open Go.RowKit Go.Shelf

/-- Old memory is as it was, and nothing is frozen or let go. -/
structure Gb (w w' : World) : Prop where
  below : Below w.heap.size w w'
  frozen : ∀ a, w'.frozen? a = w.frozen? a

theorem Gb.refl (w : World) : Gb w w := ⟨Below.refl _ _, fun _ => rfl⟩
theorem Gb.trans {a b c : World} (h : Gb a b) (k : Gb b c) : Gb a c :=
  ⟨h.below.trans (k.below.mono h.below.size), fun x => (k.frozen x).trans (h.frozen x)⟩
theorem Gb.alloc {a w : World} (h : Gb a w) (c : Array Value) (t : TypeId) : Gb a (w.alloc (.cells c t)) :=
  ⟨h.below.alloc h.below.size _, fun x => (frozen?_alloc_cells _ _ _ x).trans (h.frozen x)⟩
theorem Gb.setCell {a w : World} (h : Gb a w) {p : Addr} (hp : a.heap.size ≤ p.block) (v : Value) : Gb a (w.setCell p v) :=
  ⟨h.below.setCell hp v, fun x => (World.frozen?_setCell _ _ _ _).trans (h.frozen x)⟩
theorem Gb.drew {a w : World} (h : Gb a w) : Gb a w.drew := ⟨h.below.drew, h.frozen⟩
theorem Gb.cell {w w' : World} (h : Gb w w') (b o : Nat) (hb : b < w.heap.size) : w'.cell? ⟨b, o, none⟩ = w.cell? ⟨b, o, none⟩ := h.below.cell (p := ⟨b, o, none⟩) hb
theorem Gb.size {w w' : World} (h : Gb w w') : w.heap.size ≤ w'.heap.size := h.below.size

theorem Gb.facts {W w' : World} (h : Gb W w') : (∀ b o, b < W.heap.size → w'.cell? ⟨b, o, none⟩ = W.cell? ⟨b, o, none⟩) ∧ (∀ a, w'.frozen? a = W.frozen? a) :=
  ⟨fun b o hb => h.cell b o hb, h.frozen⟩

theorem frozen?_new (w : World) (b o : Nat) (h : w.heap.size ≤ b) : w.frozen? ⟨b, o, none⟩ = false := by
  have e : w.heap[b]? = none := by simp; omega
  simp [World.frozen?, e]

/-- .. and there are k blocks more. -/
structure Gk (k : Nat) (w w' : World) : Prop where
  gb : Gb w w'
  grew : w'.heap.size = w.heap.size + k

theorem Gk.facts {k : Nat} {W w' : World} (h : Gk k W w') : (∀ b o, b < W.heap.size → w'.cell? ⟨b, o, none⟩ = W.cell? ⟨b, o, none⟩) ∧ (∀ a, w'.frozen? a = W.frozen? a) ∧ w'.heap.size = W.heap.size + k :=
  ⟨fun b o hb => h.gb.cell b o hb, h.gb.frozen, h.grew⟩

/-- A variable of two cells. -/
structure H2 (w : World) (b : Nat) (u v : Value) : Prop where
  lt : b < w.heap.size
  c0 : w.cell? ⟨b, 0, none⟩ = some u
  c1 : w.cell? ⟨b, 1, none⟩ = some v

theorem H2.gb {w w' : World} {b : Nat} {u v : Value} (h : H2 w b u v) (g : Gb w w') : H2 w' b u v :=
  ⟨Nat.lt_of_lt_of_le h.lt g.size, (g.cell b 0 h.lt).trans h.c0, (g.cell b 1 h.lt).trans h.c1⟩
theorem H2.new (w : World) (u v : Value) (t : TypeId) : H2 (w.alloc (.cells #[u, v] t)) w.heap.size u v :=
  ⟨by simp, by simp [go_sem], by simp [go_sem]⟩
theorem H2.at {w : World} {b : Nat} {u v : Value} (h : H2 w b u v) (b' : Nat) (e : b = b') : H2 w b' u v := e ▸ h
theorem H2.alloc {w : World} {b : Nat} {u v : Value} (h : H2 w b u v) (o : Obj) : H2 (w.alloc o) b u v :=
  ⟨Nat.lt_of_lt_of_le h.lt (by simp), (World.cell?_alloc_past _ _ _ h.lt).trans h.c0, (World.cell?_alloc_past _ _ _ h.lt).trans h.c1⟩

theorem add64n (x y c : Nat) (hx : x < 18446744073709551616) (hy : y < 18446744073709551616) (hc : c ≤ 1) (w : World) :
    (callFunc 29 #[.int .u64 x, .int .u64 y, .int .u64 c]).run Try.prog w =
      .ok (.value (.tuple #[.int .u64 (((x + y + c) % 18446744073709551616 : Nat) : Int), .int .u64 (((x + y + c) / 18446744073709551616 : Nat) : Int)])) w := by
  rw [run_callFunc_extern Try.func29 (by kernel_rfl) (by kernel_rfl) (by kernel_rfl) (e := add64Entry) (by kernel_rfl), run_add64 x y c (by omega) (by omega) (by omega) (by omega)]
  simp only [Result.andThen]
  congr 5 <;> omega

theorem sub64n (x y b : Nat) (hb : b ≤ 1) (w : World) :
    (callFunc 31 #[.int .u64 x, .int .u64 y, .int .u64 b]).run Try.prog w =
      .ok (.value (.tuple #[.int .u64 (((x + 18446744073709551616 - y - b) % 18446744073709551616 : Nat) : Int), .int .u64 ((if x < y + b then 1 else 0 : Nat) : Int)])) w := by
  rw [run_callFunc_extern Try.func31 (by kernel_rfl) (by kernel_rfl) (by kernel_rfl) (e := sub64Entry) (by kernel_rfl), run_sub64 x y b hb]
  rfl

theorem add64 (x y c : Int) (hx : 0 ≤ x) (hx' : x < 18446744073709551616) (hy : 0 ≤ y) (hy' : y < 18446744073709551616) (hc0 : 0 ≤ c) (hc : c ≤ 1) (w : World) : (callFunc 29 #[.int .u64 x, .int .u64 y, .int .u64 c]).run Try.prog w =
    .ok (.value (.tuple #[.int .u64 ((x + y + c) % 18446744073709551616), .int .u64 ((x + y + c) / 18446744073709551616)])) w := by
  obtain ⟨x, rfl⟩ := Int.eq_ofNat_of_zero_le hx
  obtain ⟨y, rfl⟩ := Int.eq_ofNat_of_zero_le hy
  obtain ⟨c, rfl⟩ := Int.eq_ofNat_of_zero_le hc0
  refine (add64n x y c (by omega) (by omega) (by omega) w).trans ?_
  congr 5 <;> omega

theorem sub64 (x y b : Int) (hx : 0 ≤ x) (hy : 0 ≤ y) (hy' : y < 18446744073709551616) (hb0 : 0 ≤ b) (hb : b ≤ 1) (w : World) : (callFunc 31 #[.int .u64 x, .int .u64 y, .int .u64 b]).run Try.prog w =
    .ok (.value (.tuple #[.int .u64 ((x - y - b) % 18446744073709551616), .int .u64 (bor x y b)])) w := by
  obtain ⟨x, rfl⟩ := Int.eq_ofNat_of_zero_le hx
  obtain ⟨y, rfl⟩ := Int.eq_ofNat_of_zero_le hy
  obtain ⟨b, rfl⟩ := Int.eq_ofNat_of_zero_le hb0
  have e1 : (((x + 18446744073709551616 - y - b) % 18446744073709551616 : Nat) : Int) = ((x : Int) - y - b) % 18446744073709551616 := by omega
  have e2 : ((if x < y + b then 1 else 0 : Nat) : Int) = bor x y b := by unfold bor; split <;> split <;> omega
  rw [← e1, ← e2]
  exact sub64n x y b (by omega) w

set_option maxHeartbeats 400000 in
theorem of_any (n : Int) (h0 : -9223372036854775808 ≤ n) (h1 : n < 9223372036854775808) (w : World) :
    Calls Try.prog 10 #[.int .i64 n] w fun e w' => e = .returned (.agg #[.int .i64 (hiv (n)), .int .u64 (lov (n))]) ∧ Gk 1 w w' := by
  have e1 : n / 9223372036854775808 = hiv n := by unfold hiv; omega
  have e2 : IntKind.u64.wrap n = lov n := by unfold lov; rw [IntKind.wrap_u64]
  go_enter Try.func10, Try.ntmps10
  go_wp2
  refine bodyPost_ret (v := .agg #[.int .i64 (hiv (n)), .int .u64 (lov (n))]) (by simp [results, Try.results10, go_sem]) rfl ⟨rfl, (Gb.refl _).alloc _ _, by simp⟩

theorem u64w_bd (n : Int) : 0 ≤ IntKind.u64.wrap n ∧ IntKind.u64.wrap n < 18446744073709551616 := by rw [IntKind.wrap_u64]; omega

set_option maxHeartbeats 400000 in
theorem add_any (x y : Int) (w : World) :
    Calls Try.prog 14 #[.agg #[.int .i64 (hiv (x)), .int .u64 (lov (x))], .agg #[.int .i64 (hiv (y)), .int .u64 (lov (y))]] w fun e w' => e = .returned (.agg #[.int .i64 (hiv (x + y)), .int .u64 (lov (x + y))]) ∧ Gk 3 w w' := by
  obtain ⟨a1, a2⟩ := lov_bd x; obtain ⟨b1, b2⟩ := lov_bd y
  obtain ⟨c1, c2⟩ := u64w_bd (hiv x); obtain ⟨d1, d2⟩ := u64w_bd (hiv y)
  have k0 : 0 ≤ (lov x + lov y) / 18446744073709551616 := by omega
  have k1 : (lov x + lov y) / 18446744073709551616 ≤ 1 := by omega
  go_enter Try.func14, Try.ntmps14
  go_wp2_with (first | simp only [add64 (lov x) (lov y) 0 a1 a2 b1 b2 (Int.le_refl 0) (by decide)] | simp only [add64 _ _ _ c1 c2 d1 d2 k0 k1])
  simp [bodyPost, results, Try.results14, go_sem]
  exact ⟨⟨hi_add x y, lo_add x y⟩, (((Gb.refl _).alloc _ _).alloc _ _).alloc _ _, by simp⟩

set_option maxHeartbeats 400000 in
theorem sub_any (x y : Int) (w : World) :
    Calls Try.prog 16 #[.agg #[.int .i64 (hiv (x)), .int .u64 (lov (x))], .agg #[.int .i64 (hiv (y)), .int .u64 (lov (y))]] w fun e w' => e = .returned (.agg #[.int .i64 (hiv (x - y)), .int .u64 (lov (x - y))]) ∧ Gk 3 w w' := by
  obtain ⟨a1, a2⟩ := lov_bd x; obtain ⟨b1, b2⟩ := lov_bd y
  obtain ⟨c1, c2⟩ := u64w_bd (hiv x); obtain ⟨d1, d2⟩ := u64w_bd (hiv y)
  have k0 : 0 ≤ bor (lov x) (lov y) 0 := by unfold bor; split <;> decide
  have k1 : bor (lov x) (lov y) 0 ≤ 1 := by unfold bor; split <;> decide
  go_enter Try.func16, Try.ntmps16
  go_wp2_with (first | simp only [sub64 (lov x) (lov y) 0 a1 b1 b2 (Int.le_refl 0) (by decide)] | simp only [sub64 _ _ _ c1 d1 d2 k0 k1])
  simp [bodyPost, results, Try.results16, go_sem]
  exact ⟨⟨hi_sub x y, lo_sub x y⟩, (((Gb.refl _).alloc _ _).alloc _ _).alloc _ _, by simp⟩

theorem sub_at (h1 l1 h2 l2 x y : Int) (e1 : h1 = hiv x) (e2 : l1 = lov x) (e3 : h2 = hiv y) (e4 : l2 = lov y) (w : World) :
    Calls Try.prog 16 #[.agg #[.int .i64 h1, .int .u64 l1], .agg #[.int .i64 h2, .int .u64 l2]] w fun e w' => e = .returned (.agg #[.int .i64 (hiv (x - y)), .int .u64 (lov (x - y))]) ∧ Gk 3 w w' := by
  subst e1 e2 e3 e4; exact sub_any x y w
theorem add_at (h1 l1 h2 l2 x y : Int) (e1 : h1 = hiv x) (e2 : l1 = lov x) (e3 : h2 = hiv y) (e4 : l2 = lov y) (w : World) :
    Calls Try.prog 14 #[.agg #[.int .i64 h1, .int .u64 l1], .agg #[.int .i64 h2, .int .u64 l2]] w fun e w' => e = .returned (.agg #[.int .i64 (hiv (x + y)), .int .u64 (lov (x + y))]) ∧ Gk 3 w w' := by
  subst e1 e2 e3 e4; exact add_any x y w

set_option maxHeartbeats 400000 in
theorem neg_any (x : Int) (w : World) :
    Calls Try.prog 18 #[.agg #[.int .i64 (hiv (x)), .int .u64 (lov (x))]] w fun e w' => e = .returned (.agg #[.int .i64 (hiv (-x)), .int .u64 (lov (-x))]) ∧ Gk 5 w w' := by
  go_enter Try.func18, Try.ntmps18
  go_wp2_with (go_at_call 16; refine (sub_at 0 0 _ _ 0 x (by decide) (by decide) rfl rfl _).mono ?_; rintro e w' ⟨rfl, hg⟩; obtain ⟨hc, hf, hz⟩ := hg.facts)
  refine bodyPost_ret (v := .agg #[.int .i64 (hiv (-x)), .int .u64 (lov (-x))]) (by simp [results, Try.results18, go_sem, hc]) rfl ⟨rfl, ?_⟩
  exact ⟨(((((Gb.refl _).alloc _ _).alloc _ _).trans hg.gb).setCell (by simp) _).setCell (by simp) _, by simp [World.setCell, hz]⟩

theorem mul64 (x y : Int) (hx : 0 ≤ x) (hx' : x < 18446744073709551616) (hy : 0 ≤ y) (hy' : y < 18446744073709551616) (w : World) :
    Calls Try.prog 24 #[.int .u64 x, .int .u64 y] w fun e w' => e = .returned (.tuple #[.int .u64 (x * y / 18446744073709551616), .int .u64 (x * y % 18446744073709551616)]) ∧ w' = w := by
  obtain ⟨x, rfl⟩ := Int.eq_ofNat_of_zero_le hx
  obtain ⟨y, rfl⟩ := Int.eq_ofNat_of_zero_le hy
  have := Try.bits_Mul64 x y (by omega) (by omega) w
  simpa using this

set_option maxHeartbeats 400000 in
theorem times_any (a b : Int) (h0 : -9223372036854775808 ≤ a) (h1 : a < 9223372036854775808) (b0 : 0 ≤ b) (b1 : b < 18446744073709551616) (w : World) :
    Calls Try.prog 12 #[.int .i64 a, .int .u64 b] w fun e w' => e = .returned (.agg #[.int .i64 (hiv (a * b)), .int .u64 (lov (a * b))]) ∧ Gk 1 w w' := by
  obtain ⟨c1, c2⟩ := u64w_bd a
  by_cases hn : a < 0
  · go_enter Try.func12, Try.ntmps12
    go_wp2_with (go_at_call 24; refine (mul64 _ _ c1 c2 b0 b1 _).mono ?_; rintro e w' ⟨rfl, rfl⟩)
    simp [bodyPost, results, Try.results12, go_sem]
    refine ⟨⟨times_hi a b h0 h1 hn, times_lo a b⟩, (Gb.refl _).alloc _ _, by simp⟩
  · go_enter Try.func12, Try.ntmps12
    go_wp2_with (go_at_call 24; refine (mul64 a b (by omega) (by omega) b0 b1 _).mono ?_; rintro e w' ⟨rfl, rfl⟩)
    simp [bodyPost, results, Try.results12, go_sem]
    refine ⟨⟨times_hi' a b, rfl⟩, (Gb.refl _).alloc _ _, by simp⟩

theorem xor_i64 (n : Int) (h0 : -9223372036854775808 ≤ n) (h1 : n < 9223372036854775808) : bits .xor .i64 (-1) n = -1 - n := by
  show IntKind.i64.wrap ((BitVec.ofInt 64 (-1) ^^^ BitVec.ofInt 64 n).toNat : Int) = _
  have e1 : BitVec.ofInt 64 (-1) = BitVec.allOnes 64 := by decide
  rw [e1, BitVec.allOnes_xor, BitVec.toNat_not, BitVec.toNat_ofInt]
  simp [IntKind.wrap, IntKind.bits, IntKind.signed]
  omega
theorem xor_u64 (n : Int) (h0 : 0 ≤ n) (h1 : n < 18446744073709551616) : bits .xor .u64 IntKind.u64.max n = 18446744073709551615 - n := by
  show IntKind.u64.wrap ((BitVec.ofInt 64 IntKind.u64.max ^^^ BitVec.ofInt 64 n).toNat : Int) = _
  have e1 : BitVec.ofInt 64 IntKind.u64.max = BitVec.allOnes 64 := by decide
  rw [e1, BitVec.allOnes_xor, BitVec.toNat_not, BitVec.toNat_ofInt]
  simp [IntKind.wrap, IntKind.bits, IntKind.signed]
  omega
theorem flip_hi (x : Int) : -1 - hiv x = hiv (-1 - x) := by unfold hiv; omega
theorem flip_lo (x : Int) : 18446744073709551615 - lov x = lov (-1 - x) := by unfold lov; omega

set_option maxHeartbeats 400000 in
theorem flip_any (x : Int) (w : World) :
    Calls Try.prog 34 #[.agg #[.int .i64 (hiv (x)), .int .u64 (lov (x))]] w fun e w' => e = .returned (.agg #[.int .i64 (hiv (-1 - x)), .int .u64 (lov (-1 - x))]) ∧ Gk 2 w w' := by
  obtain ⟨a1, a2⟩ := lov_bd x; obtain ⟨b1, b2⟩ := hiv_bd x
  go_enter Try.func34, Try.ntmps34
  go_wp2
  simp [bodyPost, results, Try.results34, go_sem]
  exact ⟨⟨(xor_i64 _ b1 b2).trans (flip_hi x), (xor_u64 _ a1 a2).trans (flip_lo x)⟩, ((Gb.refl _).alloc _ _).alloc _ _, by simp⟩

set_option maxHeartbeats 1000000 in
theorem cmp_any (x y : Int) (w : World) :
    Calls Try.prog 20 #[.agg #[.int .i64 (hiv (x)), .int .u64 (lov (x))], .agg #[.int .i64 (hiv (y)), .int .u64 (lov (y))]] w fun e w' => e = .returned (.int .i64 (cmpi (sv x) (sv y))) ∧ Gk 2 w w' := by
  have i1 := sv_inj x y
  have i2 := sv_lt x y
  by_cases g1 : hiv x = hiv y
  · by_cases g2 : lov x = lov y
    · have e : cmpi (sv x) (sv y) = 0 := by unfold cmpi; rw [if_neg (by omega), if_pos (by omega)]
      rw [e, g1, g2]; clear i1 i2 e
      go_enter Try.func20, Try.ntmps20
      go_wp2
      go_ret
      exact ⟨rfl, ((Gb.refl _).alloc _ _).alloc _ _, by simp⟩
    · have f1 : (lov x == lov y) = false := by simpa using g2
      by_cases g3 : lov x < lov y
      · have e : cmpi (sv x) (sv y) = -1 := by unfold cmpi; rw [if_pos (by omega)]
        rw [e, g1]; clear i1 i2 e
        go_enter Try.func20, Try.ntmps20
        go_wp2
        go_ret
        exact ⟨rfl, ((Gb.refl _).alloc _ _).alloc _ _, by simp⟩
      · have e : cmpi (sv x) (sv y) = 1 := by unfold cmpi; rw [if_neg (by omega), if_neg (by omega)]
        rw [e, g1]; clear i1 i2 e
        go_enter Try.func20, Try.ntmps20
        go_wp2
        go_ret
        exact ⟨rfl, ((Gb.refl _).alloc _ _).alloc _ _, by simp⟩
  · have f1 : (hiv x == hiv y) = false := by simpa using g1
    by_cases g3 : hiv x < hiv y
    · have e : cmpi (sv x) (sv y) = -1 := by unfold cmpi; rw [if_pos (by omega)]
      rw [e]; clear i1 i2 e
      go_enter Try.func20, Try.ntmps20
      go_wp2
      go_ret
      exact ⟨rfl, ((Gb.refl _).alloc _ _).alloc _ _, by simp⟩
    · have e : cmpi (sv x) (sv y) = 1 := by unfold cmpi; rw [if_neg (by omega), if_neg (by omega)]
      rw [e]; clear i1 i2 e
      go_enter Try.func20, Try.ntmps20
      go_wp2
      go_ret
      exact ⟨rfl, ((Gb.refl _).alloc _ _).alloc _ _, by simp⟩

end Go.Proofs.Ytnnlffogfaiaeaa
