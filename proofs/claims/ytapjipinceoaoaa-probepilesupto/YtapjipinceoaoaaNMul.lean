/- The document's own product, digit by digit, modulo 2^128. -/
import Derived.Test.YtapjipinceoaoaaPNr
import Derived.Test.YtapjipinceoaoaaPDg
namespace Go.Proofs.Ytapjipinceoaoaa
open Go.RowKit
set_option linter.unusedVariables false

attribute [local go_sem] frozen?_alloc_cells frozen?_new setCell_drewN alloc_drewN World.drewN_drewN

theorem plus_row0 (o a y z : Int) (hz : o + a * y * 65536 ^ 0 = z) (w : World) :
    Calls Try.prog 87 #[.agg #[.int .i64 (dg (o) 0), .int .i64 (dg (o) 1), .int .i64 (dg (o) 2), .int .i64 (dg (o) 3), .int .i64 (dg (o) 4), .int .i64 (dg (o) 5), .int .i64 (dg (o) 6), .int .i64 (dg (o) 7)], .agg #[.int .i64 (dg (a * y) 0), .int .i64 (dg (a * y) 1), .int .i64 (dg (a * y) 2), .int .i64 (dg (a * y) 3), .int .i64 (dg (a * y) 4), .int .i64 (dg (a * y) 5), .int .i64 (dg (a * y) 6), .int .i64 (dg (a * y) 7)]] w fun e w' => e = .returned (.agg #[.int .i64 (dg (z) 0), .int .i64 (dg (z) 1), .int .i64 (dg (z) 2), .int .i64 (dg (z) 3), .int .i64 (dg (z) 4), .int .i64 (dg (z) 5), .int .i64 (dg (z) 6), .int .i64 (dg (z) 7)]) ∧ Gk 3 w w' := by
  have h := plus_any o (a * y * 65536 ^ 0) w
  rw [show dg (a * y * 65536 ^ 0) 0 = dg (a * y) 0 from dg_high (a * y) 0 0, show dg (a * y * 65536 ^ 0) 1 = dg (a * y) 1 from dg_high (a * y) 0 1, show dg (a * y * 65536 ^ 0) 2 = dg (a * y) 2 from dg_high (a * y) 0 2, show dg (a * y * 65536 ^ 0) 3 = dg (a * y) 3 from dg_high (a * y) 0 3, show dg (a * y * 65536 ^ 0) 4 = dg (a * y) 4 from dg_high (a * y) 0 4, show dg (a * y * 65536 ^ 0) 5 = dg (a * y) 5 from dg_high (a * y) 0 5, show dg (a * y * 65536 ^ 0) 6 = dg (a * y) 6 from dg_high (a * y) 0 6, show dg (a * y * 65536 ^ 0) 7 = dg (a * y) 7 from dg_high (a * y) 0 7, hz] at h
  exact h
theorem plus_row1 (o a y z : Int) (hz : o + a * y * 65536 ^ 1 = z) (w : World) :
    Calls Try.prog 87 #[.agg #[.int .i64 (dg (o) 0), .int .i64 (dg (o) 1), .int .i64 (dg (o) 2), .int .i64 (dg (o) 3), .int .i64 (dg (o) 4), .int .i64 (dg (o) 5), .int .i64 (dg (o) 6), .int .i64 (dg (o) 7)], .agg #[.int .i64 (0), .int .i64 (dg (a * y) 0), .int .i64 (dg (a * y) 1), .int .i64 (dg (a * y) 2), .int .i64 (dg (a * y) 3), .int .i64 (dg (a * y) 4), .int .i64 (dg (a * y) 5), .int .i64 (dg (a * y) 6)]] w fun e w' => e = .returned (.agg #[.int .i64 (dg (z) 0), .int .i64 (dg (z) 1), .int .i64 (dg (z) 2), .int .i64 (dg (z) 3), .int .i64 (dg (z) 4), .int .i64 (dg (z) 5), .int .i64 (dg (z) 6), .int .i64 (dg (z) 7)]) ∧ Gk 3 w w' := by
  have h := plus_any o (a * y * 65536 ^ 1) w
  rw [dg_low (a * y) 1 0 (by decide), show dg (a * y * 65536 ^ 1) 1 = dg (a * y) 0 from dg_high (a * y) 1 0, show dg (a * y * 65536 ^ 1) 2 = dg (a * y) 1 from dg_high (a * y) 1 1, show dg (a * y * 65536 ^ 1) 3 = dg (a * y) 2 from dg_high (a * y) 1 2, show dg (a * y * 65536 ^ 1) 4 = dg (a * y) 3 from dg_high (a * y) 1 3, show dg (a * y * 65536 ^ 1) 5 = dg (a * y) 4 from dg_high (a * y) 1 4, show dg (a * y * 65536 ^ 1) 6 = dg (a * y) 5 from dg_high (a * y) 1 5, show dg (a * y * 65536 ^ 1) 7 = dg (a * y) 6 from dg_high (a * y) 1 6, hz] at h
  exact h
theorem plus_row2 (o a y z : Int) (hz : o + a * y * 65536 ^ 2 = z) (w : World) :
    Calls Try.prog 87 #[.agg #[.int .i64 (dg (o) 0), .int .i64 (dg (o) 1), .int .i64 (dg (o) 2), .int .i64 (dg (o) 3), .int .i64 (dg (o) 4), .int .i64 (dg (o) 5), .int .i64 (dg (o) 6), .int .i64 (dg (o) 7)], .agg #[.int .i64 (0), .int .i64 (0), .int .i64 (dg (a * y) 0), .int .i64 (dg (a * y) 1), .int .i64 (dg (a * y) 2), .int .i64 (dg (a * y) 3), .int .i64 (dg (a * y) 4), .int .i64 (dg (a * y) 5)]] w fun e w' => e = .returned (.agg #[.int .i64 (dg (z) 0), .int .i64 (dg (z) 1), .int .i64 (dg (z) 2), .int .i64 (dg (z) 3), .int .i64 (dg (z) 4), .int .i64 (dg (z) 5), .int .i64 (dg (z) 6), .int .i64 (dg (z) 7)]) ∧ Gk 3 w w' := by
  have h := plus_any o (a * y * 65536 ^ 2) w
  rw [dg_low (a * y) 2 0 (by decide), dg_low (a * y) 2 1 (by decide), show dg (a * y * 65536 ^ 2) 2 = dg (a * y) 0 from dg_high (a * y) 2 0, show dg (a * y * 65536 ^ 2) 3 = dg (a * y) 1 from dg_high (a * y) 2 1, show dg (a * y * 65536 ^ 2) 4 = dg (a * y) 2 from dg_high (a * y) 2 2, show dg (a * y * 65536 ^ 2) 5 = dg (a * y) 3 from dg_high (a * y) 2 3, show dg (a * y * 65536 ^ 2) 6 = dg (a * y) 4 from dg_high (a * y) 2 4, show dg (a * y * 65536 ^ 2) 7 = dg (a * y) 5 from dg_high (a * y) 2 5, hz] at h
  exact h
theorem plus_row3 (o a y z : Int) (hz : o + a * y * 65536 ^ 3 = z) (w : World) :
    Calls Try.prog 87 #[.agg #[.int .i64 (dg (o) 0), .int .i64 (dg (o) 1), .int .i64 (dg (o) 2), .int .i64 (dg (o) 3), .int .i64 (dg (o) 4), .int .i64 (dg (o) 5), .int .i64 (dg (o) 6), .int .i64 (dg (o) 7)], .agg #[.int .i64 (0), .int .i64 (0), .int .i64 (0), .int .i64 (dg (a * y) 0), .int .i64 (dg (a * y) 1), .int .i64 (dg (a * y) 2), .int .i64 (dg (a * y) 3), .int .i64 (dg (a * y) 4)]] w fun e w' => e = .returned (.agg #[.int .i64 (dg (z) 0), .int .i64 (dg (z) 1), .int .i64 (dg (z) 2), .int .i64 (dg (z) 3), .int .i64 (dg (z) 4), .int .i64 (dg (z) 5), .int .i64 (dg (z) 6), .int .i64 (dg (z) 7)]) ∧ Gk 3 w w' := by
  have h := plus_any o (a * y * 65536 ^ 3) w
  rw [dg_low (a * y) 3 0 (by decide), dg_low (a * y) 3 1 (by decide), dg_low (a * y) 3 2 (by decide), show dg (a * y * 65536 ^ 3) 3 = dg (a * y) 0 from dg_high (a * y) 3 0, show dg (a * y * 65536 ^ 3) 4 = dg (a * y) 1 from dg_high (a * y) 3 1, show dg (a * y * 65536 ^ 3) 5 = dg (a * y) 2 from dg_high (a * y) 3 2, show dg (a * y * 65536 ^ 3) 6 = dg (a * y) 3 from dg_high (a * y) 3 3, show dg (a * y * 65536 ^ 3) 7 = dg (a * y) 4 from dg_high (a * y) 3 4, hz] at h
  exact h
theorem plus_row4 (o a y z : Int) (hz : o + a * y * 65536 ^ 4 = z) (w : World) :
    Calls Try.prog 87 #[.agg #[.int .i64 (dg (o) 0), .int .i64 (dg (o) 1), .int .i64 (dg (o) 2), .int .i64 (dg (o) 3), .int .i64 (dg (o) 4), .int .i64 (dg (o) 5), .int .i64 (dg (o) 6), .int .i64 (dg (o) 7)], .agg #[.int .i64 (0), .int .i64 (0), .int .i64 (0), .int .i64 (0), .int .i64 (dg (a * y) 0), .int .i64 (dg (a * y) 1), .int .i64 (dg (a * y) 2), .int .i64 (dg (a * y) 3)]] w fun e w' => e = .returned (.agg #[.int .i64 (dg (z) 0), .int .i64 (dg (z) 1), .int .i64 (dg (z) 2), .int .i64 (dg (z) 3), .int .i64 (dg (z) 4), .int .i64 (dg (z) 5), .int .i64 (dg (z) 6), .int .i64 (dg (z) 7)]) ∧ Gk 3 w w' := by
  have h := plus_any o (a * y * 65536 ^ 4) w
  rw [dg_low (a * y) 4 0 (by decide), dg_low (a * y) 4 1 (by decide), dg_low (a * y) 4 2 (by decide), dg_low (a * y) 4 3 (by decide), show dg (a * y * 65536 ^ 4) 4 = dg (a * y) 0 from dg_high (a * y) 4 0, show dg (a * y * 65536 ^ 4) 5 = dg (a * y) 1 from dg_high (a * y) 4 1, show dg (a * y * 65536 ^ 4) 6 = dg (a * y) 2 from dg_high (a * y) 4 2, show dg (a * y * 65536 ^ 4) 7 = dg (a * y) 3 from dg_high (a * y) 4 3, hz] at h
  exact h
theorem plus_row5 (o a y z : Int) (hz : o + a * y * 65536 ^ 5 = z) (w : World) :
    Calls Try.prog 87 #[.agg #[.int .i64 (dg (o) 0), .int .i64 (dg (o) 1), .int .i64 (dg (o) 2), .int .i64 (dg (o) 3), .int .i64 (dg (o) 4), .int .i64 (dg (o) 5), .int .i64 (dg (o) 6), .int .i64 (dg (o) 7)], .agg #[.int .i64 (0), .int .i64 (0), .int .i64 (0), .int .i64 (0), .int .i64 (0), .int .i64 (dg (a * y) 0), .int .i64 (dg (a * y) 1), .int .i64 (dg (a * y) 2)]] w fun e w' => e = .returned (.agg #[.int .i64 (dg (z) 0), .int .i64 (dg (z) 1), .int .i64 (dg (z) 2), .int .i64 (dg (z) 3), .int .i64 (dg (z) 4), .int .i64 (dg (z) 5), .int .i64 (dg (z) 6), .int .i64 (dg (z) 7)]) ∧ Gk 3 w w' := by
  have h := plus_any o (a * y * 65536 ^ 5) w
  rw [dg_low (a * y) 5 0 (by decide), dg_low (a * y) 5 1 (by decide), dg_low (a * y) 5 2 (by decide), dg_low (a * y) 5 3 (by decide), dg_low (a * y) 5 4 (by decide), show dg (a * y * 65536 ^ 5) 5 = dg (a * y) 0 from dg_high (a * y) 5 0, show dg (a * y * 65536 ^ 5) 6 = dg (a * y) 1 from dg_high (a * y) 5 1, show dg (a * y * 65536 ^ 5) 7 = dg (a * y) 2 from dg_high (a * y) 5 2, hz] at h
  exact h
theorem plus_row6 (o a y z : Int) (hz : o + a * y * 65536 ^ 6 = z) (w : World) :
    Calls Try.prog 87 #[.agg #[.int .i64 (dg (o) 0), .int .i64 (dg (o) 1), .int .i64 (dg (o) 2), .int .i64 (dg (o) 3), .int .i64 (dg (o) 4), .int .i64 (dg (o) 5), .int .i64 (dg (o) 6), .int .i64 (dg (o) 7)], .agg #[.int .i64 (0), .int .i64 (0), .int .i64 (0), .int .i64 (0), .int .i64 (0), .int .i64 (0), .int .i64 (dg (a * y) 0), .int .i64 (dg (a * y) 1)]] w fun e w' => e = .returned (.agg #[.int .i64 (dg (z) 0), .int .i64 (dg (z) 1), .int .i64 (dg (z) 2), .int .i64 (dg (z) 3), .int .i64 (dg (z) 4), .int .i64 (dg (z) 5), .int .i64 (dg (z) 6), .int .i64 (dg (z) 7)]) ∧ Gk 3 w w' := by
  have h := plus_any o (a * y * 65536 ^ 6) w
  rw [dg_low (a * y) 6 0 (by decide), dg_low (a * y) 6 1 (by decide), dg_low (a * y) 6 2 (by decide), dg_low (a * y) 6 3 (by decide), dg_low (a * y) 6 4 (by decide), dg_low (a * y) 6 5 (by decide), show dg (a * y * 65536 ^ 6) 6 = dg (a * y) 0 from dg_high (a * y) 6 0, show dg (a * y * 65536 ^ 6) 7 = dg (a * y) 1 from dg_high (a * y) 6 1, hz] at h
  exact h
theorem plus_row7 (o a y z : Int) (hz : o + a * y * 65536 ^ 7 = z) (w : World) :
    Calls Try.prog 87 #[.agg #[.int .i64 (dg (o) 0), .int .i64 (dg (o) 1), .int .i64 (dg (o) 2), .int .i64 (dg (o) 3), .int .i64 (dg (o) 4), .int .i64 (dg (o) 5), .int .i64 (dg (o) 6), .int .i64 (dg (o) 7)], .agg #[.int .i64 (0), .int .i64 (0), .int .i64 (0), .int .i64 (0), .int .i64 (0), .int .i64 (0), .int .i64 (0), .int .i64 (dg (a * y) 0)]] w fun e w' => e = .returned (.agg #[.int .i64 (dg (z) 0), .int .i64 (dg (z) 1), .int .i64 (dg (z) 2), .int .i64 (dg (z) 3), .int .i64 (dg (z) 4), .int .i64 (dg (z) 5), .int .i64 (dg (z) 6), .int .i64 (dg (z) 7)]) ∧ Gk 3 w w' := by
  have h := plus_any o (a * y * 65536 ^ 7) w
  rw [dg_low (a * y) 7 0 (by decide), dg_low (a * y) 7 1 (by decide), dg_low (a * y) 7 2 (by decide), dg_low (a * y) 7 3 (by decide), dg_low (a * y) 7 4 (by decide), dg_low (a * y) 7 5 (by decide), dg_low (a * y) 7 6 (by decide), show dg (a * y * 65536 ^ 7) 7 = dg (a * y) 0 from dg_high (a * y) 7 0, hz] at h
  exact h

theorem cell_far (w : World) (b o b' o' : Nat) (v : Value) (h : b ≠ b') : (w.setCell ⟨b', o', none⟩ v).cell? ⟨b, o, none⟩ = w.cell? ⟨b, o, none⟩ :=
  World.cell?_of_block (w := w) (Below.heap_setCell w ⟨b', o', none⟩ v b h)
theorem H8.far {w : World} {b b' o' : Nat} {x : Int} (h : H8 w b x) (v : Value) (hb : b ≠ b') : H8 (w.setCell ⟨b', o', none⟩ v) b x :=
  ⟨by simpa [World.setCell] using h.lt, fun k hk => (cell_far w b k b' o' v hb).trans (h.c k hk)⟩
theorem H8.far8 {w : World} {b b' : Nat} {x : Int} (h : H8 w b x) (hb : b ≠ b') (v0 v1 v2 v3 v4 v5 v6 v7 : Value) :
    H8 ((((((((w.setCell ⟨b', 0, none⟩ v0).setCell ⟨b', 1, none⟩ v1).setCell ⟨b', 2, none⟩ v2).setCell ⟨b', 3, none⟩ v3).setCell ⟨b', 4, none⟩ v4).setCell ⟨b', 5, none⟩ v5).setCell ⟨b', 6, none⟩ v6).setCell ⟨b', 7, none⟩ v7) b x :=
  (((((((h.far v0 hb).far v1 hb).far v2 hb).far v3 hb).far v4 hb).far v5 hb).far v6 hb).far v7 hb
theorem H8.set {w : World} {b : Nat} {x z : Int} (h : H8 w b x) :
    H8 ((((((((w.setCell ⟨b, 0, none⟩ (.int .i64 (dg z 0))).setCell ⟨b, 1, none⟩ (.int .i64 (dg z 1))).setCell ⟨b, 2, none⟩ (.int .i64 (dg z 2))).setCell ⟨b, 3, none⟩ (.int .i64 (dg z 3))).setCell ⟨b, 4, none⟩ (.int .i64 (dg z 4))).setCell ⟨b, 5, none⟩ (.int .i64 (dg z 5))).setCell ⟨b, 6, none⟩ (.int .i64 (dg z 6))).setCell ⟨b, 7, none⟩ (.int .i64 (dg z 7))) b z := by
  refine ⟨by simpa [World.setCell] using h.lt, fun k hk => ?_⟩
  have t0 := h.c 0 (by decide); have t1 := h.c 1 (by decide); have t2 := h.c 2 (by decide); have t3 := h.c 3 (by decide)
  have t4 := h.c 4 (by decide); have t5 := h.c 5 (by decide); have t6 := h.c 6 (by decide); have t7 := h.c 7 (by decide)
  rcases lt8 k hk with rfl | rfl | rfl | rfl | rfl | rfl | rfl | rfl <;> simp [go_sem, t0, t1, t2, t3, t4, t5, t6, t7]
theorem Gb.set8 {a w : World} (h : Gb a w) {b : Nat} (hb : a.heap.size ≤ b) (v0 v1 v2 v3 v4 v5 v6 v7 : Value) :
    Gb a ((((((((w.setCell ⟨b, 0, none⟩ v0).setCell ⟨b, 1, none⟩ v1).setCell ⟨b, 2, none⟩ v2).setCell ⟨b, 3, none⟩ v3).setCell ⟨b, 4, none⟩ v4).setCell ⟨b, 5, none⟩ v5).setCell ⟨b, 6, none⟩ v6).setCell ⟨b, 7, none⟩ v7) :=
  (((((((h.setCell hb v0).setCell hb v1).setCell hb v2).setCell hb v3).setCell hb v4).setCell hb v5).setCell hb v6).setCell hb v7

theorem H8.at {w : World} {b : Nat} {x : Int} (h : H8 w b x) (b' : Nat) (x' : Int) (e : b = b') (e' : x = x') : H8 w b' x' := e ▸ e' ▸ h
theorem dg_nil (k : Nat) : dg 0 k = 0 := by unfold dg; simp
theorem H8.new0 (w : World) (t : TypeId) : H8 (w.alloc (.cells #[.int .i64 0, .int .i64 0, .int .i64 0, .int .i64 0, .int .i64 0, .int .i64 0, .int .i64 0, .int .i64 0] t)) w.heap.size 0 :=
  ⟨by simp, fun k hk => by rw [dg_nil]; rcases lt8 k hk with rfl | rfl | rfl | rfl | rfl | rfl | rfl | rfl <;> simp [go_sem]⟩
/-- What holds at the head of each round. -/
structure TI (w w' : World) (x y : Int) (i : Nat) : Prop where
  gb : Gb w w'
  qx : H8 w' w.heap.size x
  qy : H8 w' (w.heap.size + 1) y
  qr : H8 w' (w.heap.size + 1 + 1) 0
  qo : H8 w' (w.heap.size + 1 + 1 + 1) (x % 65536 ^ i * y)

theorem acc_next (x y : Int) (i : Nat) : x % 65536 ^ i * y + dg x i * y * 65536 ^ i = x % 65536 ^ (i + 1) * y := by
  rw [mod_next, Int.add_mul, Int.mul_assoc (dg x i), Int.mul_comm y, ← Int.mul_assoc, Int.mul_comm (dg x i)]

set_option maxRecDepth 10000 in
set_option maxHeartbeats 8000000 in
theorem times_num (x y : Int) (w : World) :
    Calls Try.prog 89 #[.agg #[.int .i64 (dg (x) 0), .int .i64 (dg (x) 1), .int .i64 (dg (x) 2), .int .i64 (dg (x) 3), .int .i64 (dg (x) 4), .int .i64 (dg (x) 5), .int .i64 (dg (x) 6), .int .i64 (dg (x) 7)], .agg #[.int .i64 (dg (y) 0), .int .i64 (dg (y) 1), .int .i64 (dg (y) 2), .int .i64 (dg (y) 3), .int .i64 (dg (y) 4), .int .i64 (dg (y) 5), .int .i64 (dg (y) 6), .int .i64 (dg (y) 7)]] w fun e w' => e = .returned (.agg #[.int .i64 (dg (x * y) 0), .int .i64 (dg (x * y) 1), .int .i64 (dg (x * y) 2), .int .i64 (dg (x * y) 3), .int .i64 (dg (x * y) 4), .int .i64 (dg (x * y) 5), .int .i64 (dg (x * y) 6), .int .i64 (dg (x * y) 7)]) ∧ Gb w w' := by
  go_enter Try.func89, Try.ntmps89
  go_wp2
  go_loopw [6] (fun i w' => ∃ m : Nat, m ≤ 8 ∧ i = .int .i64 (m : Int) ∧ Hid (TI w w' x y m)) (fun i _ => (8 - intOf i).toNat)
  case atStart =>
    refine ⟨0, by decide, rfl, ?_⟩
    refine TI.mk ?_ ?_ ?_ ?_ ?_
    · exact ((((Gb.refl w).alloc _ _).alloc _ _).alloc _ _).alloc _ _
    · exact (((H8.new w x 134).alloc _ _).alloc _ _).alloc _ _
    · exact (((H8.new (w.alloc (.cells #[.int .i64 (dg x 0), .int .i64 (dg x 1), .int .i64 (dg x 2), .int .i64 (dg x 3), .int .i64 (dg x 4), .int .i64 (dg x 5), .int .i64 (dg x 6), .int .i64 (dg x 7)] 134)) y 134).alloc _ _).alloc _ _).at _ _ (by simp) rfl
    · exact ((H8.new0 ((w.alloc (.cells #[.int .i64 (dg x 0), .int .i64 (dg x 1), .int .i64 (dg x 2), .int .i64 (dg x 3), .int .i64 (dg x 4), .int .i64 (dg x 5), .int .i64 (dg x 6), .int .i64 (dg x 7)] 134)).alloc (.cells #[.int .i64 (dg y 0), .int .i64 (dg y 1), .int .i64 (dg y 2), .int .i64 (dg y 3), .int .i64 (dg y 4), .int .i64 (dg y 5), .int .i64 (dg y 6), .int .i64 (dg y 7)] 134)) 134).alloc _ _).at _ _ (by simp) rfl
    · exact (H8.new0 (((w.alloc (.cells #[.int .i64 (dg x 0), .int .i64 (dg x 1), .int .i64 (dg x 2), .int .i64 (dg x 3), .int .i64 (dg x 4), .int .i64 (dg x 5), .int .i64 (dg x 6), .int .i64 (dg x 7)] 134)).alloc (.cells #[.int .i64 (dg y 0), .int .i64 (dg y 1), .int .i64 (dg y 2), .int .i64 (dg y 3), .int .i64 (dg y 4), .int .i64 (dg y 5), .int .i64 (dg y 6), .int .i64 (dg y 7)] 134)).alloc (.cells #[.int .i64 0, .int .i64 0, .int .i64 0, .int .i64 0, .int .i64 0, .int .i64 0, .int .i64 0, .int .i64 0] 134)) 134).at _ _ (by simp) (by simp)
  case round =>
    obtain ⟨m, hm, rfl, hT⟩ := hrel
    rename_i wr _
    by_cases h8 : m = 8
    · subst h8
      have o0 := (hT.qo.c 0 (by decide)).trans (by rw [dg_prod x y 0 (by decide)])
      have r0 := hT.qr.c 0 (by decide)
      have o1 := (hT.qo.c 1 (by decide)).trans (by rw [dg_prod x y 1 (by decide)])
      have r1 := hT.qr.c 1 (by decide)
      have o2 := (hT.qo.c 2 (by decide)).trans (by rw [dg_prod x y 2 (by decide)])
      have r2 := hT.qr.c 2 (by decide)
      have o3 := (hT.qo.c 3 (by decide)).trans (by rw [dg_prod x y 3 (by decide)])
      have r3 := hT.qr.c 3 (by decide)
      have o4 := (hT.qo.c 4 (by decide)).trans (by rw [dg_prod x y 4 (by decide)])
      have r4 := hT.qr.c 4 (by decide)
      have o5 := (hT.qo.c 5 (by decide)).trans (by rw [dg_prod x y 5 (by decide)])
      have r5 := hT.qr.c 5 (by decide)
      have o6 := (hT.qo.c 6 (by decide)).trans (by rw [dg_prod x y 6 (by decide)])
      have r6 := hT.qr.c 6 (by decide)
      have o7 := (hT.qo.c 7 (by decide)).trans (by rw [dg_prod x y 7 (by decide)])
      have r7 := hT.qr.c 7 (by decide)
      have fz := hT.gb.frozen
      have fr : ∀ k, wr.frozen? ⟨w.heap.size + 1 + 1, k, none⟩ = false := fun k => (fz _).trans (frozen?_new w _ k (by omega))
      have G := hT.gb
      clear fz hT
      go_wp2
      refine bodyPost_ret (v := .agg #[.int .i64 (dg (x * y) 0), .int .i64 (dg (x * y) 1), .int .i64 (dg (x * y) 2), .int .i64 (dg (x * y) 3), .int .i64 (dg (x * y) 4), .int .i64 (dg (x * y) 5), .int .i64 (dg (x * y) 6), .int .i64 (dg (x * y) 7)]) (by simp [results, Try.results89, go_sem, *]) rfl ⟨rfl, ?_⟩
      exact G.set8 (by omega) _ _ _ _ _ _ _ _
    · rcases lt8 m (by omega) with rfl | rfl | rfl | rfl | rfl | rfl | rfl | rfl
      · have hx := hT.qx.c 0 (by decide)
        obtain ⟨a0, a1⟩ := dg_bd x 0
        have eA : Hid (x % 65536 ^ 0 * y + dg x 0 * y * 65536 ^ 0 = x % 65536 ^ (0 + 1) * y) := acc_next x y 0
        obtain ⟨a, ha⟩ : ∃ a, Hid (dg x 0 = a) := ⟨_, rfl⟩
        rw [ha.out] at hx a0 a1 eA
        obtain ⟨o, ho⟩ : ∃ o : Int, Hid (x % 65536 ^ 0 * y = o) := ⟨x % 65536 ^ 0 * y, Eq.refl (x % 65536 ^ 0 * y)⟩
        have qo := hT.qo
        rw [ho.out] at qo eA
        clear ho ha
        have y0 := hT.qy.c 0 (by decide)
        obtain ⟨p0, q0⟩ := mul_bd a (dg y 0) a0 a1 (dg_bd y 0).1 (dg_bd y 0).2
        have e0 := mc_digit a y 0
        have f0 := mc_next a y 0
        rw [mc_zero, Int.add_zero] at e0 f0
        have y1 := hT.qy.c 1 (by decide)
        obtain ⟨p1, q1⟩ := mul_bd a (dg y 1) a0 a1 (dg_bd y 1).1 (dg_bd y 1).2
        obtain ⟨c1, d1⟩ := mc_bd a y 1 a0 a1
        have e1 := mc_digit a y 1
        have f1 := mc_next a y 1
        have y2 := hT.qy.c 2 (by decide)
        obtain ⟨p2, q2⟩ := mul_bd a (dg y 2) a0 a1 (dg_bd y 2).1 (dg_bd y 2).2
        obtain ⟨c2, d2⟩ := mc_bd a y 2 a0 a1
        have e2 := mc_digit a y 2
        have f2 := mc_next a y 2
        have y3 := hT.qy.c 3 (by decide)
        obtain ⟨p3, q3⟩ := mul_bd a (dg y 3) a0 a1 (dg_bd y 3).1 (dg_bd y 3).2
        obtain ⟨c3, d3⟩ := mc_bd a y 3 a0 a1
        have e3 := mc_digit a y 3
        have f3 := mc_next a y 3
        have y4 := hT.qy.c 4 (by decide)
        obtain ⟨p4, q4⟩ := mul_bd a (dg y 4) a0 a1 (dg_bd y 4).1 (dg_bd y 4).2
        obtain ⟨c4, d4⟩ := mc_bd a y 4 a0 a1
        have e4 := mc_digit a y 4
        have f4 := mc_next a y 4
        have y5 := hT.qy.c 5 (by decide)
        obtain ⟨p5, q5⟩ := mul_bd a (dg y 5) a0 a1 (dg_bd y 5).1 (dg_bd y 5).2
        obtain ⟨c5, d5⟩ := mc_bd a y 5 a0 a1
        have e5 := mc_digit a y 5
        have f5 := mc_next a y 5
        have y6 := hT.qy.c 6 (by decide)
        obtain ⟨p6, q6⟩ := mul_bd a (dg y 6) a0 a1 (dg_bd y 6).1 (dg_bd y 6).2
        obtain ⟨c6, d6⟩ := mc_bd a y 6 a0 a1
        have e6 := mc_digit a y 6
        have f6 := mc_next a y 6
        have y7 := hT.qy.c 7 (by decide)
        obtain ⟨p7, q7⟩ := mul_bd a (dg y 7) a0 a1 (dg_bd y 7).1 (dg_bd y 7).2
        obtain ⟨c7, d7⟩ := mc_bd a y 7 a0 a1
        have e7 := mc_digit a y 7
        have f7 := mc_next a y 7
        simp only [Nat.zero_add, Nat.reduceAdd] at f0 f1 f2 f3 f4 f5 f6 f7
        have o0 := qo.c 0 (by decide)
        have o1 := qo.c 1 (by decide)
        have o2 := qo.c 2 (by decide)
        have o3 := qo.c 3 (by decide)
        have o4 := qo.c 4 (by decide)
        have o5 := qo.c 5 (by decide)
        have o6 := qo.c 6 (by decide)
        have o7 := qo.c 7 (by decide)
        have hn1 := hT.qo.lt
        have hn2 := hT.qx.lt
        have hn3 := hT.qy.lt
        have hn4 := hT.qr.lt
        have fz := hT.gb.frozen
        have fo : ∀ k, wr.frozen? ⟨w.heap.size + 1 + 1 + 1, k, none⟩ = false := fun k => (fz _).trans (frozen?_new w _ k (by omega))
        clear fz
        go_wp2
        refine wp_loop_rounds 9 ?_
        rw [rounds_succ]
        go_wp2
        go_quiet (fail)
        go_wp2
        rw [rounds_succ]
        go_wp2
        go_quiet (fail)
        go_wp2
        rw [rounds_succ]
        go_wp2
        go_quiet (fail)
        go_wp2
        rw [rounds_succ]
        go_wp2
        go_quiet (fail)
        go_wp2
        rw [rounds_succ]
        go_wp2
        go_quiet (fail)
        go_wp2
        rw [rounds_succ]
        go_wp2
        go_quiet (fail)
        go_wp2
        rw [rounds_succ]
        go_wp2
        go_quiet (fail)
        go_wp2
        rw [rounds_succ]
        go_wp2
        go_quiet (fail)
        go_wp2
        rw [rounds_succ]
        go_wp2_with fail
        refine (plus_row0 o a y _ eA.out _).mono ?_
        rintro e w1 ⟨rfl, g1⟩
        obtain ⟨k1, f1, _⟩ := g1.facts
        have Gc : Hid (Gb wr w1) := (((Gb.refl wr).alloc _ _).drewN _).trans g1.gb
        have s1 := Gb.size Gc.out
        generalize hz : x % 65536 ^ (0 + 1) * y = z at *
        go_wp2
        go_roundw
        case rel =>
          refine ⟨0 + 1, by decide, by simp, TI.mk ((hT.gb.trans Gc.out).set8 (by omega) _ _ _ _ _ _ _ _) ((hT.qx.gb Gc.out).far8 (by omega) _ _ _ _ _ _ _ _) ((hT.qy.gb Gc.out).far8 (by omega) _ _ _ _ _ _ _ _) ((hT.qr.gb Gc.out).far8 (by omega) _ _ _ _ _ _ _ _) (((qo.gb Gc.out).set (z := z)).at _ _ rfl hz.symm)⟩
        case measure => simp [intOf]
      · have hx := hT.qx.c 1 (by decide)
        obtain ⟨a0, a1⟩ := dg_bd x 1
        have eA : Hid (x % 65536 ^ 1 * y + dg x 1 * y * 65536 ^ 1 = x % 65536 ^ (1 + 1) * y) := acc_next x y 1
        obtain ⟨a, ha⟩ : ∃ a, Hid (dg x 1 = a) := ⟨_, rfl⟩
        rw [ha.out] at hx a0 a1 eA
        obtain ⟨o, ho⟩ : ∃ o : Int, Hid (x % 65536 ^ 1 * y = o) := ⟨x % 65536 ^ 1 * y, Eq.refl (x % 65536 ^ 1 * y)⟩
        have qo := hT.qo
        rw [ho.out] at qo eA
        clear ho ha
        have y0 := hT.qy.c 0 (by decide)
        obtain ⟨p0, q0⟩ := mul_bd a (dg y 0) a0 a1 (dg_bd y 0).1 (dg_bd y 0).2
        have e0 := mc_digit a y 0
        have f0 := mc_next a y 0
        rw [mc_zero, Int.add_zero] at e0 f0
        have y1 := hT.qy.c 1 (by decide)
        obtain ⟨p1, q1⟩ := mul_bd a (dg y 1) a0 a1 (dg_bd y 1).1 (dg_bd y 1).2
        obtain ⟨c1, d1⟩ := mc_bd a y 1 a0 a1
        have e1 := mc_digit a y 1
        have f1 := mc_next a y 1
        have y2 := hT.qy.c 2 (by decide)
        obtain ⟨p2, q2⟩ := mul_bd a (dg y 2) a0 a1 (dg_bd y 2).1 (dg_bd y 2).2
        obtain ⟨c2, d2⟩ := mc_bd a y 2 a0 a1
        have e2 := mc_digit a y 2
        have f2 := mc_next a y 2
        have y3 := hT.qy.c 3 (by decide)
        obtain ⟨p3, q3⟩ := mul_bd a (dg y 3) a0 a1 (dg_bd y 3).1 (dg_bd y 3).2
        obtain ⟨c3, d3⟩ := mc_bd a y 3 a0 a1
        have e3 := mc_digit a y 3
        have f3 := mc_next a y 3
        have y4 := hT.qy.c 4 (by decide)
        obtain ⟨p4, q4⟩ := mul_bd a (dg y 4) a0 a1 (dg_bd y 4).1 (dg_bd y 4).2
        obtain ⟨c4, d4⟩ := mc_bd a y 4 a0 a1
        have e4 := mc_digit a y 4
        have f4 := mc_next a y 4
        have y5 := hT.qy.c 5 (by decide)
        obtain ⟨p5, q5⟩ := mul_bd a (dg y 5) a0 a1 (dg_bd y 5).1 (dg_bd y 5).2
        obtain ⟨c5, d5⟩ := mc_bd a y 5 a0 a1
        have e5 := mc_digit a y 5
        have f5 := mc_next a y 5
        have y6 := hT.qy.c 6 (by decide)
        obtain ⟨p6, q6⟩ := mul_bd a (dg y 6) a0 a1 (dg_bd y 6).1 (dg_bd y 6).2
        obtain ⟨c6, d6⟩ := mc_bd a y 6 a0 a1
        have e6 := mc_digit a y 6
        have f6 := mc_next a y 6
        simp only [Nat.zero_add, Nat.reduceAdd] at f0 f1 f2 f3 f4 f5 f6
        have o0 := qo.c 0 (by decide)
        have o1 := qo.c 1 (by decide)
        have o2 := qo.c 2 (by decide)
        have o3 := qo.c 3 (by decide)
        have o4 := qo.c 4 (by decide)
        have o5 := qo.c 5 (by decide)
        have o6 := qo.c 6 (by decide)
        have o7 := qo.c 7 (by decide)
        have hn1 := hT.qo.lt
        have hn2 := hT.qx.lt
        have hn3 := hT.qy.lt
        have hn4 := hT.qr.lt
        have fz := hT.gb.frozen
        have fo : ∀ k, wr.frozen? ⟨w.heap.size + 1 + 1 + 1, k, none⟩ = false := fun k => (fz _).trans (frozen?_new w _ k (by omega))
        clear fz
        go_wp2
        refine wp_loop_rounds 8 ?_
        rw [rounds_succ]
        go_wp2
        go_quiet (fail)
        go_wp2
        rw [rounds_succ]
        go_wp2
        go_quiet (fail)
        go_wp2
        rw [rounds_succ]
        go_wp2
        go_quiet (fail)
        go_wp2
        rw [rounds_succ]
        go_wp2
        go_quiet (fail)
        go_wp2
        rw [rounds_succ]
        go_wp2
        go_quiet (fail)
        go_wp2
        rw [rounds_succ]
        go_wp2
        go_quiet (fail)
        go_wp2
        rw [rounds_succ]
        go_wp2
        go_quiet (fail)
        go_wp2
        rw [rounds_succ]
        go_wp2_with fail
        refine (plus_row1 o a y _ eA.out _).mono ?_
        rintro e w1 ⟨rfl, g1⟩
        obtain ⟨k1, f1, _⟩ := g1.facts
        have Gc : Hid (Gb wr w1) := (((Gb.refl wr).alloc _ _).drewN _).trans g1.gb
        have s1 := Gb.size Gc.out
        generalize hz : x % 65536 ^ (1 + 1) * y = z at *
        go_wp2
        go_roundw
        case rel =>
          refine ⟨1 + 1, by decide, by simp, TI.mk ((hT.gb.trans Gc.out).set8 (by omega) _ _ _ _ _ _ _ _) ((hT.qx.gb Gc.out).far8 (by omega) _ _ _ _ _ _ _ _) ((hT.qy.gb Gc.out).far8 (by omega) _ _ _ _ _ _ _ _) ((hT.qr.gb Gc.out).far8 (by omega) _ _ _ _ _ _ _ _) (((qo.gb Gc.out).set (z := z)).at _ _ rfl hz.symm)⟩
        case measure => simp [intOf]
      · have hx := hT.qx.c 2 (by decide)
        obtain ⟨a0, a1⟩ := dg_bd x 2
        have eA : Hid (x % 65536 ^ 2 * y + dg x 2 * y * 65536 ^ 2 = x % 65536 ^ (2 + 1) * y) := acc_next x y 2
        obtain ⟨a, ha⟩ : ∃ a, Hid (dg x 2 = a) := ⟨_, rfl⟩
        rw [ha.out] at hx a0 a1 eA
        obtain ⟨o, ho⟩ : ∃ o : Int, Hid (x % 65536 ^ 2 * y = o) := ⟨x % 65536 ^ 2 * y, Eq.refl (x % 65536 ^ 2 * y)⟩
        have qo := hT.qo
        rw [ho.out] at qo eA
        clear ho ha
        have y0 := hT.qy.c 0 (by decide)
        obtain ⟨p0, q0⟩ := mul_bd a (dg y 0) a0 a1 (dg_bd y 0).1 (dg_bd y 0).2
        have e0 := mc_digit a y 0
        have f0 := mc_next a y 0
        rw [mc_zero, Int.add_zero] at e0 f0
        have y1 := hT.qy.c 1 (by decide)
        obtain ⟨p1, q1⟩ := mul_bd a (dg y 1) a0 a1 (dg_bd y 1).1 (dg_bd y 1).2
        obtain ⟨c1, d1⟩ := mc_bd a y 1 a0 a1
        have e1 := mc_digit a y 1
        have f1 := mc_next a y 1
        have y2 := hT.qy.c 2 (by decide)
        obtain ⟨p2, q2⟩ := mul_bd a (dg y 2) a0 a1 (dg_bd y 2).1 (dg_bd y 2).2
        obtain ⟨c2, d2⟩ := mc_bd a y 2 a0 a1
        have e2 := mc_digit a y 2
        have f2 := mc_next a y 2
        have y3 := hT.qy.c 3 (by decide)
        obtain ⟨p3, q3⟩ := mul_bd a (dg y 3) a0 a1 (dg_bd y 3).1 (dg_bd y 3).2
        obtain ⟨c3, d3⟩ := mc_bd a y 3 a0 a1
        have e3 := mc_digit a y 3
        have f3 := mc_next a y 3
        have y4 := hT.qy.c 4 (by decide)
        obtain ⟨p4, q4⟩ := mul_bd a (dg y 4) a0 a1 (dg_bd y 4).1 (dg_bd y 4).2
        obtain ⟨c4, d4⟩ := mc_bd a y 4 a0 a1
        have e4 := mc_digit a y 4
        have f4 := mc_next a y 4
        have y5 := hT.qy.c 5 (by decide)
        obtain ⟨p5, q5⟩ := mul_bd a (dg y 5) a0 a1 (dg_bd y 5).1 (dg_bd y 5).2
        obtain ⟨c5, d5⟩ := mc_bd a y 5 a0 a1
        have e5 := mc_digit a y 5
        have f5 := mc_next a y 5
        simp only [Nat.zero_add, Nat.reduceAdd] at f0 f1 f2 f3 f4 f5
        have o0 := qo.c 0 (by decide)
        have o1 := qo.c 1 (by decide)
        have o2 := qo.c 2 (by decide)
        have o3 := qo.c 3 (by decide)
        have o4 := qo.c 4 (by decide)
        have o5 := qo.c 5 (by decide)
        have o6 := qo.c 6 (by decide)
        have o7 := qo.c 7 (by decide)
        have hn1 := hT.qo.lt
        have hn2 := hT.qx.lt
        have hn3 := hT.qy.lt
        have hn4 := hT.qr.lt
        have fz := hT.gb.frozen
        have fo : ∀ k, wr.frozen? ⟨w.heap.size + 1 + 1 + 1, k, none⟩ = false := fun k => (fz _).trans (frozen?_new w _ k (by omega))
        clear fz
        go_wp2
        refine wp_loop_rounds 7 ?_
        rw [rounds_succ]
        go_wp2
        go_quiet (fail)
        go_wp2
        rw [rounds_succ]
        go_wp2
        go_quiet (fail)
        go_wp2
        rw [rounds_succ]
        go_wp2
        go_quiet (fail)
        go_wp2
        rw [rounds_succ]
        go_wp2
        go_quiet (fail)
        go_wp2
        rw [rounds_succ]
        go_wp2
        go_quiet (fail)
        go_wp2
        rw [rounds_succ]
        go_wp2
        go_quiet (fail)
        go_wp2
        rw [rounds_succ]
        go_wp2_with fail
        refine (plus_row2 o a y _ eA.out _).mono ?_
        rintro e w1 ⟨rfl, g1⟩
        obtain ⟨k1, f1, _⟩ := g1.facts
        have Gc : Hid (Gb wr w1) := (((Gb.refl wr).alloc _ _).drewN _).trans g1.gb
        have s1 := Gb.size Gc.out
        generalize hz : x % 65536 ^ (2 + 1) * y = z at *
        go_wp2
        go_roundw
        case rel =>
          refine ⟨2 + 1, by decide, by simp, TI.mk ((hT.gb.trans Gc.out).set8 (by omega) _ _ _ _ _ _ _ _) ((hT.qx.gb Gc.out).far8 (by omega) _ _ _ _ _ _ _ _) ((hT.qy.gb Gc.out).far8 (by omega) _ _ _ _ _ _ _ _) ((hT.qr.gb Gc.out).far8 (by omega) _ _ _ _ _ _ _ _) (((qo.gb Gc.out).set (z := z)).at _ _ rfl hz.symm)⟩
        case measure => simp [intOf]
      · have hx := hT.qx.c 3 (by decide)
        obtain ⟨a0, a1⟩ := dg_bd x 3
        have eA : Hid (x % 65536 ^ 3 * y + dg x 3 * y * 65536 ^ 3 = x % 65536 ^ (3 + 1) * y) := acc_next x y 3
        obtain ⟨a, ha⟩ : ∃ a, Hid (dg x 3 = a) := ⟨_, rfl⟩
        rw [ha.out] at hx a0 a1 eA
        obtain ⟨o, ho⟩ : ∃ o : Int, Hid (x % 65536 ^ 3 * y = o) := ⟨x % 65536 ^ 3 * y, Eq.refl (x % 65536 ^ 3 * y)⟩
        have qo := hT.qo
        rw [ho.out] at qo eA
        clear ho ha
        have y0 := hT.qy.c 0 (by decide)
        obtain ⟨p0, q0⟩ := mul_bd a (dg y 0) a0 a1 (dg_bd y 0).1 (dg_bd y 0).2
        have e0 := mc_digit a y 0
        have f0 := mc_next a y 0
        rw [mc_zero, Int.add_zero] at e0 f0
        have y1 := hT.qy.c 1 (by decide)
        obtain ⟨p1, q1⟩ := mul_bd a (dg y 1) a0 a1 (dg_bd y 1).1 (dg_bd y 1).2
        obtain ⟨c1, d1⟩ := mc_bd a y 1 a0 a1
        have e1 := mc_digit a y 1
        have f1 := mc_next a y 1
        have y2 := hT.qy.c 2 (by decide)
        obtain ⟨p2, q2⟩ := mul_bd a (dg y 2) a0 a1 (dg_bd y 2).1 (dg_bd y 2).2
        obtain ⟨c2, d2⟩ := mc_bd a y 2 a0 a1
        have e2 := mc_digit a y 2
        have f2 := mc_next a y 2
        have y3 := hT.qy.c 3 (by decide)
        obtain ⟨p3, q3⟩ := mul_bd a (dg y 3) a0 a1 (dg_bd y 3).1 (dg_bd y 3).2
        obtain ⟨c3, d3⟩ := mc_bd a y 3 a0 a1
        have e3 := mc_digit a y 3
        have f3 := mc_next a y 3
        have y4 := hT.qy.c 4 (by decide)
        obtain ⟨p4, q4⟩ := mul_bd a (dg y 4) a0 a1 (dg_bd y 4).1 (dg_bd y 4).2
        obtain ⟨c4, d4⟩ := mc_bd a y 4 a0 a1
        have e4 := mc_digit a y 4
        have f4 := mc_next a y 4
        simp only [Nat.zero_add, Nat.reduceAdd] at f0 f1 f2 f3 f4
        have o0 := qo.c 0 (by decide)
        have o1 := qo.c 1 (by decide)
        have o2 := qo.c 2 (by decide)
        have o3 := qo.c 3 (by decide)
        have o4 := qo.c 4 (by decide)
        have o5 := qo.c 5 (by decide)
        have o6 := qo.c 6 (by decide)
        have o7 := qo.c 7 (by decide)
        have hn1 := hT.qo.lt
        have hn2 := hT.qx.lt
        have hn3 := hT.qy.lt
        have hn4 := hT.qr.lt
        have fz := hT.gb.frozen
        have fo : ∀ k, wr.frozen? ⟨w.heap.size + 1 + 1 + 1, k, none⟩ = false := fun k => (fz _).trans (frozen?_new w _ k (by omega))
        clear fz
        go_wp2
        refine wp_loop_rounds 6 ?_
        rw [rounds_succ]
        go_wp2
        go_quiet (fail)
        go_wp2
        rw [rounds_succ]
        go_wp2
        go_quiet (fail)
        go_wp2
        rw [rounds_succ]
        go_wp2
        go_quiet (fail)
        go_wp2
        rw [rounds_succ]
        go_wp2
        go_quiet (fail)
        go_wp2
        rw [rounds_succ]
        go_wp2
        go_quiet (fail)
        go_wp2
        rw [rounds_succ]
        go_wp2_with fail
        refine (plus_row3 o a y _ eA.out _).mono ?_
        rintro e w1 ⟨rfl, g1⟩
        obtain ⟨k1, f1, _⟩ := g1.facts
        have Gc : Hid (Gb wr w1) := (((Gb.refl wr).alloc _ _).drewN _).trans g1.gb
        have s1 := Gb.size Gc.out
        generalize hz : x % 65536 ^ (3 + 1) * y = z at *
        go_wp2
        go_roundw
        case rel =>
          refine ⟨3 + 1, by decide, by simp, TI.mk ((hT.gb.trans Gc.out).set8 (by omega) _ _ _ _ _ _ _ _) ((hT.qx.gb Gc.out).far8 (by omega) _ _ _ _ _ _ _ _) ((hT.qy.gb Gc.out).far8 (by omega) _ _ _ _ _ _ _ _) ((hT.qr.gb Gc.out).far8 (by omega) _ _ _ _ _ _ _ _) (((qo.gb Gc.out).set (z := z)).at _ _ rfl hz.symm)⟩
        case measure => simp [intOf]
      · have hx := hT.qx.c 4 (by decide)
        obtain ⟨a0, a1⟩ := dg_bd x 4
        have eA : Hid (x % 65536 ^ 4 * y + dg x 4 * y * 65536 ^ 4 = x % 65536 ^ (4 + 1) * y) := acc_next x y 4
        obtain ⟨a, ha⟩ : ∃ a, Hid (dg x 4 = a) := ⟨_, rfl⟩
        rw [ha.out] at hx a0 a1 eA
        obtain ⟨o, ho⟩ : ∃ o : Int, Hid (x % 65536 ^ 4 * y = o) := ⟨x % 65536 ^ 4 * y, Eq.refl (x % 65536 ^ 4 * y)⟩
        have qo := hT.qo
        rw [ho.out] at qo eA
        clear ho ha
        have y0 := hT.qy.c 0 (by decide)
        obtain ⟨p0, q0⟩ := mul_bd a (dg y 0) a0 a1 (dg_bd y 0).1 (dg_bd y 0).2
        have e0 := mc_digit a y 0
        have f0 := mc_next a y 0
        rw [mc_zero, Int.add_zero] at e0 f0
        have y1 := hT.qy.c 1 (by decide)
        obtain ⟨p1, q1⟩ := mul_bd a (dg y 1) a0 a1 (dg_bd y 1).1 (dg_bd y 1).2
        obtain ⟨c1, d1⟩ := mc_bd a y 1 a0 a1
        have e1 := mc_digit a y 1
        have f1 := mc_next a y 1
        have y2 := hT.qy.c 2 (by decide)
        obtain ⟨p2, q2⟩ := mul_bd a (dg y 2) a0 a1 (dg_bd y 2).1 (dg_bd y 2).2
        obtain ⟨c2, d2⟩ := mc_bd a y 2 a0 a1
        have e2 := mc_digit a y 2
        have f2 := mc_next a y 2
        have y3 := hT.qy.c 3 (by decide)
        obtain ⟨p3, q3⟩ := mul_bd a (dg y 3) a0 a1 (dg_bd y 3).1 (dg_bd y 3).2
        obtain ⟨c3, d3⟩ := mc_bd a y 3 a0 a1
        have e3 := mc_digit a y 3
        have f3 := mc_next a y 3
        simp only [Nat.zero_add, Nat.reduceAdd] at f0 f1 f2 f3
        have o0 := qo.c 0 (by decide)
        have o1 := qo.c 1 (by decide)
        have o2 := qo.c 2 (by decide)
        have o3 := qo.c 3 (by decide)
        have o4 := qo.c 4 (by decide)
        have o5 := qo.c 5 (by decide)
        have o6 := qo.c 6 (by decide)
        have o7 := qo.c 7 (by decide)
        have hn1 := hT.qo.lt
        have hn2 := hT.qx.lt
        have hn3 := hT.qy.lt
        have hn4 := hT.qr.lt
        have fz := hT.gb.frozen
        have fo : ∀ k, wr.frozen? ⟨w.heap.size + 1 + 1 + 1, k, none⟩ = false := fun k => (fz _).trans (frozen?_new w _ k (by omega))
        clear fz
        go_wp2
        refine wp_loop_rounds 5 ?_
        rw [rounds_succ]
        go_wp2
        go_quiet (fail)
        go_wp2
        rw [rounds_succ]
        go_wp2
        go_quiet (fail)
        go_wp2
        rw [rounds_succ]
        go_wp2
        go_quiet (fail)
        go_wp2
        rw [rounds_succ]
        go_wp2
        go_quiet (fail)
        go_wp2
        rw [rounds_succ]
        go_wp2_with fail
        refine (plus_row4 o a y _ eA.out _).mono ?_
        rintro e w1 ⟨rfl, g1⟩
        obtain ⟨k1, f1, _⟩ := g1.facts
        have Gc : Hid (Gb wr w1) := (((Gb.refl wr).alloc _ _).drewN _).trans g1.gb
        have s1 := Gb.size Gc.out
        generalize hz : x % 65536 ^ (4 + 1) * y = z at *
        go_wp2
        go_roundw
        case rel =>
          refine ⟨4 + 1, by decide, by simp, TI.mk ((hT.gb.trans Gc.out).set8 (by omega) _ _ _ _ _ _ _ _) ((hT.qx.gb Gc.out).far8 (by omega) _ _ _ _ _ _ _ _) ((hT.qy.gb Gc.out).far8 (by omega) _ _ _ _ _ _ _ _) ((hT.qr.gb Gc.out).far8 (by omega) _ _ _ _ _ _ _ _) (((qo.gb Gc.out).set (z := z)).at _ _ rfl hz.symm)⟩
        case measure => simp [intOf]
      · have hx := hT.qx.c 5 (by decide)
        obtain ⟨a0, a1⟩ := dg_bd x 5
        have eA : Hid (x % 65536 ^ 5 * y + dg x 5 * y * 65536 ^ 5 = x % 65536 ^ (5 + 1) * y) := acc_next x y 5
        obtain ⟨a, ha⟩ : ∃ a, Hid (dg x 5 = a) := ⟨_, rfl⟩
        rw [ha.out] at hx a0 a1 eA
        obtain ⟨o, ho⟩ : ∃ o : Int, Hid (x % 65536 ^ 5 * y = o) := ⟨x % 65536 ^ 5 * y, Eq.refl (x % 65536 ^ 5 * y)⟩
        have qo := hT.qo
        rw [ho.out] at qo eA
        clear ho ha
        have y0 := hT.qy.c 0 (by decide)
        obtain ⟨p0, q0⟩ := mul_bd a (dg y 0) a0 a1 (dg_bd y 0).1 (dg_bd y 0).2
        have e0 := mc_digit a y 0
        have f0 := mc_next a y 0
        rw [mc_zero, Int.add_zero] at e0 f0
        have y1 := hT.qy.c 1 (by decide)
        obtain ⟨p1, q1⟩ := mul_bd a (dg y 1) a0 a1 (dg_bd y 1).1 (dg_bd y 1).2
        obtain ⟨c1, d1⟩ := mc_bd a y 1 a0 a1
        have e1 := mc_digit a y 1
        have f1 := mc_next a y 1
        have y2 := hT.qy.c 2 (by decide)
        obtain ⟨p2, q2⟩ := mul_bd a (dg y 2) a0 a1 (dg_bd y 2).1 (dg_bd y 2).2
        obtain ⟨c2, d2⟩ := mc_bd a y 2 a0 a1
        have e2 := mc_digit a y 2
        have f2 := mc_next a y 2
        simp only [Nat.zero_add, Nat.reduceAdd] at f0 f1 f2
        have o0 := qo.c 0 (by decide)
        have o1 := qo.c 1 (by decide)
        have o2 := qo.c 2 (by decide)
        have o3 := qo.c 3 (by decide)
        have o4 := qo.c 4 (by decide)
        have o5 := qo.c 5 (by decide)
        have o6 := qo.c 6 (by decide)
        have o7 := qo.c 7 (by decide)
        have hn1 := hT.qo.lt
        have hn2 := hT.qx.lt
        have hn3 := hT.qy.lt
        have hn4 := hT.qr.lt
        have fz := hT.gb.frozen
        have fo : ∀ k, wr.frozen? ⟨w.heap.size + 1 + 1 + 1, k, none⟩ = false := fun k => (fz _).trans (frozen?_new w _ k (by omega))
        clear fz
        go_wp2
        refine wp_loop_rounds 4 ?_
        rw [rounds_succ]
        go_wp2
        go_quiet (fail)
        go_wp2
        rw [rounds_succ]
        go_wp2
        go_quiet (fail)
        go_wp2
        rw [rounds_succ]
        go_wp2
        go_quiet (fail)
        go_wp2
        rw [rounds_succ]
        go_wp2_with fail
        refine (plus_row5 o a y _ eA.out _).mono ?_
        rintro e w1 ⟨rfl, g1⟩
        obtain ⟨k1, f1, _⟩ := g1.facts
        have Gc : Hid (Gb wr w1) := (((Gb.refl wr).alloc _ _).drewN _).trans g1.gb
        have s1 := Gb.size Gc.out
        generalize hz : x % 65536 ^ (5 + 1) * y = z at *
        go_wp2
        go_roundw
        case rel =>
          refine ⟨5 + 1, by decide, by simp, TI.mk ((hT.gb.trans Gc.out).set8 (by omega) _ _ _ _ _ _ _ _) ((hT.qx.gb Gc.out).far8 (by omega) _ _ _ _ _ _ _ _) ((hT.qy.gb Gc.out).far8 (by omega) _ _ _ _ _ _ _ _) ((hT.qr.gb Gc.out).far8 (by omega) _ _ _ _ _ _ _ _) (((qo.gb Gc.out).set (z := z)).at _ _ rfl hz.symm)⟩
        case measure => simp [intOf]
      · have hx := hT.qx.c 6 (by decide)
        obtain ⟨a0, a1⟩ := dg_bd x 6
        have eA : Hid (x % 65536 ^ 6 * y + dg x 6 * y * 65536 ^ 6 = x % 65536 ^ (6 + 1) * y) := acc_next x y 6
        obtain ⟨a, ha⟩ : ∃ a, Hid (dg x 6 = a) := ⟨_, rfl⟩
        rw [ha.out] at hx a0 a1 eA
        obtain ⟨o, ho⟩ : ∃ o : Int, Hid (x % 65536 ^ 6 * y = o) := ⟨x % 65536 ^ 6 * y, Eq.refl (x % 65536 ^ 6 * y)⟩
        have qo := hT.qo
        rw [ho.out] at qo eA
        clear ho ha
        have y0 := hT.qy.c 0 (by decide)
        obtain ⟨p0, q0⟩ := mul_bd a (dg y 0) a0 a1 (dg_bd y 0).1 (dg_bd y 0).2
        have e0 := mc_digit a y 0
        have f0 := mc_next a y 0
        rw [mc_zero, Int.add_zero] at e0 f0
        have y1 := hT.qy.c 1 (by decide)
        obtain ⟨p1, q1⟩ := mul_bd a (dg y 1) a0 a1 (dg_bd y 1).1 (dg_bd y 1).2
        obtain ⟨c1, d1⟩ := mc_bd a y 1 a0 a1
        have e1 := mc_digit a y 1
        have f1 := mc_next a y 1
        simp only [Nat.zero_add, Nat.reduceAdd] at f0 f1
        have o0 := qo.c 0 (by decide)
        have o1 := qo.c 1 (by decide)
        have o2 := qo.c 2 (by decide)
        have o3 := qo.c 3 (by decide)
        have o4 := qo.c 4 (by decide)
        have o5 := qo.c 5 (by decide)
        have o6 := qo.c 6 (by decide)
        have o7 := qo.c 7 (by decide)
        have hn1 := hT.qo.lt
        have hn2 := hT.qx.lt
        have hn3 := hT.qy.lt
        have hn4 := hT.qr.lt
        have fz := hT.gb.frozen
        have fo : ∀ k, wr.frozen? ⟨w.heap.size + 1 + 1 + 1, k, none⟩ = false := fun k => (fz _).trans (frozen?_new w _ k (by omega))
        clear fz
        go_wp2
        refine wp_loop_rounds 3 ?_
        rw [rounds_succ]
        go_wp2
        go_quiet (fail)
        go_wp2
        rw [rounds_succ]
        go_wp2
        go_quiet (fail)
        go_wp2
        rw [rounds_succ]
        go_wp2_with fail
        refine (plus_row6 o a y _ eA.out _).mono ?_
        rintro e w1 ⟨rfl, g1⟩
        obtain ⟨k1, f1, _⟩ := g1.facts
        have Gc : Hid (Gb wr w1) := (((Gb.refl wr).alloc _ _).drewN _).trans g1.gb
        have s1 := Gb.size Gc.out
        generalize hz : x % 65536 ^ (6 + 1) * y = z at *
        go_wp2
        go_roundw
        case rel =>
          refine ⟨6 + 1, by decide, by simp, TI.mk ((hT.gb.trans Gc.out).set8 (by omega) _ _ _ _ _ _ _ _) ((hT.qx.gb Gc.out).far8 (by omega) _ _ _ _ _ _ _ _) ((hT.qy.gb Gc.out).far8 (by omega) _ _ _ _ _ _ _ _) ((hT.qr.gb Gc.out).far8 (by omega) _ _ _ _ _ _ _ _) (((qo.gb Gc.out).set (z := z)).at _ _ rfl hz.symm)⟩
        case measure => simp [intOf]
      · have hx := hT.qx.c 7 (by decide)
        obtain ⟨a0, a1⟩ := dg_bd x 7
        have eA : Hid (x % 65536 ^ 7 * y + dg x 7 * y * 65536 ^ 7 = x % 65536 ^ (7 + 1) * y) := acc_next x y 7
        obtain ⟨a, ha⟩ : ∃ a, Hid (dg x 7 = a) := ⟨_, rfl⟩
        rw [ha.out] at hx a0 a1 eA
        obtain ⟨o, ho⟩ : ∃ o : Int, Hid (x % 65536 ^ 7 * y = o) := ⟨x % 65536 ^ 7 * y, Eq.refl (x % 65536 ^ 7 * y)⟩
        have qo := hT.qo
        rw [ho.out] at qo eA
        clear ho ha
        have y0 := hT.qy.c 0 (by decide)
        obtain ⟨p0, q0⟩ := mul_bd a (dg y 0) a0 a1 (dg_bd y 0).1 (dg_bd y 0).2
        have e0 := mc_digit a y 0
        have f0 := mc_next a y 0
        rw [mc_zero, Int.add_zero] at e0 f0
        simp only [Nat.zero_add] at f0
        have o0 := qo.c 0 (by decide)
        have o1 := qo.c 1 (by decide)
        have o2 := qo.c 2 (by decide)
        have o3 := qo.c 3 (by decide)
        have o4 := qo.c 4 (by decide)
        have o5 := qo.c 5 (by decide)
        have o6 := qo.c 6 (by decide)
        have o7 := qo.c 7 (by decide)
        have hn1 := hT.qo.lt
        have hn2 := hT.qx.lt
        have hn3 := hT.qy.lt
        have hn4 := hT.qr.lt
        have fz := hT.gb.frozen
        have fo : ∀ k, wr.frozen? ⟨w.heap.size + 1 + 1 + 1, k, none⟩ = false := fun k => (fz _).trans (frozen?_new w _ k (by omega))
        clear fz
        go_wp2
        refine wp_loop_rounds 2 ?_
        rw [rounds_succ]
        go_wp2
        go_quiet (fail)
        go_wp2
        rw [rounds_succ]
        go_wp2_with fail
        refine (plus_row7 o a y _ eA.out _).mono ?_
        rintro e w1 ⟨rfl, g1⟩
        obtain ⟨k1, f1, _⟩ := g1.facts
        have Gc : Hid (Gb wr w1) := (((Gb.refl wr).alloc _ _).drewN _).trans g1.gb
        have s1 := Gb.size Gc.out
        generalize hz : x % 65536 ^ (7 + 1) * y = z at *
        go_wp2
        go_roundw
        case rel =>
          refine ⟨7 + 1, by decide, by simp, TI.mk ((hT.gb.trans Gc.out).set8 (by omega) _ _ _ _ _ _ _ _) ((hT.qx.gb Gc.out).far8 (by omega) _ _ _ _ _ _ _ _) ((hT.qy.gb Gc.out).far8 (by omega) _ _ _ _ _ _ _ _) ((hT.qr.gb Gc.out).far8 (by omega) _ _ _ _ _ _ _ _) (((qo.gb Gc.out).set (z := z)).at _ _ rfl hz.symm)⟩
        case measure => simp [intOf]

end Go.Proofs.Ytapjipinceoaoaa
