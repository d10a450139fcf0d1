/- The document's Of of layer 7, over what its Of of layer 5 tells. -/
import Derived.Test.YtdikiaeagcokdabGreatPMd
import Derived.Test.YtdikiaeagcokdabGreatMNear
namespace Go.Proofs.YtdikiaeagcokdabGreat
open Go.RowKit
set_option linter.unusedVariables false


/-- The segment of keys. -/
def SegR (eps fr : Int) (f : Nat → Int) (n : Nat) (k : Int) (s ic : Nat) (F T er : Int) : Prop :=
  (∃ a b c, OfR eps f n a b c er ∧ er ≠ 0 ∧ k = 0 ∧ s = 0 ∧ ic = 0 ∧ F = 0 ∧ T = 0) ∨
  (∃ a b c, OfR eps f n a b c 0 ∧ ¬ (0 ≤ fr ∧ fr + n ≤ 4294967296) ∧ k = 0 ∧ s = 0 ∧ ic = 0 ∧ F = 0 ∧ T = 0 ∧ er = 1) ∨
  (∃ a b c, OfR eps f n a b c 0 ∧ (0 ≤ fr ∧ fr + n ≤ 4294967296) ∧ (a < 18446744073709551616 ∧ b < 18446744073709551616) ∧ Nr (a.toNat * Un) b.toNat s ∧ k = f 0 ∧ ic = floatOfInt .f64 (fr + c) ∧ F = fr ∧ T = fr + n ∧ er = 0)

/-- A block of a segment. -/
def Sb (w : World) (b : Nat) (k : Int) (s ic : Nat) (F T : Int) : Prop := w.heap[b]? = some (.cells #[.int .u64 k, .float .f64 s, .float .f64 ic, .int .i64 F, .int .i64 T] 50 (0, 0))
theorem Sb.lt {w : World} {b : Nat} {k : Int} {s ic : Nat} {F T : Int} (h : Sb w b k s ic F T) : b < w.heap.size := (Array.getElem?_eq_some_iff.1 h).1
theorem Sb.gw {w w' : World} {b : Nat} {k : Int} {s ic : Nat} {F T : Int} (h : Sb w b k s ic F T) (g : Gw w w') : Sb w' b k s ic F T := (g.below.block b h.lt).trans h
theorem Sb.cells {w : World} {b : Nat} {k : Int} {s ic : Nat} {F T : Int} (h : Sb w b k s ic F T) : w.cell? ⟨b, 0, none⟩ = some (.int .u64 k) ∧ w.cell? ⟨b, 1, none⟩ = some (.float .f64 s) ∧ w.cell? ⟨b, 2, none⟩ = some (.float .f64 ic) ∧ w.cell? ⟨b, 3, none⟩ = some (.int .i64 F) ∧ w.cell? ⟨b, 4, none⟩ = some (.int .i64 T) := by
  unfold Sb at h; simp [World.cell?, h]
theorem Sb.fz {w : World} {b : Nat} {k : Int} {s ic : Nat} {F T : Int} (h : Sb w b k s ic F T) (o : Nat) : w.frozen? ⟨b, o, none⟩ = false := by unfold Sb at h; simp [World.frozen?, h]

theorem run_store_float {P : Program} {w : World} {a : Addr} {m : Mode} (k : FloatKind) (n : Nat) : (store a (.float k n) m).run P w = stored P w a (.float k n) m := run_store P w a _ m rfl
attribute [local go_sem] run_store_float

theorem V_ge (b : Nat) : b ≤ V b := by
  induction b with
  | zero => exact Nat.zero_le _
  | succ b ih => have := V_succ b; omega
theorem nr_ex (x y : Nat) (hy : 0 < y) : ∃ b, Nr x y b := by
  obtain ⟨b, h1, h2⟩ : ∃ b, V b * y ≤ x ∧ x < V (b + 1) * y := by
    have : ∀ t, x < V t * y → ∃ b, V b * y ≤ x ∧ x < V (b + 1) * y := by
      intro t
      induction t with
      | zero => intro h; rw [V_zero] at h; omega
      | succ t ih =>
        intro h
        by_cases k : x < V t * y
        · exact ih k
        · exact ⟨t, by omega, h⟩
    refine this (x + 1) ?_
    have a := V_ge (x + 1)
    have b := Nat.mul_le_mul a hy
    rw [Nat.mul_one] at b
    omega
  have s1 : V (b + 1) * y < V (b + 1 + 1) * y := Nat.mul_lt_mul_of_pos_right (V_succ (b + 1)) hy
  have lo : (V (b - 1) + V b) * y ≤ 2 * x ∧ ((V (b - 1) + V b) * y = 2 * x → b % 2 = 0) := by
    by_cases z : b = 0
    · subst z; rw [V_zero] at *; simp
    · have : V (b - 1) * y < V b * y := Nat.mul_lt_mul_of_pos_right (V_lt (by omega)) hy
      rw [Nat.add_mul]
      exact ⟨by omega, fun e => by omega⟩
  by_cases k : 2 * x < (V b + V (b + 1)) * y ∨ (2 * x = (V b + V (b + 1)) * y ∧ b % 2 = 0)
  · exact ⟨b, lo.1, by omega, lo.2, fun e => by omega⟩
  · refine ⟨b + 1, ?_, ?_, ?_, ?_⟩
    · show (V b + V (b + 1)) * y ≤ 2 * x
      omega
    · rw [Nat.add_mul]; omega
    · intro e
      have e' : (V b + V (b + 1)) * y = 2 * x := e
      omega
    · intro e; rw [Nat.add_mul] at e; omega


end Go.Proofs.YtdikiaeagcokdabGreat
