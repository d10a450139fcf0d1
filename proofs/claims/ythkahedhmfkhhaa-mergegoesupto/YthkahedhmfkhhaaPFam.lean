/- Lists that are functions. -/
import Derived.Test.YthkahedhmfkhhaaPRng
import Derived.Test.YthkahedhmfkhhaaPTell
namespace Go.Proofs.Ythkahedhmfkhhaa
open Go.RowKit Go.Shelf
set_option linter.unusedVariables false

/-- Lists that are gone through one behind the other. -/
structure Fam {α : Type} (enc : α → Value) (xs : List (List α)) (R Wr : Nat → Prop) (St : Nat → World → Prop) (fv : Nat → Nat × Array Value) : Prop where
  seq : ∀ i (h : i < xs.length), SeqO Fence.wide 2 Try.prog (fv i).1 (fv i).2 (fun x : α => #[enc x]) xs[i] R Wr (St i) (St (i + 1))
  ent : ∀ i, i < xs.length → ∀ args W, (callFunc (fv i).1 args).run Try.prog W = .ok (.enter (fv i).1 args) W
  keep : ∀ i W W', St i W → W.heap.size ≤ W'.heap.size → (∀ q, R q ∨ Wr q → W'.heap[q]? = W.heap[q]?) → St i W'
/-- A row of functions. -/
structure FRow (fv : Nat → Nat × Array Value) (w : World) (ao : Option Addr) (n : Nat) (Wr : Nat → Prop) : Prop where
  cells : 0 < n → ∃ b off, ao = some ⟨b, off, none⟩ ∧ b < w.heap.size ∧ ¬ Wr b ∧ ∀ i, i < n → w.cell? ⟨b, off + i, none⟩ = some (.func (.func (fv i).1) #[] (fv i).2)
theorem SeqO.more {α : Type} {F : Fence} {n : Nat} {P : Program} {g : Nat} {lb : Array Value} {encs : α → Array Value} {xs : List α} {R R' Wr : Nat → Prop} {A A' Z Z' : World → Prop} (h : SeqO F n P g lb encs xs R Wr A Z) (hR : ∀ q, R q → R' q) (hA : ∀ W, A' W → A W) (hZ : ∀ W W', A' W → Z W' → W.heap.size ≤ W'.heap.size → (∀ q, R' q → q < W.heap.size → W'.heap[q]? = W.heap[q]?) → Z' W') (kp : ∀ q, R' q → ¬ Wr q) : SeqO F n P g lb encs xs R' Wr A' Z' := by
  intro l M J Jx W a hRM hJ hJx hY h0
  refine (h l M (fun pre O W1 => J pre O W1 ∧ (∀ q, R' q → W1.heap[q]? = W.heap[q]?) ∧ W.heap.size ≤ W1.heap.size) (fun pre O W1 => Jx pre O W1 ∧ (∀ q, R' q → W1.heap[q]? = W.heap[q]?) ∧ W.heap.size ≤ W1.heap.size) W (hA W a) (fun q hq => hRM q (hq.imp (hR q) id))
    (fun pre O W1 W2 j k => ⟨hJ _ _ _ _ j.1 k, fun q hq => (k.block q (by have := (hRM q (.inl hq)).1; have := j.2.2; omega) (.inl ⟨(hRM q (.inl hq)).1, kp q hq⟩)).trans (j.2.1 q hq), Nat.le_trans j.2.2 k.size⟩)
    (fun pre O W1 W2 j k => ⟨hJx _ _ _ _ j.1 k, fun q hq => (k.block q (by have := (hRM q (.inl hq)).1; have := j.2.2; omega) (.inl ⟨(hRM q (.inl hq)).1, kp q hq⟩)).trans (j.2.1 q hq), Nat.le_trans j.2.2 k.size⟩)
    (fun pre x O W1 j z p => (hY pre x O W1 j.1 z p).mono fun e W' ⟨O', o1, g3, d⟩ => ?_) ⟨h0, fun _ _ => rfl, Nat.le_refl _⟩).mono ?_
  · have kk : ∀ q, R' q → W'.heap[q]? = W.heap[q]? := fun q hq => (g3.block q (by have := (hRM q (.inl hq)).1; have := j.2.2; omega) (fun e => by
      have := hRM q (.inl hq)
      rcases e with ⟨_, y⟩ | ⟨y, _⟩
      · exact this.2 y
      · omega)).trans (j.2.1 q hq)
    refine ⟨O', o1, g3, d.imp (fun q => ⟨q.1, q.2, kk, Nat.le_trans j.2.2 g3.size⟩) (fun q => ⟨q.1, q.2, kk, Nat.le_trans j.2.2 g3.size⟩)⟩
  · rintro e W' ⟨v, z, s, (⟨O, j⟩ | ⟨pre, O, p, j⟩)⟩
    · exact ⟨v, hZ W W' a z s (fun q hq _ => j.2.1 q hq), s, .inl ⟨O, j.1⟩⟩
    · exact ⟨v, hZ W W' a z s (fun q hq _ => j.2.1 q hq), s, .inr ⟨pre, O, p, j.1⟩⟩
theorem info_sle : (Try.prog.info? 24).map (fun i => (i.zero, i.size, i.bytes)) = some (some (.slice none 0 0), 1, 24) := by kernel_rfl
theorem made_se (m : Nat) (z : Int) (hz : z = (m : Int)) (hm : m ≤ 2000000) (w : World) : (Instr.makeSlice 22 (.int .i64 z) (.int .i64 z)).run Try.prog w = .ok (.slice (some ⟨w.heap.size, 0, none⟩) m m) (w.alloc (.cells (madeCells #[.slice none 0 0] m) 24)) := by
  obtain ⟨i, hi, hz', hs, hb⟩ := info_parts info_sle
  subst hz
  exact run_make_row (P := Try.prog) 22 24 i (.slice none 0 0) Try.underlying22 hi hz' hs rfl .i64 .i64 m (by rw [hb]; omega) (by omega) w
theorem info_sli : (Try.prog.info? 52).map (fun i => (i.zero, i.size, i.bytes)) = some (some (.slice none 0 0), 1, 24) := by kernel_rfl
theorem made_si (m : Nat) (z : Int) (hz : z = (m : Int)) (hm : m ≤ 2000000) (w : World) : (Instr.makeSlice 73 (.int .i64 z) (.int .i64 z)).run Try.prog w = .ok (.slice (some ⟨w.heap.size, 0, none⟩) m m) (w.alloc (.cells (madeCells #[.slice none 0 0] m) 52)) := by
  obtain ⟨i, hi, hz', hs, hb⟩ := info_parts info_sli
  subst hz
  exact run_make_row (P := Try.prog) 73 52 i (.slice none 0 0) Try.underlying73 hi hz' hs rfl .i64 .i64 m (by rw [hb]; omega) (by omega) w
theorem info_sls : (Try.prog.info? 44).map (fun i => (i.zero, i.size, i.bytes)) = some (some (.slice none 0 0), 1, 24) := by kernel_rfl
theorem made_ss (m : Nat) (z : Int) (hz : z = (m : Int)) (hm : m ≤ 2000000) (w : World) : (Instr.makeSlice 37 (.int .i64 z) (.int .i64 z)).run Try.prog w = .ok (.slice (some ⟨w.heap.size, 0, none⟩) m m) (w.alloc (.cells (madeCells #[.slice none 0 0] m) 44)) := by
  obtain ⟨i, hi, hz', hs, hb⟩ := info_parts info_sls
  subst hz
  exact run_make_row (P := Try.prog) 37 44 i (.slice none 0 0) Try.underlying37 hi hz' hs rfl .i64 .i64 m (by rw [hb]; omega) (by omega) w
end Go.Proofs.Ythkahedhmfkhhaa
