/- JudgeKeeps: a judge, and what the statement gathers beside it. -/
import Derived.Test.YtkojcjfjmlompaaS3My
import Derived.Test.YtkojcjfjmlompaaS3All
namespace Go.Proofs.Ytkojcjfjmlompaa
open Go.RowKit
set_option linter.unusedVariables false
abbrev A6 := Aw × Option Addr × Nat
theorem oc_one (l : List Ot) : ∀ u ∈ l.flatMap oc3, u.oneCell' = true := by
  intro u hu
  obtain ⟨p, _, h⟩ := List.mem_flatMap.1 hu
  simp only [oc3, List.mem_cons, List.not_mem_nil, or_false] at h
  rcases h with rfl | rfl | rfl <;> rfl
theorem ac_one (l : List A6) : ∀ u ∈ l.flatMap ac6, u.oneCell' = true := by
  intro u hu
  obtain ⟨p, _, h⟩ := List.mem_flatMap.1 hu
  simp only [ac6, List.mem_cons, List.not_mem_nil, or_false] at h
  rcases h with rfl | rfl | rfl | rfl | rfl | rfl <;> rfl
theorem info_op : (Try.prog.info? 33).map (fun i => (i.zero, i.size, i.bytes)) = some (some (.agg #[.int .i64 0, .int .u64 0, .int .u64 0]), 3, 24) := by kernel_rfl
theorem info_ans : (Try.prog.info? 36).map (fun i => (i.zero, i.size, i.bytes)) = some (some (.agg #[.int .i64 0, .bool false, .int .u64 0, .int .u64 0, .int .i64 0, .slice none 0 0]), 6, 64) := by kernel_rfl
structure JK (HJ : World → Nat → (Nat → Prop) → Int → Ps → Prop) (w wr : World) (j : Nat) (Sj : Nat → Prop) (most : Int) (l : Ps) (go no co : Nat) (os : List Ot) (ga na ca : Nat) (L6 : List A6) (bw : Option Addr) (lw : Ps) : Prop where
  hj : HJ wr j Sj most l
  lo : ∀ q, Sj q → w.heap.size ≤ q
  lt : ∀ q, Sj q → q < wr.heap.size
  gw : Gw w wr
  ro : RowG 33 3 oc3 wr w.heap.size go no co os
  ra : RowG 36 6 ac6 wr w.heap.size ga na ca L6
  ap : go ≠ ga ∧ ¬ Sj go ∧ ¬ Sj ga
  wl : PLr wr bw lw
  wap : ∀ a, bw = some a → 0 < lw.length → ¬ Sj a.block ∧ a.block ≠ go ∧ a.block ≠ ga
theorem PLr.lt {w : World} {bw : Option Addr} {l : Ps} (h : PLr w bw l) : ∀ a, bw = some a → 0 < l.length → a.block < w.heap.size := fun a e h0 => by
  obtain ⟨b, off, e', hb, _⟩ := h.cells h0
  rw [e] at e'
  cases e'
  exact hb
theorem JK.same {HJ : World → Nat → (Nat → Prop) → Int → Ps → Prop} (C : JudgeC HJ) {w wr w' : World} {j : Nat} {Sj : Nat → Prop} {most : Int} {l : Ps} {go no co : Nat} {os : List Ot} {ga na ca : Nat} {L6 : List A6} {bw : Option Addr} {lw : Ps} (h : JK HJ w wr j Sj most l go no co os ga na ca L6 bw lw) (g : Gw wr w') : ∃ Sj', JK HJ w w' j Sj' most l go no co os ga na ca L6 bw lw ∧ ∀ q, Sj' q → Sj q :=
  ⟨_, ⟨C.keep h.hj (fun q _ hl => g.below.block q hl), fun q a => h.lo q a.1, fun q a => Nat.lt_of_lt_of_le a.2 g.size, h.gw.trans g, h.ro.gw g, h.ra.gw g, ⟨h.ap.1, fun a => h.ap.2.1 a.1, fun a => h.ap.2.2 a.1⟩, h.wl.gw g, fun a e h0 => ⟨fun k => (h.wap a e h0).1 k.1, (h.wap a e h0).2⟩⟩, fun q a => a.1⟩
theorem JK.see {HJ : World → Nat → (Nat → Prop) → Int → Ps → Prop} (C : JudgeC HJ) {w wr w' : World} {j : Nat} {Sj Sj' : Nat → Prop} {most : Int} {l l' : Ps} {go no co : Nat} {os : List Ot} {ga na ca : Nat} {L6 : List A6} {bw : Option Addr} {lw : Ps} (h : JK HJ w wr j Sj most l go no co os ga na ca L6 bw lw) (h1 : HJ w' j Sj' most l') (x : Gx Sj wr w') (s : ∀ q, Sj' q → Sj q ∨ wr.heap.size ≤ q) : ∃ Sj'', JK HJ w w' j Sj'' most l' go no co os ga na ca L6 bw lw := by
  have k := C.keep h1 (w' := w') (fun q _ _ => rfl)
  have zo := h.ro.lt.2
  have za := h.ra.lt.2
  have zg := h.gw.size
  refine ⟨_, k, fun q a => ?_, fun q a => a.2, Gx.gw h.gw x h.lo, h.ro.keep (x.block _ zo h.ap.2.1), h.ra.keep (x.block _ za h.ap.2.2), ⟨h.ap.1, fun a => ?_, fun a => ?_⟩, h.wl.gx x (fun a e h0 => (h.wap a e h0).1), fun a e h0 => ⟨fun b => ?_, (h.wap a e h0).2⟩⟩
  · rcases s q a.1 with b | b
    · exact h.lo q b
    · omega
  · rcases s _ a.1 with b | b
    · exact h.ap.2.1 b
    · omega
  · rcases s _ a.1 with b | b
    · exact h.ap.2.2 b
    · omega
  · rcases s _ b.1 with c | c
    · exact (h.wap a e h0).1 c
    · have := PLr.lt h.wl a e h0; omega
/-- What Pairs gave is what was. -/
theorem JK.now {HJ : World → Nat → (Nat → Prop) → Int → Ps → Prop} (C : JudgeC HJ) {w wr w' : World} {j : Nat} {Sj : Nat → Prop} {most : Int} {l : Ps} {go no co : Nat} {os : List Ot} {ga na ca : Nat} {L6 : List A6} {bw : Option Addr} {lw : Ps} (h : JK HJ w wr j Sj most l go no co os ga na ca L6 bw lw) (g : Gw wr w') {v : Value} (o : w'.ownsRow wr.heap.size 44 2 v l.length (pcs l)) : ∃ Sj' bo c, v = .slice bo l.length c ∧ PLr w' bo l ∧ JK HJ w w' j Sj' most l go no co os ga na ca L6 bw lw ∧ JK HJ w w' j Sj' most l go no co os ga na ca L6 bo l := by
  obtain ⟨Sj', h1, s1⟩ := h.same C g
  obtain ⟨bo, c, rfl, hc, hno, AT⟩ := row_shape o
  refine ⟨Sj', bo, c, rfl, row_ls o, h1, h1.hj, h1.lo, h1.lt, h1.gw, h1.ro, h1.ra, h1.ap, row_ls o, fun a e h0 => ?_⟩
  obtain ⟨g', e', _, ob, _⟩ := AT 0 l[0] (List.getElem?_eq_getElem h0)
  rw [e] at e'
  cases e'
  have k1 := (World.ownsRow.lt o g' ob).1
  have k2 := h.ro.lt.2
  have k3 := h.ra.lt.2
  exact ⟨fun b => by have := h.lt _ (s1 _ b); dsimp only at this; omega, by dsimp only; omega, by dsimp only; omega⟩
/-- An operation more. -/
theorem JK.opA {HJ : World → Nat → (Nat → Prop) → Int → Ps → Prop} (C : JudgeC HJ) {w wr wa w' : World} {j : Nat} {Sj : Nat → Prop} {most : Int} {l : Ps} {go no co go' no' co' : Nat} {os os' : List Ot} {ga na ca : Nat} {L6 : List A6} {bw : Option Addr} {lw : Ps} (h : JK HJ w wr j Sj most l go no co os ga na ca L6 bw lw) (g : Gw wr wa) (r1 : RowG 33 3 oc3 w' w.heap.size go' no' co' os') (r2 : wa.grownBy w' (some go)) (r3 : go' = go ∨ go' = wa.heap.size) : ∃ Sj', JK HJ w w' j Sj' most l go' no' co' os' ga na ca L6 bw lw := by
  obtain ⟨S1, h1, s1⟩ := h.same C g
  have bl : ∀ q, q < wa.heap.size → q ≠ go → w'.heap[q]? = wa.heap[q]? := fun q hq hn => r2.block q hq (fun e => hn (Option.some.inj e))
  have fr : ∀ q, q < wa.heap.size → q ≠ go → q ≠ go' := fun q hq hn e => by rcases r3 with k | k <;> omega
  have zl := h1.ra.lt.2
  refine ⟨_, C.keep h1.hj (fun q hq hl => bl q hl (fun e => h1.ap.2.1 (e ▸ hq))), fun q a => h1.lo q a.1, fun q a => Nat.lt_of_lt_of_le a.2 r2.size, h1.gw.grown r2 (fun k hk => by cases hk; exact h.ro.lt.1), r1, h1.ra.keep (bl _ zl h1.ap.1.symm), ⟨(fr _ zl h1.ap.1.symm).symm, fun a => ?_, fun a => h1.ap.2.2 a.1⟩, h1.wl.keep r2.size (fun a e h0 => bl _ (PLr.lt h1.wl a e h0) (h1.wap a e h0).2.1), fun a e h0 => ⟨fun b => (h1.wap a e h0).1 b.1, fr _ (PLr.lt h1.wl a e h0) (h1.wap a e h0).2.1, (h1.wap a e h0).2.2⟩⟩
  rcases r3 with k | k
  · rw [k] at a; exact h1.ap.2.1 a.1
  · have := a.2; omega
/-- An answer more. -/
theorem JK.ansA {HJ : World → Nat → (Nat → Prop) → Int → Ps → Prop} (C : JudgeC HJ) {w wr wa w' : World} {j : Nat} {Sj : Nat → Prop} {most : Int} {l : Ps} {go no co ga' na' ca' : Nat} {os : List Ot} {ga na ca : Nat} {L6 L6' : List A6} {bw : Option Addr} {lw : Ps} (h : JK HJ w wr j Sj most l go no co os ga na ca L6 bw lw) (g : Gw wr wa) (r1 : RowG 36 6 ac6 w' w.heap.size ga' na' ca' L6') (r2 : wa.grownBy w' (some ga)) (r3 : ga' = ga ∨ ga' = wa.heap.size) : ∃ Sj', JK HJ w w' j Sj' most l go no co os ga' na' ca' L6' bw lw := by
  obtain ⟨S1, h1, s1⟩ := h.same C g
  have bl : ∀ q, q < wa.heap.size → q ≠ ga → w'.heap[q]? = wa.heap[q]? := fun q hq hn => r2.block q hq (fun e => hn (Option.some.inj e))
  have fr : ∀ q, q < wa.heap.size → q ≠ ga → q ≠ ga' := fun q hq hn e => by rcases r3 with k | k <;> omega
  have zl := h1.ro.lt.2
  refine ⟨_, C.keep h1.hj (fun q hq hl => bl q hl (fun e => h1.ap.2.2 (e ▸ hq))), fun q a => h1.lo q a.1, fun q a => Nat.lt_of_lt_of_le a.2 r2.size, h1.gw.grown r2 (fun k hk => by cases hk; exact h.ra.lt.1), h1.ro.keep (bl _ zl h1.ap.1), r1, ⟨fr _ zl h1.ap.1, fun a => h1.ap.2.1 a.1, fun a => ?_⟩, h1.wl.keep r2.size (fun a e h0 => bl _ (PLr.lt h1.wl a e h0) (h1.wap a e h0).2.2), fun a e h0 => ⟨fun b => (h1.wap a e h0).1 b.1, (h1.wap a e h0).2.1, fr _ (PLr.lt h1.wl a e h0) (h1.wap a e h0).2.2⟩⟩
  rcases r3 with k | k
  · rw [k] at a; exact h1.ap.2.2 a.1
  · have := a.2; omega
end Go.Proofs.Ytkojcjfjmlompaa
