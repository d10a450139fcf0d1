/- HullPlays returns true, over whatever keeps what is asked of package hull: the loop. -/
import Derived.Test.YtocahgiabeifeaaHAll
import Derived.Deep.DeepCutAuto
import Derived.Deep.RegionWith
import Derived.Deep.AppendLies
namespace Go.Proofs.Ytocahgiabeifeaa
open Go.RowKit
set_option linter.unusedVariables false

/-- A list of n steps: four cells a step. -/
structure SS (w : World) (ao : Option Addr) (n : Nat) (kd on nn ky : Nat → Int) : Prop where
  cells : 0 < n → ∃ b off, ao = some ⟨b, off, none⟩ ∧ b < w.heap.size ∧ ∀ i, i < n → w.cell? ⟨b, off + i * 4, none⟩ = some (.int .i64 (kd i)) ∧ w.cell? ⟨b, off + i * 4 + 1, none⟩ = some (.int .i64 (on i)) ∧ w.cell? ⟨b, off + i * 4 + 2, none⟩ = some (.int .i64 (nn i)) ∧ w.cell? ⟨b, off + i * 4 + 3, none⟩ = some (.int .u64 (ky i))
  bd : ∀ i, i < n → ((-9223372036854775808 ≤ on i ∧ on i < 9223372036854775808) ∧ (-9223372036854775808 ≤ nn i ∧ nn i < 9223372036854775808)) ∧ (0 ≤ ky i ∧ ky i < 18446744073709551616)
theorem SS.gw {w w' : World} {ao : Option Addr} {n : Nat} {kd on nn ky : Nat → Int} (h : SS w ao n kd on nn ky) (g : Gw w w') : SS w' ao n kd on nn ky :=
  ⟨fun hn => by
    obtain ⟨b, off, e, hb, hc⟩ := h.cells hn
    exact ⟨b, off, e, Nat.lt_of_lt_of_le hb g.size, fun i hi => ⟨(g.cell _ _ hb).trans (hc i hi).1, (g.cell _ _ hb).trans (hc i hi).2.1, (g.cell _ _ hb).trans (hc i hi).2.2.1, (g.cell _ _ hb).trans (hc i hi).2.2.2⟩⟩, h.bd⟩

/-- A variable of four cells. -/
structure B4 (w : World) (b : Nat) (x0 x1 x2 x3 : Value) : Prop where
  lt : b < w.heap.size
  c0 : w.cell? ⟨b, 0, none⟩ = some x0
  c1 : w.cell? ⟨b, 1, none⟩ = some x1
  c2 : w.cell? ⟨b, 2, none⟩ = some x2
  c3 : w.cell? ⟨b, 3, none⟩ = some x3
theorem B4.gw {w w' : World} {b : Nat} {x0 x1 x2 x3 : Value} (h : B4 w b x0 x1 x2 x3) (g : Gw w w') : B4 w' b x0 x1 x2 x3 :=
  ⟨Nat.lt_of_lt_of_le h.lt g.size, (g.cell _ _ h.lt).trans h.c0, (g.cell _ _ h.lt).trans h.c1, (g.cell _ _ h.lt).trans h.c2, (g.cell _ _ h.lt).trans h.c3⟩
theorem B4.gs {S : Nat → Prop} {w w' : World} {b : Nat} {x0 x1 x2 x3 : Value} (h : B4 w b x0 x1 x2 x3) (g : Gs S w w') (n : ¬ S b) : B4 w' b x0 x1 x2 x3 :=
  ⟨Nat.lt_of_lt_of_le h.lt g.size, (World.cell?_of_block (a := ⟨b, 0, none⟩) (g.block b h.lt n)).trans h.c0, (World.cell?_of_block (a := ⟨b, 1, none⟩) (g.block b h.lt n)).trans h.c1, (World.cell?_of_block (a := ⟨b, 2, none⟩) (g.block b h.lt n)).trans h.c2, (World.cell?_of_block (a := ⟨b, 3, none⟩) (g.block b h.lt n)).trans h.c3⟩
theorem B4.new (w : World) (t : TypeId) (x0 x1 x2 x3 : Value) : B4 (w.alloc (.cells #[x0, x1, x2, x3] t)) w.heap.size x0 x1 x2 x3 :=
  ⟨by simp, by simp [go_sem], by simp [go_sem], by simp [go_sem], by simp [go_sem]⟩

theorem Bx.gs2 {w w' : World} {b : Nat} {t : TypeId} {u v : Value} {S : Nat → Prop} (h : Bx w b t u v) (g : Gs S w w') (hs : ¬ S b) : Bx w' b t u v := (g.block b h.lt hs).trans h

/-- What is asked of Clone. -/
def CloneC (HF : World → Nat → (Nat → Prop) → Int → Nat → (Nat → Int) → Prop) : Prop := ∀ {w : World} {p : Nat} {S : Nat → Prop} {e : Int} {n : Nat} {f : Nat → Int}, HF w p S e n f → n ≤ 3001 →
    Calls Try.prog 15 #[.pointer (some ⟨p, 0, none⟩)] w fun ex w' => (∃ p' S', ex = .returned (.pointer (some ⟨p', 0, none⟩)) ∧ (∀ q, S' q → w.heap.size ≤ q) ∧ HF w' p' S' e n f) ∧ Gw w w'

theorem info_pr : (Try.prog.info? 28).map (fun i => (i.zero, i.size, i.bytes)) = some (some (.agg #[.pointer none, .pointer none]), 2, 16) := by kernel_rfl

theorem own_fz {w : World} {base e size n g cap : Nat} {xs : List Value} (h : w.ownsRow base e size (.slice (some ⟨g, 0, none⟩) n cap) n xs) (o : Nat) : w.frozen? ⟨g, o, none⟩ = false := by
  rcases h.2 with ⟨q, _⟩ | ⟨g', cap', cur, ev, _, hh, _⟩
  · cases q
  · cases ev
    simp [World.frozen?, hh]

/-- A pair that was made. -/
theorem pair_made {HF : World → Nat → (Nat → Prop) → Int → Nat → (Nat → Int) → Prop} {w' : World} {pa pb : Nat} {SA : Nat → Prop} {e : Int} (h : HF w' pa SA e 0 (fun _ => 0)) (r : RF w' pb (.slice none 0 0) e 0 (fun _ => 0) 0 1 1 0) (d : ∀ q, SA q → q < pb) : PairOK HF w' pa pb (fun q => SA q ∨ q = pb) := by
  refine ⟨SA, rfp pb (.slice none 0 0), e, 0, _, h, ⟨_, _, _, _, _, r, fun q => Iff.rfl⟩, by omega, fun q => ⟨fun hq => ?_, fun hq => ?_⟩, fun q h1 h2 => ?_⟩
  · rcases hq with hq | hq
    · exact .inl hq
    · exact .inr (.inl hq)
  · rcases hq with hq | hq | hq
    · exact .inl hq
    · exact .inr hq
    · cases hq
  · rcases h2 with h2 | h2
    · have := d q h1; omega
    · cases h2

theorem made_any {HF : World → Nat → (Nat → Prop) → Int → Nat → (Nat → Int) → Prop} (H : HullC HF) (eps : Int) (h1 : 2 ≤ eps) (h2 : eps ≤ 64) (w : World) :
    Calls Try.prog 10 #[.int .i64 eps] w fun ex w' => (∃ pa pb T, ex = .returned (.tuple #[.agg #[.pointer (some ⟨pa, 0, none⟩), .pointer (some ⟨pb, 0, none⟩)], .bool true, .bool true]) ∧ PairOK HF w' pa pb T ∧ ∀ q, T q → w.heap.size ≤ q) ∧ Gw w w' := by
  refine (made_ok H eps h1 h2 w).mono ?_
  rintro ex w' ⟨⟨pa, pb, SA, rfl, hF, hR, hd, hp⟩, g⟩
  exact ⟨⟨pa, pb, _, rfl, pair_made hF hR (fun q hq => (hd q hq).2), fun q hq => by
    rcases hq with hq | hq
    · exact (hd q hq).1
    · omega⟩, g⟩

/-- Whatever the eps. -/
theorem made_all {HF : World → Nat → (Nat → Prop) → Int → Nat → (Nat → Int) → Prop} (H : HullC HF) (eps : Int) (w : World) :
    Calls Try.prog 10 #[.int .i64 eps] w fun ex w' => (∃ (oa ob : Option Addr) (is : Bool), ex = .returned (.tuple #[.agg #[.pointer oa, .pointer ob], .bool is, .bool true]) ∧ (is = true → ∃ pa pb T, oa = some ⟨pa, 0, none⟩ ∧ ob = some ⟨pb, 0, none⟩ ∧ PairOK HF w' pa pb T ∧ ∀ q, T q → w.heap.size ≤ q)) ∧ Gw w w' := by
  by_cases h : 2 ≤ eps ∧ eps ≤ 64
  · refine (made_any H eps h.1 h.2 w).mono ?_
    rintro ex w' ⟨⟨pa, pb, T, rfl, hP, hT⟩, g⟩
    exact ⟨⟨_, _, true, rfl, fun _ => ⟨pa, pb, T, rfl, rfl, hP, hT⟩⟩, g⟩
  · refine (made_bad H eps h w).mono ?_
    rintro ex w' ⟨rfl, g⟩
    exact ⟨⟨none, none, false, rfl, fun q => Bool.noConfusion q⟩, g⟩

theorem ptr_one (a b : Nat) : ∀ u ∈ [Value.pointer (some ⟨a, 0, none⟩), .pointer (some ⟨b, 0, none⟩)], u.oneCell' = true := by
  intro u hu
  rcases List.mem_cons.1 hu with rfl | hu
  · rfl
  · rcases List.mem_cons.1 hu with rfl | hu
    · rfl
    · cases hu
theorem ptr_news (w : World) (a b : Nat) (t : TypeId) : ∀ j u, [Value.pointer (some ⟨a, 0, none⟩), .pointer (some ⟨b, 0, none⟩)][j]? = some u → (w.alloc (.cells #[.pointer (some ⟨a, 0, none⟩), .pointer (some ⟨b, 0, none⟩)] t)).cell? ((⟨w.heap.size, 0, none⟩ : Addr).add j) = some u :=
  World.news_of_block (heap_alloc_new w _)

/-- Both take a key. -/
theorem pair_add {HF : World → Nat → (Nat → Prop) → Int → Nat → (Nat → Int) → Prop} (H : HullC HF) {W1 W2 W3 : World} {pa pb : Nat} {SA SB S2 S3 T : Nat → Prop} {e : Int} {m : Nat} {f f2 : Nat → Int} {m2 : Nat} (hT : ∀ q, T q ↔ SA q ∨ SB q) (dis : ∀ q, SA q → SB q → False) (hb : RFit W1 pb SB e m f) (l : m2 ≤ 400)
    (hF : HF W2 pa S2 e m2 f2) (s2 : ∀ q, S2 q → SA q ∨ W1.heap.size ≤ q) (G2 : Gs SA W1 W2) (hR : RFit W3 pb S3 e m2 f2) (s3 : ∀ q, S3 q → SB q ∨ W2.heap.size ≤ q) (G3 : Gs SB W2 W3) :
    PairOK HF W3 pa pb (fun q => S2 q ∨ S3 q) ∧ (∀ q, (S2 q ∨ S3 q) → T q ∨ W1.heap.size ≤ q) ∧ Gs T W1 W3 := by
  have lb := hb.lt'
  have z2 := G2.size
  have d23 : ∀ q, S2 q → ¬ SB q := by
    intro q hq hs
    rcases s2 q hq with r | r
    · exact dis q r hs
    · have := lb q hs; omega
  refine ⟨⟨S2, S3, e, m2, f2, H.keep hF fun q hq => G3.block q (H.lt hF q hq) (d23 q hq), hR, l, fun q => Iff.rfl, fun q h2 h3 => ?_⟩, fun q hq => ?_, ⟨G3.os.trans G2.os, G3.tape.trans G2.tape, G3.output.trans G2.output, Nat.le_trans G2.size G3.size, fun q hq hs => ?_⟩⟩
  · rcases s3 q h3 with r | r
    · exact d23 q h2 r
    · have := H.lt hF q h2; omega
  · rcases hq with hq | hq
    · rcases s2 q hq with r | r
      · exact .inl ((hT q).2 (.inl r))
      · exact .inr r
    · rcases s3 q hq with r | r
      · exact .inl ((hT q).2 (.inr r))
      · exact .inr (by omega)
  · rw [G3.block q (by omega) (fun r => hs ((hT q).2 (.inr r))), G2.block q hq (fun r => hs ((hT q).2 (.inl r)))]

set_option maxRecDepth 100000 in
set_option maxHeartbeats 32000000 in
theorem hplays_walk {HF : World → Nat → (Nat → Prop) → Int → Nat → (Nat → Int) → Prop} (H : HullC HF) (CL : CloneC HF) (eps : Int) (ao : Option Addr) (n c : Nat) (kd on nn ky : Nat → Int) (p0 : -9223372036854775808 ≤ eps) (p1 : eps < 9223372036854775808) (hn : n * 32 ≤ 140737488351232) (w : World) (h : SS w ao n kd on nn ky) :
    Calls Try.prog 3 #[.int .i64 eps, .slice ao n c] w fun e w' => e = .returned (.bool true) ∧ Gw w w' := by
  have HH : Aside (HullC HF) := H
  clear H
  have CC : Aside (CloneC HF) := CL
  clear CL
  have HK : Aside (SS w ao n kd on nn ky) := h
  clear h
  obtain ⟨ii, hii0, hz0, hs0, hby0⟩ := info_parts info_pr
  have IF : Aside (Try.prog.info? 28 = some ii ∧ ii.zero = some (.agg #[.pointer none, .pointer none]) ∧ ii.size = 2 ∧ ii.bytes = 16) := ⟨hii0, hz0, hs0, hby0⟩
  clear hii0 hz0 hs0 hby0
  go_enter Try.func3, Try.ntmps3
  go_wp2_with fail
  refine (hshown HH.out w).mono ?_
  rintro e w1 ⟨rfl, g1⟩
  have G1 : Hid (Gw w (w1.alloc (.cells #[] 28))) := g1.alloc _ _
  have A1 : Hid (AL HF w.heap.size (w1.alloc (.cells #[] 28)) w1.heap.size 0 0 (fun _ => 0) (fun _ => 0) (fun _ _ => False)) := ⟨World.ownsRow_made w1 #[] 0 g1.size (Nat.zero_le _) rfl, fun k hk => by omega, fun k hk => by omega, fun j k hj => by omega, fun k hk => by omega, by omega⟩
  clear g1
  go_wp2_with fail
  refine (made_all HH.out eps _).mono ?_
  rintro ex w2 ⟨⟨oa, ob, is, rfl, hP⟩, g2⟩
  have G2 : Hid (Gw (w1.alloc (.cells #[] 28)) w2) := g2
  have P2 : Hid (is = true → ∃ pa pb T, oa = some ⟨pa, 0, none⟩ ∧ ob = some ⟨pb, 0, none⟩ ∧ PairOK HF w2 pa pb T ∧ ∀ q, T q → (w1.alloc (.cells #[] 28)).heap.size ≤ q) := hP
  clear g2 hP
  go_wp2_with fail
  refine (made_any HH.out 2 (by decide) (by decide) _).mono ?_
  rintro ex w3 ⟨⟨pa, pb, T2, rfl, hP, hT⟩, g3⟩
  have G3 : Hid (Gw w2 w3) := ((Gw.refl w2).alloc _ _).trans g3
  have P3 : Hid (PairOK HF w3 pa pb T2) := hP
  have T3 : Hid (∀ q, T2 q → w2.heap.size + 1 ≤ q) := fun q hq => by have := hT q hq; simpa using this
  have X7 : Hid (Bx w3 w2.heap.size 28 (.pointer oa) (.pointer ob)) := (Bx.new w2 _ _ _).gw g3
  clear hP hT g3
  go_upto_if 48 with fail
  have G4 : Hid (Gw w3 (w3.alloc (.cells #[.pointer (some ⟨pa, 0, none⟩), .pointer (some ⟨pb, 0, none⟩)] 28))) := (Gw.refl w3).alloc _ _
  have X10 : Hid (Bx (w3.alloc (.cells #[.pointer (some ⟨pa, 0, none⟩), .pointer (some ⟨pb, 0, none⟩)] 28)) w3.heap.size 28 (.pointer (some ⟨pa, 0, none⟩)) (.pointer (some ⟨pb, 0, none⟩))) := Bx.new _ _ _ _
  generalize w3.alloc (.cells #[.pointer (some ⟨pa, 0, none⟩), .pointer (some ⟨pb, 0, none⟩)] 28) = W4 at G4 X10 ⊢
  have nb : w1.heap.size < w3.heap.size := by have := G2.out.size; have := G3.out.size; simp at *; omega
  generalize w3.heap.size = b10 at X10 nb ⊢
  have GW4 : Hid (Gw w W4) := ((G1.out.trans G2.out).trans G3.out).trans G4.out
  have X74 : Hid (Bx W4 w2.heap.size 28 (.pointer oa) (.pointer ob)) := X7.out.gw G4.out
  have A4 : Hid (AL HF w.heap.size W4 w1.heap.size 0 0 (fun _ => 0) (fun _ => 0) (fun _ _ => False)) := A1.out.gw HH.out ((G2.out.trans G3.out).trans G4.out)
  have P4 : Hid (PairOK HF W4 pa pb T2) := P3.out.keep HH.out fun q hq => G4.out.below.block q (P3.out.lt HH.out q hq)
  have s1 : w1.heap.size < w2.heap.size := by have := G2.out.size; simp at this; omega
  have s0 : w.heap.size ≤ w1.heap.size + 1 := by have := G1.out.size; simpa using this
  go_cut [6] (fun s6 wc => ∃ (L g cap : Nat) (PA PB : Nat → Nat) (T : Nat → Nat → Prop), s6 = .slice (some ⟨g, 0, none⟩) L cap ∧ L ≤ 1 ∧ Aside (AL HF w.heap.size wc g cap L PA PB T) ∧ Aside (Bx wc b10 28 (.pointer (some ⟨pa, 0, none⟩)) (.pointer (some ⟨pb, 0, none⟩))) ∧ Aside (PairOK HF wc pa pb T2 ∧ (∀ q, T2 q → w.heap.size ≤ q) ∧ ¬ T2 g ∧ (∀ j, j < L → ∀ q, T j q → T2 q → False)) ∧ Aside (Gw w wc))
  case first =>
    cases is with
    | false =>
      go_wp2_with fail
      go_meet
      case rel => exact ⟨0, w1.heap.size, 0, _, _, _, rfl, by omega, (show Aside _ from A4.out), (show Aside _ from X10.out), (show Aside _ from ⟨P4.out, fun q hq => (by have := T3.out q hq; omega), fun hq => (by have := T3.out _ hq; omega), fun j hj => by omega⟩), (show Aside _ from GW4.out)⟩
    | true =>
      obtain ⟨xa, xb, T1, rfl, rfl, hP1, hT1⟩ := P2.out rfl
      have P14 : Hid (PairOK HF W4 xa xb T1) := hP1.keep HH.out fun q hq => (G3.out.trans G4.out).below.block q (hP1.lt HH.out q hq)
      have T1b : Hid (∀ q, T1 q → w1.heap.size + 1 ≤ q ∧ q < w2.heap.size) := fun q hq => ⟨by have := hT1 q hq; simpa using this, hP1.lt HH.out q hq⟩
      obtain ⟨hii, hz, hs, hby⟩ := IF.out
      have d0 := X74.out.c0
      have d1 := X74.out.c1
      have AW : Hid (AL HF w.heap.size (W4.alloc (.cells #[.pointer (some ⟨xa, 0, none⟩), .pointer (some ⟨xb, 0, none⟩)] 28)) w1.heap.size 0 0 (fun _ => 0) (fun _ => 0) (fun _ _ => False)) := A4.out.gw HH.out ((Gw.refl W4).alloc _ _)
      have GWA : Hid (Gw w (W4.alloc (.cells #[.pointer (some ⟨xa, 0, none⟩), .pointer (some ⟨xb, 0, none⟩)] 28))) := GW4.out.alloc _ _
      clear hP1 hT1
      go_wp2_with (at_builtin; refine wpList_append_lies _ rfl _ _ 24 rfl w.heap.size 28 ii _ 2 16 Try.underlying24 hii hz hs hby rfl (by decide) (.slice (some ⟨w1.heap.size, 0, none⟩) 0 0) 0 (pcs (fun _ => 0) (fun _ => 0) 0) rfl (AW.out).own ⟨W4.heap.size, 0, none⟩ 1 1 [.pointer (some ⟨xa, 0, none⟩), .pointer (some ⟨xb, 0, none⟩)] rfl rfl (ptr_news W4 xa xb _) (ptr_one xa xb) (by decide) (by simp only [maxLen]; omega) (by omega) (by have := GW4.out.size; simp <;> omega) _ rfl ?_)
      intro g' cap' w7 q1 q2 q3 q4
      have G7 : Hid (Gw w w7) := GWA.out.grown q2 (fun k hk => (by cases hk; exact (AW.out.own.lt _ rfl).1))
      have A7 : Hid (AL HF w.heap.size w7 g' cap' (0 + 1) (nput (fun _ => 0) 0 xa) (nput (fun _ => 0) 0 xb) (nput (fun _ _ => False) 0 T1)) := by
        refine AW.out.app HH.out (by omega) (P14.out.keep HH.out fun q hq => heap_alloc_old W4 _ (P14.out.lt HH.out q hq)) (fun q hq => by have := T1b.out q hq; omega) (fun hq => by have := T1b.out _ hq; omega) (fun j hj => by omega) q1 q2 ?_
        rcases q3 with r | r
        · left; cases r; rfl
        · right; rw [r]; simp
      have hg' : Hid (g' = w1.heap.size ∨ W4.heap.size + 1 ≤ g') := by
        rcases q3 with r | r
        · left; cases r; rfl
        · right; rw [r]; simp
      have l4 := X10.out.lt
      have X107 : Hid (Bx w7 b10 28 (.pointer (some ⟨pa, 0, none⟩)) (.pointer (some ⟨pb, 0, none⟩))) := (q2.block b10 (by simp; omega) (fun r => by have r' : some b10 = some w1.heap.size := r; simp at r'; omega)).trans (X10.out.alloc _)
      have P27 : Hid (PairOK HF w7 pa pb T2) := P4.out.keep HH.out fun q hq => (by
        have l := P4.out.lt HH.out q hq
        have t := T3.out q hq
        exact (q2.block q (by simp; omega) (fun r => by have r' : some q = some w1.heap.size := r; simp at r'; omega)).trans (heap_alloc_old W4 _ l))
      have N27 : Hid ((∀ q, T2 q → w.heap.size ≤ q) ∧ ¬ T2 g' ∧ (∀ j, j < 0 + 1 → ∀ q, nput (fun _ _ => False) 0 T1 j q → T2 q → False)) := by
        refine ⟨fun q hq => (by have := T3.out q hq; omega), fun hq => ?_, fun j hj q h1 h2 => ?_⟩
        · have l := P4.out.lt HH.out _ hq
          have t := T3.out _ hq
          rcases hg'.out with r | r <;> omega
        · have : j = 0 := by omega
          subst this
          rw [nput_at] at h1
          have := T1b.out q h1
          have := T3.out q h2
          omega
      clear q1 q2 q3 hii hz hs hby d0 d1
      go_wp2_with fail
      go_meet
      case rel => exact ⟨0 + 1, g', cap', _, _, _, rfl, by omega, (show Aside _ from A7.out), (show Aside _ from X107.out), (show Aside _ from ⟨P27.out, N27.out⟩), (show Aside _ from G7.out)⟩
  case rest =>
    obtain ⟨W5, hwx⟩ : ∃ wx, wx = wc := ⟨_, rfl⟩
    subst hwx
    obtain ⟨L, g, cap, PA, PB, T, rfl, hL, A5, X5, P5, G5⟩ := hcut
    clear A4 X10 P4 GW4 X74 G4 P3 T3 X7 G3 P2 G2 A1 G1 s0 s1 nb
    obtain ⟨hii, hz, hs, hby⟩ := IF.out
    have d0 := X5.out.c0
    have d1 := X5.out.c1
    have AW : Hid (AL HF w.heap.size (W5.alloc (.cells #[.pointer (some ⟨pa, 0, none⟩), .pointer (some ⟨pb, 0, none⟩)] 28)) g cap L PA PB T) := A5.out.gw HH.out ((Gw.refl W5).alloc _ _)
    have GWA : Hid (Gw w (W5.alloc (.cells #[.pointer (some ⟨pa, 0, none⟩), .pointer (some ⟨pb, 0, none⟩)] 28))) := G5.out.alloc _ _
    go_wp2_with (at_builtin; refine wpList_append_lies _ rfl _ _ 24 rfl w.heap.size 28 ii _ 2 16 Try.underlying24 hii hz hs hby rfl (by decide) (.slice (some ⟨g, 0, none⟩) L cap) L (pcs PA PB L) rfl (AW.out).own ⟨W5.heap.size, 0, none⟩ 1 1 [.pointer (some ⟨pa, 0, none⟩), .pointer (some ⟨pb, 0, none⟩)] rfl rfl (ptr_news W5 pa pb _) (ptr_one pa pb) (by decide) (by simp only [maxLen]; omega) (by omega) (by have := G5.out.size; simp <;> omega) _ rfl ?_)
    intro g' cap' w7 q1 q2 q3 q4
    have G7 : Aside (Gw w w7) := GWA.out.grown q2 (fun k hk => (by cases hk; exact (AW.out.own.lt _ rfl).1))
    have A7 : Aside (AL HF w.heap.size w7 g' cap' (L + 1) (nput PA L pa) (nput PB L pb) (nput T L T2)) := by
      refine AW.out.app HH.out (by omega) (P5.out.1.keep HH.out fun q hq => heap_alloc_old W5 _ (P5.out.1.lt HH.out q hq)) P5.out.2.1 P5.out.2.2.1 P5.out.2.2.2 q1 q2 ?_
      rcases q3 with r | r
      · left; cases r; rfl
      · right; rw [r]; simp
    clear q1 q2 q3 hii hz hs hby d0 d1 AW GWA A5 X5 P5 G5
    go_wp2_with fail
    go_loopg [6, 13] n (fun gg s6 s13 wr => ∃ (i L g cap : Nat) (PA PB : Nat → Nat) (T : Nat → Nat → Prop), s6 = .slice (some ⟨g, 0, none⟩) L cap ∧ s13 = .int .i64 i ∧ i ≤ n ∧ n - i ≤ gg ∧ 1 ≤ L ∧ Aside (AL HF w.heap.size wr g cap L PA PB T) ∧ Aside (Gw w wr))
    case atStart => exact ⟨0, L + 1, g', cap', _, _, _, rfl, rfl, Nat.zero_le _, by omega, by omega, A7, G7⟩
    case round =>
      clear A7 G7
      obtain ⟨i, L, g, cap, PA, PB, T, rfl, rfl, h1, h2, h3, AI, GI⟩ := hrel
      by_cases hlt : i < n
      · have hlt' : (i : Int) < n := by omega
        have hL4 := AI.out.l4
        obtain ⟨bk, off, rfl, hb, hc⟩ := (HK.out.gw GI.out).cells (by omega)
        obtain ⟨c0, c1, c2, c3⟩ := hc i hlt
        obtain ⟨⟨⟨o0, o1⟩, ⟨m0, m1⟩⟩, ⟨y0, y1⟩⟩ := HK.out.bd i hlt
        clear hc
        generalize kd i = vk at c0
        generalize on i = vo at c1 o0 o1
        generalize nn i = vn at c2 m0 m1
        generalize ky i = vy at c3 y0 y1
        have PK : Hid (∀ W, Calls Try.prog 11 #[.int .i64 vo, .int .i64 L] W fun ex w' => (∃ k : Nat, ex = .returned (.int .i64 k) ∧ k < L) ∧ w' = W) := fun W => pick_any vo L o0 o1 (by omega) (by omega) W
        go_wp2_with fail
        refine (PK.out _).mono ?_
        rintro ex wz ⟨⟨k, rfl, hk⟩, hwz⟩
        subst hwz
        have hk' : (k : Int) < L := by omega
        have AS : Hid (AL HF w.heap.size (wr.alloc (.cells #[.int .i64 vk, .int .i64 vo, .int .i64 vn, .int .u64 vy] 33)) g cap L PA PB T) := AI.out.gw HH.out ((Gw.refl wr).alloc _ _)
        obtain ⟨e0, e1⟩ := AS.out.cells hk
        go_upto_region 18 with fail
        have AW : Hid (AL HF w.heap.size ((wr.alloc (.cells #[.int .i64 vk, .int .i64 vo, .int .i64 vn, .int .u64 vy] 33)).alloc (.cells #[.pointer (some ⟨PA k, 0, none⟩), .pointer (some ⟨PB k, 0, none⟩)] 28)) g cap L PA PB T) := AS.out.gw HH.out ((Gw.refl _).alloc _ _)
        have GW0 : Hid (Gw w ((wr.alloc (.cells #[.int .i64 vk, .int .i64 vo, .int .i64 vn, .int .u64 vy] 33)).alloc (.cells #[.pointer (some ⟨PA k, 0, none⟩), .pointer (some ⟨PB k, 0, none⟩)] 28))) := (GI.out.alloc _ _).alloc _ _
        have X4 : Hid (B4 ((wr.alloc (.cells #[.int .i64 vk, .int .i64 vo, .int .i64 vn, .int .u64 vy] 33)).alloc (.cells #[.pointer (some ⟨PA k, 0, none⟩), .pointer (some ⟨PB k, 0, none⟩)] 28)) wr.heap.size (.int .i64 vk) (.int .i64 vo) (.int .i64 vn) (.int .u64 vy)) := (B4.new wr _ _ _ _ _).gw ((Gw.refl _).alloc _ _)
        have XP : Hid (Bx ((wr.alloc (.cells #[.int .i64 vk, .int .i64 vo, .int .i64 vn, .int .u64 vy] 33)).alloc (.cells #[.pointer (some ⟨PA k, 0, none⟩), .pointer (some ⟨PB k, 0, none⟩)] 28)) (wr.heap.size + 1) 28 (.pointer (some ⟨PA k, 0, none⟩)) (.pointer (some ⟨PB k, 0, none⟩))) := (Bx.new _ _ _ _).at (by simp)
        have NT : Hid (∀ j, j < L → ∀ q, T j q → q < wr.heap.size) := fun j hj q hq => (AI.out.ok j hj).lt HH.out q hq
        generalize (wr.alloc (.cells #[.int .i64 vk, .int .i64 vo, .int .i64 vn, .int .u64 vy] 33)).alloc (.cells #[.pointer (some ⟨PA k, 0, none⟩), .pointer (some ⟨PB k, 0, none⟩)] 28) = W0 at AW GW0 X4 XP ⊢
        generalize wr.heap.size = b4 at X4 XP NT ⊢
        clear AI AS e0 e1 c0 c1 c2 c3
        have f0 := X4.out.c0
        have f1 := XP.out.c0
        have f2 := XP.out.c1
        clear f0 f1 f2
        have f0 := X4.out.c0
        go_cut [77] (fun s77 wc => s77 = .int .i64 vk ∧ Aside (AL HF w.heap.size wc g cap L PA PB T) ∧ Aside (Gw w wc) ∧ Aside (B4 wc b4 (.int .i64 vk) (.int .i64 vo) (.int .i64 vn) (.int .u64 vy)) ∧ Aside (Bx wc (b4 + 1) 28 (.pointer (some ⟨PA k, 0, none⟩)) (.pointer (some ⟨PB k, 0, none⟩))))
        case first =>
          go_wp2_with fail
          go_meet
          case rel => exact ⟨rfl, (show Aside _ from AW.out), (show Aside _ from GW0.out), (show Aside _ from X4.out), (show Aside _ from XP.out)⟩
        case rest =>
          clear f0 AW GW0 X4 XP W0
          obtain ⟨W0, hwx⟩ : ∃ wx, wx = wc := ⟨_, rfl⟩
          subst hwx
          obtain ⟨rfl, AW', GW0', X4', XP'⟩ := hcut
          apply_assumption
          go_cut [6] (fun s6 wc => ∃ (L' g' cap' : Nat) (PA' PB' : Nat → Nat) (T' : Nat → Nat → Prop), s6 = .slice (some ⟨g', 0, none⟩) L' cap' ∧ 1 ≤ L' ∧ Aside (AL HF w.heap.size wc g' cap' L' PA' PB' T') ∧ Aside (Gw w wc))
          case first =>
            have AW : Hid (AL HF w.heap.size W0 g cap L PA PB T) := AW'.out
            have GW0 : Hid (Gw w W0) := GW0'.out
            have X4 : Hid (B4 W0 b4 (.int .i64 vk) (.int .i64 vo) (.int .i64 vn) (.int .u64 vy)) := X4'.out
            have XP : Hid (Bx W0 (b4 + 1) 28 (.pointer (some ⟨PA k, 0, none⟩)) (.pointer (some ⟨PB k, 0, none⟩))) := XP'.out
            clear AW' GW0' X4' XP'
            have f0 := X4.out.c0
            have f1 := XP.out.c0
            have f2 := XP.out.c1
            by_cases hk1 : vk = 1
            · have v1 : (vk == 1) = true := by simp [hk1]
              obtain ⟨SA, SB, e, m, f', j1, j2, j3, hTk, dis⟩ := AW.out.ok k hk
              have J1 : Hid (HF W0 (PA k) SA e m f') := j1
              have J2 : Hid (RFit W0 (PB k) SB e m f') := j2
              have HT : Hid (∀ q, T k q ↔ SA q ∨ SB q) := hTk
              have DS : Hid (∀ q, SA q → SB q → False) := dis
              clear j1 j2 hTk dis hk1
              have CT : Hid (Calls Try.prog 12 #[.pointer (some ⟨PB k, 0, none⟩)] W0 fun ex w' => ex = .returned (.int .i64 m) ∧ Gw W0 w') := by
                obtain ⟨v, a, b, c', d, R, _⟩ := J2.out
                exact rcount_any R
              go_wp2_with fail
              refine CT.out.mono ?_
              rintro ex V1 ⟨rfl, gv1⟩
              have GV1 : Hid (Gw W0 V1) := gv1
              clear CT gv1 f0 f1 f2
              by_cases hm : m < 400
              · have hm' : (m : Int) < 400 := by omega
                have X41 : Hid (B4 V1 b4 (.int .i64 vk) (.int .i64 vo) (.int .i64 vn) (.int .u64 vy)) := X4.out.gw GV1.out
                have XP1 : Hid (Bx V1 (b4 + 1) 28 (.pointer (some ⟨PA k, 0, none⟩)) (.pointer (some ⟨PB k, 0, none⟩))) := XP.out.gw GV1.out
                have J11 : Hid (HF V1 (PA k) SA e m f') := HH.out.gw J1.out GV1.out
                have J21 : Hid (RFit V1 (PB k) SB e m f') := J2.out.keep' fun q hq => GV1.out.below.block q (J2.out.lt' q hq)
                have A1 : Hid (AL HF w.heap.size V1 g cap L PA PB T) := AW.out.gw HH.out GV1.out
                have GWV1 : Hid (Gw w V1) := GW0.out.trans GV1.out
                have f3 := X41.out.c3
                have f4 := XP1.out.c0
                clear J1 J2 AW GW0 X4 XP GV1
                go_wp2_with fail
                refine (HH.out.add J11.out vy y0 y1 (by omega)).mono ?_
                rintro ex V2 ⟨⟨ok, err, S2, rfl, hA, hF, hsub⟩, gv2⟩
                have nA : ∀ q, SA q → q < b4 := fun q hq => NT.out k hk q ((HT.out q).2 (.inl hq))
                have nB : ∀ q, SB q → q < b4 := fun q hq => NT.out k hk q ((HT.out q).2 (.inr hq))
                have X42 : Hid (B4 V2 b4 (.int .i64 vk) (.int .i64 vo) (.int .i64 vn) (.int .u64 vy)) := X41.out.gs gv2 (fun r => by have := nA _ r; omega)
                have XP2 : Hid (Bx V2 (b4 + 1) 28 (.pointer (some ⟨PA k, 0, none⟩)) (.pointer (some ⟨PB k, 0, none⟩))) := XP1.out.gs2 gv2 (fun r => by have := nA _ r; omega)
                have J22 : Hid (RFit V2 (PB k) SB e m f') := J21.out.keep' fun q hq => gv2.block q (J21.out.lt' q hq) (fun r => DS.out q r hq)
                have HA : Hid (AddR e m f' vy ok err) := hA
                have HF2 : Hid (HF V2 (PA k) S2 e (if ok then m + 1 else m) (if ok then upd f' m vy else f')) := hF
                have HS2 : Hid (∀ q, S2 q → SA q ∨ V1.heap.size ≤ q) := hsub
                have G12 : Hid (Gs SA V1 V2) := gv2
                have f5 := X42.out.c3
                have f6 := XP2.out.c1
                clear hA hF hsub gv2 f3 f4 nA nB
                go_wp2_with fail
                refine (radd4_any J22.out vy y0 y1 (by omega)).mono ?_
                rintro ex V3 ⟨⟨ok', err', S3, rfl, hA, hR, hsub⟩, gv3⟩
                obtain ⟨hok, herr⟩ := HA.out.one hA
                subst hok
                subst herr
                have AF0 : Hid (AL HF w.heap.size V3 g cap L PA PB (nput T k (fun q => S2 q ∨ S3 q))) := by
                  obtain ⟨pp, pt, pg⟩ := pair_add HH.out HT.out DS.out J21.out (by cases ok <;> simp <;> omega) HF2.out HS2.out G12.out hR hsub gv3
                  exact A1.out.step HH.out hk pg GWV1.out.size pp pt
                have GF0 : Hid (Gw w V3) := by
                  obtain ⟨pp, pt, pg⟩ := pair_add HH.out HT.out DS.out J21.out (by cases ok <;> simp <;> omega) HF2.out HS2.out G12.out hR hsub gv3
                  exact Gs.gw GWV1.out pg (A1.out.lo k hk)
                clear hA hR hsub gv3 f5 f6 HA HF2 HS2 G12 J22 XP2 X42 J21 J11 A1 GWV1 X41 XP1 HT DS
                go_wp2_with fail
                go_meet
                case rel => exact ⟨L, g, cap, PA, PB, (nput T k (fun q => S2 q ∨ S3 q)), rfl, by omega, (show Aside _ from AF0.out), (show Aside _ from GF0.out)⟩
              · have hm' : ¬ (m : Int) < 400 := by omega
                have AF0 : Hid (AL HF w.heap.size V1 g cap L PA PB T) := AW.out.gw HH.out GV1.out
                have GF0 : Hid (Gw w V1) := GW0.out.trans GV1.out
                clear J1 J2 HT DS AW GW0 X4 XP GV1
                go_wp2_with fail
                go_meet
                case rel => exact ⟨L, g, cap, PA, PB, T, rfl, by omega, (show Aside _ from AF0.out), (show Aside _ from GF0.out)⟩
            · have v1 : (vk == 1) = false := by simp [hk1]
              clear hk1
              by_cases hk2 : vk = 2
              · have v2 : (vk == 2) = true := by simp [hk2]
                clear hk2
                have f3 := X4.out.c2
                go_wp2_with fail
                refine (made_all HH.out vn _).mono ?_
                rintro ex V1 ⟨⟨oa, ob, is', rfl, hP⟩, gv1⟩
                have GV1 : Hid (Gw W0 V1) := gv1
                have P1 : Hid (is' = true → ∃ pa pb T', oa = some ⟨pa, 0, none⟩ ∧ ob = some ⟨pb, 0, none⟩ ∧ PairOK HF V1 pa pb T' ∧ ∀ q, T' q → W0.heap.size ≤ q) := hP
                clear gv1 hP f0 f1 f2 f3
                cases is' with
                | false =>
                  have AF0 : Hid (AL HF w.heap.size (V1.alloc (.cells #[.pointer oa, .pointer ob] 28)) g cap L PA PB T) := AW.out.gw HH.out (GV1.out.alloc _ _)
                  have GF0 : Hid (Gw w (V1.alloc (.cells #[.pointer oa, .pointer ob] 28))) := (GW0.out.trans GV1.out).alloc _ _
                  clear AW GW0 X4 XP GV1 P1
                  go_upto_if 119 with fail
                  generalize V1.alloc (.cells #[.pointer oa, .pointer ob] 28) = V2 at AF0 GF0 ⊢
                  go_wp2_with fail
                  go_meet
                  case rel => exact ⟨L, g, cap, PA, PB, T, rfl, by omega, (show Aside _ from AF0.out), (show Aside _ from GF0.out)⟩
                | true =>
                  obtain ⟨xa, xb, T1, rfl, rfl, hP1, hT1⟩ := P1.out rfl
                  have A1 : Hid (AL HF w.heap.size (V1.alloc (.cells #[.pointer (some ⟨xa, 0, none⟩), .pointer (some ⟨xb, 0, none⟩)] 28)) g cap L PA PB T) := AW.out.gw HH.out (GV1.out.alloc _ _)
                  have GA : Hid (Gw w (V1.alloc (.cells #[.pointer (some ⟨xa, 0, none⟩), .pointer (some ⟨xb, 0, none⟩)] 28))) := (GW0.out.trans GV1.out).alloc _ _
                  have PN : Hid (PairOK HF (V1.alloc (.cells #[.pointer (some ⟨xa, 0, none⟩), .pointer (some ⟨xb, 0, none⟩)] 28)) xa xb T1) := hP1.keep HH.out fun q hq => heap_alloc_old V1 _ (hP1.lt HH.out q hq)
                  have BX : Hid (Bx (V1.alloc (.cells #[.pointer (some ⟨xa, 0, none⟩), .pointer (some ⟨xb, 0, none⟩)] 28)) V1.heap.size 28 (.pointer (some ⟨xa, 0, none⟩)) (.pointer (some ⟨xb, 0, none⟩))) := Bx.new _ _ _ _
                  have HT1 : Hid (∀ q, T1 q → W0.heap.size ≤ q) := hT1
                  have LW0 : Hid (g < W0.heap.size ∧ ∀ j, j < L → ∀ q, T j q → q < W0.heap.size) := ⟨(AW.out.own.lt g rfl).2, fun j hj q hq => (AW.out.ok j hj).lt HH.out q hq⟩
                  clear hP1 hT1 P1 AW GW0 X4 XP GV1
                  go_upto_if 119 with fail
                  generalize V1.alloc (.cells #[.pointer (some ⟨xa, 0, none⟩), .pointer (some ⟨xb, 0, none⟩)] 28) = V2 at A1 GA PN BX ⊢
                  generalize V1.heap.size = b21 at BX ⊢
                  have z0 := BX.out.c0
                  have z1 := BX.out.c1
                  have z2 := (A1.out.cells hk).1
                  have z3 := (A1.out.cells hk).2
                  have z4 := own_fz A1.out.own (k * 2)
                  have z5 := own_fz A1.out.own (k * 2 + 1)
                  have AF0 : Hid (AL HF w.heap.size ((V2.setCell ⟨g, k * 2, none⟩ (.pointer (some ⟨xa, 0, none⟩))).setCell ⟨g, k * 2 + 1, none⟩ (.pointer (some ⟨xb, 0, none⟩))) g cap L (nput PA k xa) (nput PB k xb) (nput T k T1)) := A1.out.put HH.out hk PN.out (fun q hq => by have := HT1.out q hq; have := (A1.out.own.lt g rfl).1; have := LW0.out.1; omega) (fun hq => by have := HT1.out _ hq; have := LW0.out.1; omega) (fun j hj q h1 h2 => by have := HT1.out _ h2; have := LW0.out.2 j hj q h1; omega)
                  have GF0 : Hid (Gw w ((V2.setCell ⟨g, k * 2, none⟩ (.pointer (some ⟨xa, 0, none⟩))).setCell ⟨g, k * 2 + 1, none⟩ (.pointer (some ⟨xb, 0, none⟩)))) := (GA.out.setCell (A1.out.own.lt g rfl).1 _).setCell (A1.out.own.lt g rfl).1 _
                  clear A1 GA PN BX HT1 LW0
                  go_wp2_with fail
                  go_meet
                  case rel => exact ⟨L, g, cap, (nput PA k xa), (nput PB k xb), (nput T k T1), rfl, by omega, (show Aside _ from AF0.out), (show Aside _ from GF0.out)⟩
              · have v2 : (vk == 2) = false := by simp [hk2]
                clear hk2
                by_cases hk3 : vk = 3
                · have v3 : (vk == 3) = true := by simp [hk3]
                  clear hk3
                  obtain ⟨SA, SB, e, m, f', j1, j2, j3, hTk, dis⟩ := AW.out.ok k hk
                  have J2 : Hid (RFit W0 (PB k) SB e m f') := j2
                  have CLA : Hid (Calls Try.prog 15 #[.pointer (some ⟨PA k, 0, none⟩)] W0 fun ex w' => (∃ p' S', ex = .returned (.pointer (some ⟨p', 0, none⟩)) ∧ (∀ q, S' q → W0.heap.size ≤ q) ∧ HF w' p' S' e m f') ∧ Gw W0 w') := CC.out j1 (by omega)
                  have LW0 : Hid (g < W0.heap.size ∧ ∀ j, j < L → ∀ q, T j q → q < W0.heap.size) := ⟨(AW.out.own.lt g rfl).2, fun j hj q hq => (AW.out.ok j hj).lt HH.out q hq⟩
                  clear j1 j2 hTk dis
                  go_wp2_with fail
                  refine CLA.out.mono ?_
                  rintro ex V1 ⟨⟨xa, S1, rfl, hS1, hF1⟩, gv1⟩
                  have GV1 : Hid (Gw W0 V1) := gv1
                  have F1 : Hid (HF V1 xa S1 e m f') := hF1
                  have HS1 : Hid (∀ q, S1 q → W0.heap.size ≤ q) := hS1
                  have J21 : Hid (RFit V1 (PB k) SB e m f') := J2.out.keep' fun q hq => gv1.below.block q (J2.out.lt' q hq)
                  have XP1 : Hid (Bx V1 (b4 + 1) 28 (.pointer (some ⟨PA k, 0, none⟩)) (.pointer (some ⟨PB k, 0, none⟩))) := XP.out.gw gv1
                  have X41 : Hid (B4 V1 b4 (.int .i64 vk) (.int .i64 vo) (.int .i64 vn) (.int .u64 vy)) := X4.out.gw gv1
                  have f3 := XP1.out.c1
                  clear hS1 hF1 gv1 CLA f0 f1 f2
                  go_wp2_with fail
                  refine (rclone_any J21.out (by omega)).mono ?_
                  rintro ex V2 ⟨⟨xb, S2, rfl, hS2, hR2⟩, gv2⟩
                  have GV2 : Hid (Gw W0 V2) := GV1.out.trans gv2
                  have X42 : Hid (B4 V2 b4 (.int .i64 vk) (.int .i64 vo) (.int .i64 vn) (.int .u64 vy)) := X41.out.gw gv2
                  have PN0 : Hid (PairOK HF V2 xa xb (fun q => S1 q ∨ S2 q)) := ⟨S1, S2, e, m, f', HH.out.gw F1.out gv2, hR2, j3, fun q => Iff.rfl, fun q h1 h2 => (by have := HH.out.lt F1.out q h1; have := hS2 q h2; omega)⟩
                  have HT1 : Hid (∀ q, (S1 q ∨ S2 q) → W0.heap.size ≤ q) := fun q hq => (by
                    rcases hq with hq | hq
                    · exact HS1.out q hq
                    · have := hS2 q hq; have := GV1.out.size; omega)
                  clear hS2 hR2 gv2 f3
                  go_upto_if 138 with fail
                  have A1 : Hid (AL HF w.heap.size (V2.alloc (.cells #[.pointer (some ⟨xa, 0, none⟩), .pointer (some ⟨xb, 0, none⟩)] 28)) g cap L PA PB T) := AW.out.gw HH.out (GV2.out.alloc _ _)
                  have GA : Hid (Gw w (V2.alloc (.cells #[.pointer (some ⟨xa, 0, none⟩), .pointer (some ⟨xb, 0, none⟩)] 28))) := (GW0.out.trans GV2.out).alloc _ _
                  have PN : Hid (PairOK HF (V2.alloc (.cells #[.pointer (some ⟨xa, 0, none⟩), .pointer (some ⟨xb, 0, none⟩)] 28)) xa xb (fun q => S1 q ∨ S2 q)) := PN0.out.keep HH.out fun q hq => heap_alloc_old V2 _ (PN0.out.lt HH.out q hq)
                  have BX : Hid (Bx (V2.alloc (.cells #[.pointer (some ⟨xa, 0, none⟩), .pointer (some ⟨xb, 0, none⟩)] 28)) V2.heap.size 28 (.pointer (some ⟨xa, 0, none⟩)) (.pointer (some ⟨xb, 0, none⟩))) := Bx.new _ _ _ _
                  have X43 : Hid (B4 (V2.alloc (.cells #[.pointer (some ⟨xa, 0, none⟩), .pointer (some ⟨xb, 0, none⟩)] 28)) b4 (.int .i64 vk) (.int .i64 vo) (.int .i64 vn) (.int .u64 vy)) := X42.out.gw ((Gw.refl _).alloc _ _)
                  clear AW GW0 X4 XP GV1 GV2 PN0 F1 HS1 J21 J2 XP1 X41 X42
                  generalize V2.alloc (.cells #[.pointer (some ⟨xa, 0, none⟩), .pointer (some ⟨xb, 0, none⟩)] 28) = V3 at A1 GA PN BX X43 ⊢
                  generalize V2.heap.size = b25 at BX ⊢
                  have TN1 : Hid ((∀ q, (S1 q ∨ S2 q) → w.heap.size ≤ q) ∧ ¬ (S1 g ∨ S2 g) ∧ (∀ j, j < L → ∀ q, T j q → (S1 q ∨ S2 q) → False)) := ⟨fun q hq => (by have := HT1.out q hq; have := (A1.out.own.lt g rfl).1; have := LW0.out.1; omega), fun hq => (by have := HT1.out _ hq; have := LW0.out.1; omega), fun j hj q h1 h2 => (by have := HT1.out _ h2; have := LW0.out.2 j hj q h1; omega)⟩
                  have z0 := BX.out.c0
                  have z1 := BX.out.c1
                  by_cases hl4 : L < 4
                  · have hl4' : (L : Int) < 4 := by omega
                    obtain ⟨hii, hz, hs, hby⟩ := IF.out
                    have AW : Hid (AL HF w.heap.size (V3.alloc (.cells #[.pointer (some ⟨xa, 0, none⟩), .pointer (some ⟨xb, 0, none⟩)] 28)) g cap L PA PB T) := A1.out.gw HH.out ((Gw.refl V3).alloc _ _)
                    have GWA : Hid (Gw w (V3.alloc (.cells #[.pointer (some ⟨xa, 0, none⟩), .pointer (some ⟨xb, 0, none⟩)] 28))) := GA.out.alloc _ _
                    have sz := GA.out.size
                    go_wp2_with (at_builtin; refine wpList_append_lies _ rfl _ _ 24 rfl w.heap.size 28 ii _ 2 16 Try.underlying24 hii hz hs hby rfl (by decide) (.slice (some ⟨g, 0, none⟩) L cap) L (pcs PA PB L) rfl (AW.out).own ⟨V3.heap.size, 0, none⟩ 1 1 [.pointer (some ⟨xa, 0, none⟩), .pointer (some ⟨xb, 0, none⟩)] rfl rfl (ptr_news V3 xa xb _) (ptr_one xa xb) (by decide) (by simp only [maxLen]; omega) (by omega) (by simp <;> omega) _ rfl ?_)
                    intro g2 cap2 w8 q1 q2 q3 q4
                    have GF0 : Hid (Gw w w8) := GWA.out.grown q2 (fun k hk => (by cases hk; exact (AW.out.own.lt _ rfl).1))
                    have AF0 : Hid (AL HF w.heap.size w8 g2 cap2 (L + 1) (nput PA L xa) (nput PB L xb) (nput T L (fun q => S1 q ∨ S2 q))) := by
                      refine AW.out.app HH.out hl4 (PN.out.keep HH.out fun q hq => heap_alloc_old V3 _ (PN.out.lt HH.out q hq)) TN1.out.1 TN1.out.2.1 TN1.out.2.2 q1 q2 ?_
                      rcases q3 with r | r
                      · left; cases r; rfl
                      · right; rw [r]; simp
                    clear q1 q2 q3 hii hz hs hby z0 z1 AW GWA A1 GA PN BX X43 TN1 sz
                    go_wp2_with fail
                    go_meet
                    case rel => exact ⟨L + 1, g2, cap2, _, _, _, rfl, by omega, (show Aside _ from AF0.out), (show Aside _ from GF0.out)⟩
                  · have hl4' : ¬ (L : Int) < 4 := by omega
                    obtain rfl : L = 4 := by omega
                    have PK2 : Hid (∀ W, Calls Try.prog 11 #[.int .i64 vn, .int .i64 4] W fun ex w' => (∃ k : Nat, ex = .returned (.int .i64 k) ∧ k < 4) ∧ w' = W) := fun W => pick_any vn 4 m0 m1 (by omega) (by omega) W
                    have f5 := X43.out.c2
                    have zf : ∀ o, V3.frozen? ⟨g, o, none⟩ = false := fun o => own_fz A1.out.own o
                    have zc : Hid (∀ kk, kk < 4 → V3.cell? ⟨g, kk * 2, none⟩ = some (.pointer (some ⟨PA kk, 0, none⟩)) ∧ V3.cell? ⟨g, kk * 2 + 1, none⟩ = some (.pointer (some ⟨PB kk, 0, none⟩))) := fun kk hkk => A1.out.cells hkk
                    go_wp2_with fail
                    go_region_with (go_at_call 11; refine (PK2.out _).mono ?_; rintro ex V4 ⟨⟨kk, rfl, hkk⟩, hV4⟩; have hV4' : V4 = V3.drew := hV4; subst hV4'; obtain ⟨zz0, zz1⟩ := zc.out kk hkk; have hkk' : (kk : Int) < 4 := (by omega); have HKK : Hid (kk < 4) := hkk)
                    all_goals
                      have AF0 : Hid (AL HF w.heap.size ((V3.setCell ⟨g, kk * 2, none⟩ (.pointer (some ⟨xa, 0, none⟩))).setCell ⟨g, kk * 2 + 1, none⟩ (.pointer (some ⟨xb, 0, none⟩))) g cap 4 (nput PA kk xa) (nput PB kk xb) (nput T kk (fun q => S1 q ∨ S2 q))) := A1.out.put HH.out HKK.out PN.out TN1.out.1 TN1.out.2.1 TN1.out.2.2
                      have GF0 : Hid (Gw w ((V3.setCell ⟨g, kk * 2, none⟩ (.pointer (some ⟨xa, 0, none⟩))).setCell ⟨g, kk * 2 + 1, none⟩ (.pointer (some ⟨xb, 0, none⟩)))) := (GA.out.setCell (A1.out.own.lt g rfl).1 _).setCell (A1.out.own.lt g rfl).1 _
                      clear zz0 zz1 z0 z1 f5 zf hkk hkk'
                      go_wp2_with fail
                      go_meet
                    all_goals
                      case rel => exact ⟨4, g, cap, _, _, _, rfl, by omega, (show Aside _ from AF0.out.gw HH.out (Gw.refl _).drew), (show Aside _ from GF0.out.drew)⟩
                · have v3 : (vk == 3) = false := by simp [hk3]
                  clear hk3
                  have AF0 : Hid (AL HF w.heap.size W0 g cap L PA PB T) := AW.out
                  have GF0 : Hid (Gw w W0) := GW0.out
                  clear AW GW0 X4 XP
                  go_wp2_with fail
                  go_meet
                  case rel => exact ⟨L, g, cap, PA, PB, T, rfl, by omega, (show Aside _ from AF0.out), (show Aside _ from GF0.out)⟩
          case rest =>
            obtain ⟨V, hwx⟩ : ∃ wx, wx = wc := ⟨_, rfl⟩
            subst hwx
            clear AW' GW0' X4' XP'
            obtain ⟨Lf, gf, capf, PAf, PBf, Tf, rfl, h3f, AF0, GF0⟩ := hcut
            have lf4 : Lf ≤ 4 := AF0.out.l4
            have AF : Aside (AL HF w.heap.size V gf capf Lf PAf PBf Tf) := AF0.out
            have GF : Aside (Gw w V) := GF0.out
            clear AF0 GF0
            go_wp2_with fail
            go_loopg [26] Lf (fun gg s26 wq => ∃ kk : Nat, s26 = .int .i64 kk ∧ kk ≤ Lf ∧ Lf - kk ≤ gg ∧ Aside (Gw V wq))
            case atStart => exact ⟨0, rfl, Nat.zero_le _, by omega, (show Aside _ from Gw.refl _)⟩
            case round =>
              obtain ⟨kk, rfl, t1, t2, GQ⟩ := hrel
              by_cases hkk : kk < Lf
              · have AQ := AF.out.gw HH.out GQ.out
                obtain ⟨u0, u1⟩ := AQ.cells hkk
                have hkk' : (kk : Int) < Lf := by omega
                have AK : Hid (Calls Try.prog 17 #[.agg #[.pointer (some ⟨PAf kk, 0, none⟩), .pointer (some ⟨PBf kk, 0, none⟩)]] wr fun ex w' => ex = .returned (.bool true) ∧ Gw wr w') := by
                  obtain ⟨SA, SB, e, m, f', j1, ⟨v, a, b, c', d, R, _⟩, j3, _⟩ := AQ.ok kk hkk
                  exact alike_any HH.out j1 R (by omega)
                clear AQ
                go_wp2_with fail
                refine AK.out.mono ?_
                rintro ex wv ⟨rfl, gv⟩
                clear u0 u1 AK
                go_wp2_with fail
                go_roundg (Lf - (kk + 1))
                case measure => omega
                case rel => exact ⟨kk + 1, by go_num, by omega, Nat.le_refl _, (show Aside _ from GQ.out.trans gv)⟩
              · have hkk' : ¬ (kk : Int) < Lf := by omega
                go_wp2_with fail
                go_roundg (n - (i + 1))
                case measure => omega
                case rel => exact ⟨i + 1, Lf, gf, capf, PAf, PBf, Tf, rfl, by go_num, by omega, Nat.le_refl _, by omega, (show Aside _ from AF.out.gw HH.out GQ.out), (show Aside _ from GF.out.trans GQ.out)⟩
      · have hlt' : ¬ (i : Int) < n := by omega
        go_wp2_with fail
        go_ret
        exact ⟨rfl, GI.out⟩

end Go.Proofs.Ytocahgiabeifeaa
