/- What the statements of layer 4 ask of package hull, as one structure; and their examples. -/
import Derived.Test.YtocahgiabeifeaaR4All
namespace Go.Proofs.Ytocahgiabeifeaa
open Go.RowKit
set_option linter.unusedVariables false

theorem Gs.gw {S : Nat → Prop} {W w w' : World} (h : Gw W w) (g : Gs S w w') (hS : ∀ q, S q → W.heap.size ≤ q) : Gw W w' :=
  ⟨⟨g.os.trans h.below.os, g.tape.trans h.below.tape, g.output.trans h.below.output, Nat.le_trans h.below.size g.size, fun q hq => (g.block q (Nat.lt_of_lt_of_le hq h.below.size) (fun s => by have := hS q s; omega)).trans (h.below.block q hq)⟩⟩

/-- Package hull: 'HF w p S e n f': at block p lies a Fit of eps e + 1, of the n keys f, made of the blocks S. -/
structure HullC (HF : World → Nat → (Nat → Prop) → Int → Nat → (Nat → Int) → Prop) : Prop where
  keep : ∀ {w w' : World} {p : Nat} {S : Nat → Prop} {e : Int} {n : Nat} {f : Nat → Int}, HF w p S e n f → (∀ q, S q → w'.heap[q]? = w.heap[q]?) → HF w' p S e n f
  lt : ∀ {w : World} {p : Nat} {S : Nat → Prop} {e : Int} {n : Nat} {f : Nat → Int}, HF w p S e n f → ∀ q, S q → q < w.heap.size
  ext : ∀ {w : World} {p : Nat} {S : Nat → Prop} {e : Int} {n : Nat} {f g : Nat → Int}, HF w p S e n f → (∀ i, i < n → f i = g i) → HF w p S e n g
  facts : ∀ {w : World} {p : Nat} {S : Nat → Prop} {e : Int} {n : Nat} {f : Nat → Int}, HF w p S e n f → Up f n ∧ (∀ i, i < n → 0 ≤ f i ∧ f i < 18446744073709551616) ∧ FitsOn e f (Prs n) ∧ 1 ≤ e ∧ e ≤ 63
  bad : ∀ (eps : Int), ¬ (2 ≤ eps ∧ eps ≤ 64) → ∀ w : World, Calls Try.prog 18 #[.int .i64 eps] w fun ex w' => ex = .returned (.tuple #[.pointer none, .int .i64 1]) ∧ Gw w w'
  new : ∀ (eps : Int), 2 ≤ eps → eps ≤ 64 → ∀ w : World, Calls Try.prog 18 #[.int .i64 eps] w fun ex w' => (∃ p S, ex = .returned (.tuple #[.pointer (some ⟨p, 0, none⟩), .int .i64 0]) ∧ (∀ q, S q → w.heap.size ≤ q) ∧ HF w' p S (eps - 1) 0 (fun _ => 0)) ∧ Gw w w'
  add : ∀ {w : World} {p : Nat} {S : Nat → Prop} {e : Int} {n : Nat} {f : Nat → Int}, HF w p S e n f → ∀ x : Int, 0 ≤ x → x < 18446744073709551616 → n ≤ 3000 →
    Calls Try.prog 13 #[.pointer (some ⟨p, 0, none⟩), .int .u64 x] w fun ex w' =>
      (∃ (ok : Bool) (err : Int) (S' : Nat → Prop), ex = .returned (.tuple #[.bool ok, .int .i64 err]) ∧ AddR e n f x ok err ∧ HF w' p S' e (if ok then n + 1 else n) (if ok then upd f n x else f) ∧ ∀ q, S' q → S q ∨ w.heap.size ≤ q) ∧ Gs S w w'
  count : ∀ {w : World} {p : Nat} {S : Nat → Prop} {e : Int} {n : Nat} {f : Nat → Int}, HF w p S e n f → n ≤ 3001 → Calls Try.prog 19 #[.pointer (some ⟨p, 0, none⟩)] w fun ex w' => ex = .returned (.int .i64 n) ∧ Gw w w'
  least : ∀ {w : World} {p : Nat} {S : Nat → Prop} {e : Int} {n : Nat} {f : Nat → Int}, HF w p S e n f → n ≤ 3001 → Calls Try.prog 20 #[.pointer (some ⟨p, 0, none⟩)] w fun ex w' => (∃ a b, ex = .returned (.agg #[.int .u64 a, .int .u64 b]) ∧ LowOn e f (Prs n) a b ∧ a < 18446744073709551616 ∧ b < 18446744073709551616) ∧ Gw w w'
  most : ∀ {w : World} {p : Nat} {S : Nat → Prop} {e : Int} {n : Nat} {f : Nat → Int}, HF w p S e n f → n ≤ 3001 → Calls Try.prog 21 #[.pointer (some ⟨p, 0, none⟩)] w fun ex w' => (∃ a b, ex = .returned (.agg #[.int .u64 a, .int .u64 b]) ∧ TopOn e f (Prs n) a b ∧ a < 18446744073709551616 ∧ (0 ≤ b ∧ b < 18446744073709551616)) ∧ Gw w w'

theorem HullC.gw {HF : World → Nat → (Nat → Prop) → Int → Nat → (Nat → Int) → Prop} (H : HullC HF) {w w' : World} {p : Nat} {S : Nat → Prop} {e : Int} {n : Nat} {f : Nat → Int} (h : HF w p S e n f) (g : Gw w w') : HF w' p S e n f :=
  H.keep h fun q hq => g.below.block q (H.lt h q hq)

/-- The examples' keys. -/
def lin (j : Nat) : Int := 10 * ((j : Int) + 1)
theorem lin_diff (i j : Nat) : lin j - lin i = 10 * ((j : Int) - i) := by unfold lin; omega
theorem lin_up (n : Nat) : Up lin n := fun j _ => by unfold lin; omega
theorem lin_near (n : Nat) : NearR 1 lin n 1 10 := by
  intro i j hi hj
  have := lin_diff j i
  omega
theorem lin_fits (n : Nat) : FitsOn 1 lin (Prs n) := near_fits (lin_up n) (by decide) (lin_near n)
theorem lin_ext (n : Nat) (x : Int) (hx : x = 10 * ((n : Int) + 1)) : ∀ i, upd lin n x i = lin i := by
  intro i
  by_cases h : i = n
  · subst h; rw [upd_at, hx]; rfl
  · exact if_neg h
theorem lin_low : LowOn 1 lin (Prs 5) 1 20 := by
  refine ⟨by decide, by decide, by decide, fun i j s => ?_, .inr ⟨0, 4, ⟨by decide, by decide⟩, by decide, by decide⟩⟩
  have := lin_diff i j
  have := s.1; have := s.2
  omega
theorem lin_top : TopOn 1 lin (Prs 5) 3 20 := by
  refine .inr ⟨by decide, by decide, by decide, fun i j s => ?_, 0, 4, ⟨by decide, by decide⟩, by decide⟩
  have := lin_diff i j
  have := s.1; have := s.2
  omega
theorem lin_six : FitsOn 1 (upd lin 5 51) (Prs 6) := by
  refine near_fits (a := 1) (b := 10) (up_upd (lin_up 5) (fun _ => by decide)) (by decide) (near_mk (by decide) (by decide) (fun i j s => ?_) (fun i j s => ?_))
  all_goals
    have := s.1; have := s.2
    have e1 : upd lin 5 51 i = lin i := upd_lo (by omega)
    by_cases h : j = 5
    · subst h
      rw [upd_at, e1]
      unfold lin
      omega
    · rw [upd_lo (by omega), e1]
      have := lin_diff i j
      omega
theorem lin_far : ¬ FitsOn 1 (upd (upd lin 5 51) 6 9223372036854775808) (Prs 7) := by
  intro h
  have := h 0 5 5 6 ⟨by decide, by decide⟩ ⟨by decide, by decide⟩
  exact absurd this (by decide +kernel)

set_option maxHeartbeats 4000000 in
theorem hshown {HF : World → Nat → (Nat → Prop) → Int → Nat → (Nat → Int) → Prop} (H : HullC HF) (w : World) :
    Calls Try.prog 9 #[] w fun e w' => e = .returned (.bool true) ∧ Gw w w' := by
  have HH : Aside (HullC HF) := H
  clear H
  go_enter Try.func9, Try.ntmps9
  go_wp2_with fail
  refine (HH.out.new 2 (by decide) (by decide) _).mono ?_
  rintro e w1 ⟨⟨p, S, rfl, hS, h1⟩, g1⟩
  have H1 : Hid (HF w1 p S 1 0 (fun _ => 0)) := h1
  clear h1
  go_wp2_with fail
  refine (HH.out.bad 1 (by decide) _).mono ?_
  rintro e w2 ⟨rfl, g2⟩
  have H2' : Hid (HF w2 p S 1 0 (fun _ => 0)) := HH.out.gw H1.out g2
  have G2 : Hid (Gw w w2) := g1.trans g2
  clear H1 g1 g2
  go_wp2_with fail
  refine (HH.out.least H2'.out (by decide) ).mono ?_
  rintro e w3 ⟨⟨a, b, rfl, hl, _⟩, g3⟩
  obtain ⟨rfl, rfl⟩ := hl.one (prs_pairs (fun j hj => by omega)) (low_zero 1 _ (by decide))
  have H3 : Hid (HF w3 p S 1 0 (fun _ => 0)) := HH.out.gw H2'.out g3
  have G3 : Hid (Gw w w3) := G2.out.trans g3
  clear H2' G2 g3 hl
  go_wp2_with fail
  refine (HH.out.most H3.out (by decide)).mono ?_
  rintro e w4 ⟨⟨a, b, rfl, ht, _⟩, g4⟩
  obtain ⟨rfl, rfl⟩ := top_few (by decide) ht
  have H4 : Aside (HF w4 p S 1 0 lin) := HH.out.ext (HH.out.gw H3.out g4) (fun i hi => by omega)
  have G4 : Aside (Gw w w4) := G3.out.trans g4
  have S4 : Aside (∀ q, S q → w.heap.size ≤ q) := hS
  clear H3 G3 g4 ht hS
  go_wp2_with fail
  go_loopg [6] 5 (fun gg s6 wr => ∃ (i : Nat) (S' : Nat → Prop), s6 = .int .i64 ((i : Int) + 1) ∧ i ≤ 5 ∧ 5 - i ≤ gg ∧ Aside (HF wr p S' 1 i lin) ∧ Aside (∀ q, S' q → w.heap.size ≤ q) ∧ Aside (Gw w wr))
  case atStart => exact ⟨0, S, rfl, by omega, by omega, H4, S4, G4⟩
  case round =>
    obtain ⟨i, S', rfl, h1, h2, HI, SI, GI⟩ := hrel
    clear H4 G4 S4
    by_cases hlt : i < 5
    · have hle : (i : Int) + 1 ≤ 5 := by omega
      obtain ⟨x, hx⟩ : ∃ x : Int, 10 * ((i : Int) + 1) = x := ⟨_, rfl⟩
      have wx := wu (x := x) (by omega) (by omega)
      go_wp2_with fail
      refine (HH.out.add HI.out x (by omega) (by omega) (by omega)).mono ?_
      rintro e w5 ⟨⟨ok, err, S2, rfl, hA, hF, hsub⟩, g5⟩
      have hk : ok = true ∧ err = 0 := by
        rcases hA with ⟨h0, h3, _⟩ | ⟨_, h4, h5⟩
        · exfalso
          have : lin (i - 1) < x := by unfold lin; omega
          omega
        · refine ⟨h5.2 ?_, h4⟩
          exact (lin_fits (i + 1)).congr (fun _ _ s => s) (fun p q _ => by rw [lin_ext i x hx.symm, lin_ext i x hx.symm])
      obtain ⟨rfl, rfl⟩ := hk
      have H5 : Hid (HF w5 p S2 1 (i + 1) lin) := HH.out.ext hF (fun q _ => lin_ext i x hx.symm q)
      have S5 : Hid (∀ q, S2 q → w.heap.size ≤ q) := fun q hq => by
        rcases hsub q hq with r | r
        · exact SI.out q r
        · have := GI.out.size; omega
      have G5 : Hid (Gw w w5) := Gs.gw GI.out g5 SI.out
      clear hA hF hsub g5
      go_wp2_with fail
      go_roundg (5 - (i + 1))
      case measure => omega
      case rel => exact ⟨i + 1, S2, by go_num, by omega, Nat.le_refl _, H5.out, S5.out, G5.out⟩
    · obtain rfl : i = 5 := by omega
      have H5 : Hid (HF wr p S' 1 5 lin) := HI.out
      have S5 : Hid (∀ q, S' q → w.heap.size ≤ q) := SI.out
      have G5 : Hid (Gw w wr) := GI.out
      clear HI SI GI
      go_wp2_with fail
      refine (HH.out.least H5.out (by decide)).mono ?_
      rintro e w6 ⟨⟨a, b, rfl, hl, _⟩, g6⟩
      obtain ⟨rfl, rfl⟩ := hl.one (prs_pairs (lin_up 5)) lin_low
      have H6 : Hid (HF w6 p S' 1 5 lin) := HH.out.gw H5.out g6
      have G6 : Hid (Gw w w6) := G5.out.trans g6
      clear hl g6 H5 G5
      go_wp2_with fail
      refine (HH.out.most H6.out (by decide)).mono ?_
      rintro e w7 ⟨⟨a, b, rfl, ht, _⟩, g7⟩
      obtain ⟨rfl, rfl⟩ := ht.one (prs_pairs (lin_up 5)) lin_top
      have H7 : Hid (HF w7 p S' 1 5 lin) := HH.out.gw H6.out g7
      have G7 : Hid (Gw w w7) := G6.out.trans g7
      clear ht g7 H6 G6
      go_wp2_with fail
      refine (HH.out.add H7.out 50 (by decide) (by decide) (by decide)).mono ?_
      rintro e w8 ⟨⟨ok, err, S2, rfl, hA, hF, hsub⟩, g8⟩
      obtain ⟨rfl, rfl⟩ := hA.one (.inl ⟨by decide, by decide, rfl, rfl⟩)
      have H8 : Hid (HF w8 p S2 1 5 lin) := hF
      have S8 : Hid (∀ q, S2 q → w.heap.size ≤ q) := fun q hq => by
        rcases hsub q hq with r | r
        · exact S5.out q r
        · have := G7.out.size; omega
      have G8 : Hid (Gw w w8) := Gs.gw G7.out g8 S5.out
      clear hA hF hsub g8 H7 G7 S5
      go_wp2_with fail
      refine (HH.out.add H8.out 51 (by decide) (by decide) (by decide)).mono ?_
      rintro e w9 ⟨⟨ok, err, S3, rfl, hA, hF, hsub⟩, g9⟩
      obtain ⟨rfl, rfl⟩ := hA.one (ok' := true) (err' := 0) (.inr ⟨by decide, rfl, ⟨fun _ => lin_six, fun _ => rfl⟩⟩)
      have H9 : Hid (HF w9 p S3 1 6 (upd lin 5 51)) := hF
      have S9 : Hid (∀ q, S3 q → w.heap.size ≤ q) := fun q hq => by
        rcases hsub q hq with r | r
        · exact S8.out q r
        · have := G8.out.size; omega
      have G9 : Hid (Gw w w9) := Gs.gw G8.out g9 S8.out
      clear hA hF hsub g9 H8 G8 S8
      go_wp2_with fail
      refine (HH.out.add H9.out 9223372036854775808 (by decide) (by decide) (by decide)).mono ?_
      rintro e w10 ⟨⟨ok, err, S4, rfl, hA, hF, hsub⟩, g10⟩
      obtain ⟨rfl, rfl⟩ := hA.one (ok' := false) (err' := 0) (.inr ⟨by decide, rfl, ⟨fun q => Bool.noConfusion q, fun q => absurd q lin_far⟩⟩)
      have H10 : Hid (HF w10 p S4 1 6 (upd lin 5 51)) := hF
      have G10 : Hid (Gw w w10) := Gs.gw G9.out g10 S9.out
      clear hA hF hsub g10 H9 G9 S9
      go_wp2_with fail
      refine (HH.out.count H10.out (by decide)).mono ?_
      rintro e w11 ⟨rfl, g11⟩
      go_wp2_with fail
      go_ret
      exact ⟨by simp, G10.out.trans g11⟩

end Go.Proofs.Ytocahgiabeifeaa
