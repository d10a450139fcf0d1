/- CodecOnce: the walk. -/
import Derived.Test.YtinefkljjnepjaaGreatAJS
import Derived.Test.YtinefkljjnepjaaGreatAJD2
namespace Go.Proofs.YtinefkljjnepjaaGreat
open Go.RowKit
set_option linter.unusedVariables false

/-- Bytes that are a run's are not so with more or fewer of them. -/
theorem Fit.one {f : Nat → Int} {m m' : Nat} (h : Fit f m) (h' : Fit f m') : m = m' := by rw [← h.1.all, ← h'.1.all]
/-- The run of bytes that are a run's. -/
abbrev fB (f : Nat → Int) : List Int := putB (numR f 4 8) (kF f) (vF f) (gF f) (nF f) (LF f)
theorem cat_lies {f : Nat → Int} {m : Nat} {g : Nat → Int} {l : List Int} (h : Lies f 0 l) (hl : l.length ≤ m) : Lies (cat f m g) 0 l := h.congr fun i hi => by unfold cat; rw [if_pos (by omega)]
/-- With more behind it is none. -/
theorem Fit.longer {f g : Nat → Int} {m k : Nat} (h : Fit f m) (bd : ∀ i, i < m → 0 ≤ f i ∧ f i < 256) (rg : RunG (numR f 4 8) (kF f) (vF f) (gF f) (nF f) (LF f)) (k0 : 0 < k) : ¬ Fit (cat f m g) (m + k) := fun t => by
  obtain ⟨l, e⟩ := h.1.once bd
  obtain ⟨q, _⟩ := rg.bytes (cat_lies (g := g) l (Nat.le_of_eq e))
  rw [e] at q
  have := q.one t
  omega
theorem BS.ltn {w : World} {ao : Option Addr} {n k : Nat} {f : Nat → Int} (h : BS w ao n f) (hk : k ≤ n) : BS w ao k f :=
  ⟨fun h0 => by
    obtain ⟨b, off, e, hb, hc⟩ := h.cells (by omega)
    exact ⟨b, off, e, hb, fun i hi => hc i (by omega)⟩, fun i hi => h.bd i (by omega)⟩
theorem bs_news {w : World} {ao : Option Addr} {n : Nat} {f : Nat → Int} (h : BS w ao n f) : ∀ y, ao = some y → ∀ j u, (bts f n)[j]? = some u → w.cell? (y.add j) = some u := by
  intro y e j u hu
  have hj : j < n := by
    have := (List.getElem?_eq_some_iff.1 hu).1
    rw [bts_len] at this
    exact this
  obtain ⟨b, off, e', hb, hc⟩ := h.cells (by omega)
  rw [e] at e'
  cases e'
  rw [Addr.add_lit]
  refine (hc j hj).trans ?_
  rw [← bts_at f hj]
  exact hu

set_option maxRecDepth 10000 in
set_option maxHeartbeats 4000000 in
theorem once_walk {HR : World → Nat → (Nat → Prop) → Int → (Nat → Int) → (Nat → Int) → (Nat → Bool) → Nat → List (List Sg) → Prop} (H : RunC HR) (ao : Option Addr) (m cp : Nat) (f : Nat → Int) (hm : m ≤ 2000000) (hcp : m ≤ cp) (hz : ao = none → m = 0 ∧ cp = 0) (w : World) (h : BS w ao m f) :
    Calls Tryz.prog 6 #[.slice ao m cp] w fun e w' => e = .returned (.bool true) ∧ Gw w w' := by
  have HH : Hid (RunC HR) := H
  have HB : Hid (BS w ao m f) := h
  have HZ : Hid (ao = none → m = 0 ∧ cp = 0) := hz
  obtain ⟨ii, hii, iz, is, iby⟩ := info_parts info_b
  clear H h hz
  go_enter Tryz.func6, Tryz.ntmps6
  go_wp2_with fail
  refine (shown12 HH.out w).mono ?_
  rintro e w1 ⟨rfl, g1⟩
  have G1 : Hid (Gw w w1) := g1
  clear g1
  go_wp2_with fail
  refine (jget HH.out ao m cp f (by omega) (.few (by omega)) w1 (HB.out.gw G1.out)).mono ?_
  rintro e w2 ⟨hG, g2⟩
  have G2 : Hid (Gw w w2) := G1.out.trans g2
  clear g2
  by_cases ft : Fit f m
  · rcases hG with ⟨_, px, Sx, rfl, hSx, hrx, rgx⟩ | ⟨nf, _⟩
    rotate_left
    · exact absurd ft nf
    have R2 : Hid (HR w2 px Sx (numR f 4 8) (kF f) (vF f) (gF f) (nF f) (LF f)) := hrx
    have RG : Hid (RunG (numR f 4 8) (kF f) (vF f) (gF f) (nF f) (LF f)) := rgx
    have FT : Hid (Fit f m) := ft
    clear hSx hrx rgx ft G1
    go_wp2_with fail
    refine (dget ao m cp f (by omega) HZ.out (.few (by omega)) w2 (HB.out.gw G2.out)).mono ?_
    rintro e w3 ⟨hD, g3⟩
    rcases hD with ⟨_, py, Sy, rfl, _, _⟩ | ⟨nf, _⟩
    rotate_left
    · exact absurd FT.out nf
    have R3 : Hid (HR w3 px Sx (numR f 4 8) (kF f) (vF f) (gF f) (nF f) (LF f)) := HH.out.gw R2.out g3
    have G3 : Hid (Gw w w3) := G2.out.trans g3
    clear g3 G2 R2
    go_wp2_with fail
    obtain ⟨li, le⟩ := FT.out.1.once HB.out.bd
    have LI : Hid (Lies f 0 (fB f) ∧ (fB f).length = m) := ⟨li, le⟩
    have PU : Hid (Calls Tryz.prog 11 #[.pointer (some ⟨px, 0, none⟩)] w3 fun e w' => (∃ bo c, e = .returned (.slice bo m c) ∧ BS w' bo m f) ∧ Gw w3 w') := (jput HH.out R3.out RG.out.bd RG.out.te).mono fun e w' ⟨⟨bo, c, a, b⟩, d⟩ => by
      refine ⟨⟨bo, c, by rw [← LI.out.2]; exact a, ?_⟩, d⟩
      have := bl_bs b (putB_bd _ _ _ _ _ _)
      rw [LI.out.2] at this
      exact this.congr fun i hi => (lies_lf LI.out.1 i (by rw [LI.out.2]; exact hi)).symm
    clear li le
    refine PU.out.mono ?_
    rintro e w4 ⟨⟨bo, bc, rfl, bs4⟩, g4⟩
    have B4 : Hid (BS w4 bo m f) := bs4
    have G4 : Hid (Gw w w4) := G3.out.trans g4
    have m1 : 20 ≤ m := FT.out.1.nn.1
    have O4 : Hid ((w4.alloc (.cells #[] 5)).ownsRow w4.heap.size 5 1 (.slice (some ⟨w4.heap.size, 0, none⟩) 0 0) 0 []) := World.ownsRow_made w4 #[] 0 (Nat.le_refl _) (Nat.zero_le _) rfl
    have NS : Hid (∀ y, ao = some y → ∀ j u, (bts f m)[j]? = some u → (w4.alloc (.cells #[] 5)).cell? (y.add j) = some u) := bs_news ((HB.out.gw G4.out).gw ((Gw.refl _).alloc _ _))
    clear bs4 g4 G3 R3 PU
    go_wp2_with (at_builtin; refine wpList_append_src _ rfl _ _ 31 rfl w4.heap.size 5 ii (.int .u8 0) 1 1 Tryz.underlying31 hii iz is iby rfl (by decide) _ 0 [] rfl O4.out ao m cp (bts f m) rfl HZ.out (by rw [bts_len, Nat.mul_one]) NS.out (bts_one f m) (by simp only [maxLen]; omega) (by omega) (by simp) ?_)
    intro v5 w5 r1 r2 r3
    obtain ⟨mo, mc, rfl⟩ := own_form r1
    have O5 : Hid (w5.ownsRow w4.heap.size 5 1 (.slice mo m mc) m (bts f m)) := r1
    have G45 : Hid (Gw w4 w5) := ((Gw.refl w4).alloc _ _).grown r2 (fun q hq => by cases hq; exact Nat.le_refl _)
    have z45 := G45.out.size
    clear r1 r2 r3 O4 NS
    go_wp2_with (at_builtin; refine wpList_append_own _ rfl _ _ 31 rfl w4.heap.size 5 ii (.int .u8 0) 1 1 Tryz.underlying31 hii iz is iby rfl (by decide) _ m _ rfl (O5.out.alloc _) ⟨w5.heap.size, 0, none⟩ 1 1 [.int .u8 0] rfl rfl (cell_one_new w5 _ _) (ints_oneCell .u8 [0]) (by simp only [maxLen]; omega) (by omega) (by simp; omega) ?_)
    intro v6 w6 r1 r2 r3
    obtain ⟨no, nc, rfl⟩ := own_form r1
    have G46 : Hid (Gw w4 w6) := (G45.out.alloc _ _).grown r2 (fun q hq => (World.ownsRow.lt O5.out q hq).1)
    have B6 : Hid (BS w6 no (m + 1) (cat f m (fun _ => 0))) := by
      have e : bts f m ++ [Value.int .u8 0] = bts (cat f m (fun _ => 0)) (m + 1) := by
        rw [bts_cat]
        rfl
      rw [e] at r1
      have h9 : BR w6 w4.heap.size (.slice no (m + 1) nc) (cat f m (fun _ => 0)) (m + 1) := r1
      exact br_bs h9 (cat_bd HB.out.bd (fun i _ => ⟨by decide, by decide⟩))
    clear r1 r2 r3 O5 G45
    go_wp2_with fail
    refine (jget HH.out no (m + 1) nc (cat f m (fun _ => 0)) (by omega) (.few (by omega)) w6 B6.out).mono ?_
    rintro e w7 ⟨hG, g7⟩
    rcases hG with ⟨nf, _⟩ | ⟨_, rfl⟩
    · exact absurd nf (FT.out.longer HB.out.bd RG.out (by decide))
    have G47 : Hid (Gw w4 w7) := G46.out.trans g7
    clear g7 G46 B6
    have sb : IntKind.i64.wrap ((m : Int) - 1) = ((m - 1 : Nat) : Int) := by rw [IntKind.wrap_i64]; omega
    have sb2 : (m : Int) - 1 = ((m - 1 : Nat) : Int) := by omega
    obtain ⟨m', hm'⟩ : ∃ m', m - 1 = m' := ⟨_, rfl⟩
    have HM : Hid (m - 1 = m') := hm'
    rw [hm'] at sb sb2
    have mc' : m' ≤ cp := by omega
    have mc2 : (m' : Int) ≤ (cp : Int) := by omega
    go_wp2_with fail
    refine (jget HH.out ao m' cp f (by omega) (.few (by omega)) w7 (((HB.out.gw G4.out).gw G47.out).ltn (by omega))).mono ?_
    rintro e w8 ⟨hG, g8⟩
    rcases hG with ⟨nf, _⟩ | ⟨_, rfl⟩
    · have := nf.one FT.out
      omega
    have G48 : Hid (Gw w4 w8) := G47.out.trans g8
    have cv1 := conv_b (B4.out.gw G48.out) bc
    have cv2 := conv_b ((HB.out.gw G4.out).gw G48.out) cp
    clear g8 G47 hm'
    generalize txt f m = tx at cv1 cv2
    go_wp2_with fail
    go_ret
    exact ⟨rfl, G4.out.trans G48.out⟩
  · rcases hG with ⟨nf, _⟩ | ⟨_, rfl⟩
    · exact absurd nf ft
    have NF : Hid (¬ Fit f m) := ft
    clear ft G1
    go_wp2_with fail
    refine (dget ao m cp f (by omega) HZ.out (.few (by omega)) w2 (HB.out.gw G2.out)).mono ?_
    rintro e w3 ⟨hD, g3⟩
    rcases hD with ⟨nf, _⟩ | ⟨_, rfl⟩
    · exact absurd nf NF.out
    have G3 : Hid (Gw w w3) := G2.out.trans g3
    clear g3 G2
    go_wp2_with fail
    go_ret
    exact ⟨rfl, G3.out⟩

end Go.Proofs.YtinefkljjnepjaaGreat
