/- Package levels: needSegment, needLevel. -/
import Derived.Test.YtmmkmakajolfhabYFirst
import Derived.RegionDies
namespace Go.Proofs.Ytmmkmakajolfhab
open Go.RowKit
set_option linter.unusedVariables false
attribute [local go_sem] run_store_float

/-- What is wrong with a segment over the keys of its stretch. -/
def segH (eps : Int) (h : Nat → Int) (m : Nat) (s : Sg) : Int :=
  if errM s.sl s.ic s.fr s.te ≠ 0 then errM s.sl s.ic s.fr s.te else if s.k ≠ h 0 then 83 else if eps < worst (away s.k s.sl s.ic s.fr s.te h) m then 85 else 0
theorem segH_eq (eps : Int) (f : Nat → Int) (s : Sg) : segH eps (sh f s.fr.toNat) (s.te - s.fr).toNat s = segE eps f s := rfl

set_option maxHeartbeats 4000000 in
theorem needseg_any (M : ModelC) (eps : Int) (s : Sg) (OK : s.ok) (bk off m c : Nat) (h : Nat → Int) (hm : (m : Int) = s.te - s.fr) (m0 : 0 < m) (m1 : m ≤ 4000000) (mc : m ≤ c) (u : Up h m) (w : World) (k : KS w (some ⟨bk, off, none⟩) m h) :
    Calls Try.prog 44 #[.slice (some ⟨bk, off, none⟩) m c, .int .i64 eps, segV s.k s.sl s.ic s.fr s.te] w fun e w' => EndOf e (segH eps h m s) ∧ Gw w w' := by
  obtain ⟨sk, ssl, sic, sfr, ste⟩ := s
  have HK : Aside (KS w (some ⟨bk, off, none⟩) m h) := k
  have UP : Aside (Up h m) := u
  have HM : Aside ((m : Int) = ste - sfr) := hm
  have CK : Hid (∀ W, Calls Try.prog 41 #[segV sk ssl sic sfr ste] W fun e w' => e = .returned (.int .i64 (errM ssl sic sfr ste)) ∧ Gw W w') := fun W => M.check sk ssl sic sfr ste OK W
  have OF : Hid (∀ W, KS W (some ⟨bk, off, none⟩) m h → Calls Try.prog 58 #[segV sk ssl sic sfr ste, .slice (some ⟨bk, off, none⟩) m c] W fun e w' => OffOut e sk ssl sic sfr ste m h ∧ Gw W w') := fun W hk => M.off sk ssl sic sfr ste _ m c h OK (by omega) mc W hk
  obtain ⟨E, hE⟩ : ∃ E, segH eps h m ⟨sk, ssl, sic, sfr, ste⟩ = E := ⟨_, rfl⟩
  have HE : Aside (E = if errM ssl sic sfr ste ≠ 0 then errM ssl sic sfr ste else if sk ≠ h 0 then 83 else if eps < worst (away sk ssl sic sfr ste h) m then 85 else 0) := hE.symm
  rw [hE]
  obtain ⟨X, hX⟩ : ∃ X, errM ssl sic sfr ste = X := ⟨_, rfl⟩
  have HX : Aside (errM ssl sic sfr ste = X) := hX
  rw [hX] at CK HE
  have SB : Aside (Sb (w.alloc (.cells #[.int .u64 sk, .float .f64 ssl, .float .f64 sic, .int .i64 sfr, .int .i64 ste] 38)) w.heap.size sk ssl sic sfr ste) := heap_alloc_new w _
  have G0 : Aside (Gw w (w.alloc (.cells #[.int .u64 sk, .float .f64 ssl, .float .f64 sic, .int .i64 sfr, .int .i64 ste] 38))) := (Gw.refl w).alloc _ _
  clear hE hX k u hm OK M
  go_enter Try.func44, Try.ntmps44
  go_wp2_with fail
  generalize w.alloc (.cells #[.int .u64 sk, .float .f64 ssl, .float .f64 sic, .int .i64 sfr, .int .i64 ste] 38) = w0 at SB G0 ⊢
  obtain ⟨xb, hxb⟩ : ∃ xb, w.heap.size = xb := ⟨_, rfl⟩
  rw [hxb] at SB ⊢
  clear hxb
  refine (CK.out _).mono ?_
  rintro e w1 ⟨rfl, g1⟩
  have SB1 : Aside (Sb w1 xb sk ssl sic sfr ste) := SB.out.gw g1
  have G1 : Aside (Gw w w1) := G0.out.trans g1
  clear g1 SB G0
  by_cases x0 : X = 0
  · subst x0
    have HE1 : Aside (E = if sk ≠ h 0 then 83 else if eps < worst (away sk ssl sic sfr ste h) m then 85 else 0) := by
      have := HE.out
      rw [if_neg (fun q => q rfl)] at this
      exact this
    obtain ⟨z0, z1, z2, z3, z4⟩ := SB1.out.cells
    have zl := SB1.out.lt
    obtain ⟨kb, kf, ekk, hkb, hkc⟩ := (HK.out.gw G1.out).cells m0
    cases ekk
    have kc := hkc 0 m0
    rw [Nat.add_zero] at kc
    obtain ⟨gf, hgf⟩ : ∃ y, h 0 = y := ⟨_, rfl⟩
    have GF : Aside (h 0 = gf) := hgf
    rw [hgf] at kc HE1
    clear hkc hgf HE
    go_wp2_with fail
    refine (need_ok 0 _).mono ?_
    rintro e w2 ⟨rfl, rfl⟩
    by_cases kk : sk = gf
    · have b3 : (sk == gf) = true := by simpa using kk
      have HE2 : Aside (E = if eps < worst (away sk ssl sic sfr ste h) m then 85 else 0) := by
        have := HE1.out
        rw [if_neg (fun q => q kk)] at this
        exact this
      have GK : Aside (h 0 = sk) := by show _ = _; rw [GF.out, kk]
      clear HE1 GF kk
      go_wp2_with fail
      go_quiet (first | (go_at_call 31; refine Calls.quiet_of_same (need_ok 83 _)))
      go_wp2_with fail
      have G2 : Aside (Gw w (w2.drewN nq)) := G1.out.drewN _
      refine (OF.out _ (HK.out.gw G2.out)).mono ?_
      rintro e w3 ⟨⟨N, er, rfl, hN⟩, g3⟩
      have G3 : Aside (Gw w w3) := G2.out.trans g3
      obtain ⟨rfl, rfl⟩ : N = worst (away sk ssl sic sfr ste h) m ∧ er = 0 := by
        rcases hN with ⟨a, _⟩ | ⟨_, a, _⟩ | ⟨_, _, a, b⟩
        · exact absurd HX.out a
        · exact absurd ⟨HM.out, GK.out, UP.out⟩ a
        · exact ⟨a, b⟩
      generalize worst (away sk ssl sic sfr ste h) m = N at HE2 hN ⊢
      clear hN g3 G2 G1 SB1 z0 z1 z2 z3 z4 zl kc hkb HX GK UP HM HK OF CK
      go_wp2_with fail
      refine (need_ok 0 _).mono ?_
      rintro e w4 ⟨rfl, rfl⟩
      by_cases big : eps < N
      · have b4 : decide (N ≤ eps) = false := by simp; omega
        have E5 : E = 85 := by rw [HE2.out, if_pos big]
        subst E5
        clear HE2 big
        go_wp2_with fail
        refine (need_bad 85 _).mono ?_
        rintro e w5 ⟨rfl, rfl⟩
        go_wp2_with fail
        exact ⟨rfl, .inr ⟨by decide, rfl⟩, G3.out⟩
      · have b4 : decide (N ≤ eps) = true := by simp; omega
        have E5 : E = 0 := by rw [HE2.out, if_neg big]
        subst E5
        clear HE2 big
        go_wp2_with fail
        refine (need_ok 85 _).mono ?_
        rintro e w5 ⟨rfl, rfl⟩
        go_wp2_with fail
        go_end0
        exact ⟨.inl ⟨rfl, rfl⟩, G3.out⟩
    · have b3 : (sk == gf) = false := by simpa using kk
      have E5 : E = 83 := by rw [HE1.out, if_pos kk]
      subst E5
      clear HE1
      go_wp2_with fail
      go_region_dies
      all_goals go_wp2_with fail
      all_goals refine (need_bad 83 _).mono ?_
      all_goals rintro e w3 ⟨rfl, rfl⟩
      all_goals go_wp2_with fail
      all_goals exact ⟨rfl, .inr ⟨by decide, rfl⟩, (by repeat (first | exact G1.out | refine Gw.drew ?_ | refine Gw.drewN ?_ _))⟩
  · have tx : (X == 0) = false := by simpa using x0
    have E5 : E = X := by rw [HE.out, if_pos x0]
    subst E5
    clear HE
    go_wp2_with fail
    refine (need_bad _ _).mono ?_
    rintro e w2 ⟨rfl, rfl⟩
    go_wp2_with fail
    exact ⟨rfl, .inr ⟨x0, rfl⟩, G1.out⟩

end Go.Proofs.Ytmmkmakajolfhab
