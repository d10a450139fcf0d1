/- Package levels: needLevel. -/
import Derived.Test.YtmmkmakajolfhabYSeg
namespace Go.Proofs.Ytmmkmakajolfhab
open Go.RowKit
set_option linter.unusedVariables false
attribute [local go_sem] run_store_float

/-- What is wrong with a level. -/
def levE (eps : Int) (g : Nat → Int) (m : Nat) (l : List Sg) : Int := if tileB m 0 l then lvlE eps g l else 82
set_option maxHeartbeats 4000000 in
theorem needlevel_any (M : ModelC) (eps : Int) (bo : Option Addr) (m c : Nat) (g : Nat → Int) (m1 : m ≤ 4000000) (mc : m ≤ c) (u : Up g m) (ao : Option Addr) (cl : Nat) (l : List Sg) (hl : l.length ≤ 4000000) (w : World) (k : KS w bo m g) (h : GS w ao l) :
    Calls Try.prog 33 #[.slice bo m c, .int .i64 eps, .slice ao l.length cl] w fun e w' => EndOf e (levE eps g m l) ∧ Gw w w' := by
  have HG : Aside (GS w ao l) := h
  have HK : Aside (KS w bo m g) := k
  have UP : Aside (Up g m) := u
  have NT : Hid (∀ W, GS W ao l → Calls Try.prog 43 #[.int .i64 (m : Int), .slice ao l.length cl] W fun e w' => EndOf e (if tileB m 0 l then 0 else 82) ∧ Gw W w') := fun W h => needtiles_any ao cl l m hl m1 W h
  have NS : Hid _ := fun (s : Sg) (OK : s.ok) (bk off n c : Nat) (h : Nat → Int) (hm : (n : Int) = s.te - s.fr) (m0 : 0 < n) (m1 : n ≤ 4000000) (mc : n ≤ c) (u : Up h n) (w : World) (k : KS w (some ⟨bk, off, none⟩) n h) => needseg_any M eps s OK bk off n c h hm m0 m1 mc u w k
  clear h k u M
  obtain ⟨E, hE⟩ : ∃ E, levE eps g m l = E := ⟨_, rfl⟩
  have HE : Aside (E = if tileB m 0 l then lvlE eps g l else 82) := hE.symm
  rw [hE]
  clear hE
  obtain ⟨n, hn⟩ : ∃ n, l.length = n := ⟨_, rfl⟩
  have LN : Aside (l.length = n) := hn
  rw [hn] at hl NT
  rw [hn]
  clear hn
  go_enter Try.func33, Try.ntmps33
  go_wp2_with fail
  refine (NT.out _ HG.out).mono ?_
  rintro e w1 ⟨h1, g1⟩
  have G1 : Aside (Gw w w1) := g1
  clear g1 NT
  by_cases tb : tileB m 0 l = true
  · have TI : Aside (tileB m 0 l = true) := tb
    rw [if_pos tb] at h1
    obtain rfl : e = .returned (.tuple #[]) := by
      rcases h1 with ⟨_, q⟩ | ⟨q, _⟩
      · exact q
      · exact absurd rfl q
    have HE1 : Aside (E = lvlE eps g l) := by
      have := HE.out
      rw [if_pos tb] at this
      exact this
    clear HE tb h1
    go_wp2_with fail
    go_loopg [14] n (fun gg s14 wr => ∃ i : Nat, s14 = .int .i64 i ∧ i ≤ n ∧ n - i ≤ gg ∧ Aside (E = lvlE eps g (l.drop i)) ∧ Aside (Gw w wr))
    case atStart => exact ⟨0, rfl, Nat.zero_le _, by omega, HE1, G1⟩
    case round =>
      clear HE1 G1
      obtain ⟨i, rfl, h1, h2, T, G⟩ := hrel
      by_cases hlt : i < n
      · obtain ⟨sb, sf, rfl, hsb, hc⟩ := (HG.out.gw G.out).cells (by rw [LN.out]; omega)
        have q := hc i (by rw [LN.out]; exact hlt)
        have TT : Aside (E = lvlE eps g (l.getD i sg0 :: l.drop (i + 1))) := by rw [← drop_at (by rw [LN.out]; exact hlt)]; exact T.out
        have TA := tile_at TI.out i (by rw [LN.out]; exact hlt)
        have OK := HG.out.ok i (by rw [LN.out]; exact hlt)
        obtain ⟨s, hs⟩ : ∃ s, l.getD i sg0 = s := ⟨_, rfl⟩
        rw [hs] at q TT TA OK
        clear hs hc T
        obtain ⟨fa, hfa⟩ : ∃ fa : Nat, s.fr = fa := ⟨s.fr.toNat, by omega⟩
        obtain ⟨tb, htb⟩ : ∃ tb : Nat, s.te = tb := ⟨s.te.toNat, by omega⟩
        have fm : fa < m := by omega
        have ft : fa < tb := by omega
        have tm : tb ≤ m := by omega
        clear TA
        obtain ⟨bk, off, rfl, hbk, hkc⟩ := (HK.out.gw G.out).cells (by omega)
        have CC : Hid (∀ W, Gw w W → Calls Try.prog 44 #[.slice (some ⟨bk, off + fa, none⟩) (tb - fa) (c - fa), .int .i64 eps, segV s.k s.sl s.ic s.fr s.te] W fun e w' => EndOf e (segE eps g s) ∧ Gw W w') := fun W gW => by
          have := NS.out s OK bk (off + fa) (tb - fa) (c - fa) (sh g fa) (by omega) (by omega) (by omega) (by omega) (sh_up UP.out tm) W (ks_cut (HK.out.gw gW) tm)
          rw [← segH_eq, hfa, htb, Int.toNat_natCast, show ((tb : Int) - (fa : Int)).toNat = tb - fa by omega]
          rw [hfa, htb] at this
          exact this
        obtain ⟨X, hX⟩ : ∃ X, segE eps g s = X := ⟨_, rfl⟩
        have TX : Aside (E = if X ≠ 0 then X else lvlE eps g (l.drop (i + 1))) := by
          have := TT.out
          rw [lvlE_cons, hX] at this
          exact this
        rw [hX] at CC
        obtain ⟨sk, ssl, sic, sfr, ste⟩ := s
        obtain rfl : sfr = fa := hfa
        obtain rfl : ste = tb := htb
        have c0 : wr.cell? ⟨sb, sf + i * 5, none⟩ = some (.int .u64 sk) := q.c0
        have c1 : wr.cell? ⟨sb, sf + i * 5 + 1, none⟩ = some (.float .f64 ssl) := q.c1
        have c2 : wr.cell? ⟨sb, sf + i * 5 + 2, none⟩ = some (.float .f64 sic) := q.c2
        have c3 : wr.cell? ⟨sb, sf + i * 5 + 3, none⟩ = some (.int .i64 (fa : Int)) := q.c3
        have c4 : wr.cell? ⟨sb, sf + i * 5 + 4, none⟩ = some (.int .i64 (tb : Int)) := q.c4
        have G5 : Aside (Gw w (wr.alloc (.cells #[.int .u64 sk, .float .f64 ssl, .float .f64 sic, .int .i64 (fa : Int), .int .i64 (tb : Int)] 38))) := G.out.alloc _ _
        clear q hX TT hkc G OK
        have tc : tb ≤ c := by omega
        have fc : ¬ fa = c := by omega
        have cf : ¬ c = fa := by omega
        have i1 : (0 : Int) ≤ (fa : Int) := by omega
        have i2 : (fa : Int) ≤ (tb : Int) := by omega
        have i3 : (tb : Int) ≤ (c : Int) := by omega
        have ft' : fa ≤ tb := by omega
        go_wp2_with fail
        go_region_dies
        all_goals refine (CC.out _ G5.out.drew).mono ?_
        all_goals rintro e w6 ⟨he, g6⟩
        all_goals have G6 : Aside (Gw w w6) := G5.out.drew.trans g6
        all_goals clear g6
        all_goals rcases he with ⟨x0, rfl⟩ | ⟨x0, rfl⟩
        all_goals first
          | (have E5 : E = X := by rw [TX.out, if_pos x0]
             subst E5
             go_wp2_with fail
             exact ⟨rfl, .inr ⟨x0, rfl⟩, G6.out⟩)
          | (have TN : Aside (E = lvlE eps g (l.drop (i + 1))) := by
               have := TX.out
               rw [if_neg (fun q => q x0)] at this
               exact this
             clear TX
             go_wp2_with fail
             refine wpAny_done (by kernel_rfl) ?_ _
             go_wp2_with fail
             go_roundg (n - (i + 1))
             case measure => omega
             case rel => exact ⟨i + 1, by go_num, by omega, Nat.le_refl _, TN, G6⟩)
      · have e : i = n := by omega
        subst e
        have E0 : E = 0 := by
          rw [T.out, List.drop_eq_nil_of_le (by rw [LN.out]; exact Nat.le_refl _)]; rfl
        subst E0
        go_wp2_with fail
        go_end0
        exact ⟨.inl ⟨rfl, rfl⟩, G.out⟩
  · rw [if_neg tb] at h1
    obtain rfl : e = .panicked (thrown 82) := by
      rcases h1 with ⟨q, _⟩ | ⟨_, q⟩
      · exact absurd q (by decide)
      · exact q
    have E5 : E = 82 := by rw [HE.out, if_neg tb]
    subst E5
    clear HE tb h1
    go_wp2_with fail
    exact ⟨rfl, .inr ⟨by decide, rfl⟩, G1.out⟩

end Go.Proofs.Ytmmkmakajolfhab
