/- LevelsChecks' walk. -/
import Derived.Test.YtmmkmakajolfhaaVLent
import Derived.Test.YtmmkmakajolfhaaVShown
namespace Go.Proofs.Ytmmkmakajolfhaa
open Go.RowKit
set_option linter.unusedVariables false

set_option maxRecDepth 10000 in
set_option maxHeartbeats 8000000 in
theorem checks8_walk (LL : LevelsC) (ao : Option Addr) (n cp : Nat) (f : Nat → Int) (eps : Int) (lo : Option Addr) (lc : Nat) (L : List (List Sg)) (e0 : -9223372036854775808 ≤ eps) (e1 : eps < 9223372036854775808) (hn : n ≤ 2000000) (hcp : n ≤ cp) (hao : ao = none → n = 0 ∧ cp = 0) (hL : Short L) (hlc : L.length ≤ lc) (w : World) (h : KS w ao n f) (hv : VS w lo L) :
    Calls Try.prog 3 #[.slice ao n cp, .int .i64 eps, .slice lo L.length lc] w fun e w' => e = .returned (.bool true) ∧ Gw w w' := by
  have HK : Aside (KS w ao n f) := h
  have HV : Aside (VS w lo L) := hv
  clear h hv
  have SH : Hid (∀ W, Calls Try.prog 8 #[] W fun e w' => e = .returned (.bool true) ∧ Gw W w') := fun W => shown8 LL W
  have RC : Hid (∀ W, KS W ao n f → VS W lo L → _) := fun W h v => rcheck8_any eps ao n cp f lo lc L e0 e1 (by omega) hcp (by have := hL.1; omega) (fun i hi => by have := hL.2 i hi; omega) W h v
  have LE : Hid (∀ W, VS W lo L → _) := fun W v => lent8_any lo lc L hL.1 hL.2 W v
  have ST : Hid (∀ (B : Nat) (W : World), VS W lo L → LentV W B L → _) := fun B W v b => still8_any lo B lc L hL.1 hL.2 W v b
  have CC : Hid (∀ (B cap : Nat) (bo : Option Addr), n ≤ cap → ∀ W, KS W bo n f → VS W (some ⟨B, 0, none⟩) L → _) := fun B cap bo hc W k v => LL.check eps bo n cap f (some ⟨B, 0, none⟩) (L.length + 1) L e0 e1 hn hc hL (by omega) W k v
  clear LL
  have hL1 := hL.1
  obtain ⟨ln, hln⟩ : ∃ ln, L.length = ln := ⟨_, rfl⟩
  rw [hln] at hlc hL1 RC LE ST CC ⊢
  clear hln hL
  obtain ⟨ii, hii, hz, hs, hby⟩ := info_parts info_k
  have A : Hid (ao = none → n = 0 ∧ cp = 0) := hao
  clear hao
  go_enter Try.func3, Try.ntmps3
  go_wp2_with fail
  refine (SH.out _).mono ?_
  rintro e w1 ⟨rfl, g1⟩
  have G1 : Aside (Gw w w1) := g1
  have hO' : Hid ((w1.alloc (.cells #[] 25)).ownsRow w1.heap.size 25 1 (.slice (some ⟨w1.heap.size, 0, none⟩) 0 0) 0 []) := World.ownsRow_made w1 #[] 0 (Nat.le_refl _) (Nat.zero_le _) rfl
  have G0' : Hid (Gw w (w1.alloc (.cells #[] 25))) := g1.alloc _ _
  have hK' : Hid (∀ ad, ao = some ad → ∀ j u, ((List.range n).map fun i => Value.int .u64 (f i))[j]? = some u → (w1.alloc (.cells #[] 25)).cell? (ad.add j) = some u) := ks_news (HK.out.gw G0'.out)
  clear g1
  go_wp2_with (at_builtin; refine wpList_append_src _ rfl _ _ 22 rfl w1.heap.size 25 ii (.int .u64 0) 1 8 Try.underlying22 hii hz hs hby rfl (by decide) _ 0 [] rfl hO'.out ao n cp ((List.range n).map fun i => Value.int .u64 (f i)) rfl A.out (by simp) hK'.out (keys_one n f) (by simp only [maxLen]; omega) (by omega) (by simp) ?_)
  intro v' w2 q1 q2 q3
  obtain ⟨b, cap, rfl, hb, hcap, hb2⟩ := own_slice q1 q3
  have Q1 : Hid (w2.ownsRow w1.heap.size 25 1 (.slice (some ⟨b, 0, none⟩) n cap) n ((List.range n).map fun i => Value.int .u64 (f i))) := q1
  have Q2 : Hid (Gw w w2) := G0'.out.grown q2 (fun q hq => by cases hq; exact G1.out.size)
  have hb' : w.heap.size ≤ b := Nat.le_trans G1.out.size hb
  clear q1 q2 q3 hO' hK' G0'
  go_wp2_with (at_builtin; refine wpList_append_own _ rfl _ _ 22 rfl w1.heap.size 25 ii (.int .u64 0) 1 8 Try.underlying22 hii hz hs hby rfl (by decide) _ n _ rfl (Q1.out.alloc _) ⟨w2.heap.size, 0, none⟩ 1 1 [.int .u64 77] rfl rfl (new_one w2 77) (ints_oneCell .u64 [77]) (by simp only [maxLen]; omega) (by omega) (by simp; omega) ?_)
  intro v' w3 q1 q2 q3
  obtain ⟨b3, cap3, rfl, hb3, hcap3, hb4⟩ := own_slice q1 q3
  have G3 : Aside (Gw w w3) := (Q2.out.alloc _ _).grown q2 (fun q hq => by cases hq; exact hb')
  have K3 : Aside (KS w3 (some ⟨b3, 0, none⟩) n f) := ks_own q1 (by omega) (fun i hi => by rw [List.getElem?_append_left (by simpa using hi)]; simp [hi]) HK.out.bd
  have c3 : w3.cell? ⟨b3, n, none⟩ = some (.int .u64 77) := by
    rw [q1.cellAt n (by omega), List.getElem?_append_right (by simp)]
    simp
  have C77 : Aside (∀ w', Gw w3 w' → w'.cell? ⟨b3, n, none⟩ = some (.int .u64 77) ∧ b3 < w'.heap.size) := fun w' g => ⟨(g.cell _ _ hb4).trans c3, Nat.lt_of_lt_of_le hb4 g.size⟩
  have nc3 : n ≤ cap3 := by omega
  clear q1 q2 q3 Q1 Q2 c3 hb hb' hb2 hcap hb3 G1
  go_wp2_with fail
  refine (LE.out _ (HV.out.gw G3.out)).mono ?_
  rintro e w4 ⟨⟨B, rfl, hB⟩, g4⟩
  have LB : Aside (LentV w4 B L) := hB
  have G4 : Aside (Gw w3 w4) := g4
  clear hB g4 LE
  go_wp2_with fail
  refine (CC.out _ _ _ nc3 _ (K3.out.gw G4.out) LB.out.vs).mono ?_
  rintro e w5 ⟨⟨E, rfl, hE⟩, g5⟩
  have CE : Aside (CheckR eps f n L E) := hE
  have G5 : Aside (Gw w4 w5) := g5
  clear hE g5 CC
  go_wp2_with fail
  refine (RC.out _ (HK.out.gw (G3.out.trans (G4.out.trans G5.out))) (HV.out.gw (G3.out.trans (G4.out.trans G5.out)))).mono ?_
  rintro e w6 ⟨⟨E', rfl, hE⟩, g6⟩
  obtain rfl := CE.out.one hE
  have G6 : Aside (Gw w4 w6) := G5.out.trans g6
  clear hE g6 RC G5
  go_wp2_with fail
  refine (ST.out _ _ (HV.out.gw (G3.out.trans (G4.out.trans G6.out))) (LB.out.gw G6.out)).mono ?_
  rintro e w7 ⟨rfl, g7⟩
  have G7 : Aside (Gw w3 w7) := G4.out.trans (G6.out.trans g7)
  clear g7 ST G6 G4 LB
  obtain ⟨c77, b77⟩ := C77.out w7 G7.out
  have n77 : n < n + 1 := by omega
  go_wp2_with fail
  clear c77 b77
  go_loopg [11] n (fun gg s11 wr => ∃ i : Nat, s11 = .int .i64 i ∧ i ≤ n ∧ n - i ≤ gg ∧ Aside (Gw w3 wr))
  case atStart => exact ⟨0, rfl, Nat.zero_le _, by omega, G7⟩
  case round =>
    obtain ⟨i, rfl, h1, h2, G⟩ := hrel
    by_cases hlt : i < n
    · obtain ⟨bk, off, rfl, hbk, hc⟩ := (HK.out.gw (G3.out.trans G.out)).cells (by omega)
      obtain ⟨b', off', e', hbk', hc'⟩ := (K3.out.gw G.out).cells (by omega)
      cases e'
      have q1 := hc i hlt
      have q2 := hc' i hlt
      clear hc hc'
      obtain ⟨fi, hfi⟩ : ∃ y, f i = y := ⟨_, rfl⟩
      rw [hfi] at q1 q2
      rw [Nat.zero_add] at q2
      clear hfi
      have ti : (i : Int) < ((n + 1 : Nat) : Int) := by omega
      have ti' : i < n + 1 := by omega
      go_wp2_with fail
      go_quiet (fail)
      go_wp2_with fail
      go_roundg (n - (i + 1))
      case measure => omega
      case rel => exact ⟨i + 1, by go_num, by omega, Nat.le_refl _, (show Aside _ from G.out.drewN _)⟩
    · go_wp2_with fail
      go_ret
      exact ⟨rfl, G3.out.trans G.out⟩

end Go.Proofs.Ytmmkmakajolfhaa
