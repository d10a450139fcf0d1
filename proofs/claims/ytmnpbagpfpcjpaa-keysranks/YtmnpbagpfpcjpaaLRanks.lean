/- KeysRanks returns true for every list of keys and every key. -/
import Derived.Test.YtmnpbagpfpcjpaaKShown
import Derived.Test.YtmnpbagpfpcjpaaKRef
import Derived.Test.YtmnpbagpfpcjpaaKApp
namespace Go.Proofs.Ytmnpbagpfpcjpaa
open Go.RowKit
set_option linter.unusedVariables false

theorem RankA.one {f : Nat → Int} {n : Nat} {q m m' : Int} {t t' : Bool} (h : RankA f n q m t) (k : RankA f n q m' t') : m = m' ∧ t = t' := by
  rcases h with ⟨u, a, rfl, ha⟩ | ⟨u, rfl, rfl⟩
  · rcases k with ⟨_, b, rfl, hb⟩ | ⟨u', _⟩
    · obtain ⟨rfl, rfl⟩ := ha.one hb; exact ⟨rfl, rfl⟩
    · exact absurd u u'
  · rcases k with ⟨u', _⟩ | ⟨_, rfl, rfl⟩
    · exact absurd u' u
    · exact ⟨rfl, rfl⟩

set_option maxHeartbeats 2000000 in
theorem ranks_walk (ao : Option Addr) (n c : Nat) (f : Nat → Int) (q : Int) (hn : n * 8 ≤ 140737488351232) (hao : ao = none → n = 0 ∧ c = 0) (w : World) (h : KS w ao n f) :
    Calls Try.prog 5 #[.slice ao n c, .int .u64 q] w fun e w' => e = .returned (.bool true) ∧ Gb w w' := by
  go_enter Try.func5, Try.ntmps5
  go_wp2_with fail
  refine (shown_any _).mono ?_
  rintro e w1 ⟨rfl, g1⟩
  obtain ⟨ii, hii, hz, hs, hby⟩ := info_parts info_k
  have hO := World.ownsRow_made (base := w1.heap.size) (e := 33) (size := 1) w1 #[] 0 (Nat.le_refl _) (by simp [maxLen]) (by simp)
  have G0 := g1.alloc #[] 33
  have hK := ks_news (h.gb G0)
  have G0' : Hid (Gb w (w1.alloc (.cells #[] 33))) := G0
  have hO' : Hid ((w1.alloc (.cells #[] 33)).ownsRow w1.heap.size 33 1 (.slice (some ⟨w1.heap.size, 0, none⟩) 0 0) 0 []) := hO
  have hK' : Hid (∀ ad, ao = some ad → ∀ j u, ((List.range n).map fun i => Value.int .u64 (f i))[j]? = some u → (w1.alloc (.cells #[] 33)).cell? (ad.add j) = some u) := hK
  have A : Hid (ao = none → n = 0 ∧ c = 0) := hao
  clear hO hK G0 hao
  go_wp2_with (at_builtin; refine wpList_append_src _ rfl _ _ 30 rfl w1.heap.size 33 ii (.int .u64 0) 1 8 Try.underlying30 hii hz hs hby rfl (by decide) _ 0 [] rfl hO'.out ao n c ((List.range n).map fun i => Value.int .u64 (f i)) rfl A.out (by simp) hK'.out (keys_one n f) (by simp only [maxLen]; omega) (by omega) (by simp) ?_)
  intro v' w2 q1 q2 q3
  obtain ⟨b, cap, rfl, hb, hcap, hb2⟩ := own_slice q1 q3
  have Q1 : Hid (w2.ownsRow w1.heap.size 33 1 (.slice (some ⟨b, 0, none⟩) n cap) n ((List.range n).map fun i => Value.int .u64 (f i))) := q1
  have Q2 : Hid (Gb w w2) := G0'.out.grown q2 (fun q hq => by cases hq; exact g1.size)
  clear q1 q2 q3 hO' hK' G0'
  go_wp2_with (at_builtin; refine wpList_append_own _ rfl _ _ 30 rfl w1.heap.size 33 ii (.int .u64 0) 1 8 Try.underlying30 hii hz hs hby rfl (by decide) _ n _ rfl (Q1.out.alloc _) ⟨w2.heap.size, 0, none⟩ 1 1 [.int .u64 77] rfl rfl (new_one w2 77) (ints_oneCell .u64 [77]) (by simp only [maxLen]; omega) (by omega) (by simp; omega) ?_)
  intro v' w3 q1 q2 q3
  obtain ⟨b3, cap3, rfl, hb3, hcap3, hb4⟩ := own_slice q1 q3
  have G3 : Gb w w3 := (Q2.out.alloc _ _).grown q2 (fun q hq => by cases hq; exact Nat.le_trans g1.size hb)
  have K3 : KS w3 (some ⟨b3, 0, none⟩) n f := ks_own q1 (by omega) (fun i hi => by rw [List.getElem?_append_left (by simpa using hi)]; simp [hi]) h.bd
  have c3 : w3.cell? ⟨b3, n, none⟩ = some (.int .u64 77) := by
    rw [q1.cellAt n (by omega), List.getElem?_append_right (by simp)]
    simp
  clear q1 q2 q3 Q1 Q2 g1
  go_wp2_with fail
  refine (rank_any _ n cap3 f q (by omega) _ K3).mono ?_
  rintro e w4 ⟨⟨m, t, rfl, hr⟩, g4⟩
  have H : Hid (RankA f n q m t) := hr
  clear hr
  have c4 := (g4.cell b3 n hb4).trans c3
  clear c3
  go_wp2_with fail
  refine (rrank_any ao n c f q (by omega) _ (h.gb (G3.trans g4))).mono ?_
  rintro e w5 ⟨⟨m', t', rfl, hr⟩, g5⟩
  obtain ⟨rfl, rfl⟩ := hr.one H.out
  clear hr
  have hb5 : b3 < w4.heap.size := Nat.lt_of_lt_of_le hb4 g4.size
  have c5 := (g5.cell b3 n hb5).trans c4
  clear c4
  go_wp2_with fail
  refine (rising_any _ n cap3 f (by omega) _ (K3.gb (g4.trans g5))).mono ?_
  rintro e w6 ⟨⟨r, rfl, hr⟩, g6⟩
  have U : Hid (r = true ↔ Up f n) := hr
  clear hr
  have hb6 : b3 < w5.heap.size := Nat.lt_of_lt_of_le hb5 g5.size
  have c6 := (g6.cell b3 n hb6).trans c5
  clear c5
  go_wp2_with fail
  refine (same_any _ ao n cap3 c f f (by omega) _ (K3.gb ((g4.trans g5).trans g6)) (h.gb (((G3.trans g4).trans g5).trans g6)) (fun _ _ => rfl)).mono ?_
  rintro e w7 ⟨rfl, g7⟩
  have hb7 : b3 < w6.heap.size := Nat.lt_of_lt_of_le hb6 g6.size
  have c7 := (g7.cell b3 n hb7).trans c6
  clear c6
  go_wp2_with fail
  refine (rrising_any ao n c f (by omega) _ (h.gb ((((G3.trans g4).trans g5).trans g6).trans g7))).mono ?_
  rintro e w8 ⟨⟨r', rfl, hr⟩, g8⟩
  have er : r' = r := by
    have := hr.trans U.out.symm
    cases r <;> cases r' <;> simp_all
  subst er
  clear hr U
  go_wp2_with fail
  go_ret
  exact ⟨by simp, ((((G3.trans g4).trans g5).trans g6).trans g7).trans g8⟩

end Go.Proofs.Ytmnpbagpfpcjpaa
