/- Of, the document's Of, and the statements' own copy with a mark behind it. -/
import Derived.Test.YtnkcnfpbbdlifabE3Mem
import Derived.Test.YtnkcnfpbbdlifabKPlain
import Derived.Deep.LoopGhost
import Derived.Deep.QuietTactic
import Derived.BigQuiet
import Derived.OwnWalk
namespace Go.Proofs.Ytnkcnfpbbdlifab
open Go.RowKit
set_option linter.unusedVariables false


/-- The keys of a row that was appended to. -/
theorem ks_of_own {w : World} {base g n cap : Nat} {f : Nat → Int} (h : w.ownsRow base 30 1 (.slice (some ⟨g, 0, none⟩) n cap) n ((List.range n).map fun i => Value.int .u64 (f i))) (bd : ∀ i, i < n → 0 ≤ f i ∧ f i < 18446744073709551616) : KS w (some ⟨g, 0, none⟩) n f :=
  ⟨fun h0 => ⟨g, 0, rfl, (h.lt g rfl).2, fun i hi => by rw [Nat.zero_add, h.cellAt i (by omega)]; simp [hi]⟩, bd⟩

theorem own_some {w : World} {base e n : Nat} {v : Value} {xs : List Value} (h : w.ownsRow base e 1 v n xs) (hv : ¬ v = .slice none 0 0) : ∃ g cap, v = .slice (some ⟨g, 0, none⟩) n cap ∧ base ≤ g := by
  rcases h.2 with ⟨e, _⟩ | ⟨g, cap, cur, rfl, hg, _⟩
  · exact absurd e hv
  · exact ⟨g, cap, rfl, hg⟩

theorem new_one3 (w : World) (x : Int) : ∀ j u, [Value.int .u64 x][j]? = some u → (w.alloc (.cells #[.int .u64 x] 30)).cell? ((⟨w.heap.size, 0, none⟩ : Addr).add j) = some u := by
  intro j u hu
  cases j with
  | zero =>
    simp only [List.getElem?_cons_zero, Option.some.injEq] at hu
    subst hu
    simp [Addr.add, go_sem]
  | succ j => simp at hu

set_option maxHeartbeats 1000000 in
theorem rof3_any (ao : Option Addr) (n c : Nat) (k v : Nat → Int) (g : Nat → Bool) (hn : n * 8 ≤ 140737488355328) (w : World) (h : ES w ao n k v g) :
    Calls Try.prog 16 #[.slice ao n c] w fun e w' => (∃ b cap, e = .returned (.slice (some ⟨b, 0, none⟩) n cap) ∧ w.heap.size ≤ b ∧ w'.ownsRow w.heap.size 30 1 (.slice (some ⟨b, 0, none⟩) n cap) n ((List.range n).map fun i => Value.int .u64 (k i))) ∧ Gw w w' := by
  obtain ⟨ii, hii, hz, hs, hby⟩ := info_parts info_k
  have hO := World.ownsRow_made (base := w.heap.size) (e := 30) (size := 1) w #[] 0 (Nat.le_refl _) (by simp [maxLen]) (by simp)
  have hG := (Gw.refl w).alloc #[] 30
  go_enter Try.func16, Try.ntmps16
  go_wp2_with fail
  generalize w.alloc (.cells #[] 30) = w0 at hO hG ⊢
  have RR : Aside _ := hO
  have GG : Aside (Gw w w0) := hG
  clear hO hG
  go_loopg [3, 4] n (fun gg s3 s4 wr => ∃ i b cap : Nat, s3 = .slice (some ⟨b, 0, none⟩) i cap ∧ s4 = .int .i64 i ∧ i ≤ n ∧ n - i ≤ gg ∧ w.heap.size ≤ b ∧ Aside (wr.ownsRow w.heap.size 30 1 (.slice (some ⟨b, 0, none⟩) i cap) i ((List.range i).map fun i => Value.int .u64 (k i))) ∧ Aside (Gw w wr))
  case atStart => exact ⟨0, w.heap.size, 0, rfl, rfl, Nat.zero_le _, by omega, Nat.le_refl _, RR, GG⟩
  case round =>
    obtain ⟨i, b, cap, rfl, rfl, h1, h2, hbw, R, G⟩ := hrel
    by_cases hlt : i < n
    · obtain ⟨b', off, rfl, hb', hc⟩ := (h.gw G.out).cells (by omega)
      obtain ⟨c1, c2, c3⟩ := hc i hlt
      have hz0 := G.out.size
      clear hc h RR GG
      generalize hk1 : k i = k1 at c1
      have Y : Aside (k i = k1) := hk1
      clear hk1
      go_wp2_with (at_builtin; refine wpList_append_own _ rfl _ _ 29 rfl w.heap.size 30 ii (.int .u64 0) 1 8 Try.underlying29 hii hz hs hby rfl (by decide) _ i _ rfl (R.out.alloc _) ⟨wr.heap.size, 0, none⟩ 1 1 [.int .u64 k1] rfl rfl (new_one3 wr k1) (ints_oneCell .u64 [k1]) (by simp only [maxLen]; omega) (by omega) (by simp; omega) ?_)
      intro v' w' q1 q2 q3
      obtain ⟨b2, cap2, rfl, hb2⟩ := own_some q1 q3
      have Q1 : Aside _ := q1
      have Q2 : Aside _ := q2
      clear q1 q2 q3
      go_wp2_with fail
      go_roundg (n - (i + 1))
      case measure => omega
      case rel =>
        refine ⟨i + 1, b2, cap2, rfl, by go_num, by omega, Nat.le_refl _, hb2, ?_, (show Aside _ from (G.out.alloc _ _).grown Q2.out (fun q hq => by cases hq; exact hbw))⟩
        have := Q1.out
        rw [← Y.out] at this
        rw [List.range_succ, List.map_append]
        exact this
    · obtain rfl : i = n := by omega
      go_wp2_with fail
      go_ret
      exact ⟨⟨b, cap, rfl, hbw, R.out⟩, G.out⟩

end Go.Proofs.Ytnkcnfpbbdlifab
