/- The document's Clone. -/
import Derived.Test.YtocahgiabeifeaaR4All
import Derived.Test.YtocahgiabeifeaaHStep
import Derived.Deep.RegionHeld3
namespace Go.Proofs.Ytocahgiabeifeaa
open Go.RowKit
set_option linter.unusedVariables false

theorem keep_own {w w' : World} {base e size n : Nat} {v : Value} {xs : List Value} (own : w.ownsRow base e size v n xs) (k : ∀ q, v.ownBlock = some q → w'.heap[q]? = w.heap[q]?) : w'.ownsRow base e size v n xs := by
  refine ⟨own.1, ?_⟩
  rcases own.2 with q | ⟨g, cap, cur, rfl, hb, hh, r⟩
  · exact .inl q
  · exact .inr ⟨g, cap, cur, rfl, hb, (k g rfl).trans hh, r⟩

set_option maxRecDepth 10000 in
set_option maxHeartbeats 8000000 in
theorem rclone_any {w : World} {p : Nat} {S : Nat → Prop} {e : Int} {n : Nat} {f : Nat → Int} (h : RFit w p S e n f) (hn : n ≤ 4000) :
    Calls Try.prog 16 #[.pointer (some ⟨p, 0, none⟩)] w fun ex w' => (∃ p' S', ex = .returned (.pointer (some ⟨p', 0, none⟩)) ∧ (∀ q, S' q → w.heap.size ≤ q) ∧ RFit w' p' S' e n f) ∧ Gw w w' := by
  obtain ⟨v, a, b, c, d, R, hS⟩ := h
  obtain ⟨k0, k1, k2, k3, k4, k5⟩ := R.cells
  have lp := R.lt
  obtain ⟨ao, cap, ev, ks⟩ := R.ks
  subst ev
  have AN : Hid (ao = none → n = 0 ∧ cap = 0) := by
    rcases R.own.2 with ⟨q, r⟩ | ⟨g, cp, cur, q, _⟩
    · cases q; exact fun _ => ⟨rfl, rfl⟩
    · cases q; exact fun q => by cases q
  have HR : Hid (RF w p (.slice ao n cap) e n f a b c d) := R
  have HK : Hid (KS w ao n f) := ks
  obtain ⟨ii, hii, hz, hs, hby⟩ := info_parts info_k
  have HKV : Hid (∀ w', Gw w w' → Gw w w' ∧ w'.cell? ⟨p, 0, none⟩ = some (.int .i64 (e + 1)) ∧ w'.cell? ⟨p, 1, none⟩ = some (.slice ao n cap) ∧ w'.cell? ⟨p, 2, none⟩ = some (.int .u64 a) ∧ w'.cell? ⟨p, 3, none⟩ = some (.int .u64 b) ∧ w'.cell? ⟨p, 4, none⟩ = some (.int .u64 c) ∧ w'.cell? ⟨p, 5, none⟩ = some (.int .u64 d)) := fun w' g => ⟨g, (g.cell _ _ lp).trans k0, (g.cell _ _ lp).trans k1, (g.cell _ _ lp).trans k2, (g.cell _ _ lp).trans k3, (g.cell _ _ lp).trans k4, (g.cell _ _ lp).trans k5⟩
  clear R ks hS
  go_enter Try.func16, Try.ntmps16
  go_wp2_with fail
  go_region_held3 (fun w' => Gw w w' ∧ w'.cell? ⟨p, 0, none⟩ = some (.int .i64 (e + 1)) ∧ w'.cell? ⟨p, 1, none⟩ = some (.slice ao n cap) ∧ w'.cell? ⟨p, 2, none⟩ = some (.int .u64 a) ∧ w'.cell? ⟨p, 3, none⟩ = some (.int .u64 b) ∧ w'.cell? ⟨p, 4, none⟩ = some (.int .u64 c) ∧ w'.cell? ⟨p, 5, none⟩ = some (.int .u64 d))
    ((refine HKV.out _ ?_; (repeat (first | exact Gw.refl _ | assumption | exact And.left (by assumption) | refine Gw.drew ?_ | refine Gw.alloc ?_ _ _)); done))
    (first | (refine step_append_any _ rfl (.tmp 7) (.tmp 11) 42 rfl w.heap.size 31 ii _ 1 8 Try.underlying42 hii hz hs hby rfl (by decide) w.heap.size 0 0 [] (by simp [Act.eval]) (own_new0 w w.heap.size w.heap.size 31 rfl (Nat.le_refl _)) ao n cap ((List.range n).map fun i => Value.int .u64 (f i)) (by simp [Act.eval]) AN.out (by simp) (ks_news (HK.out.gw ((Gw.refl w).alloc _ _).drew)) (keys_one n f) (by simp only [maxLen]; omega) (by omega) (by simp) ?_; intro g' cap' w7 q1 q2 q3 q4; have G7 : Gw w w7 := (((Gw.refl w).alloc _ _).drew.grown q2 (fun k hk => by cases hk; exact Nat.le_refl _)); have Q1 : Hid (w7.ownsRow w.heap.size 31 1 (.slice (some ⟨g', 0, none⟩) (0 + n) cap') (0 + n) ([] ++ (List.range n).map fun i => Value.int .u64 (f i))) := q1; clear q1 q2 q3))
  all_goals
    have FIN : Hid (RFit (w7.alloc (.cells #[.int .i64 (e + 1), .slice (some ⟨g', 0, none⟩) n cap', .int .u64 a, .int .u64 b, .int .u64 c, .int .u64 d] 55)) w7.heap.size (rfp w7.heap.size (.slice (some ⟨g', 0, none⟩) n cap')) e n f) := by
      have o7 : w7.ownsRow w.heap.size 31 1 (.slice (some ⟨g', 0, none⟩) n cap') n ((List.range n).map fun i => Value.int .u64 (f i)) := by
        have := Q1.out
        simpa using this
      have o8 := keep_own (w' := w7.alloc (.cells #[.int .i64 (e + 1), .slice (some ⟨g', 0, none⟩) n cap', .int .u64 a, .int .u64 b, .int .u64 c, .int .u64 d] 55)) o7 (fun q hq => heap_alloc_old w7 _ (o7.lt q hq).2)
      refine ⟨_, a, b, c, d, ⟨heap_alloc_new w7 _, own_base o8, fun q hq => ?_, HR.out.up, HR.out.bd, HR.out.low, HR.out.top, HR.out.fit, HR.out.e1, HR.out.wd⟩, fun q => Iff.rfl⟩
      have := (o7.lt q hq).2
      omega
    have SS : Hid (∀ q, rfp w7.heap.size (.slice (some ⟨g', 0, none⟩) n cap') q → w.heap.size ≤ q) := by
      intro q hq
      rcases hq with rfl | hq
      · exact G7.size
      · have := (Q1.out.lt g' rfl).1
        cases hq
        exact this
    have GF : Hid (Gw w (w7.alloc (.cells #[.int .i64 (e + 1), .slice (some ⟨g', 0, none⟩) n cap', .int .u64 a, .int .u64 b, .int .u64 c, .int .u64 d] 55))) := G7.alloc _ _
    go_wp2_with fail
    go_ret
    exact ⟨⟨w7.heap.size, _, rfl, SS.out, FIN.out⟩, GF.out⟩

end Go.Proofs.Ytocahgiabeifeaa
