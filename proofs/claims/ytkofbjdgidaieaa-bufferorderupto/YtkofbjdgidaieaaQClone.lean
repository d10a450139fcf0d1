/- The document's layer 14: Clone. -/
import Derived.Test.YtkofbjdgidaieaaQRef
import Derived.Test.YtkofbjdgidaieaaPEl
import Derived.Deep.RegionLaw
namespace Go.Proofs.Ytkofbjdgidaieaa
open Go.RowKit
set_option linter.unusedVariables false

/-- An append of what may be nothing onto a row of one's own, as an operation of a region. -/
theorem step_app_src {P : Program} (w : World) {ops : Array Oper} {o : Oper} {a : Act} {K : Act → World → Prop} {Q : Exit → Act → World → Prop} {E : Prop} (hgd : o.guard = none) (s x : Operand) (t : TypeId)
    (ho : o.op = .call { callee := .builtin .append, args := #[s, x], argTypes := #[t, t] })
    (base : Nat) (e : TypeId) (i : TypeInfo) (z : Value) (size bytes : Nat) (ht : P.underlying t = some (.slice e)) (hi : P.info? e = some i) (hz : i.zero = some z)
    (hsize : i.size = size) (hby : i.bytes = bytes) (hzs : z.cells.size = size) (hsz : 0 < size)
    (v : Value) (n : Nat) (xs : List Value) (hs : a.eval s = v) (hown : w.ownsRow base e size v n xs)
    (ao : Option Addr) (m c : Nat) (news : List Value) (hx : a.eval x = .slice ao m c) (hnone : ao = none → m = 0 ∧ c = 0) (hl : news.length = m * size) (hnews : ∀ ad, ao = some ad → ∀ j u, news[j]? = some u → w.cell? (ad.add j) = some u) (h1 : ∀ u ∈ news, u.oneCell' = true)
    (h63 : n + m ≤ maxLen) (hbytes : (n + m) * bytes ≤ 140737488355328) (hbase : base ≤ w.heap.size)
    (h : ∀ v' w', w'.ownsRow base e size v' (n + m) (xs ++ news) → w.grownBy w' v.ownBlock → K (a.put o.dst v') w') :
    if Region.wanted o (yielded ops a.tmps) = true then Oper.wp P o a w K Q else E := by
  cases ao with
  | some ad => exact step_app w hgd s x t ho base e i z size bytes ht hi hz hsize hby hzs hsz v n xs hs hown ad m c news hx hl (hnews ad rfl) h1 h63 hbytes hbase (fun v' w' a1 a2 _ _ => h v' w' a1 a2)
  | none =>
    obtain ⟨rfl, rfl⟩ := hnone rfl
    have hn : news = [] := List.eq_nil_of_length_eq_zero (by simpa using hl)
    subst hn
    have hw : Region.wanted o (yielded ops a.tmps) = true := by simp [Region.wanted, hgd]
    rw [if_pos hw]
    have hrun := run_append_owned_none (P := P) w base t o.type e i size ht hi v n xs hown
    unfold Oper.wp execOp
    simp only [ho, resolve, invoke, builtin, Sem.run_bind, Sem.run_pure, Result.andThen_ok, List.map_toArray, List.map_cons, List.map_nil, hs, hx, hrun]
    exact h v w (by simpa using hown) (World.grownBy.refl _ _)
set_option maxRecDepth 20000 in
set_option maxHeartbeats 4000000 in
theorem rclone14 (p : Nat) (S : Nat → Prop) (most : Int) (l : List Ent) (hn : l.length ≤ 4000000) (w : World) (h : HB 55 w p S most l) :
    Calls Try.prog 10 #[.pointer (some ⟨p, 0, none⟩)] w fun e w' => (∃ p' S', e = .returned (.pointer (some ⟨p', 0, none⟩)) ∧ HB 55 w' p' S' most l ∧ ∀ q, S' q → w.heap.size ≤ q) ∧ Gw w w' := by
  obtain ⟨v, h1, h2, h3, h4⟩ := h.lies
  obtain ⟨ao, cp, rfl, hc, hz0⟩ := eo_shape h2
  obtain ⟨ii, hii, hz, hs, hby⟩ := info_parts info_e
  have c0 : w.cell? ⟨p, 0, none⟩ = some (.int .i64 most) := blkc h1 rfl
  have c1 : w.cell? ⟨p, 1, none⟩ = some (.slice ao l.length cp) := blkc h1 rfl
  have pl := blkl h1
  have KP : Hid (∀ W, Gw w W → W.cell? ⟨p, 0, none⟩ = some (.int .i64 most) ∧ p < W.heap.size) := fun W g => by
    have x := (g.below.block p (blkl h1)).trans h1
    exact ⟨blkc x rfl, blkl x⟩
  have FIN : Hid (∀ W v, EO W w.heap.size v l → Gw w W → (∃ p' S', Ending.returned (.pointer (some ⟨W.heap.size, 0, none⟩)) = .returned (.pointer (some ⟨p', 0, none⟩)) ∧ HB 55 (W.alloc (.cells #[.int .i64 most, v] 55)) p' S' most l ∧ ∀ q, S' q → w.heap.size ≤ q) ∧ Gw w (W.alloc (.cells #[.int .i64 most, v] 55))) := fun W v ho g => by
    refine ⟨⟨_, fun q => q = W.heap.size ∨ v.ownBlock = some q, rfl, ⟨⟨v, heap_alloc_new W _, eo_base (eo_gw ho ((Gw.refl W).alloc _ _)) (Nat.zero_le _), fun q hq => Nat.ne_of_lt (World.ownsRow.lt ho q hq).2, fun q => Iff.rfl⟩, h.rise, h.ok, h.room⟩, fun q hq => ?_⟩, g.alloc _ _⟩
    rcases hq with x | x
    · rw [x]; exact g.size
    · exact (World.ownsRow.lt ho q x).1
  have HE : Aside (EL w ao l) := eo_el h2 h.ok
  have NW : Hid (∀ W, Gw w W → ∀ ad, ao = some ad → ∀ j u, (l.flatMap ent3)[j]? = some u → W.cell? (ad.add j) = some u) := fun W g => el_news (HE.out.gw g)
  have O0 : Hid ((w.drew.alloc (.cells #[] 35)).ownsRow w.heap.size 35 3 (.slice (some ⟨w.heap.size, 0, none⟩) 0 0) 0 []) := World.ownsRow_made w.drew #[] 0 (Nat.le_refl _) (Nat.zero_le _) rfl
  have G0 : Aside (Gw w (w.drew.alloc (.cells #[] 35))) := (Gw.refl w).drew.alloc _ _
  obtain ⟨n, hln⟩ : ∃ n, l.length = n := ⟨_, rfl⟩
  have LN : Aside (l.length = n) := hln
  have FL : Aside ((l.flatMap ent3).length = n * 3) := by show _ = _; rw [flat_len, LN.out]
  rw [hln] at c1 hn hz0
  have Z0 : Aside (ao = none → n = 0 ∧ cp = 0) := hz0
  clear h h1 h2 h3 h4 hln hz0 hc HE
  go_enter Try.func10, Try.ntmps10
  go_wp2_with fail
  go_region_law (refine step_app_src _ rfl (.tmp 7) (.tmp 11) 40 rfl w.heap.size 35 ii (.agg #[.int .u64 0, .int .u64 0, .bool false]) 3 24 Try.underlying40 hii hz hs hby rfl (by decide) _ 0 [] rfl O0.out ao n cp (l.flatMap ent3) rfl Z0.out FL.out (NW.out _ G0.out) (flat_ones l) (by simp only [maxLen]; omega) (by omega) G0.out.size ?_; intro v7 w7 r1 r2; have E7 : Hid (EO w7 w.heap.size v7 l) := (by show World.ownsRow _ _ _ _ _ _ _; rw [LN.out]; simpa using r1); have G7 : Hid (Gw w w7) := (G0.out.grown r2 (fun q hq => by cases hq; exact Nat.le_refl _)); have F7 : Hid _ := FIN.out w7 v7 E7.out G7.out; obtain ⟨c7, l7⟩ := KP.out w7 G7.out; obtain ⟨bo7, cc7, ev7, _, _⟩ := eo_shape E7.out; subst ev7; clear r1 r2)
  all_goals go_wp2_with fail
  all_goals go_ret
  all_goals exact F7.out
end Go.Proofs.Ytkofbjdgidaieaa
