import Derived.Test.YtdikiaeagcokdaaGreatPRe
import Derived.StillTailTactics
import Derived.Deep.RegionHeld3
import Derived.Laws.StructEq
import Derived.Test.YtdikiaeagcokdaaGreatPBs
/- Layer 11's statements' answers: a run is asked, and the document's. -/
namespace Go.Proofs.YtdikiaeagcokdaaGreat
open Go.RowKit
set_option linter.unusedVariables false
attribute [local go_sem] run_store_float f64bits

/-- Boxes of a call's own, as they were laid. -/
structure Bxs (W0 : World) (l : List (Nat × Array Value × TypeId)) (W : World) : Prop where
  gw0 : Gw W0 W
  lie : ∀ x ∈ l, W.heap[x.1]? = some (.cells x.2.1 x.2.2 (0, 0))
theorem Bxs.nil {W0 W : World} (g : Gw W0 W) : Bxs W0 [] W := ⟨g, fun x h => by cases h⟩
theorem Bxs.gw {W0 W W' : World} {l : List (Nat × Array Value × TypeId)} (h : Bxs W0 l W) (g : Gw W W') : Bxs W0 l W' :=
  ⟨h.gw0.trans g, fun x hx => (g.below.block x.1 (Array.getElem?_eq_some_iff.1 (h.lie x hx)).1).trans (h.lie x hx)⟩
theorem Bxs.add {W0 W : World} {l : List (Nat × Array Value × TypeId)} (h : Bxs W0 l W) (c : Array Value) (t : TypeId) : Bxs W0 ((W.heap.size, c, t) :: l) (W.alloc (.cells c t)) :=
  ⟨h.gw0.alloc _ _, fun x hx => by
    rcases List.mem_cons.1 hx with rfl | hx
    · exact heap_alloc_new W _
    · exact (h.gw ((Gw.refl W).alloc c t)).lie x hx⟩
theorem Bxs.cell {W0 W : World} {l : List (Nat × Array Value × TypeId)} (h : Bxs W0 l W) {b : Nat} {c : Array Value} {t : TypeId} (m : (b, c, t) ∈ l) {i : Nat} {v : Value} (hv : c[i]? = some v) : W.cell? ⟨b, i, none⟩ = some v := by
  have := h.lie _ m
  simp [World.cell?, this, hv]
theorem Ready.up {eps : Int} {f : Nat → Int} {n : Nat} {L : List (List Sg)} (h : Ready eps f n L) : Up f n := by
  by_cases c : L.length = 0
  · have := h.z.1 c
    subst this
    exact fun j hj => by omega
  · exact (h.lv.lvl 0 (by omega)).up
theorem getV_form (k v : Nat → Int) (g : Nat → Bool) (n : Nat) (q : Int) : ∃ a b c t, getV k v g n q = (.agg #[.int .u64 a, .int .u64 b, .bool c], t) := by
  unfold getV
  by_cases h : cntb k q n < n ∧ k (cntb k q n) = q
  · rw [if_pos h]; exact ⟨_, _, _, _, rfl⟩
  · rw [if_neg h]; exact ⟨_, _, _, _, rfl⟩
theorem atV_form (k v : Nat → Int) (g : Nat → Bool) (n : Nat) (i : Int) : ∃ a b c t, atV k v g n i = (.agg #[.int .u64 a, .int .u64 b, .bool c], t) := by
  unfold atV
  by_cases h : 0 ≤ i ∧ i < n
  · rw [if_pos h]; exact ⟨_, _, _, _, rfl⟩
  · rw [if_neg h]; exact ⟨_, _, _, _, rfl⟩

end Go.Proofs.YtdikiaeagcokdaaGreat

/- Layer 11's statements' answers, walked. -/
namespace Go.Proofs.YtdikiaeagcokdaaGreat
open Go.RowKit
set_option linter.unusedVariables false
attribute [local go_sem] run_store_float f64bits

/-- A box that lay blank is stored into. -/
theorem Bxs.fill {W0 v u : World} {l : List (Nat × Array Value × TypeId)} {x0 x1 x2 x3 x4 : Value} {t : TypeId} (h : Bxs W0 l v) (g : Gw v u) (hb : u.heap[v.heap.size]? = some (.cells #[x0, x1, x2, x3, x4] t (0, 0))) (s : Sg) : Bxs W0 ((v.heap.size, #[.int .u64 s.k, .float .f64 s.sl, .float .f64 s.ic, .int .i64 s.fr, .int .i64 s.te], t) :: l) (put5 u v.heap.size 0 s) := by
  refine ⟨put5_gw (h.gw0.trans g) h.gw0.size, fun x hx => ?_⟩
  rcases List.mem_cons.1 hx with rfl | hx
  · simp [put5, World.setCell, Array.getElem?_modify, hb]
  · have lt : x.1 < v.heap.size := (Array.getElem?_eq_some_iff.1 (h.lie x hx)).1
    rw [put5_other u v.heap.size 0 s (by omega)]
    exact (h.gw g).lie x hx

set_option maxRecDepth 10000 in
set_option maxHeartbeats 8000000 in
theorem answers11 {HR : World → Nat → (Nat → Prop) → Int → (Nat → Int) → (Nat → Int) → (Nat → Bool) → Nat → List (List Sg) → Prop} (H : RunC HR) {w : World} {p px : Nat} {S Sx : Nat → Prop} {eps : Int} {k v : Nat → Int} {g : Nat → Bool} {n : Nat} {L : List (List Sg)} (h : HR w p S eps k v g n L) (hd : HDoc w px Sx eps k v g n L) (q lv sl : Int) (q0 : 0 ≤ q) (q1 : q < 18446744073709551616) (l0 : -9223372036854775808 ≤ lv) (l1 : lv < 9223372036854775808) (s0 : -9223372036854775808 ≤ sl) (s1 : sl < 9223372036854775808) :
    Calls Tryz.prog 20 #[.pointer (some ⟨p, 0, none⟩), .pointer (some ⟨px, 0, none⟩), .agg #[.int .u64 q, .int .i64 lv, .int .i64 sl]] w fun e w' => e = .returned (.bool true) ∧ Gw w w' := by
  obtain ⟨ga, gb, gc, gt, hg⟩ := getV_form k v g n q
  obtain ⟨aa, ab, ac, at', ha⟩ := atV_form k v g n sl
  have up := (H.ready h).up
  obtain ⟨pp, Sp, cp, hp, _⟩ := H.pile h
  have CP : Aside (w.cell? ⟨p, 0, none⟩ = some (.pointer (some ⟨pp, 0, none⟩)) ∧ p < w.heap.size) := ⟨cp, H.lt h p (H.own h)⟩
  have KP : Hid (∀ W, Gw w W → HPile W pp Sp eps k n L) := fun W gg => hp.keep fun q hq => gg.below.block q (hp.lt q hq)
  obtain ⟨⟨sk, ssl, sic, sfr, ste⟩, hsg⟩ : ∃ s, segW L lv sl = s := ⟨_, rfl⟩
  have GR : Hid (∀ W, Gw w W → Calls Tryz.prog 24 #[.pointer (some ⟨p, 0, none⟩), .int .u64 q] W fun e w' => e = .returned (.tuple #[.agg #[.int .u64 ga, .int .u64 gb, .bool gc], .bool gt]) ∧ Gw W w') := fun W gg => by
    have := H.get (H.gw h gg) q q0 q1
    rw [hg] at this
    exact this
  have GD : Hid (∀ W, Gw w W → Calls Tryz.prog 43 #[.pointer (some ⟨px, 0, none⟩), .int .u64 q] W fun e w' => e = .returned (.tuple #[.agg #[.int .u64 ga, .int .u64 gb, .bool gc], .bool gt]) ∧ Gw W w') := fun W gg => by
    have := dc_get (hd.gw gg) up q
    rw [hg] at this
    exact this
  have AR : Hid (∀ W, Gw w W → Calls Tryz.prog 23 #[.pointer (some ⟨p, 0, none⟩), .int .i64 sl] W fun e w' => e = .returned (.tuple #[.agg #[.int .u64 aa, .int .u64 ab, .bool ac], .int .i64 at']) ∧ Gw W w') := fun W gg => by
    have := H.at_ (H.gw h gg) sl s0 s1
    rw [ha] at this
    exact this
  have AD : Hid (∀ W, Gw w W → Calls Tryz.prog 44 #[.pointer (some ⟨px, 0, none⟩), .int .i64 sl] W fun e w' => e = .returned (.tuple #[.agg #[.int .u64 aa, .int .u64 ab, .bool ac], .int .i64 at']) ∧ Gw W w') := fun W gg => by
    have := dc_at (hd.gw gg) sl
    rw [ha] at this
    exact this
  have SR11 : Hid (∀ W, Gw w W → Calls Tryz.prog 27 #[.pointer (some ⟨pp, 0, none⟩), .int .i64 lv, .int .i64 sl] W fun e w' => e = .returned (.agg #[.int .u64 sk, .float .f64 ssl, .float .f64 sic, .int .i64 sfr, .int .i64 ste]) ∧ Gw W w') := fun W gg => by
    have := pl_seg (KP.out W gg) lv sl l0 l1 s0 s1
    rw [hsg] at this
    exact this
  have SD : Hid (∀ W, Gw w W → Calls Tryz.prog 47 #[.pointer (some ⟨px, 0, none⟩), .int .i64 lv, .int .i64 sl] W fun e w' => e = .returned (.agg #[.int .u64 sk, .float .f64 ssl, .float .f64 sic, .int .i64 sfr, .int .i64 ste]) ∧ Gw W w') := fun W gg => by
    have := dc_seg (hd.gw gg) lv sl l0 l1 s0 s1
    rw [hsg] at this
    exact this
  obtain ⟨ck, hck⟩ : ∃ c, cntb k q n = c := ⟨_, rfl⟩
  obtain ⟨zk, hzk⟩ : ∃ c, sizeV n L lv = c := ⟨_, rfl⟩
  obtain ⟨kk, hkk⟩ : ∃ c, keyV k n L lv sl = c := ⟨_, rfl⟩
  have KR : Hid (∀ W, Gw w W → Calls Tryz.prog 25 #[.pointer (some ⟨p, 0, none⟩), .int .u64 q] W fun e w' => e = .returned (.int .i64 (ck : Int)) ∧ Gw W w') := fun W gg => by
    have := H.rank (H.gw h gg) q q0 q1
    rw [hck] at this
    exact this
  have KD : Hid (∀ W, Gw w W → Calls Tryz.prog 45 #[.pointer (some ⟨px, 0, none⟩), .int .u64 q] W fun e w' => e = .returned (.int .i64 (ck : Int)) ∧ Gw W w') := fun W gg => by
    have := dc_rank (hd.gw gg) q
    rw [hck] at this
    exact this
  have ZR : Hid (∀ W, Gw w W → Calls Tryz.prog 30 #[.pointer (some ⟨pp, 0, none⟩), .int .i64 lv] W fun e w' => e = .returned (.int .i64 (zk : Int)) ∧ Gw W w') := fun W gg => by
    have := pl_size (KP.out W gg) lv l0 l1
    rw [hzk] at this
    exact this.mono fun e w' ⟨a, b⟩ => ⟨a, b ▸ Gw.refl _⟩
  have ZD : Hid (∀ W, Gw w W → Calls Tryz.prog 37 #[.pointer (some ⟨px, 0, none⟩), .int .i64 lv] W fun e w' => e = .returned (.int .i64 (zk : Int)) ∧ Gw W w') := fun W gg => by
    have := dc_size (hd.gw gg) lv l0 l1
    rw [hzk] at this
    exact this.mono fun e w' ⟨a, b⟩ => ⟨a, b ▸ Gw.refl _⟩
  have YR : Hid (∀ W, Gw w W → Calls Tryz.prog 31 #[.pointer (some ⟨pp, 0, none⟩), .int .i64 lv, .int .i64 sl] W fun e w' => e = .returned (.int .u64 kk) ∧ Gw W w') := fun W gg => by
    have := pl_key (KP.out W gg) lv sl l0 l1 s0 s1
    rw [hkk] at this
    exact this
  have YD : Hid (∀ W, Gw w W → Calls Tryz.prog 46 #[.pointer (some ⟨px, 0, none⟩), .int .i64 lv, .int .i64 sl] W fun e w' => e = .returned (.int .u64 kk) ∧ Gw W w') := fun W gg => by
    have := dc_key (hd.gw gg) lv sl l0 l1 s0 s1
    rw [hkk] at this
    exact this.mono fun e w' ⟨a, b⟩ => ⟨a, b ▸ Gw.refl _⟩
  have SS : Hid (∀ W, Calls Tryz.prog 42 #[.agg #[.int .u64 sk, .float .f64 ssl, .float .f64 sic, .int .i64 sfr, .int .i64 ste], .agg #[.int .u64 sk, .float .f64 ssl, .float .f64 sic, .int .i64 sfr, .int .i64 ste]] W fun e w' => e = .returned (.bool true) ∧ Gw W w') := fun W => same11_seg ⟨sk, ssl, sic, sfr, ste⟩ W
  have CL : Hid (∀ W, Gw w W → W.cell? ⟨p, 0, none⟩ = some (.pointer (some ⟨pp, 0, none⟩)) ∧ p < W.heap.size) := fun W gg => ⟨(gg.cell _ _ CP.out.2).trans CP.out.1, Nat.lt_of_lt_of_le CP.out.2 gg.size⟩
  obtain ⟨bo, hbo⟩ : ∃ b, w.heap.size = b := ⟨_, rfl⟩
  have BX : Aside (Bxs w [(w.heap.size, #[.int .u64 q, .int .i64 lv, .int .i64 sl], 52)] (w.alloc (.cells #[.int .u64 q, .int .i64 lv, .int .i64 sl] 52))) := (Bxs.nil (Gw.refl w)).add _ _
  rw [hbo] at BX
  clear up cp hp h hd hg ha hsg hck hzk hkk KP CP
  go_enter Tryz.func20, Tryz.ntmps20
  go_wp2_with fail
  generalize w.alloc (.cells #[.int .u64 q, .int .i64 lv, .int .i64 sl] 52) = v0 at BX ⊢
  clear hbo
  refine Calls.mono (GR.out _ BX.out.gw0) ?_
  rintro e u1 ⟨rfl, gg⟩
  have B2 := (BX.out.gw gg).add #[.int .u64 ga, .int .u64 gb, .bool gc] 26
  obtain ⟨ba, hba⟩ : ∃ b, u1.heap.size = b := ⟨_, rfl⟩
  rw [hba] at B2
  clear BX gg
  have BX : Aside _ := B2
  clear B2 GR
  obtain ⟨cp1, cp2⟩ := CL.out _ BX.out.gw0
  have o0 : _ = some (Value.int .u64 q) := BX.out.cell (b := bo) (c := #[.int .u64 q, .int .i64 lv, .int .i64 sl]) (t := 52) (i := 0) (by simp) rfl
  have o1 : _ = some (Value.int .i64 lv) := BX.out.cell (b := bo) (c := #[.int .u64 q, .int .i64 lv, .int .i64 sl]) (t := 52) (i := 1) (by simp) rfl
  have o2 : _ = some (Value.int .i64 sl) := BX.out.cell (b := bo) (c := #[.int .u64 q, .int .i64 lv, .int .i64 sl]) (t := 52) (i := 2) (by simp) rfl
  go_wp2_with fail
  generalize u1.alloc (.cells #[.int .u64 ga, .int .u64 gb, .bool gc] 26) = v1 at BX cp1 cp2 o0 o1 o2 ⊢
  clear hba cp1 cp2 o0 o1 o2
  refine Calls.mono (GD.out _ BX.out.gw0) ?_
  rintro e u2 ⟨rfl, gg⟩
  have B2 := (BX.out.gw gg).add #[.int .u64 ga, .int .u64 gb, .bool gc] 26
  obtain ⟨bb, hbb⟩ : ∃ b, u2.heap.size = b := ⟨_, rfl⟩
  rw [hbb] at B2
  clear BX gg
  have BX : Aside _ := B2
  clear B2 GD
  obtain ⟨cp1, cp2⟩ := CL.out _ BX.out.gw0
  have o0 : _ = some (Value.int .u64 q) := BX.out.cell (b := bo) (c := #[.int .u64 q, .int .i64 lv, .int .i64 sl]) (t := 52) (i := 0) (by simp) rfl
  have o1 : _ = some (Value.int .i64 lv) := BX.out.cell (b := bo) (c := #[.int .u64 q, .int .i64 lv, .int .i64 sl]) (t := 52) (i := 1) (by simp) rfl
  have o2 : _ = some (Value.int .i64 sl) := BX.out.cell (b := bo) (c := #[.int .u64 q, .int .i64 lv, .int .i64 sl]) (t := 52) (i := 2) (by simp) rfl
  go_wp2_with fail
  generalize u2.alloc (.cells #[.int .u64 ga, .int .u64 gb, .bool gc] 26) = v2 at BX cp1 cp2 o0 o1 o2 ⊢
  clear hbb cp1 cp2 o0 o1 o2
  refine Calls.mono (AR.out _ BX.out.gw0) ?_
  rintro e u3 ⟨rfl, gg⟩
  have B2 := (BX.out.gw gg).add #[.int .u64 aa, .int .u64 ab, .bool ac] 26
  obtain ⟨bc, hbc⟩ : ∃ b, u3.heap.size = b := ⟨_, rfl⟩
  rw [hbc] at B2
  clear BX gg
  have BX : Aside _ := B2
  clear B2 AR
  obtain ⟨cp1, cp2⟩ := CL.out _ BX.out.gw0
  have o0 : _ = some (Value.int .u64 q) := BX.out.cell (b := bo) (c := #[.int .u64 q, .int .i64 lv, .int .i64 sl]) (t := 52) (i := 0) (by simp) rfl
  have o1 : _ = some (Value.int .i64 lv) := BX.out.cell (b := bo) (c := #[.int .u64 q, .int .i64 lv, .int .i64 sl]) (t := 52) (i := 1) (by simp) rfl
  have o2 : _ = some (Value.int .i64 sl) := BX.out.cell (b := bo) (c := #[.int .u64 q, .int .i64 lv, .int .i64 sl]) (t := 52) (i := 2) (by simp) rfl
  go_wp2_with fail
  generalize u3.alloc (.cells #[.int .u64 aa, .int .u64 ab, .bool ac] 26) = v3 at BX cp1 cp2 o0 o1 o2 ⊢
  clear hbc cp1 cp2 o0 o1 o2
  refine Calls.mono (AD.out _ BX.out.gw0) ?_
  rintro e u4 ⟨rfl, gg⟩
  have B2 := (BX.out.gw gg).add #[.int .u64 aa, .int .u64 ab, .bool ac] 26
  obtain ⟨bd, hbd⟩ : ∃ b, u4.heap.size = b := ⟨_, rfl⟩
  rw [hbd] at B2
  clear BX gg
  have BX : Aside _ := B2
  clear B2 AD
  obtain ⟨cp1, cp2⟩ := CL.out _ BX.out.gw0
  have o0 : _ = some (Value.int .u64 q) := BX.out.cell (b := bo) (c := #[.int .u64 q, .int .i64 lv, .int .i64 sl]) (t := 52) (i := 0) (by simp) rfl
  have o1 : _ = some (Value.int .i64 lv) := BX.out.cell (b := bo) (c := #[.int .u64 q, .int .i64 lv, .int .i64 sl]) (t := 52) (i := 1) (by simp) rfl
  have o2 : _ = some (Value.int .i64 sl) := BX.out.cell (b := bo) (c := #[.int .u64 q, .int .i64 lv, .int .i64 sl]) (t := 52) (i := 2) (by simp) rfl
  go_wp2_with fail
  generalize u4.alloc (.cells #[.int .u64 aa, .int .u64 ab, .bool ac] 26) = v4 at BX cp1 cp2 o0 o1 o2 ⊢
  clear hbd cp1 cp2 o0 o1 o2
  have o1 : v4.cell? ⟨bo, 1, none⟩ = some (Value.int .i64 lv) := BX.out.cell (b := bo) (c := #[.int .u64 q, .int .i64 lv, .int .i64 sl]) (t := 52) (i := 1) (by simp) rfl
  have o2 : v4.cell? ⟨bo, 2, none⟩ = some (Value.int .i64 sl) := BX.out.cell (b := bo) (c := #[.int .u64 q, .int .i64 lv, .int .i64 sl]) (t := 52) (i := 2) (by simp) rfl
  have lb : bo < v4.heap.size := World.block_lt_of_cell? _ _ o1
  obtain ⟨cp1, cp2⟩ := CL.out _ BX.out.gw0
  have HW : Hid (∀ w', Gw v4 w' → Gw v4 w' ∧ w'.cell? ⟨p, 0, none⟩ = some (.pointer (some ⟨pp, 0, none⟩)) ∧ w'.cell? ⟨bo, 1, none⟩ = some (Value.int .i64 lv) ∧ w'.cell? ⟨bo, 2, none⟩ = some (Value.int .i64 sl)) := fun w' g => ⟨g, (g.cell _ _ cp2).trans cp1, (g.cell _ _ lb).trans o1, (g.cell _ _ lb).trans o2⟩
  have SQ : Hid (∀ W, Gw v4 W → Calls Tryz.prog 27 #[.pointer (some ⟨pp, 0, none⟩), .int .i64 lv, .int .i64 sl] W fun e w' => e = .returned (.agg #[.int .u64 sk, .float .f64 ssl, .float .f64 sic, .int .i64 sfr, .int .i64 ste]) ∧ Gw W w') := fun W g => SR11.out W (BX.out.gw0.trans g)
  have NN : Hid (∀ u, Gw (v4.drew.alloc (.cells #[.int .u64 0, .float .f64 0, .float .f64 0, .int .i64 0, .int .i64 0] 42)) u → u.heap[v4.heap.size]? = some (.cells #[.int .u64 0, .float .f64 0, .float .f64 0, .int .i64 0, .int .i64 0] 42 (0, 0))) := fun u g => (g.below.block _ (by simp)).trans (heap_alloc_new _ _)
  clear cp1 cp2 o1 o2 lb
  go_region_held3 (fun w' => Gw v4 w' ∧ w'.cell? ⟨p, 0, none⟩ = some (.pointer (some ⟨pp, 0, none⟩)) ∧ w'.cell? ⟨bo, 1, none⟩ = some (Value.int .i64 lv) ∧ w'.cell? ⟨bo, 2, none⟩ = some (Value.int .i64 sl))
    ((refine HW.out _ ?_; (repeat (first | exact Gw.refl _ | exact And.left (by assumption) | exact Hid.out (by assumption) | refine Gw.drew ?_ | refine Gw.alloc ?_ _ _ | refine Gw.setCell ?_ (by first | exact Nat.le_refl _ | assumption) _ | refine Gw.trans ?_ (by assumption))); done))
    ((go_at_call 27; refine (SQ.out _ (by repeat (first | exact Gw.refl _ | exact And.left (by assumption) | exact Hid.out (by assumption) | refine Gw.drew ?_ | refine Gw.drewN ?_ _ | refine Gw.alloc ?_ _ _))).mono ?_; rintro ex u5 ⟨rfl, g5⟩; have G5 : Hid (Gw v4 u5) := (Gw.trans (by repeat (first | exact Gw.refl _ | exact And.left (by assumption) | exact Hid.out (by assumption) | refine Gw.drew ?_ | refine Gw.drewN ?_ _ | refine Gw.alloc ?_ _ _)) g5); have z5 : v4.heap.size ≤ u5.heap.size := G5.out.size; (first | (have n4 := NN.out u5 g5; have N5 : Hid (u5.heap[v4.heap.size]? = some (.cells #[.int .u64 0, .float .f64 0, .float .f64 0, .int .i64 0, .int .i64 0] 42 (0, 0))) := n4; have m0 : u5.cell? ⟨v4.heap.size, 0, none⟩ = some (.int .u64 0) := (by simp [World.cell?, n4]); have m1 : u5.cell? ⟨v4.heap.size, 1, none⟩ = some (.float .f64 0) := (by simp [World.cell?, n4]); have m2 : u5.cell? ⟨v4.heap.size, 2, none⟩ = some (.float .f64 0) := (by simp [World.cell?, n4]); have m3 : u5.cell? ⟨v4.heap.size, 3, none⟩ = some (.int .i64 0) := (by simp [World.cell?, n4]); have m4 : u5.cell? ⟨v4.heap.size, 4, none⟩ = some (.int .i64 0) := (by simp [World.cell?, n4]); have f0 : u5.frozen? ⟨v4.heap.size, 0, none⟩ = false := (by simp [World.frozen?, n4]); have f1 : u5.frozen? ⟨v4.heap.size, 1, none⟩ = false := (by simp [World.frozen?, n4]); have f2 : u5.frozen? ⟨v4.heap.size, 2, none⟩ = false := (by simp [World.frozen?, n4]); have f3 : u5.frozen? ⟨v4.heap.size, 3, none⟩ = false := (by simp [World.frozen?, n4]); have f4 : u5.frozen? ⟨v4.heap.size, 4, none⟩ = false := (by simp [World.frozen?, n4]); have nl : v4.heap.size < u5.heap.size := (Array.getElem?_eq_some_iff.1 n4).1; clear n4 g5) | clear g5)))
  · have BY : Aside (Bxs w [(u5.heap.size, #[.int .u64 sk, .float .f64 ssl, .float .f64 sic, .int .i64 sfr, .int .i64 ste], 42), (bd, #[.int .u64 aa, .int .u64 ab, .bool ac], 26), (bc, #[.int .u64 aa, .int .u64 ab, .bool ac], 26), (bb, #[.int .u64 ga, .int .u64 gb, .bool gc], 26), (ba, #[.int .u64 ga, .int .u64 gb, .bool gc], 26), (bo, #[.int .u64 q, .int .i64 lv, .int .i64 sl], 52)] (u5.alloc (.cells #[.int .u64 sk, .float .f64 ssl, .float .f64 sic, .int .i64 sfr, .int .i64 ste] 42))) := (BX.out.gw G5.out).add _ _
    obtain ⟨bs, hbs⟩ : ∃ b, u5.heap.size = b := ⟨_, rfl⟩
    rw [hbs] at BY
    clear BX HW SQ NN SR11
    go_wp2_with fail
    try rw [hbs]
    generalize u5.alloc (.cells #[.int .u64 sk, .float .f64 ssl, .float .f64 sic, .int .i64 sfr, .int .i64 ste] 42) = wc at BY ⊢
    clear hbs
    have ne := GX.some wc
    obtain ⟨cp1, cp2⟩ := CL.out _ BY.out.gw0
    have xp := GX.cell cp1 cp2
    have lxa := (Array.getElem?_eq_some_iff.1 (BY.out.lie (ba, #[.int .u64 ga, .int .u64 gb, .bool gc], 26) (by simp))).1
    have xa0 := GX.cell (BY.out.cell (b := ba) (c := #[.int .u64 ga, .int .u64 gb, .bool gc]) (t := 26) (i := 0) (by simp) rfl) lxa
    have xa1 := GX.cell (BY.out.cell (b := ba) (c := #[.int .u64 ga, .int .u64 gb, .bool gc]) (t := 26) (i := 1) (by simp) rfl) lxa
    have xa2 := GX.cell (BY.out.cell (b := ba) (c := #[.int .u64 ga, .int .u64 gb, .bool gc]) (t := 26) (i := 2) (by simp) rfl) lxa
    have lxb := (Array.getElem?_eq_some_iff.1 (BY.out.lie (bb, #[.int .u64 ga, .int .u64 gb, .bool gc], 26) (by simp))).1
    have xb0 := GX.cell (BY.out.cell (b := bb) (c := #[.int .u64 ga, .int .u64 gb, .bool gc]) (t := 26) (i := 0) (by simp) rfl) lxb
    have xb1 := GX.cell (BY.out.cell (b := bb) (c := #[.int .u64 ga, .int .u64 gb, .bool gc]) (t := 26) (i := 1) (by simp) rfl) lxb
    have xb2 := GX.cell (BY.out.cell (b := bb) (c := #[.int .u64 ga, .int .u64 gb, .bool gc]) (t := 26) (i := 2) (by simp) rfl) lxb
    have lxc := (Array.getElem?_eq_some_iff.1 (BY.out.lie (bc, #[.int .u64 aa, .int .u64 ab, .bool ac], 26) (by simp))).1
    have xc0 := GX.cell (BY.out.cell (b := bc) (c := #[.int .u64 aa, .int .u64 ab, .bool ac]) (t := 26) (i := 0) (by simp) rfl) lxc
    have xc1 := GX.cell (BY.out.cell (b := bc) (c := #[.int .u64 aa, .int .u64 ab, .bool ac]) (t := 26) (i := 1) (by simp) rfl) lxc
    have xc2 := GX.cell (BY.out.cell (b := bc) (c := #[.int .u64 aa, .int .u64 ab, .bool ac]) (t := 26) (i := 2) (by simp) rfl) lxc
    have lxd := (Array.getElem?_eq_some_iff.1 (BY.out.lie (bd, #[.int .u64 aa, .int .u64 ab, .bool ac], 26) (by simp))).1
    have xd0 := GX.cell (BY.out.cell (b := bd) (c := #[.int .u64 aa, .int .u64 ab, .bool ac]) (t := 26) (i := 0) (by simp) rfl) lxd
    have xd1 := GX.cell (BY.out.cell (b := bd) (c := #[.int .u64 aa, .int .u64 ab, .bool ac]) (t := 26) (i := 1) (by simp) rfl) lxd
    have xd2 := GX.cell (BY.out.cell (b := bd) (c := #[.int .u64 aa, .int .u64 ab, .bool ac]) (t := 26) (i := 2) (by simp) rfl) lxd
    have lxs := (Array.getElem?_eq_some_iff.1 (BY.out.lie (bs, #[.int .u64 sk, .float .f64 ssl, .float .f64 sic, .int .i64 sfr, .int .i64 ste], 42) (by simp))).1
    have xs0 := GX.cell (BY.out.cell (b := bs) (c := #[.int .u64 sk, .float .f64 ssl, .float .f64 sic, .int .i64 sfr, .int .i64 ste]) (t := 42) (i := 0) (by simp) rfl) lxs
    have xs1 := GX.cell (BY.out.cell (b := bs) (c := #[.int .u64 sk, .float .f64 ssl, .float .f64 sic, .int .i64 sfr, .int .i64 ste]) (t := 42) (i := 1) (by simp) rfl) lxs
    have xs2 := GX.cell (BY.out.cell (b := bs) (c := #[.int .u64 sk, .float .f64 ssl, .float .f64 sic, .int .i64 sfr, .int .i64 ste]) (t := 42) (i := 2) (by simp) rfl) lxs
    have xs3 := GX.cell (BY.out.cell (b := bs) (c := #[.int .u64 sk, .float .f64 ssl, .float .f64 sic, .int .i64 sfr, .int .i64 ste]) (t := 42) (i := 3) (by simp) rfl) lxs
    have xs4 := GX.cell (BY.out.cell (b := bs) (c := #[.int .u64 sk, .float .f64 ssl, .float .f64 sic, .int .i64 sfr, .int .i64 ste]) (t := 42) (i := 4) (by simp) rfl) lxs
    have lxo := (Array.getElem?_eq_some_iff.1 (BY.out.lie (bo, #[.int .u64 q, .int .i64 lv, .int .i64 sl], 52) (by simp))).1
    have xo0 := GX.cell (BY.out.cell (b := bo) (c := #[.int .u64 q, .int .i64 lv, .int .i64 sl]) (t := 52) (i := 0) (by simp) rfl) lxo
    have xo1 := GX.cell (BY.out.cell (b := bo) (c := #[.int .u64 q, .int .i64 lv, .int .i64 sl]) (t := 52) (i := 1) (by simp) rfl) lxo
    have xo2 := GX.cell (BY.out.cell (b := bo) (c := #[.int .u64 q, .int .i64 lv, .int .i64 sl]) (t := 52) (i := 2) (by simp) rfl) lxo
    clear cp1 cp2 lxa lxb lxc lxd lxs lxo
    try dsimp only [List.append]
    refine wp_region_growx (by kernel_rfl) (by kernel_rfl) ?_
    repeat (go_big_quiet_step (fail))
    go_big_quiet_want
    go_big_quiet_op
    go_big_quiet_call (exact growx_of (KR.out _ (BY.out.gw0.trans (GX.gw _))))
    repeat (go_big_quiet_step (fail))
    go_big_quiet_want
    go_big_quiet_op
    go_big_quiet_call (exact growx_of (KD.out _ (BY.out.gw0.trans (GX.gw _))))
    repeat (go_big_quiet_step (fail))
    go_big_quiet_want
    go_big_quiet_op
    go_big_quiet_call (exact growx_of (ZR.out _ (BY.out.gw0.trans (GX.gw _))))
    repeat (go_big_quiet_step (fail))
    go_big_quiet_want
    go_big_quiet_op
    go_big_quiet_call (exact growx_of (ZD.out _ (BY.out.gw0.trans (GX.gw _))))
    repeat (go_big_quiet_step (fail))
    go_big_quiet_want
    go_big_quiet_op
    go_big_quiet_call (exact growx_of (YR.out _ (BY.out.gw0.trans (GX.gw _))))
    repeat (go_big_quiet_step (fail))
    go_big_quiet_want
    go_big_quiet_op
    go_big_quiet_call (exact growx_of (YD.out _ (BY.out.gw0.trans (GX.gw _))))
    repeat (go_big_quiet_step (fail))
    go_big_quiet_want
    go_big_quiet_op
    go_big_quiet_call (exact growx_of (SD.out _ (BY.out.gw0.trans (GX.gw _))))
    repeat (go_big_quiet_step (fail))
    go_big_quiet_want
    go_big_quiet_op
    go_big_quiet_call (exact growx_of (SS.out _))
    repeat (go_big_quiet_step (fail))
    refine wpQuiet_nil ?_
    rintro _ ⟨gw, rfl⟩
    have G9 : Aside (Gw w gw.1) := BY.out.gw0.trans gw.gw
    clear xa0 xa1 xa2 xb0 xb1 xb2 xc0 xc1 xc2 xd0 xd1 xd2 xs0 xs1 xs2 xs3 xs4 xo0 xo1 xo2 xp
    go_wp2_with fail
    go_ret
    exact ⟨rfl, G9.out⟩
  · have BY : Aside (Bxs w [(v4.heap.size, #[.int .u64 sk, .float .f64 ssl, .float .f64 sic, .int .i64 sfr, .int .i64 ste], 42), (bd, #[.int .u64 aa, .int .u64 ab, .bool ac], 26), (bc, #[.int .u64 aa, .int .u64 ab, .bool ac], 26), (bb, #[.int .u64 ga, .int .u64 gb, .bool gc], 26), (ba, #[.int .u64 ga, .int .u64 gb, .bool gc], 26), (bo, #[.int .u64 q, .int .i64 lv, .int .i64 sl], 52)] (put5 u5 v4.heap.size 0 ⟨sk, ssl, sic, sfr, ste⟩)) := BX.out.fill G5.out N5.out ⟨sk, ssl, sic, sfr, ste⟩
    simp only [put5, Nat.zero_add] at BY
    obtain ⟨bs, hbs⟩ : ∃ b, v4.heap.size = b := ⟨_, rfl⟩
    rw [hbs] at BY
    clear BX HW SQ NN SR11 N5 m0 m1 m2 m3 m4 f0 f1 f2 f3 f4 nl
    go_wp2_with fail
    try rw [hbs]
    generalize ((((u5.setCell ⟨bs, 0, none⟩ (.int .u64 sk)).setCell ⟨bs, 1, none⟩ (.float .f64 ssl)).setCell ⟨bs, 2, none⟩ (.float .f64 sic)).setCell ⟨bs, 3, none⟩ (.int .i64 sfr)).setCell ⟨bs, 4, none⟩ (.int .i64 ste) = wc at BY ⊢
    clear hbs
    have ne := GX.some wc
    obtain ⟨cp1, cp2⟩ := CL.out _ BY.out.gw0
    have xp := GX.cell cp1 cp2
    have lxa := (Array.getElem?_eq_some_iff.1 (BY.out.lie (ba, #[.int .u64 ga, .int .u64 gb, .bool gc], 26) (by simp))).1
    have xa0 := GX.cell (BY.out.cell (b := ba) (c := #[.int .u64 ga, .int .u64 gb, .bool gc]) (t := 26) (i := 0) (by simp) rfl) lxa
    have xa1 := GX.cell (BY.out.cell (b := ba) (c := #[.int .u64 ga, .int .u64 gb, .bool gc]) (t := 26) (i := 1) (by simp) rfl) lxa
    have xa2 := GX.cell (BY.out.cell (b := ba) (c := #[.int .u64 ga, .int .u64 gb, .bool gc]) (t := 26) (i := 2) (by simp) rfl) lxa
    have lxb := (Array.getElem?_eq_some_iff.1 (BY.out.lie (bb, #[.int .u64 ga, .int .u64 gb, .bool gc], 26) (by simp))).1
    have xb0 := GX.cell (BY.out.cell (b := bb) (c := #[.int .u64 ga, .int .u64 gb, .bool gc]) (t := 26) (i := 0) (by simp) rfl) lxb
    have xb1 := GX.cell (BY.out.cell (b := bb) (c := #[.int .u64 ga, .int .u64 gb, .bool gc]) (t := 26) (i := 1) (by simp) rfl) lxb
    have xb2 := GX.cell (BY.out.cell (b := bb) (c := #[.int .u64 ga, .int .u64 gb, .bool gc]) (t := 26) (i := 2) (by simp) rfl) lxb
    have lxc := (Array.getElem?_eq_some_iff.1 (BY.out.lie (bc, #[.int .u64 aa, .int .u64 ab, .bool ac], 26) (by simp))).1
    have xc0 := GX.cell (BY.out.cell (b := bc) (c := #[.int .u64 aa, .int .u64 ab, .bool ac]) (t := 26) (i := 0) (by simp) rfl) lxc
    have xc1 := GX.cell (BY.out.cell (b := bc) (c := #[.int .u64 aa, .int .u64 ab, .bool ac]) (t := 26) (i := 1) (by simp) rfl) lxc
    have xc2 := GX.cell (BY.out.cell (b := bc) (c := #[.int .u64 aa, .int .u64 ab, .bool ac]) (t := 26) (i := 2) (by simp) rfl) lxc
    have lxd := (Array.getElem?_eq_some_iff.1 (BY.out.lie (bd, #[.int .u64 aa, .int .u64 ab, .bool ac], 26) (by simp))).1
    have xd0 := GX.cell (BY.out.cell (b := bd) (c := #[.int .u64 aa, .int .u64 ab, .bool ac]) (t := 26) (i := 0) (by simp) rfl) lxd
    have xd1 := GX.cell (BY.out.cell (b := bd) (c := #[.int .u64 aa, .int .u64 ab, .bool ac]) (t := 26) (i := 1) (by simp) rfl) lxd
    have xd2 := GX.cell (BY.out.cell (b := bd) (c := #[.int .u64 aa, .int .u64 ab, .bool ac]) (t := 26) (i := 2) (by simp) rfl) lxd
    have lxs := (Array.getElem?_eq_some_iff.1 (BY.out.lie (bs, #[.int .u64 sk, .float .f64 ssl, .float .f64 sic, .int .i64 sfr, .int .i64 ste], 42) (by simp))).1
    have xs0 := GX.cell (BY.out.cell (b := bs) (c := #[.int .u64 sk, .float .f64 ssl, .float .f64 sic, .int .i64 sfr, .int .i64 ste]) (t := 42) (i := 0) (by simp) rfl) lxs
    have xs1 := GX.cell (BY.out.cell (b := bs) (c := #[.int .u64 sk, .float .f64 ssl, .float .f64 sic, .int .i64 sfr, .int .i64 ste]) (t := 42) (i := 1) (by simp) rfl) lxs
    have xs2 := GX.cell (BY.out.cell (b := bs) (c := #[.int .u64 sk, .float .f64 ssl, .float .f64 sic, .int .i64 sfr, .int .i64 ste]) (t := 42) (i := 2) (by simp) rfl) lxs
    have xs3 := GX.cell (BY.out.cell (b := bs) (c := #[.int .u64 sk, .float .f64 ssl, .float .f64 sic, .int .i64 sfr, .int .i64 ste]) (t := 42) (i := 3) (by simp) rfl) lxs
    have xs4 := GX.cell (BY.out.cell (b := bs) (c := #[.int .u64 sk, .float .f64 ssl, .float .f64 sic, .int .i64 sfr, .int .i64 ste]) (t := 42) (i := 4) (by simp) rfl) lxs
    have lxo := (Array.getElem?_eq_some_iff.1 (BY.out.lie (bo, #[.int .u64 q, .int .i64 lv, .int .i64 sl], 52) (by simp))).1
    have xo0 := GX.cell (BY.out.cell (b := bo) (c := #[.int .u64 q, .int .i64 lv, .int .i64 sl]) (t := 52) (i := 0) (by simp) rfl) lxo
    have xo1 := GX.cell (BY.out.cell (b := bo) (c := #[.int .u64 q, .int .i64 lv, .int .i64 sl]) (t := 52) (i := 1) (by simp) rfl) lxo
    have xo2 := GX.cell (BY.out.cell (b := bo) (c := #[.int .u64 q, .int .i64 lv, .int .i64 sl]) (t := 52) (i := 2) (by simp) rfl) lxo
    clear cp1 cp2 lxa lxb lxc lxd lxs lxo
    try dsimp only [List.append]
    refine wp_region_growx (by kernel_rfl) (by kernel_rfl) ?_
    repeat (go_big_quiet_step (fail))
    go_big_quiet_want
    go_big_quiet_op
    go_big_quiet_call (exact growx_of (KR.out _ (BY.out.gw0.trans (GX.gw _))))
    repeat (go_big_quiet_step (fail))
    go_big_quiet_want
    go_big_quiet_op
    go_big_quiet_call (exact growx_of (KD.out _ (BY.out.gw0.trans (GX.gw _))))
    repeat (go_big_quiet_step (fail))
    go_big_quiet_want
    go_big_quiet_op
    go_big_quiet_call (exact growx_of (ZR.out _ (BY.out.gw0.trans (GX.gw _))))
    repeat (go_big_quiet_step (fail))
    go_big_quiet_want
    go_big_quiet_op
    go_big_quiet_call (exact growx_of (ZD.out _ (BY.out.gw0.trans (GX.gw _))))
    repeat (go_big_quiet_step (fail))
    go_big_quiet_want
    go_big_quiet_op
    go_big_quiet_call (exact growx_of (YR.out _ (BY.out.gw0.trans (GX.gw _))))
    repeat (go_big_quiet_step (fail))
    go_big_quiet_want
    go_big_quiet_op
    go_big_quiet_call (exact growx_of (YD.out _ (BY.out.gw0.trans (GX.gw _))))
    repeat (go_big_quiet_step (fail))
    go_big_quiet_want
    go_big_quiet_op
    go_big_quiet_call (exact growx_of (SD.out _ (BY.out.gw0.trans (GX.gw _))))
    repeat (go_big_quiet_step (fail))
    go_big_quiet_want
    go_big_quiet_op
    go_big_quiet_call (exact growx_of (SS.out _))
    repeat (go_big_quiet_step (fail))
    refine wpQuiet_nil ?_
    rintro _ ⟨gw, rfl⟩
    have G9 : Aside (Gw w gw.1) := BY.out.gw0.trans gw.gw
    clear xa0 xa1 xa2 xb0 xb1 xb2 xc0 xc1 xc2 xd0 xd1 xd2 xs0 xs1 xs2 xs3 xs4 xo0 xo1 xo2 xp
    go_wp2_with fail
    go_ret
    exact ⟨rfl, G9.out⟩

end Go.Proofs.YtdikiaeagcokdaaGreat
