/- How far keys rise: package keys' generic function at keys (over layer 4's words). Package line's Fits, over what its 'climb' does. -/
import Derived.Test.YtncnoaofdflbmabHBase
import Derived.Test.YtncnoaofdflbmabKPlain
import Derived.Deep.LoopGhost
import Derived.Deep.QuietTactic
import Derived.BigQuiet
import Derived.Test.YtncnoaofdflbmabXBase
import Derived.Test.YtncnoaofdflbmabL5Fits
namespace Go.Proofs.Ytncnoaofdflbmab
open Go.RowKit
set_option linter.unusedVariables false

theorem itself_any (x : Int) (w : World) : Calls Try.prog 37 #[.int .u64 x] w fun e w' => e = .returned (.int .u64 x) ∧ w' = w := by
  go_enter Try.func37, Try.ntmps37
  go_wp2
  go_ret
  exact ⟨rfl, rfl⟩

set_option maxHeartbeats 1000000 in
theorem rises_keys (ao : Option Addr) (n c : Nat) (f : Nat → Int) (hn : n < 4611686018427387904) (w : World) (h : KS w ao n f) :
    Calls Try.prog 36 #[.slice ao n c, .func (.func 37) #[] #[]] w fun e w' => (∃ r : Nat, e = .returned (.int .i64 r) ∧ r ≤ n ∧ (∀ j, j + 1 < r → f j < f (j + 1)) ∧ (r < n → 1 ≤ r ∧ f r ≤ f (r - 1))) ∧ Gw w w' := by
  go_enter Try.func36, Try.ntmps36
  go_wp2_with fail
  go_loopg [5] n (fun gg s5 wr => ∃ i : Nat, s5 = .int .i64 i ∧ 1 ≤ i ∧ (i ≤ n ∨ i = 1) ∧ n - i ≤ gg ∧ Aside (∀ j, j + 1 < i → f j < f (j + 1)) ∧ Aside (Gw w wr))
  case atStart => exact ⟨1, rfl, Nat.le_refl _, .inr rfl, by omega, fun j hj => by omega, Gw.refl w⟩
  case round =>
    obtain ⟨i, rfl, h1, h2, h3, H4, G⟩ := hrel
    by_cases hlt : i < n
    · obtain ⟨b, off, rfl, hb, hc⟩ := (h.gw G.out).cells (by omega)
      obtain ⟨m, hm⟩ : ∃ m : Nat, (i : Int) - 1 = m := ⟨i - 1, by omega⟩
      have hmn : m < n := by omega
      have hw := wrap_nat m (by omega)
      have c1 := hc i hlt
      have c0 := hc m hmn
      clear hc
      generalize hy1 : f i = y1 at c1
      generalize hy0 : f m = y0 at c0
      have Y : Aside (f i = y1 ∧ f m = y0 ∧ i = m + 1) := ⟨hy1, hy0, by omega⟩
      clear hy1 hy0 h h2
      by_cases hle : y1 ≤ y0
      · go_wp2_with fail
        go_quiet (first | (go_at_call 37; refine Calls.quiet_of_same (itself_any _ _)))
        go_wp2_with fail
        go_ret
        obtain ⟨e1, e2, e3⟩ := Y.out
        refine ⟨⟨i, rfl, by omega, H4.out, fun _ => ⟨h1, ?_⟩⟩, ?_⟩
        · rw [e1, show i - 1 = m by omega, e2]; exact hle
        · exact G.out.drewN _
      · go_wp2_with fail
        go_quiet (first | (go_at_call 37; refine Calls.quiet_of_same (itself_any _ _)))
        go_wp2_with fail
        go_roundg (n - (m + 2))
        case measure => omega
        case rel =>
          obtain ⟨e1, e2, e3⟩ := Y.out
          refine ⟨m + 2, by go_num, by omega, by omega, Nat.le_refl _, (show Aside _ from fun j hj => ?_), (show Aside _ from G.out.drewN _)⟩
          by_cases hj' : j = m
          · subst hj'; rw [e2, ← e3, e1]; omega
          · exact H4.out j (by omega)
    · go_wp2_with fail
      go_ret
      exact ⟨⟨n, rfl, Nat.le_refl _, fun j hj => H4.out j (by omega), fun hh => by omega⟩, G.out⟩

set_option maxHeartbeats 1000000 in
theorem rising_any (ao : Option Addr) (n c : Nat) (f : Nat → Int) (hn : n < 4611686018427387904) (w : World) (h : KS w ao n f) :
    Calls Try.prog 23 #[.slice ao n c] w fun e w' => (∃ r : Bool, e = .returned (.bool r) ∧ (r = true ↔ Up f n)) ∧ Gw w w' := by
  go_enter Try.func23, Try.ntmps23
  go_wp2_with fail
  refine (rises_keys ao n c f hn w h).mono ?_
  rintro e w1 ⟨⟨r, rfl, h1, h2, h3⟩, g1⟩
  have H : Hid ((∀ j, j + 1 < r → f j < f (j + 1)) ∧ (r < n → 1 ≤ r ∧ f r ≤ f (r - 1))) := ⟨h2, h3⟩
  clear h2 h3
  go_wp2_with fail
  go_ret
  obtain ⟨h2, h3⟩ := H.out
  refine ⟨⟨_, rfl, ?_⟩, g1⟩
  unfold Up
  by_cases hr : r = n
  · subst hr; simpa using h2
  · have q := h3 (by omega)
    have : ¬ ((r : Int) = n) := by omega
    simp only [beq_iff_eq]
    constructor
    · intro hh; omega
    · intro hh
      have := hh (r - 1) (by omega)
      rw [show r - 1 + 1 = r by omega] at this
      omega

end Go.Proofs.Ytncnoaofdflbmab

namespace Go.Proofs.Ytncnoaofdflbmab
open Go.RowKit Go.Shelf
set_option linter.unusedVariables false

attribute [local go_sem] Oper.semAt_some

set_option maxHeartbeats 1000000 in
theorem xstretch_any (ao : Option Addr) (n c : Nat) (f : Nat → Int) (hn : n < 4611686018427387904) (w : World) (h : KS w ao n f) :
    Calls Try.prog 11 #[.slice ao n c] w fun e w' => (∃ r : Bool, e = .returned (.bool r) ∧ (r = true ↔ 0 < n ∧ Up f n)) ∧ Gw w w' := by
  have R : Hid _ := fun w h => rising_any ao n c f hn w h
  have H : Hid (KS w ao n f) := h
  clear h
  by_cases h0 : 0 < n
  · have t0 : decide (0 < (n : Int)) = true := by simp; omega
    have t1 : (0 : Int) < (n : Int) := by omega
    go_enter Try.func11, Try.ntmps11
    go_wp2_with fail
    refine (R.out _ H.out).mono ?_
    rintro e w1 ⟨⟨r, rfl, hr⟩, g1⟩
    have HR : Hid (r = true ↔ Up f n) := hr
    clear hr
    go_wp2_with fail
    go_ret
    exact ⟨⟨r, rfl, by rw [HR.out]; exact ⟨fun q => ⟨h0, q⟩, fun q => q.2⟩⟩, g1⟩
  · have e0 : n = 0 := by omega
    subst e0
    go_enter Try.func11, Try.ntmps11
    go_wp2_with fail
    go_ret
    exact ⟨⟨false, rfl, by simp⟩, Gw.refl w⟩

/-- A key that the line is near to. -/
def NearAt (e : Int) (f : Nat → Int) (a b c : Int) (i : Nat) : Prop := ¬ AtBad a b c (f i - f 0) ∧ (i : Int) - e ≤ a * (f i - f 0) / b + c ∧ a * (f i - f 0) / b + c ≤ (i : Int) + e

/-- The variables of the walk. -/
structure FVars (w : World) (N M : Nat) (a b c e : Int) (z : Bool) (W : World) : Prop where
  gw : Gw w W
  bl : W.heap[N]? = some (.cells #[.int .u64 a, .int .u64 b, .int .i64 c] 26 (0, 0))
  br : W.heap[N + 1]? = some (.cells #[.bool z] 4 (0, 0))
  be : W.heap[M]? = some (.cells #[.int .i64 e] 3 (0, 0))
  bs : M + 1 < W.heap.size
theorem FVars.grown {w W W' : World} {N M : Nat} {a b c e : Int} {z : Bool} (h : FVars w N M a b c e z W) {row : Option Nat} (g : W.grownBy W' row) (hr : ∀ r, row = some r → M < r) (hN : w.heap.size = N) (hM : N + 1 < M) : FVars w N M a b c e z W' :=
  ⟨h.gw.grown g (fun k hk => by have := hr k hk; omega), (g.block _ (lt_of_blk h.bl) (fun q => by have := hr _ q.symm; omega)).trans h.bl, (g.block _ (lt_of_blk h.br) (fun q => by have := hr _ q.symm; omega)).trans h.br, (g.block _ (lt_of_blk h.be) (fun q => by have := hr _ q.symm; omega)).trans h.be, Nat.lt_of_lt_of_le h.bs g.size⟩
theorem FVars.go {w W W' : World} {N M : Nat} {a b c e : Int} {z : Bool} (h : FVars w N M a b c e z W) (g : Gw W W') : FVars w N M a b c e z W' :=
  ⟨h.gw.trans g, (g.below.block _ (lt_of_blk h.bl)).trans h.bl, (g.below.block _ (lt_of_blk h.br)).trans h.br, (g.below.block _ (lt_of_blk h.be)).trans h.be, Nat.lt_of_lt_of_le h.bs g.size⟩
theorem FVars.set {w W : World} {N M : Nat} {a b c e : Int} {z : Bool} (h : FVars w N M a b c e z W) (hN : w.heap.size = N) (hM : N + 1 < M) (z' : Bool) : FVars w N M a b c e z' (W.setCell ⟨N + 1, 0, none⟩ (.bool z')) :=
  ⟨h.gw.setCell (by simp; omega) _, (Go.Deep.blk_setCell_other _ _ _ _ (by simp)).trans h.bl, by have := h.br; simp [World.setCell, Array.getElem?_modify, this], (Go.Deep.blk_setCell_other _ _ _ _ (by simp; omega)).trans h.be, by have := h.bs; simpa [World.setCell] using this⟩

set_option maxRecDepth 100000 in
set_option maxHeartbeats 4000000 in
theorem xfits_any (CC : ClimbC) (a b c eps : Int) (ao : Option Addr) (n cp : Nat) (f : Nat → Int) (a0 : 0 ≤ a) (a1 : a < 18446744073709551616) (b0 : 0 ≤ b) (b1 : b < 18446744073709551616) (c0 : -9223372036854775808 ≤ c) (c1 : c < 9223372036854775808) (p0 : -9223372036854775808 ≤ eps) (p1 : eps < 9223372036854775808) (hn : n * 8 ≤ 140737488351232) (w : World) (h : KS w ao n f) :
    Calls Try.prog 7 #[.agg #[.int .u64 a, .int .u64 b, .int .i64 c], .slice ao n cp, .int .i64 eps] w fun ex w' => Tells ex (FitR eps f n a b c) ∧ Gw w w' := by
  have HK : Aside (KS w ao n f) := h
  clear h
  refine (callsIn_wide (n := 3)).1 ?_
  have h1 : 1 ≤ 3 := by omega
  have hro : Fence.wide.round = none := rfl
  have G1 : Aside (Gw w ((w.alloc (.cells #[.int .u64 a, .int .u64 b, .int .i64 c] 26)).alloc (.cells #[.bool false] 4))) := ((Gw.refl w).alloc _ _).alloc _ _
  have NO : Aside (∀ w', Gw w w' → ¬ FitR eps f n a b c → Tells (.returned (.bool false)) (FitR eps f n a b c) ∧ Gw w w') := fun w' g q => ⟨Tells.no q, g⟩
  by_cases k1 : eps < 2
  · have t1 : decide (eps < 2) = true := by simpa using k1
    have NF : Aside (¬ FitR eps f n a b c) := fun q => by have := q.1.1; omega
    refine callsIn_of_wp Try.func7 rfl trivial ?_ hro
    simp only [Try.ntmps7, List.size_toArray, List.length_cons, List.length_nil, Nat.reduceAdd, Nat.reduceSub, Array.replicate_succ, Array.replicate_zero, List.push_toArray, List.append_toArray, List.nil_append, List.cons_append]
    gi_wp2
    refine ⟨trivial, ?_⟩
    gi_wp2
    exact bodyPost_ret (v := .bool false) (by simp [results, Try.results7, go_sem]) rfl (NO.out _ G1.out NF.out)
  · have t1 : decide (eps < 2) = false := by simpa using k1
    by_cases k2 : 64 < eps
    · have t2 : decide (64 < eps) = true := by simpa using k2
      have NF : Aside (¬ FitR eps f n a b c) := fun q => by have := q.1.2; omega
      refine callsIn_of_wp Try.func7 rfl trivial ?_ hro
      simp only [Try.ntmps7, List.size_toArray, List.length_cons, List.length_nil, Nat.reduceAdd, Nat.reduceSub, Array.replicate_succ, Array.replicate_zero, List.push_toArray, List.append_toArray, List.nil_append, List.cons_append]
      gi_wp2
      refine ⟨trivial, ?_⟩
      gi_wp2
      exact bodyPost_ret (v := .bool false) (by simp [results, Try.results7, go_sem]) rfl (NO.out _ G1.out NF.out)
    · have t2 : decide (64 < eps) = false := by simpa using k2
      obtain ⟨W1, hW1⟩ : ∃ W1, (w.alloc (.cells #[.int .u64 a, .int .u64 b, .int .i64 c] 26)).alloc (.cells #[.bool false] 4) = W1 := ⟨_, rfl⟩
      obtain ⟨N, hN⟩ : ∃ N, w.heap.size = N := ⟨_, rfl⟩
      have q1 : W1.heap[N]? = some (.cells #[.int .u64 a, .int .u64 b, .int .i64 c] 26 (0, 0)) := by
        rw [← hW1, ← hN]; exact (Below.heap_alloc _ _ _ (by simp)).trans (World.alloc_heap_new w _)
      have q2 : W1.heap[N + 1]? = some (.cells #[.bool false] 4 (0, 0)) := by
        rw [← hW1, ← hN]
        have := World.alloc_heap_new (w.alloc (.cells #[.int .u64 a, .int .u64 b, .int .i64 c] 26)) (.cells #[.bool false] 4)
        simpa only [World.size_alloc] using this
      rw [hW1] at G1
      have K1 : Aside (KS W1 ao n f) := HK.out.gw G1.out
      have ST : Hid (∀ W, KS W ao n f → Calls Try.prog 11 #[.slice ao n cp] W fun e w' => (∃ r : Bool, e = .returned (.bool r) ∧ (r = true ↔ 0 < n ∧ Up f n)) ∧ Gw W w') := fun W h => xstretch_any ao n cp f (by omega) W h
      by_cases k3 : ¬ (0 < n ∧ Up f n)
      · have NF : Aside (¬ FitR eps f n a b c) := fun q => k3 ⟨q.2.1, q.2.2.1⟩
        have c2 : Aside (∀ W, Gw W1 W → W.cell? ⟨N + 1, 0, none⟩ = some (.bool false) ∧ W.frozen? ⟨N + 1, 0, none⟩ = false ∧ N + 1 < W.heap.size) := fun W g => by
          have := (g.below.block _ (lt_of_blk q2)).trans q2
          exact ⟨blk_c this rfl, blk_f this, lt_of_blk this⟩
        have ST' : Hid (∀ W, KS W ao n f → Calls Try.prog 11 #[.slice ao n cp] W fun e w' => e = .returned (.bool false) ∧ Gw W w') := fun W h => (ST.out W h).mono fun e w' ⟨⟨r, he, hr⟩, g⟩ => ⟨by cases r with
          | true => exact absurd (hr.1 rfl) k3
          | false => exact he, g⟩
        clear k3 ST q1 q2
        refine callsIn_of_wp Try.func7 rfl trivial ?_ hro
        simp only [Try.ntmps7, List.size_toArray, List.length_cons, List.length_nil, Nat.reduceAdd, Nat.reduceSub, Array.replicate_succ, Array.replicate_zero, List.push_toArray, List.append_toArray, List.nil_append, List.cons_append]
        gi_wp2
        refine ⟨trivial, ?_⟩
        refine (callsIn_wide.2 (ST'.out _ K1.out)).mono ?_
        rintro ex W2 ⟨rfl, g2⟩
        obtain ⟨m1, m2, m3⟩ := c2.out W2 g2
        gi_wp2
        have e5 : (W2.setCell ⟨N + 1, 0, none⟩ (.bool false)).cell? ⟨N + 1, 0, none⟩ = some (.bool false) := World.cell?_setCell_same' _ _ _ (by rw [m1]; rfl)
        exact bodyPost_ret (v := .bool false) (by simp [results, Try.results7, go_sem, e5]) rfl (NO.out _ ((G1.out.trans g2).setCell (by simp; omega) _) NF.out)
      · obtain ⟨n0, uu⟩ := Classical.not_not.1 k3
        have ST' : Hid (∀ W, KS W ao n f → Calls Try.prog 11 #[.slice ao n cp] W fun e w' => e = .returned (.bool true) ∧ Gw W w') := fun W h => (ST.out W h).mono fun e w' ⟨⟨r, he, hr⟩, g⟩ => ⟨by cases r with
          | false => exact absurd (hr.2 ⟨n0, uu⟩) (by simp)
          | true => exact he, g⟩
        have FR : Aside (FitR eps f n a b c ↔ ∀ i, i < n → NearAt (eps - 1) f a b c i) := ⟨fun q => q.2.2.2, fun q => ⟨⟨by omega, by omega⟩, n0, uu, q⟩⟩
        clear k3 ST NO
        have we : IntKind.i64.wrap (eps - 1) = eps - 1 := by rw [IntKind.wrap_i64]; omega
        refine callsIn_of_wp_marks Try.func7 rfl trivial ?_ hro
        simp only [Try.ntmps7, List.size_toArray, List.length_cons, List.length_nil, Nat.reduceAdd, Nat.reduceSub, Array.replicate_succ, Array.replicate_zero, List.push_toArray, List.append_toArray, List.nil_append, List.cons_append]
        gi_wp2
        refine ⟨trivial, ?_⟩
        refine (callsIn_wide.2 (ST'.out _ K1.out)).mono ?_
        rintro ex W2 ⟨rfl, g2⟩
        gi_wp2_with (refine ⟨trivial, ?_⟩; gi_at_call 20; refine (ranks_in Fence.wide _ trivial hro _ _ _ _).mono ?_; rintro ex w' ⟨rfl, rfl⟩)
        obtain ⟨bl, off, rfl, hb, hc⟩ := HK.out.cells n0
        have bd := HK.out.bd
        have up : ∀ i, i < n → 0 ≤ f i - f 0 ∧ f i - f 0 < 18446744073709551616 := fun i hi => by
          have h1 := uu.le (Nat.zero_le i) hi
          have h2 := bd i hi
          have h3 := bd 0 n0
          omega
        obtain ⟨e, he⟩ : ∃ e, eps - 1 = e := ⟨_, rfl⟩
        rw [he] at FR ⊢
        obtain ⟨M, hM⟩ : ∃ M, W2.heap.size = M := ⟨_, rfl⟩
        have NM : N + 1 < M := by
          have := lt_of_blk ((g2.below.block _ (lt_of_blk q2)).trans q2)
          omega
        obtain ⟨W0, hW0⟩ : ∃ W0, (W2.alloc (.cells #[.int .i64 e] 3)).alloc (.cells #[.slice (some ⟨bl, off, none⟩) n cp] 22) = W0 := ⟨_, rfl⟩
        have g0 : Gw W2 W0 := by rw [← hW0]; exact ((Gw.refl W2).alloc _ _).alloc _ _
        have G0 : Gw w W0 := (G1.out.trans g2).trans g0
        have sz : W0.heap.size = M + 1 + 1 := by rw [← hW0, ← hM]; simp
        have l3 : W0.heap[M + 1]? = some (.cells #[.slice (some ⟨bl, off, none⟩) n cp] 22 (0, 0)) := by
          rw [← hW0, ← hM]
          have := World.alloc_heap_new (W2.alloc (.cells #[.int .i64 e] 3)) (.cells #[.slice (some ⟨bl, off, none⟩) n cp] 22)
          simpa only [World.size_alloc] using this
        have l2 : W0.heap[M]? = some (.cells #[.int .i64 e] 3 (0, 0)) := by
          rw [← hW0, ← hM]; exact (Below.heap_alloc _ _ _ (by simp)).trans (World.alloc_heap_new W2 _)
        have V0 : FVars w N M a b c e false W0 := ⟨G0, ((g2.trans g0).below.block _ (lt_of_blk q1)).trans q1, ((g2.trans g0).below.block _ (lt_of_blk q2)).trans q2, l2, by omega⟩
        rw [hM, hW0]
        clear hW0 l2 q1 q2 g0 g2 K1 HK ST' hW1 G1
        have e0 : 1 ≤ e ∧ e ≤ 63 := by omega
        clear he we t1 t2 k1 k2
        refine wpIn_rangeFunc_ownG hro h1 (gf := 31) (lb := #[.pointer (some ⟨M + 1, 0, none⟩)]) rfl trivial (enters_of Try.func31 (by kernel_rfl) rfl)
          (ranks_stops Fence.wide 2 trivial hro (by omega) (M + 1) N bl off n cp f (by omega) (by omega) up W0 (by omega) l3 (fun j hj => (G0.cell _ _ hb).trans (hc j hj))) Kept.trans (Kept.put (by omega) (by omega)) (Below.refl _ _) (fun _ => rfl)
          (fun pre W => (∀ x ∈ pre, NearAt e f a b c x.1) ∧ FVars w N M a b c e false W)
          (fun c' pre W => (c' = .ret ∧ ∃ x ∈ pre, ¬ NearAt e f a b c x.1) ∧ FVars w N M a b c e false W)
          (fun s A B row hs hg hr => ⟨hs.1, hs.2.grown hg (fun r q => by have := (hr r q).1; omega) hN NM⟩)
          (fun c' s A B row hs hg hr => ⟨hs.1, hs.2.grown hg (fun r q => by have := (hr r q).1; omega) hN NM⟩)
          ⟨fun x hx => absurd hx (by simp), V0⟩
          (fun x => { tmps := #[.agg #[.int .u64 a, .int .u64 b, .int .i64 c], .slice (some ⟨bl, off, none⟩) n cp, .int .i64 eps, .pointer (some ⟨N, 0, none⟩), undef, undef, .pointer (some ⟨N + 1, 0, none⟩), .pointer (some ⟨M, 0, none⟩), .int .i64 ((x.1 : Nat) : Int), .int .u64 (f x.1 - f 0), undef, undef, .int .i64 eps, .bool false, .bool false, .int .i64 eps, .bool false, .bool false, .bool false, .slice (some ⟨bl, off, none⟩) n cp, .bool true, .bool false, .bool false, .int .i64 eps, .int .i64 e, .slice (some ⟨bl, off, none⟩) n cp, .func (.func 31) #[] #[.pointer (some ⟨M + 1, 0, none⟩)], .int .i64 ((x.1 : Nat) : Int), .int .u64 (f x.1 - f 0), undef, undef, undef, undef, undef, undef, undef, undef, undef, undef, undef, undef, undef, undef, undef, undef, undef, undef, undef, undef, undef, undef], defers := [] }) ?assign ?body ?done ?stop
        case assign =>
          intro l x W K hK
          simp only [pair]
          gi_wp2
          exact hK
        case body =>
          rintro l pre x W ⟨hp, V⟩ _
          have VV : Hid (FVars w N M a b c e false W) := V
          have HP : Hid (∀ x ∈ pre, NearAt e f a b c x.1) := hp
          have k0 := blk_c (o := 0) V.bl rfl
          have k1 := blk_c (o := 1) V.bl rfl
          have k2 := blk_c (o := 2) V.bl rfl
          clear V hp
          obtain ⟨u0, u1⟩ := up x.1 x.2
          have AT : Hid _ := fun W => xat_any CC a b c (f x.1 - f 0) a0 a1 b0 b1 c0 c1 u0 u1 W
          have GO : Aside (∀ r err, AtR a b c (f x.1 - f 0) r err → (NearAt e f a b c x.1 ↔ err = 0 ∧ ((x.1 : Nat) : Int) - e ≤ r ∧ r ≤ ((x.1 : Nat) : Int) + e)) := by
            rintro r err (⟨q1, q2, q3⟩ | ⟨q1, q2, q3⟩)
            · exact ⟨fun q => absurd q1 q.1, fun q => by omega⟩
            · subst q2 q3
              exact ⟨fun q => ⟨rfl, q.2.1, q.2.2⟩, fun q => ⟨q1, q.2.1, q.2.2⟩⟩
          have BD : Aside (∀ r err, AtR a b c (f x.1 - f 0) r err → err = 0 ∨ err = 1) := by
            rintro r err (⟨q1, q2, q3⟩ | ⟨q1, q2, q3⟩)
            · exact .inr q3
            · exact .inl q3
          have xn := x.2
          have YES : Hid (NearAt e f a b c x.1 → ∀ y ∈ pre ++ [x], NearAt e f a b c y.1) := fun q y hy => by
            rcases List.mem_append.1 hy with r | r
            · exact HP.out y r
            · have : y = x := by simpa using r
              rw [this]; exact q
          have NOT : Hid (¬ NearAt e f a b c x.1 → ∃ y ∈ pre ++ [x], ¬ NearAt e f a b c y.1) := fun q => ⟨x, List.mem_append.2 (.inr (by simp)), q⟩
          obtain ⟨d, hd⟩ : ∃ d, f x.1 - f 0 = d := ⟨_, rfl⟩
          rw [hd] at AT GO BD ⊢
          clear hd u0 u1 HP
          obtain ⟨r, hr⟩ : ∃ r : Nat, x.1 = r := ⟨_, rfl⟩
          rw [hr] at GO YES NOT xn ⊢
          clear hr
          have w1 : IntKind.i64.wrap ((r : Int) - e) = r - e := by rw [IntKind.wrap_i64]; omega
          have w2 : IntKind.i64.wrap ((r : Int) + e) = r + e := by rw [IntKind.wrap_i64]; omega
          gi_wp2
          refine ⟨trivial, ?_⟩
          refine (CallsIn.inRound l (callsIn_wide.2 (AT.out _))).mono ?_
          rintro ex W3 ⟨⟨v, err, rfl, hR⟩, g1⟩
          have V1 : Hid (FVars w N M a b c e false W3) := VV.out.go g1
          have m0 := blk_c (o := 0) V1.out.be rfl
          have m1 := blk_c (o := 0) V1.out.br rfl
          have m2 := blk_f (o := 0) V1.out.br
          have gg := GO.out v err hR
          have hq := BD.out v err hR
          have KG : Aside (KeepsFrom W0.heap.size W W3) := keeps_gw g1
          have KK : Aside (Kept N (M + 1) W W3) := Kept.gw g1 (by have := VV.out.bs; omega) VV.out.bs
          clear GO BD AT hR g1 VV k0 k1 k2
          by_cases z1 : err = 0
          · subst z1
            by_cases z2 : v < (r : Int) - e
            · have t2 : decide (v < (r : Int) - e) = true := by simpa using z2
              have bad : ¬ NearAt e f a b c r := fun q => by have := gg.1 q; omega
              have BB : Aside _ := NOT.out bad
              clear gg bad NOT YES
              gi_wp2
              exact ⟨KG.out.trans ((KeepsOthers.setCell _ _ _).from _), ⟨rfl, BB.out⟩, V1.out.set hN NM false⟩
            · have t2 : decide (v < (r : Int) - e) = false := by simpa using z2
              by_cases z3 : (r : Int) + e < v
              · have t3 : decide ((r : Int) + e < v) = true := by simpa using z3
                have bad : ¬ NearAt e f a b c r := fun q => by have := gg.1 q; omega
                have BB : Aside _ := NOT.out bad
                clear gg bad NOT YES
                gi_wp2
                exact ⟨KG.out.trans ((KeepsOthers.setCell _ _ _).from _), ⟨rfl, BB.out⟩, V1.out.set hN NM false⟩
              · have t3 : decide ((r : Int) + e < v) = false := by simpa using z3
                have good : NearAt e f a b c r := gg.2 ⟨rfl, by omega, by omega⟩
                have BB : Aside _ := YES.out good
                clear gg good NOT YES
                gi_wp2
                exact ⟨KG.out, KK.out, BB.out, V1.out⟩
          · have t1 : (err != 0) = true := by simpa using z1
            have bad : ¬ NearAt e f a b c r := fun q => by have := gg.1 q; omega
            have BB : Aside _ := NOT.out bad
            clear gg bad NOT YES
            gi_wp2
            exact ⟨KG.out.trans ((KeepsOthers.setCell _ _ _).from _), ⟨rfl, BB.out⟩, V1.out.set hN NM false⟩
        case done =>
          rintro D ys W hD hS ⟨hp, V⟩ hK
          have m1 := blk_c (o := 0) V.br rfl
          have m2 := blk_f (o := 0) V.br
          gi_wp2
          have hK' := (KeepsOthers.setCell W ⟨N + 1, 0, none⟩ (.bool true)).same D _ hK rfl
          refine ⟨by simp, .inl ⟨_, _, rfl, run_takeDeferred hK', ?_⟩⟩
          have hc5 := cell_kept (World.cell?_setCell_same' W ⟨N + 1, 0, none⟩ (.bool true) (by rw [m1]; rfl)) (grownBy_putObj' _ D (.deferred none)) (fun r e => by cases e; exact ⟨_, hK', rfl⟩)
          refine ⟨.bool true, ?_, ⟨true, rfl, ⟨fun _ => FR.out.2 fun i hi => hp ⟨i, hi⟩ (hS.all _), fun _ => rfl⟩⟩, ⟨(V.gw.setCell (by simp; omega) _).below.trans (belowK_b (w := w) (Nat.le_refl _) _ D _ _ (by omega) hK' rfl rfl)⟩⟩
          simp [results, Try.f7, go_sem, hc5]
        case stop =>
          rintro D c' pre W hD _ ⟨⟨rfl, x, hx, bad⟩, V⟩ hK
          have m1 := blk_c (o := 0) V.br rfl
          gi_wp2
          refine ⟨by simp, .inl ⟨_, _, rfl, run_takeDeferred hK, ?_⟩⟩
          have hc5 := cell_kept m1 (grownBy_putObj' _ D (.deferred none)) (fun r e => by cases e; exact ⟨_, hK, rfl⟩)
          refine ⟨.bool false, ?_, Tells.no fun q => bad (FR.out.1 q x.1 x.2), ⟨V.gw.below.trans (belowK_b (w := w) (Nat.le_refl _) _ D _ _ (by omega) hK rfl rfl)⟩⟩
          simp [results, Try.f7, go_sem, hc5]

end Go.Proofs.Ytncnoaofdflbmab
