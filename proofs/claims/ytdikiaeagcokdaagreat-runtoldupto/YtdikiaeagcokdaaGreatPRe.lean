import Derived.Test.YtdikiaeagcokdaaGreatPZa
import Derived.Test.YtdikiaeagcokdaaGreatPE3
import Derived.Test.YtdikiaeagcokdaaGreatVBuild
import Derived.Test.YtdikiaeagcokdaaGreatPVo
import Derived.Test.YtdikiaeagcokdaaGreatPZi
import Derived.Test.YtdikiaeagcokdaaGreatVCheck
import Derived.Laws.StructEq
/- The document's layer 11: a run in memory, and what it is asked. -/
namespace Go.Proofs.YtdikiaeagcokdaaGreat
open Go.RowKit
set_option linter.unusedVariables false
attribute [local go_sem] run_store_float

/-- An entry as a value. -/
abbrev entV (k v : Int) (g : Bool) : Value := .agg #[.int .u64 k, .int .u64 v, .bool g]
/-- What At answers. -/
def atV (k v : Nat → Int) (g : Nat → Bool) (n : Nat) (i : Int) : Value × Int := if 0 ≤ i ∧ i < n then (entV (k i.toNat) (v i.toNat) (g i.toNat), 0) else (entV 0 0 false, 1)
/-- What Get answers. -/
def getV (k v : Nat → Int) (g : Nat → Bool) (n : Nat) (q : Int) : Value × Bool := if cntb k q n < n ∧ k (cntb k q n) = q then (entV (k (cntb k q n)) (v (cntb k q n)) (g (cntb k q n)), true) else (entV 0 0 false, false)
theorem ES.kept {u w : World} {eo : Option Addr} {n : Nat} {k v : Nat → Int} {g : Nat → Bool} {base : Nat} (h : ES u eo n k v g) (hb : ∀ a, eo = some a → base ≤ a.block) (hs : u.heap.size ≤ w.heap.size) (hk : ∀ q, base ≤ q → q < u.heap.size → w.heap[q]? = u.heap[q]?) : ES w eo n k v g := by
  refine ⟨fun hn => ?_, h.bd⟩
  obtain ⟨b, off, e, hb', hc⟩ := h.cells hn
  have bb : base ≤ b := hb _ e
  have eq : ∀ o, w.cell? ⟨b, o, none⟩ = u.cell? ⟨b, o, none⟩ := fun o => World.cell?_of_block (a := ⟨b, o, none⟩) (hk b bb hb')
  exact ⟨b, off, e, by omega, fun i hi => ⟨(eq _).trans (hc i hi).1, (eq _).trans (hc i hi).2.1, (eq _).trans (hc i hi).2.2⟩⟩

/-- The document's run at block p, made of the blocks S: it lies as it lay in the world u. -/
structure HDoc (w : World) (p : Nat) (S : Nat → Prop) (eps : Int) (k v : Nat → Int) (g : Nat → Bool) (n : Nat) (L : List (List Sg)) : Prop where
  lies : ∃ (u : World) (base : Nat) (eo : Option Addr) (ec : Nat) (lo : Option Addr) (lc : Nat), (∀ q, S q ↔ base ≤ q ∧ q < u.heap.size) ∧ u.heap.size ≤ w.heap.size ∧ (∀ q, base ≤ q → q < u.heap.size → w.heap[q]? = u.heap[q]?) ∧ u.heap[p]? = some (.cells #[.slice eo n ec, .int .i64 eps, .slice lo L.length lc] 75 (0, 0)) ∧ base ≤ p ∧ ES u eo n k v g ∧ (∀ a, eo = some a → base ≤ a.block) ∧ VSf u base lo L
  n1 : n ≤ 2000000
  sh : Short L
section
variable {w : World} {p : Nat} {S : Nat → Prop} {eps : Int} {k v : Nat → Int} {g : Nat → Bool} {n : Nat} {L : List (List Sg)}
theorem HDoc.lt (h : HDoc w p S eps k v g n L) : ∀ q, S q → q < w.heap.size := by
  obtain ⟨u, base, ko, kc, lo, lc, h1, h2, _⟩ := h.lies
  intro q hq
  have := (h1 q).1 hq
  omega
theorem HDoc.keep {w' : World} (h : HDoc w p S eps k v g n L) (kk : ∀ q, S q → w'.heap[q]? = w.heap[q]?) : HDoc w' p S eps k v g n L := by
  obtain ⟨u, base, ko, kc, lo, lc, h1, h2, h3, h4, h5, h6⟩ := h.lies
  have pu : p < u.heap.size := (Array.getElem?_eq_some_iff.1 h4).1
  refine ⟨⟨u, base, ko, kc, lo, lc, h1, ?_, fun q a b => (kk q ((h1 q).2 ⟨a, b⟩)).trans (h3 q a b), h4, h5, h6⟩, h.n1, h.sh⟩
  have e := kk (u.heap.size - 1) ((h1 _).2 ⟨by omega, by omega⟩)
  rw [Array.getElem?_eq_getElem (show u.heap.size - 1 < w.heap.size by omega)] at e
  have := (Array.getElem?_eq_some_iff.1 e).1
  omega
theorem HDoc.gw {w' : World} (h : HDoc w p S eps k v g n L) (gg : Gw w w') : HDoc w' p S eps k v g n L := h.keep fun q hq => gg.below.block q (h.lt q hq)
theorem HDoc.opened (h : HDoc w p S eps k v g n L) : ∃ eo ec lo lc, w.heap[p]? = some (.cells #[.slice eo n ec, .int .i64 eps, .slice lo L.length lc] 75 (0, 0)) ∧ ES w eo n k v g ∧ VS w lo L := by
  obtain ⟨u, base, ko, kc, lo, lc, h1, h2, h3, h4, h5, h6, h7, h8⟩ := h.lies
  have pu : p < u.heap.size := (Array.getElem?_eq_some_iff.1 h4).1
  exact ⟨ko, kc, lo, lc, (h3 p h5 pu).trans h4, h6.kept h7 h2 h3, (h8.keep (fun q a b => h3 q a b) h2).vs⟩
end
theorem dc_cells {w : World} {p : Nat} {a b c : Value} {t : TypeId} (h : w.heap[p]? = some (.cells #[a, b, c] t (0, 0))) : w.cell? ⟨p, 0, none⟩ = some a ∧ w.cell? ⟨p, 1, none⟩ = some b ∧ w.cell? ⟨p, 2, none⟩ = some c := by
  refine ⟨?_, ?_, ?_⟩ <;> simp [World.cell?, h]

set_option maxRecDepth 10000 in
set_option maxHeartbeats 4000000 in
theorem dc_at {w : World} {p : Nat} {S : Nat → Prop} {eps : Int} {k v : Nat → Int} {g : Nat → Bool} {n : Nat} {L : List (List Sg)} (h : HDoc w p S eps k v g n L) (i : Int) :
    Calls Tryz.prog 44 #[.pointer (some ⟨p, 0, none⟩), .int .i64 i] w fun e w' => e = .returned (.tuple #[(atV k v g n i).1, .int .i64 (atV k v g n i).2]) ∧ Gw w w' := by
  obtain ⟨eo, ec, lo, lc, h1, hk, hv⟩ := h.opened
  obtain ⟨c0, c1, c2⟩ := dc_cells h1
  have pl : p < w.heap.size := (Array.getElem?_eq_some_iff.1 h1).1
  have hn := h.n1
  clear h h1 hv
  unfold atV
  by_cases a : i < 0
  · have t1 : decide (i < 0) = true := by simpa using a
    rw [if_neg (by omega)]
    clear hk a
    go_enter Tryz.func44, Tryz.ntmps44
    go_wp2_with fail
    exact bodyPost_ret (v := .tuple #[.agg #[.int .u64 0, .int .u64 0, .bool false], .int .i64 1]) (by simp [results, Tryz.results44, go_sem]) rfl ⟨rfl, (Gw.refl w).alloc _ _⟩
  · have t1 : decide (i < 0) = false := by simpa using a
    by_cases b : (n : Int) ≤ i
    · have t2 : decide ((n : Int) ≤ i) = true := by simpa using b
      rw [if_neg (by omega)]
      clear hk a
      go_enter Tryz.func44, Tryz.ntmps44
      go_wp2_with fail
      exact bodyPost_ret (v := .tuple #[.agg #[.int .u64 0, .int .u64 0, .bool false], .int .i64 1]) (by simp [results, Tryz.results44, go_sem]) rfl ⟨rfl, (Gw.refl w).alloc _ _⟩
    · have t2 : decide ((n : Int) ≤ i) = false := by simpa using b
      rw [if_pos (by omega)]
      obtain ⟨j, rfl⟩ : ∃ j : Nat, i = (j : Int) := ⟨i.toNat, by omega⟩
      obtain ⟨kb, ko, rfl, hkb, hkc⟩ := hk.cells (by omega)
      obtain ⟨d1, d2, d3⟩ := hkc j (by omega)
      have jl : j < n := by omega
      have jl' : (j : Int) < (n : Int) := by omega
      show Calls _ _ _ _ fun e w' => e = .returned (.tuple #[.agg #[.int .u64 (k j), .int .u64 (v j), .bool (g j)], .int .i64 0]) ∧ Gw w w'
      generalize k j = kj at d1 ⊢
      generalize v j = vj at d2 ⊢
      generalize g j = gj at d3 ⊢
      clear hk hkc a b
      go_enter Tryz.func44, Tryz.ntmps44
      go_wp2_with fail
      exact bodyPost_ret (v := .tuple #[.agg #[.int .u64 kj, .int .u64 vj, .bool gj], .int .i64 0]) (by simp [results, Tryz.results44, go_sem]) rfl ⟨rfl, (Gw.refl w).alloc _ _⟩
set_option maxRecDepth 10000 in
set_option maxHeartbeats 4000000 in
theorem dc_rank {w : World} {p : Nat} {S : Nat → Prop} {eps : Int} {k v : Nat → Int} {g : Nat → Bool} {n : Nat} {L : List (List Sg)} (h : HDoc w p S eps k v g n L) (q : Int) :
    Calls Tryz.prog 45 #[.pointer (some ⟨p, 0, none⟩), .int .u64 q] w fun e w' => e = .returned (.int .i64 (cntb k q n : Nat)) ∧ Gw w w' := by
  have HD : Aside (HDoc w p S eps k v g n L) := h
  have hn := h.n1
  obtain ⟨N, hN⟩ : ∃ N, cntb k q n = N := ⟨_, rfl⟩
  have NV : Aside (cntb k q n = N) := hN
  rw [hN]
  clear h hN
  go_enter Tryz.func45, Tryz.ntmps45
  go_wp2_with fail
  go_loopg [5, 6] n (fun gg s4 s5 wr => ∃ j : Nat, s4 = .int .i64 ((cntb k q j : Nat) : Int) ∧ s5 = .int .i64 (j : Int) ∧ j ≤ n ∧ n - j ≤ gg ∧ Aside (Gw w wr))
  case atStart => exact ⟨0, rfl, rfl, Nat.zero_le _, by omega, (show Aside _ from Gw.refl w)⟩
  case round =>
    obtain ⟨j, rfl, rfl, a1, a2, G⟩ := hrel
    obtain ⟨wS, hwS⟩ : ∃ wx, wx = wr := ⟨_, rfl⟩
    subst hwS
    obtain ⟨eo, ec, lo, lc, h1, hk, hv⟩ := (HD.out.gw G.out).opened
    obtain ⟨c0, c1, c2⟩ := dc_cells h1
    have pl : p < wS.heap.size := (Array.getElem?_eq_some_iff.1 h1).1
    clear h1 hv c1 c2
    by_cases hlt : j < n
    · obtain ⟨kb, ko, rfl, hkb, hkc⟩ := hk.cells (by omega)
      obtain ⟨d1, d2, d3⟩ := hkc j hlt
      have jl' : (j : Int) < (n : Int) := by omega
      have cl := cntb_le k q j
      have CN : Aside (cntb k q (j + 1) = cntb k q j + (if k j < q then 1 else 0)) := rfl
      generalize cntb k q j = cj at cl CN ⊢
      by_cases c : k j < q
      · rw [if_pos c] at CN
        have t1 : decide (k j < q) = true := by simpa using c
        generalize k j = kj at d1 c t1
        clear hk hkc d2 d3
        go_wp2_with fail
        go_roundg (n - (j + 1))
        case measure => omega
        case rel => exact ⟨j + 1, by rw [CN.out]; go_num, by go_num, by omega, Nat.le_refl _, G⟩
      · rw [if_neg c] at CN
        have t1 : decide (k j < q) = false := by simpa using c
        generalize k j = kj at d1 c t1
        clear hk hkc d2 d3
        go_wp2_with fail
        go_roundg (n - (j + 1))
        case measure => omega
        case rel => exact ⟨j + 1, by rw [CN.out]; rfl, by go_num, by omega, Nat.le_refl _, G⟩
    · have ej : j = n := by omega
      subst ej
      rw [NV.out]
      clear hk
      go_wp2_with fail
      go_ret
      exact ⟨rfl, G.out⟩
set_option maxRecDepth 10000 in
set_option maxHeartbeats 4000000 in
theorem dc_get {w : World} {p : Nat} {S : Nat → Prop} {eps : Int} {k v : Nat → Int} {g : Nat → Bool} {n : Nat} {L : List (List Sg)} (h : HDoc w p S eps k v g n L) (up : Up k n) (q : Int) :
    Calls Tryz.prog 43 #[.pointer (some ⟨p, 0, none⟩), .int .u64 q] w fun e w' => e = .returned (.tuple #[(getV k v g n q).1, .bool (getV k v g n q).2]) ∧ Gw w w' := by
  have HD : Aside (HDoc w p S eps k v g n L) := h
  have hn := h.n1
  have YES : Aside (∀ j, j < n → k j = q → getV k v g n q = (entV (k j) (v j) (g j), true)) := fun j hj e => by
    obtain ⟨a, b⟩ := cntb_up up q n (Nat.le_refl _)
    have c1 : cntb k q n ≤ j := by
      rcases Nat.lt_or_ge j (cntb k q n) with x | x
      · have := a j x; omega
      · exact x
    have c2 : cntb k q n = j := by
      rcases Nat.lt_or_ge (cntb k q n) j with x | x
      · have x1 := b (cntb k q n) (Nat.le_refl _) (by omega)
        have x2 := up.lt x hj
        omega
      · omega
    unfold getV
    rw [c2, if_pos ⟨hj, e⟩]
  have NO : Aside ((∀ j, j < n → k j ≠ q) → getV k v g n q = (entV 0 0 false, false)) := fun x => by
    unfold getV
    rw [if_neg (fun y => x _ y.1 y.2)]
  obtain ⟨⟨V, B⟩, hV⟩ : ∃ r, getV k v g n q = r := ⟨_, rfl⟩
  rw [hV] at YES NO ⊢
  clear h hV up
  go_enter Tryz.func43, Tryz.ntmps43
  go_wp2_with fail
  obtain ⟨bb, hbb⟩ : ∃ bb, w.heap.size = bb := ⟨_, rfl⟩
  have BB : Aside (w.heap.size = bb) := hbb
  rw [hbb]
  clear hbb
  go_loopg [6] n (fun gg s5 wr => ∃ j : Nat, s5 = .int .i64 (j : Int) ∧ j ≤ n ∧ n - j ≤ gg ∧ Aside (∀ i, i < j → k i ≠ q) ∧ Aside (Gw (w.alloc (.cells #[.int .u64 0, .int .u64 0, .bool false] 26)) wr))
  case atStart => exact ⟨0, rfl, Nat.zero_le _, by omega, (show Aside _ from fun i hi => by omega), (show Aside _ from Gw.refl _)⟩
  case round =>
    obtain ⟨j, rfl, a1, a2, NE, G⟩ := hrel
    obtain ⟨wS, hwS⟩ : ∃ wx, wx = wr := ⟨_, rfl⟩
    subst hwS
    obtain ⟨eo, ec, lo, lc, h1, hk, hv⟩ := (HD.out.gw (((Gw.refl w).alloc _ _).trans G.out)).opened
    obtain ⟨c0, c1, c2⟩ := dc_cells h1
    have pl : p < wS.heap.size := (Array.getElem?_eq_some_iff.1 h1).1
    have bx : wS.heap[bb]? = some (.cells #[.int .u64 0, .int .u64 0, .bool false] 26 (0, 0)) := by rw [← BB.out]; exact (G.out.below.block _ (by simp)).trans (heap_alloc_new w _)
    obtain ⟨x0, x1, x2⟩ := dc_cells bx
    have z0 : wS.frozen? ⟨bb, 0, none⟩ = false := by simp [World.frozen?, bx]
    have z1 : wS.frozen? ⟨bb, 1, none⟩ = false := by simp [World.frozen?, bx]
    have z2 : wS.frozen? ⟨bb, 2, none⟩ = false := by simp [World.frozen?, bx]
    have zb : bb < wS.heap.size := (Array.getElem?_eq_some_iff.1 bx).1
    clear h1 hv c1 c2 bx
    by_cases hlt : j < n
    · obtain ⟨kb, ko, rfl, hkb, hkc⟩ := hk.cells (by omega)
      obtain ⟨d1, d2, d3⟩ := hkc j hlt
      have jl' : (j : Int) < (n : Int) := by omega
      by_cases c : k j = q
      · have R : Aside ((V, B) = (entV (k j) (v j) (g j), true)) := YES.out j hlt c
        have t1 : (k j == q) = true := by simpa using c
        generalize k j = kj at d1 t1 R
        generalize v j = vj at d2 R
        generalize g j = gj at d3 R
        clear hk hkc c
        have r := R.out
        simp only [Prod.mk.injEq] at r
        obtain ⟨rfl, rfl⟩ := r
        clear R YES NO
        go_wp2_with fail
        have hb : w.heap.size ≤ bb := Nat.le_of_eq BB.out
        have gg : Gw w wS := ((Gw.refl w).alloc _ _).trans G.out
        exact bodyPost_ret (v := .tuple #[.agg #[.int .u64 kj, .int .u64 vj, .bool gj], .bool true]) (by simp [results, Tryz.results43, go_sem, x0, x1, x2]) rfl ⟨rfl, ((gg.setCell hb _).setCell hb _).setCell hb _⟩
      · have N2 : Aside (∀ i, i < j + 1 → k i ≠ q) := fun i hi => by
          by_cases x : i = j
          · rw [x]; exact c
          · exact NE.out i (by omega)
        have t1 : (k j == q) = false := by simpa using c
        generalize k j = kj at d1 t1
        clear hk hkc d2 d3 c NE
        go_wp2_with fail
        go_roundg (n - (j + 1))
        case measure => omega
        case rel => exact ⟨j + 1, by go_num, by omega, Nat.le_refl _, N2, G⟩
    · have ej : j = n := by omega
      subst ej
      have r := NO.out NE.out
      simp only [Prod.mk.injEq] at r
      obtain ⟨rfl, rfl⟩ := r
      clear hk YES NO
      go_wp2_with fail
      have hb : w.heap.size ≤ bb := Nat.le_of_eq BB.out
      have gg : Gw w wS := ((Gw.refl w).alloc _ _).trans G.out
      first
        | exact bodyPost_ret (v := .tuple #[.agg #[.int .u64 0, .int .u64 0, .bool false], .bool false]) (by simp [results, Tryz.results43, go_sem, x0, x1, x2]) rfl ⟨rfl, ((gg.setCell hb _).setCell hb _).setCell hb _⟩
        | exact bodyPost_ret (v := .tuple #[.agg #[.int .u64 0, .int .u64 0, .bool false], .bool false]) (by simp [results, Tryz.results43, go_sem, x0, x1, x2]) rfl ⟨rfl, gg⟩

end Go.Proofs.YtdikiaeagcokdaaGreat

/- The document's layer 11: the slots of a run. -/
namespace Go.Proofs.YtdikiaeagcokdaaGreat
open Go.RowKit
set_option linter.unusedVariables false
attribute [local go_sem] run_store_float

set_option maxRecDepth 10000 in
set_option maxHeartbeats 4000000 in
theorem dc_size {w : World} {p : Nat} {S : Nat → Prop} {eps : Int} {k v : Nat → Int} {g : Nat → Bool} {n : Nat} {L : List (List Sg)} (h : HDoc w p S eps k v g n L) (lv : Int) (l0 : -9223372036854775808 ≤ lv) (l1 : lv < 9223372036854775808) :
    Calls Tryz.prog 37 #[.pointer (some ⟨p, 0, none⟩), .int .i64 lv] w fun e w' => e = .returned (.int .i64 (sizeV n L lv : Nat)) ∧ w' = w := by
  obtain ⟨ko, kc, lo, lc, h1, hk, hv⟩ := h.opened
  obtain ⟨c0, c1, c2⟩ := dc_cells h1
  have pl : p < w.heap.size := (Array.getElem?_eq_some_iff.1 h1).1
  have hl := h.sh.1
  obtain ⟨ln, hln⟩ : ∃ ln, L.length = ln := ⟨_, rfl⟩
  have LN : Aside (L.length = ln) := hln
  rw [hln] at c2 hl
  have HV : Aside (VS w lo L) := hv
  clear h h1 hk hv hln
  by_cases z : lv = 0
  · have e : sizeV n L lv = n := by rw [z]; unfold sizeV; rw [if_pos ⟨Int.le_refl _, by omega⟩]; rfl
    have t0 : (lv == 0) = true := by simpa using z
    rw [e]
    clear e z
    go_enter Tryz.func37, Tryz.ntmps37
    go_wp2_with fail
    go_ret
    exact ⟨rfl, rfl⟩
  · have t0 : (lv == 0) = false := by simpa using z
    by_cases a : lv < 0
    · have e : sizeV n L lv = 0 := by unfold sizeV; rw [if_neg (fun x => by have := x.1; omega)]
      have t1 : decide (lv < 0) = true := by simpa using a
      rw [e]
      clear e z
      go_enter Tryz.func37, Tryz.ntmps37
      go_wp2_with fail
      go_ret
      exact ⟨rfl, rfl⟩
    · have t1 : decide (lv < 0) = false := by simpa using a
      by_cases b : (ln : Int) < lv
      · have e : sizeV n L lv = 0 := by unfold sizeV; rw [if_neg (fun x => by have := x.2; rw [LN.out] at this; omega)]
        have t2 : decide ((ln : Int) < lv) = true := by simpa using b
        rw [e]
        clear e z
        go_enter Tryz.func37, Tryz.ntmps37
        go_wp2_with fail
        go_ret
        exact ⟨rfl, rfl⟩
      · obtain ⟨i, hi⟩ : ∃ i : Nat, lv = (i : Int) + 1 := ⟨(lv - 1).toNat, by omega⟩
        have e : sizeV n L lv = (L.getD i []).length := by
          unfold sizeV
          rw [if_pos ⟨by omega, by rw [LN.out]; omega⟩, show lv.toNat = i + 1 by omega]
          rfl
        have t2 : decide ((ln : Int) < lv) = false := by simpa using b
        have w1 : IntKind.i64.wrap (lv - 1) = (i : Int) := by rw [IntKind.wrap_i64]; omega
        obtain ⟨lb, lf, rfl, hlb, hlc⟩ := HV.out.cells (by rw [LN.out]; omega)
        obtain ⟨so, sc, q1, _, _, _⟩ := hlc i (by rw [LN.out]; omega)
        have il : i < ln := by omega
        have il' : (i : Int) < (ln : Int) := by omega
        rw [e]
        generalize (L.getD i []).length = sn at q1 ⊢
        clear e z hlc hi
        go_enter Tryz.func37, Tryz.ntmps37
        go_wp2_with fail
        go_ret
        exact ⟨rfl, rfl⟩
set_option maxRecDepth 10000 in
set_option maxHeartbeats 4000000 in
theorem dc_seg {w : World} {p : Nat} {S : Nat → Prop} {eps : Int} {k v : Nat → Int} {g : Nat → Bool} {n : Nat} {L : List (List Sg)} (h : HDoc w p S eps k v g n L) (lv sl : Int) (l0 : -9223372036854775808 ≤ lv) (l1 : lv < 9223372036854775808) (s0 : -9223372036854775808 ≤ sl) (s1 : sl < 9223372036854775808) :
    Calls Tryz.prog 47 #[.pointer (some ⟨p, 0, none⟩), .int .i64 lv, .int .i64 sl] w fun e w' => e = .returned (sgV (segW L lv sl)) ∧ Gw w w' := by
  have HA : Hid (∀ W, Gw w W → Calls Tryz.prog 37 #[.pointer (some ⟨p, 0, none⟩), .int .i64 lv] W fun e w' => e = .returned (.int .i64 (sizeV n L lv : Nat)) ∧ w' = W) := fun W gg => dc_size (h.gw gg) lv l0 l1
  have HD : Aside (HDoc w p S eps k v g n L) := h
  have hl := h.sh.1
  clear h
  have ZERO : segW L lv sl = sg0 → Calls Tryz.prog 47 #[.pointer (some ⟨p, 0, none⟩), .int .i64 lv, .int .i64 sl] w (fun e w' => e = .returned (.agg #[.int .u64 0, .float .f64 0, .float .f64 0, .int .i64 0, .int .i64 0]) ∧ Gw w w') → Calls Tryz.prog 47 #[.pointer (some ⟨p, 0, none⟩), .int .i64 lv, .int .i64 sl] w (fun e w' => e = .returned (sgV (segW L lv sl)) ∧ Gw w w') := fun e x => by rw [e]; exact x
  by_cases z : lv < 1
  · refine ZERO (by unfold segW; rw [if_neg (fun x => by have := x.1.1; omega)]) ?_
    have t0 : decide (lv < 1) = true := by simpa using z
    clear ZERO HA z
    go_enter Tryz.func47, Tryz.ntmps47
    go_wp2_with fail
    first
      | exact bodyPost_ret (v := .agg #[.int .u64 0, .float .f64 0, .float .f64 0, .int .i64 0, .int .i64 0]) (by simp [results, Tryz.results47, go_sem]) rfl ⟨rfl, (Gw.refl w).alloc _ _⟩
      | exact bodyPost_ret (v := .agg #[.int .u64 0, .float .f64 0, .float .f64 0, .int .i64 0, .int .i64 0]) (by simp [results, Tryz.results47, go_sem]) rfl ⟨rfl, Gw.refl w⟩
  · have t0 : decide (lv < 1) = false := by simpa using z
    by_cases y : sl < 0
    · refine ZERO (by unfold segW; rw [if_neg (fun x => by have := x.2.1; omega)]) ?_
      have t1 : decide (sl < 0) = true := by simpa using y
      clear ZERO HA z y
      go_enter Tryz.func47, Tryz.ntmps47
      go_wp2_with fail
      first
        | exact bodyPost_ret (v := .agg #[.int .u64 0, .float .f64 0, .float .f64 0, .int .i64 0, .int .i64 0]) (by simp [results, Tryz.results47, go_sem]) rfl ⟨rfl, (Gw.refl w).alloc _ _⟩
        | exact bodyPost_ret (v := .agg #[.int .u64 0, .float .f64 0, .float .f64 0, .int .i64 0, .int .i64 0]) (by simp [results, Tryz.results47, go_sem]) rfl ⟨rfl, Gw.refl w⟩
    · have t1 : decide (sl < 0) = false := by simpa using y
      by_cases a : sl < (sizeV n L lv : Nat)
      · have t2 : decide (((sizeV n L lv : Nat) : Int) ≤ sl) = false := by simpa using a
        have b : 0 ≤ lv ∧ lv ≤ L.length := by
          by_cases x : 0 ≤ lv ∧ lv ≤ L.length
          · exact x
          · have := a; unfold sizeV at this; rw [if_neg x] at this; omega
        obtain ⟨i, hi⟩ : ∃ i : Nat, lv = (i : Int) + 1 := ⟨(lv - 1).toNat, by omega⟩
        have e : sizeV n L lv = (L.getD i []).length := by
          unfold sizeV
          rw [if_pos ⟨by omega, b.2⟩, show lv.toNat = i + 1 by omega]
          rfl
        rw [e] at a t2 HA
        obtain ⟨m, hm⟩ : ∃ m : Nat, sl = (m : Int) := ⟨sl.toNat, by omega⟩
        have e2 : segW L lv sl = (L.getD i []).getD m sg0 := by
          unfold segW
          rw [show lv.toNat - 1 = i by omega, if_pos ⟨⟨by omega, b.2⟩, by omega, a⟩, show sl.toNat = m by omega]
        rw [e2]
        have w1 : IntKind.i64.wrap (lv - 1) = (i : Int) := by rw [IntKind.wrap_i64]; omega
        have CL : Hid (∀ W, Gw w W → ∃ eo ec lb lf lc so sc gb gf, W.cell? ⟨p, 2, none⟩ = some (.slice (some ⟨lb, lf, none⟩) L.length lc) ∧ W.cell? ⟨lb, lf + i, none⟩ = some (.slice (some ⟨gb, gf, none⟩) (L.getD i []).length sc) ∧ SgAt W gb (gf + m * 5) ((L.getD i []).getD m sg0) ∧ p < W.heap.size ∧ lb < W.heap.size ∧ gb < W.heap.size ∧ eo = ec ∧ so = sc) := fun W gg => by
          obtain ⟨eo, ec, lo, lc, h1, hk, hv⟩ := (HD.out.gw gg).opened
          obtain ⟨c0, c1, c2⟩ := dc_cells h1
          obtain ⟨lb, lf, rfl, hlb, hlc⟩ := hv.cells (by omega)
          obtain ⟨so, sc, q1, _, _, q4⟩ := hlc i (by omega)
          obtain ⟨gb, gf, rfl, hgb, hgc⟩ := q4.cells (by omega)
          exact ⟨ec, ec, lb, lf, lc, sc, sc, gb, gf, c2, q1, hgc m (by omega), (Array.getElem?_eq_some_iff.1 h1).1, hlb, hgb, rfl, rfl⟩
        obtain ⟨sn, hsn⟩ : ∃ sn, (L.getD i []).length = sn := ⟨_, rfl⟩
        obtain ⟨ln, hln⟩ : ∃ ln, L.length = ln := ⟨_, rfl⟩
        rw [hsn] at a t2 HA CL
        rw [hln] at hl CL b
        obtain ⟨⟨kk, sp, ic, fr, te⟩, hs⟩ : ∃ s, (L.getD i []).getD m sg0 = s := ⟨_, rfl⟩
        rw [hs] at CL ⊢
        have il : i < ln := by omega
        have il' : (i : Int) < (ln : Int) := by omega
        have ml : m < sn := by omega
        have ml' : (m : Int) < (sn : Int) := by omega
        subst hm
        have t2' : ¬ sn ≤ m := by omega
        clear e z hi hs hsn hln e2 b a y ZERO t2 t1
        have t1 : decide ((m : Int) < 0) = false := by simp
        go_enter Tryz.func47, Tryz.ntmps47
        go_wp2_with fail
        refine Calls.mono (HA.out _ ((Gw.refl w).alloc _ _)) ?_
        rintro e w2 ⟨rfl, rfl⟩
        obtain ⟨_, _, lb, lf, lc, _, sc, gb, gf, c2, q1, ck, pl, hlb, hgb, _, _⟩ := CL.out _ ((Gw.refl w).alloc #[.int .u64 0, .float .f64 0, .float .f64 0, .int .i64 0, .int .i64 0] 42)
        have k0 := ck.c0
        have k1 := ck.c1
        have k2 := ck.c2
        have k3 := ck.c3
        have k4 := ck.c4
        clear HA CL ck
        go_wp2_with fail
        exact bodyPost_ret (v := .agg #[.int .u64 kk, .float .f64 sp, .float .f64 ic, .int .i64 fr, .int .i64 te]) (by simp [results, Tryz.results47, go_sem]) rfl ⟨rfl, (Gw.refl w).alloc _ _⟩
      · have t2 : decide (((sizeV n L lv : Nat) : Int) ≤ sl) = true := by simpa using a
        refine ZERO ?_ ?_
        · unfold segW
          refine if_neg (fun x => a ?_)
          have y := x.2.2
          unfold sizeV
          rw [if_pos ⟨by omega, x.1.2⟩]
          unfold rowN
          rw [if_neg (by have := x.1.1; omega)]
          exact y
        · clear ZERO z y a
          generalize sizeV n L lv = sz at HA t2
          go_enter Tryz.func47, Tryz.ntmps47
          go_wp2_with fail
          refine Calls.mono (HA.out _ ((Gw.refl w).alloc _ _)) ?_
          rintro e w2 ⟨rfl, rfl⟩
          clear HA
          go_wp2_with fail
          exact bodyPost_ret (v := .agg #[.int .u64 0, .float .f64 0, .float .f64 0, .int .i64 0, .int .i64 0]) (by simp [results, Tryz.results47, go_sem]) rfl ⟨rfl, (Gw.refl w).alloc _ _⟩
set_option maxRecDepth 10000 in
set_option maxHeartbeats 4000000 in
theorem dc_key {w : World} {p : Nat} {S : Nat → Prop} {eps : Int} {k v : Nat → Int} {g : Nat → Bool} {n : Nat} {L : List (List Sg)} (h : HDoc w p S eps k v g n L) (lv sl : Int) (l0 : -9223372036854775808 ≤ lv) (l1 : lv < 9223372036854775808) (s0 : -9223372036854775808 ≤ sl) (s1 : sl < 9223372036854775808) :
    Calls Tryz.prog 46 #[.pointer (some ⟨p, 0, none⟩), .int .i64 lv, .int .i64 sl] w fun e w' => e = .returned (.int .u64 (keyV k n L lv sl)) ∧ w' = w := by
  have HA : Hid (Calls Tryz.prog 37 #[.pointer (some ⟨p, 0, none⟩), .int .i64 lv] w fun e w' => e = .returned (.int .i64 (sizeV n L lv : Nat)) ∧ w' = w) := dc_size h lv l0 l1
  obtain ⟨eo, ec, lo, lc, h1, hk, hv⟩ := h.opened
  obtain ⟨c0, c1, c2⟩ := dc_cells h1
  have pl : p < w.heap.size := (Array.getElem?_eq_some_iff.1 h1).1
  have hn := h.n1
  have hl := h.sh.1
  obtain ⟨ln, hln⟩ : ∃ ln, L.length = ln := ⟨_, rfl⟩
  have LN : Aside (L.length = ln) := hln
  rw [hln] at c2 hl
  clear h h1 hln
  by_cases y : sl < 0
  · have t1 : decide (sl < 0) = true := by simpa using y
    have e : keyV k n L lv sl = 0 := by unfold keyV; rw [if_neg (fun x => by have := x.2.1; omega)]
    rw [e]
    clear e hk hv HA y
    go_enter Tryz.func46, Tryz.ntmps46
    go_wp2_with fail
    go_ret
    exact ⟨rfl, rfl⟩
  · have t1 : decide (sl < 0) = false := by simpa using y
    by_cases a : sl < (sizeV n L lv : Nat)
    · have t2 : decide (((sizeV n L lv : Nat) : Int) ≤ sl) = false := by simpa using a
      have b : 0 ≤ lv ∧ lv ≤ L.length := by
        by_cases x : 0 ≤ lv ∧ lv ≤ L.length
        · exact x
        · have := a; unfold sizeV at this; rw [if_neg x] at this; omega
      obtain ⟨m, hm⟩ : ∃ m : Nat, sl = (m : Int) := ⟨sl.toNat, by omega⟩
      by_cases z : lv = 0
      · have t0 : (lv == 0) = true := by simpa using z
        have e : sizeV n L lv = n := by rw [z]; unfold sizeV; rw [if_pos ⟨Int.le_refl _, by omega⟩]; rfl
        rw [e] at a t2 HA
        have e2 : keyV k n L lv sl = k m := by
          unfold keyV
          rw [z, if_pos ⟨⟨Int.le_refl _, by omega⟩, by omega, a⟩, show sl.toNat = m by omega]
          rfl
        rw [e2]
        obtain ⟨kb, kf, rfl, hkb, hkc⟩ := hk.cells (by omega)
        obtain ⟨d1, d2, d3⟩ := hkc m (by omega)
        generalize k m = km at d1 ⊢
        have ml : m < n := by omega
        have ml' : (m : Int) < (n : Int) := by omega
        subst hm
        have t2' : ¬ n ≤ m := by omega
        clear e e2 hk hkc hv a b y z d2 d3 t2 t1
        have t1 : decide ((m : Int) < 0) = false := by simp
        go_enter Tryz.func46, Tryz.ntmps46
        go_wp2_with fail
        refine Calls.mono HA.out ?_
        rintro e w2 ⟨rfl, hw⟩
        have hw' : w = w2 := hw.symm
        subst hw'
        clear hw HA
        go_wp2_with fail
        go_ret
        exact ⟨rfl, rfl⟩
      · have t0 : (lv == 0) = false := by simpa using z
        obtain ⟨i, hi⟩ : ∃ i : Nat, lv = (i : Int) + 1 := ⟨(lv - 1).toNat, by omega⟩
        have e : sizeV n L lv = (L.getD i []).length := by
          unfold sizeV
          rw [if_pos ⟨by omega, b.2⟩, show lv.toNat = i + 1 by omega]
          rfl
        rw [e] at a t2 HA
        have e2 : keyV k n L lv sl = ((L.getD i []).getD m sg0).k := by
          unfold keyV
          rw [show lv.toNat = i + 1 by omega, if_pos ⟨⟨by omega, b.2⟩, by omega, a⟩, show sl.toNat = m by omega]
          rfl
        rw [e2]
        have w1 : IntKind.i64.wrap (lv - 1) = (i : Int) := by rw [IntKind.wrap_i64]; omega
        obtain ⟨lb, lf, rfl, hlb, hlc⟩ := hv.cells (by omega)
        obtain ⟨so, sc, q1, _, _, q4⟩ := hlc i (by omega)
        obtain ⟨gb, gf, rfl, hgb, hgc⟩ := q4.cells (by omega)
        have k0 := (hgc m (by omega)).c0
        obtain ⟨sn, hsn⟩ : ∃ sn, (L.getD i []).length = sn := ⟨_, rfl⟩
        rw [hsn] at a t2 HA q1
        rw [LN.out] at b
        generalize ((L.getD i []).getD m sg0).k = kk at k0 ⊢
        have il : i < ln := by omega
        have il' : (i : Int) < (ln : Int) := by omega
        have ml : m < sn := by omega
        have ml' : (m : Int) < (sn : Int) := by omega
        subst hm
        have t2' : ¬ sn ≤ m := by omega
        clear e z hi hsn e2 b a y hk hv hlc hgc q4 t2 t1
        have t1 : decide ((m : Int) < 0) = false := by simp
        go_enter Tryz.func46, Tryz.ntmps46
        go_wp2_with fail
        refine Calls.mono HA.out ?_
        rintro e w2 ⟨rfl, hw⟩
        have hw' : w = w2 := hw.symm
        subst hw'
        clear hw HA
        go_wp2_with fail
        go_ret
        exact ⟨rfl, rfl⟩
    · have t2 : decide (((sizeV n L lv : Nat) : Int) ≤ sl) = true := by simpa using a
      have e : keyV k n L lv sl = 0 := by
        unfold keyV
        refine if_neg (fun x => a ?_)
        unfold sizeV
        rw [if_pos x.1]
        exact x.2.2
      rw [e]
      generalize sizeV n L lv = sz at HA t2
      clear e hk hv y a
      go_enter Tryz.func46, Tryz.ntmps46
      go_wp2_with fail
      refine Calls.mono HA.out ?_
      rintro e w2 ⟨rfl, hw⟩
      have hw' : w = w2 := hw.symm
      subst hw'
      clear hw HA
      go_wp2_with fail
      go_ret
      exact ⟨rfl, rfl⟩

end Go.Proofs.YtdikiaeagcokdaaGreat

/- The document's layer 11: New. -/
namespace Go.Proofs.YtdikiaeagcokdaaGreat
open Go.RowKit
set_option linter.unusedVariables false

/-- The cells of n entries. -/
def ecs (k v : Nat → Int) (g : Nat → Bool) (n : Nat) : List Value := (List.range (n * 3)).map (ecell k v g)
theorem ecs_len (k v : Nat → Int) (g : Nat → Bool) (n : Nat) : (ecs k v g n).length = n * 3 := by simp [ecs]
theorem ecs_at (k v : Nat → Int) (g : Nat → Bool) {n j : Nat} (h : j < n * 3) : (ecs k v g n)[j]? = some (ecell k v g j) := by simp [ecs, h]
theorem ecs_one (k v : Nat → Int) (g : Nat → Bool) (n : Nat) : ∀ u ∈ ecs k v g n, u.oneCell' = true := by
  intro u hu
  obtain ⟨j, _, rfl⟩ := List.mem_map.1 hu
  exact ecell_one k v g j
theorem es_news {w : World} {ao : Option Addr} {n : Nat} {k v : Nat → Int} {g : Nat → Bool} (h : ES w ao n k v g) : ∀ ad, ao = some ad → ∀ j u, (ecs k v g n)[j]? = some u → w.cell? (ad.add j) = some u := by
  intro ad e j u hu
  have hj : j < n * 3 := by
    have := (List.getElem?_eq_some_iff.1 hu).1
    rwa [ecs_len] at this
  obtain ⟨b, off, e', _, hc⟩ := h.flat (by omega)
  rw [e] at e'
  cases e'
  rw [Addr.add_lit, hc j hj, ← ecs_at k v g hj]
  exact hu
/-- A row of entries of a call's own. -/
def ER (w : World) (base : Nat) (x : Value) (k v : Nat → Int) (g : Nat → Bool) (n : Nat) : Prop := w.ownsRow base 26 3 x n (ecs k v g n)
theorem er_es {w : World} {base : Nat} {ao : Option Addr} {cap n : Nat} {k v : Nat → Int} {g : Nat → Bool} (h : ER w base (.slice ao n cap) k v g n) (bd : ∀ i, i < n → (0 ≤ k i ∧ k i < 18446744073709551616) ∧ (0 ≤ v i ∧ v i < 18446744073709551616)) : ES w ao n k v g := by
  refine ⟨fun h0 => ?_, bd⟩
  rcases h.2 with ⟨e, z⟩ | ⟨b, cap', cur, e, hb, hh, r⟩
  · omega
  · cases e
    have h' : w.ownsRow base 26 3 (.slice (some ⟨b, 0, none⟩) n cap) n (ecs k v g n) := h
    have ce : ∀ j, j < n * 3 → w.cell? ⟨b, j, none⟩ = some (ecell k v g j) := fun j hj => by
      rw [h'.cellAt j hj, ecs_at k v g hj]
    refine ⟨b, 0, rfl, (Array.getElem?_eq_some_iff.1 hh).1, fun i hi => ⟨?_, ?_, ?_⟩⟩
    · rw [Nat.zero_add, ce _ (by omega), ecell_0]
    · rw [Nat.zero_add, ce _ (by omega), ecell_1]
    · rw [Nat.zero_add, ce _ (by omega), ecell_2]
theorem er_form {w : World} {base : Nat} {x : Value} {k v : Nat → Int} {g : Nat → Bool} {n : Nat} (h : ER w base x k v g n) : ∃ bo c, x = .slice bo n c ∧ n ≤ c ∧ ∀ a, bo = some a → base ≤ a.block ∧ a.block < w.heap.size := by
  rcases h.2 with ⟨e, z⟩ | ⟨b, cap, cur, e, hb, hh, hc, _⟩
  · exact ⟨none, 0, by rw [e, z], by omega, fun a q => by cases q⟩
  · exact ⟨some ⟨b, 0, none⟩, cap, e, hc, fun a q => by cases q; exact ⟨hb, (Array.getElem?_eq_some_iff.1 hh).1⟩⟩

theorem VSf.low {w : World} {base base' : Nat} {ao : Option Addr} {L : List (List Sg)} (h : VSf w base ao L) (hb : base' ≤ base) : VSf w base' ao L :=
  ⟨fun h0 => by
    obtain ⟨b, off, e, x, hc⟩ := h.cells h0
    refine ⟨b, off, e, ⟨Nat.le_trans hb x.1, x.2⟩, fun i hi => ?_⟩
    obtain ⟨bo, c, y1, y2, y3, y4, y5⟩ := hc i hi
    exact ⟨bo, c, y1, y2, y3, y4, fun a ea => ⟨Nat.le_trans hb (y5 a ea).1, (y5 a ea).2⟩⟩⟩
/-- What New tells is wrong. -/
def NewE (eps : Int) (k v : Nat → Int) (g : Nat → Bool) (n : Nat) (E : Int) : Prop := (¬ (2 ≤ eps ∧ eps ≤ 64) ∧ E = 1) ∨ ((2 ≤ eps ∧ eps ≤ 64) ∧ ChkR k v g n E)
theorem NewE.one {eps : Int} {k v : Nat → Int} {g : Nat → Bool} {n : Nat} {E E' : Int} (h : NewE eps k v g n E) (h' : NewE eps k v g n E') : E = E' := by
  rcases h with ⟨a, rfl⟩ | ⟨a, c⟩
  · rcases h' with ⟨_, rfl⟩ | ⟨b, _⟩
    · rfl
    · exact absurd b a
  · rcases h' with ⟨b, _⟩ | ⟨_, d⟩
    · exact absurd a b
    · exact c.one d
/-- What Of tells is wrong. -/
def OfE (eps : Int) (k v : Nat → Int) (g : Nat → Bool) (n : Nat) (L : List (List Sg)) (E : Int) : Prop := ∃ r, NewE eps k v g n r ∧ ((r ≠ 0 ∧ E = r) ∨ (r = 0 ∧ CheckR eps k n L E))
theorem OfE.one {eps : Int} {k v : Nat → Int} {g : Nat → Bool} {n : Nat} {L : List (List Sg)} {E E' : Int} (h : OfE eps k v g n L E) (h' : OfE eps k v g n L E') : E = E' := by
  obtain ⟨r, a, b⟩ := h
  obtain ⟨r', a', b'⟩ := h'
  have e := a.one a'
  subst e
  rcases b with ⟨x, rfl⟩ | ⟨x, y⟩
  · rcases b' with ⟨_, rfl⟩ | ⟨z, _⟩
    · rfl
    · exact absurd z x
  · rcases b' with ⟨z, _⟩ | ⟨_, u⟩
    · exact absurd x z
    · exact y.one u
theorem NewE.up {eps : Int} {k v : Nat → Int} {g : Nat → Bool} {n : Nat} (h : NewE eps k v g n 0) : (2 ≤ eps ∧ eps ≤ 64) ∧ Up k n := by
  rcases h with ⟨_, e⟩ | ⟨a, ⟨_, u, _⟩ | ⟨e, _⟩ | ⟨e, _⟩⟩
  · cases e
  · exact ⟨a, u⟩
  · cases e
  · cases e
/-- What New answers. -/
def RunOut (HR : World → Nat → (Nat → Prop) → Int → (Nat → Int) → (Nat → Int) → (Nat → Bool) → Nat → List (List Sg) → Prop) (w w' : World) (ex : Ending) (eps : Int) (k v : Nat → Int) (g : Nat → Bool) (n : Nat) : Prop :=
  ∃ E, NewE eps k v g n E ∧ ((E ≠ 0 ∧ ex = .returned (.tuple #[.pointer none, .int .i64 E])) ∨ (E = 0 ∧ ∃ p S L, ex = .returned (.tuple #[.pointer (some ⟨p, 0, none⟩), .int .i64 0]) ∧ (∀ q, S q → w.heap.size ≤ q) ∧ BuildR eps k n L ∧ HR w' p S eps k v g n L))
/-- What Of answers. -/
def OfOutR (HR : World → Nat → (Nat → Prop) → Int → (Nat → Int) → (Nat → Int) → (Nat → Bool) → Nat → List (List Sg) → Prop) (w w' : World) (ex : Ending) (eps : Int) (k v : Nat → Int) (g : Nat → Bool) (n : Nat) (L : List (List Sg)) : Prop :=
  ∃ E, OfE eps k v g n L E ∧ ((E ≠ 0 ∧ ex = .returned (.tuple #[.pointer none, .int .i64 E])) ∨ (E = 0 ∧ ∃ p S, ex = .returned (.tuple #[.pointer (some ⟨p, 0, none⟩), .int .i64 0]) ∧ (∀ q, S q → w.heap.size ≤ q) ∧ HR w' p S eps k v g n L))
theorem BuildR.fine {eps : Int} {f : Nat → Int} {n : Nat} {L : List (List Sg)} (e0 : 2 ≤ eps) (n1 : n ≤ 2000000) (bd : ∀ t, t < n → 0 ≤ f t ∧ f t < 18446744073709551616) (u : Up f n) (b : BuildR eps f n L) : Short L := by
  refine ⟨?_, fun i hi => by have := b.short n1 bd u i hi; omega⟩
  have a := b.low e0 n1 bd u
  have c := hgt_le (e := eps.toNat) (by omega) n
  omega

set_option maxRecDepth 10000 in
set_option maxHeartbeats 4000000 in
theorem dc_new (O5 : Of5C) (eps : Int) (ao : Option Addr) (n cp : Nat) (k v : Nat → Int) (g : Nat → Bool) (e0 : -9223372036854775808 ≤ eps) (e1 : eps < 9223372036854775808) (hn : n ≤ 2000000) (hcp : n ≤ cp) (hz : ao = none → n = 0 ∧ cp = 0) (w : World) (h : ES w ao n k v g) :
    Calls Tryz.prog 11 #[.slice ao n cp, .int .i64 eps] w fun ex w' => RunOut HDoc w w' ex eps k v g n ∧ Gw w w' := by
  have HE : Aside (ES w ao n k v g) := h
  have HZ : Aside (ao = none → n = 0 ∧ cp = 0) := hz
  have KB : Aside (∀ t, t < n → 0 ≤ k t ∧ k t < 18446744073709551616) := fun t ht => (h.bd t ht).1
  clear hz
  by_cases b : 2 ≤ eps ∧ eps ≤ 64
  · have t1 : decide (eps < 2) = false := by simp; omega
    have t2 : decide (64 < eps) = false := by simp; omega
    have CK : Hid (Calls Tryz.prog 21 #[.slice ao n cp] w fun e w' => (∃ r : Int, e = .returned (.int .i64 r) ∧ ChkR k v g n r) ∧ Gw w w') := rcheck3_any ao n cp k v g (by omega) w h
    have BN : Aside (2 ≤ eps ∧ eps ≤ 64) := b
    clear h b
    go_enter Tryz.func11, Tryz.ntmps11
    go_wp2_with fail
    refine Calls.mono CK.out ?_
    rintro e w1 ⟨⟨r, rfl, cr⟩, g1⟩
    have CR : Aside (ChkR k v g n r) := cr
    have G1 : Aside (Gw w w1) := g1
    clear CK cr g1
    by_cases r0 : r = 0
    · subst r0
      go_wp2_with fail
      refine Calls.mono (rof3_any ao n cp k v g (by omega) w1 (HE.out.gw G1.out)) ?_
      rintro e w2 ⟨⟨kb, kc, rfl, hkb, own⟩, g2⟩
      have G2 : Aside (Gw w w2) := G1.out.trans g2
      have K2 : Aside (KS w2 (some ⟨kb, 0, none⟩) n k ∧ n ≤ kc) := ⟨ks_own own (Nat.le_refl _) (fun i hi => by simp [hi]) KB.out, by rcases own.2 with ⟨e, _⟩ | ⟨_, _, _, e, _, _, hc, _⟩; cases e; cases e; exact hc⟩
      clear own g2 hkb G1
      go_wp2_with fail
      refine Calls.mono (rbuild_any O5 eps _ n kc k e0 e1 hn K2.out.2 w2 K2.out.1) ?_
      rintro e w3 ⟨⟨lo, lc, L, err, rfl, be, vs, hlc⟩, g3⟩
      have BR8 : Aside (BuildR eps k n L ∧ err = 0) := by
        rcases be with ⟨x, _⟩ | ⟨_, x, _⟩ | ⟨_, _, x, y⟩
        · exact absurd BN.out x
        · exact absurd (NewE.up (.inr ⟨BN.out, CR.out⟩)).2 x
        · exact ⟨x, y⟩
      obtain rfl : err = 0 := BR8.out.2
      have G3 : Aside (Gw w w3) := G2.out.trans g3
      have VS3 : Aside (VSf w3 w2.heap.size lo L) := vs
      have Z2 : Aside (w.heap.size ≤ w2.heap.size) := G2.out.size
      obtain ⟨ln, hln⟩ : ∃ ln, L.length = ln := ⟨_, rfl⟩
      have LN : Aside (L.length = ln) := hln
      rw [hln]
      clear be vs hlc g3 G2 K2 hln O5
      obtain ⟨ii, hii, iz, is, iby⟩ := info_parts info_e
      have O0 : Hid ((w3.alloc (.cells #[] 26)).ownsRow w3.heap.size 26 3 (.slice (some ⟨w3.heap.size, 0, none⟩) 0 0) 0 []) := World.ownsRow_made w3 #[] 0 (Nat.le_refl _) (Nat.zero_le _) rfl
      have NW : Hid (∀ ad, ao = some ad → ∀ j u, (ecs k v g n)[j]? = some u → (w3.alloc (.cells #[] 26)).cell? (ad.add j) = some u) := es_news (HE.out.gw (G3.out.alloc _ _))
      go_wp2_with (at_builtin; refine wpList_append_src _ rfl _ _ 22 rfl w3.heap.size 26 ii (.agg #[.int .u64 0, .int .u64 0, .bool false]) 3 24 Tryz.underlying22 hii iz is iby rfl (by decide) _ 0 [] rfl O0.out ao n cp (ecs k v g n) rfl HZ.out (ecs_len k v g n) NW.out (ecs_one k v g n) (by simp only [maxLen]; omega) (by omega) (by simp) ?_)
      intro v' w5 q1 q2 q3
      have R5 : ER w5 w3.heap.size v' k v g n := by show World.ownsRow _ _ _ _ _ _ _; simpa using q1
      have H35 : Aside (Gw w3 w5) := ((Gw.refl w3).alloc _ _).grown q2 (fun j hj => by cases hj; exact Nat.le_refl _)
      obtain ⟨bo, bc, rfl, _, hbl⟩ := er_form R5
      have E5 : Aside (ES w5 bo n k v g ∧ ∀ a, bo = some a → w3.heap.size ≤ a.block ∧ a.block < w5.heap.size) := ⟨er_es R5 HE.out.bd, hbl⟩
      clear q1 q2 q3 O0 NW R5 hbl
      have RES : Aside (RunOut HDoc w (w5.alloc (.cells #[.slice bo n bc, .int .i64 eps, .slice lo ln lc] 75)) (.returned (.tuple #[.pointer (some ⟨w5.heap.size, 0, none⟩), .int .i64 0])) eps k v g n) := by
        have zz := H35.out.size
        have z3 := G3.out.size
        have gA : Gw w5 (w5.alloc (.cells #[.slice bo n bc, .int .i64 eps, .slice lo ln lc] 75)) := (Gw.refl w5).alloc _ _
        refine ⟨0, .inr ⟨BN.out, CR.out⟩, .inr ⟨rfl, w5.heap.size, fun q => w.heap.size ≤ q ∧ q < w5.heap.size + 1, L, rfl, fun q hq => hq.1, BR8.out.1, ⟨⟨_, w.heap.size, bo, bc, lo, lc, fun q => by simp, Nat.le_refl _, fun _ _ _ => rfl, by rw [LN.out]; exact heap_alloc_new w5 _, by omega, E5.out.1.gw gA, fun a ea => by have := (E5.out.2 a ea).1; omega, ((VS3.out.gw H35.out).gw gA).low Z2.out⟩, hn, BR8.out.1.fine BN.out.1 hn KB.out (NewE.up (.inr ⟨BN.out, CR.out⟩)).2⟩⟩⟩
      have G5 : Aside (Gw w w5) := G3.out.trans H35.out
      clear E5 H35 VS3 BR8 LN CR
      go_wp2_with fail
      go_ret2
      exact ⟨RES.out, G5.out.alloc _ _⟩
    · have r0' : (r != 0) = true := by simpa using r0
      have R0 : Aside (r ≠ 0) := r0
      clear r0
      go_wp2_with fail
      go_ret2
      exact ⟨⟨r, .inr ⟨BN.out, CR.out⟩, .inl ⟨R0.out, rfl⟩⟩, G1.out⟩
  · have BN : Aside (¬ (2 ≤ eps ∧ eps ≤ 64)) := b
    clear h
    by_cases c : eps < 2
    · have t1 : decide (eps < 2) = true := by simpa using c
      clear b c
      go_enter Tryz.func11, Tryz.ntmps11
      go_wp2_with fail
      go_ret2
      exact ⟨⟨1, .inl ⟨BN.out, rfl⟩, .inl ⟨by decide, rfl⟩⟩, Gw.refl w⟩
    · have t1 : decide (eps < 2) = false := by simpa using c
      have t2 : decide (64 < eps) = true := by simp; omega
      clear b c
      go_enter Tryz.func11, Tryz.ntmps11
      go_wp2_with fail
      go_ret2
      exact ⟨⟨1, .inl ⟨BN.out, rfl⟩, .inl ⟨by decide, rfl⟩⟩, Gw.refl w⟩

end Go.Proofs.YtdikiaeagcokdaaGreat

/- What the statements of layer 11 ask of package run, as one structure. -/
namespace Go.Proofs.YtdikiaeagcokdaaGreat
open Go.RowKit
set_option linter.unusedVariables false

/-- Package run: 'HR w p S eps k v g n L': at block p lies a run of these, made of the blocks S. -/
structure RunC (HR : World → Nat → (Nat → Prop) → Int → (Nat → Int) → (Nat → Int) → (Nat → Bool) → Nat → List (List Sg) → Prop) : Prop where
  keep : ∀ {w w' : World} {p : Nat} {S : Nat → Prop} {eps : Int} {k v : Nat → Int} {g : Nat → Bool} {n : Nat} {L : List (List Sg)}, HR w p S eps k v g n L → (∀ q, S q → w'.heap[q]? = w.heap[q]?) → HR w' p S eps k v g n L
  lt : ∀ {w : World} {p : Nat} {S : Nat → Prop} {eps : Int} {k v : Nat → Int} {g : Nat → Bool} {n : Nat} {L : List (List Sg)}, HR w p S eps k v g n L → ∀ q, S q → q < w.heap.size
  own : ∀ {w : World} {p : Nat} {S : Nat → Prop} {eps : Int} {k v : Nat → Int} {g : Nat → Bool} {n : Nat} {L : List (List Sg)}, HR w p S eps k v g n L → S p
  ready : ∀ {w : World} {p : Nat} {S : Nat → Prop} {eps : Int} {k v : Nat → Int} {g : Nat → Bool} {n : Nat} {L : List (List Sg)}, HR w p S eps k v g n L → Ready eps k n L
  pile : ∀ {w : World} {p : Nat} {S : Nat → Prop} {eps : Int} {k v : Nat → Int} {g : Nat → Bool} {n : Nat} {L : List (List Sg)}, HR w p S eps k v g n L → ∃ pp Sp, w.cell? ⟨p, 0, none⟩ = some (.pointer (some ⟨pp, 0, none⟩)) ∧ HPile w pp Sp eps k n L ∧ ∀ q, Sp q → S q
  new : ∀ (eps : Int) (ao : Option Addr) (n cp : Nat) (k v : Nat → Int) (g : Nat → Bool), -9223372036854775808 ≤ eps → eps < 9223372036854775808 → n ≤ 2000000 → n ≤ cp → (ao = none → n = 0 ∧ cp = 0) → ∀ w : World, ES w ao n k v g → Calls Tryz.prog 10 #[.slice ao n cp, .int .i64 eps] w fun ex w' => RunOut HR w w' ex eps k v g n ∧ Gw w w'
  of : ∀ (eps : Int) (ao : Option Addr) (n cp : Nat) (k v : Nat → Int) (g : Nat → Bool) (lo : Option Addr) (lc : Nat) (L : List (List Sg)), -9223372036854775808 ≤ eps → eps < 9223372036854775808 → n ≤ 2000000 → n ≤ cp → (ao = none → n = 0 ∧ cp = 0) → Short L → L.length ≤ lc → ∀ w : World, ES w ao n k v g → VS w lo L → Calls Tryz.prog 17 #[.slice ao n cp, .int .i64 eps, .slice lo L.length lc] w fun ex w' => OfOutR HR w w' ex eps k v g n L ∧ Gw w w'
  len : ∀ {w : World} {p : Nat} {S : Nat → Prop} {eps : Int} {k v : Nat → Int} {g : Nat → Bool} {n : Nat} {L : List (List Sg)}, HR w p S eps k v g n L → Calls Tryz.prog 28 #[.pointer (some ⟨p, 0, none⟩)] w fun e w' => e = .returned (.int .i64 (n : Int)) ∧ Gw w w'
  at_ : ∀ {w : World} {p : Nat} {S : Nat → Prop} {eps : Int} {k v : Nat → Int} {g : Nat → Bool} {n : Nat} {L : List (List Sg)}, HR w p S eps k v g n L → ∀ i : Int, -9223372036854775808 ≤ i → i < 9223372036854775808 → Calls Tryz.prog 23 #[.pointer (some ⟨p, 0, none⟩), .int .i64 i] w fun e w' => e = .returned (.tuple #[(atV k v g n i).1, .int .i64 (atV k v g n i).2]) ∧ Gw w w'
  list : ∀ {w : World} {p : Nat} {S : Nat → Prop} {eps : Int} {k v : Nat → Int} {g : Nat → Bool} {n : Nat} {L : List (List Sg)}, HR w p S eps k v g n L → Calls Tryz.prog 14 #[.pointer (some ⟨p, 0, none⟩)] w fun e w' => (∃ bo c, e = .returned (.slice bo n c) ∧ ER w' w.heap.size (.slice bo n c) k v g n) ∧ Gw w w'
  levels : ∀ {w : World} {p : Nat} {S : Nat → Prop} {eps : Int} {k v : Nat → Int} {g : Nat → Bool} {n : Nat} {L : List (List Sg)}, HR w p S eps k v g n L → Calls Tryz.prog 15 #[.pointer (some ⟨p, 0, none⟩)] w fun e w' => (∃ lo lc vals, e = .returned (.slice lo L.length lc) ∧ OwnV w' w.heap.size (.slice lo L.length lc) L vals ∧ Lok L ∧ L.length ≤ lc) ∧ Gw w w'
  rank : ∀ {w : World} {p : Nat} {S : Nat → Prop} {eps : Int} {k v : Nat → Int} {g : Nat → Bool} {n : Nat} {L : List (List Sg)}, HR w p S eps k v g n L → ∀ q : Int, 0 ≤ q → q < 18446744073709551616 → Calls Tryz.prog 25 #[.pointer (some ⟨p, 0, none⟩), .int .u64 q] w fun e w' => e = .returned (.int .i64 (cntb k q n : Nat)) ∧ Gw w w'
  get : ∀ {w : World} {p : Nat} {S : Nat → Prop} {eps : Int} {k v : Nat → Int} {g : Nat → Bool} {n : Nat} {L : List (List Sg)}, HR w p S eps k v g n L → ∀ q : Int, 0 ≤ q → q < 18446744073709551616 → Calls Tryz.prog 24 #[.pointer (some ⟨p, 0, none⟩), .int .u64 q] w fun e w' => e = .returned (.tuple #[(getV k v g n q).1, .bool (getV k v g n q).2]) ∧ Gw w w'
theorem RunC.gw {HR : World → Nat → (Nat → Prop) → Int → (Nat → Int) → (Nat → Int) → (Nat → Bool) → Nat → List (List Sg) → Prop} (H : RunC HR) {w w' : World} {p : Nat} {S : Nat → Prop} {eps : Int} {k v : Nat → Int} {g : Nat → Bool} {n : Nat} {L : List (List Sg)} (h : HR w p S eps k v g n L) (gg : Gw w w') : HR w' p S eps k v g n L := H.keep h fun q hq => gg.below.block q (H.lt h q hq)

end Go.Proofs.YtdikiaeagcokdaaGreat

/- Layer 11's statements' own: two lists of entries alike, two segments, two levels. -/
namespace Go.Proofs.YtdikiaeagcokdaaGreat
open Go.RowKit
set_option linter.unusedVariables false
attribute [local go_sem] run_store_float f64bits

set_option maxRecDepth 10000 in
set_option maxHeartbeats 4000000 in
theorem same11_seg (s : Sg) (w : World) :
    Calls Tryz.prog 42 #[sgV s, sgV s] w fun e w' => e = .returned (.bool true) ∧ Gw w w' := by
  obtain ⟨k, sl, ic, fr, te⟩ := s
  go_enter Tryz.func42, Tryz.ntmps42
  go_wp2_with fail
  go_quiet (first | simp only [f64bits])
  go_wp2_with fail
  go_ret
  exact ⟨rfl, (((Gw.refl w).alloc _ _).alloc _ _).drewN _⟩

end Go.Proofs.YtdikiaeagcokdaaGreat
