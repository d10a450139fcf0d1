import Derived.Test.YthkahedhmfkhhaaPMm
import Derived.Test.YthkahedhmfkhhaaPEn
import Derived.Test.YthkahedhmfkhhaaGLaw
import Derived.Test.YthkahedhmfkhhaaGC
/- What the statements of layer 13 open with. -/
namespace Go.Proofs.Ythkahedhmfkhhaa
open Go.RowKit Go.Shelf
set_option linter.unusedVariables false
set_option linter.unusedSimpArgs false

attribute [local go_sem] Oper.semAt_some

theorem key_sh : FnK encI (fun n => IntKind.u64.wrap (n.tmod 10)) okI 21 := by
  refine ⟨fun args W => rfl, fun W x hx => ?_⟩
  simp only [encI]
  go_enter Try.func21, Try.ntmps21
  go_wp2_with fail
  go_ret
  exact ⟨rfl, Gw.refl W⟩
theorem live_sh (w : World) : FnB 19 #[] (fun k => k == 3) w := by
  refine ⟨fun args W => rfl, fun W gW q q0 q1 => ?_⟩
  by_cases e : q = 3
  · subst e
    go_enter Try.func19, Try.ntmps19
    go_wp2_with fail
    go_ret
    exact ⟨rfl, Gw.refl W⟩
  · have e' : (q == 3) = false := by simpa using e
    go_enter Try.func19, Try.ntmps19
    go_wp2_with fail
    go_ret
    exact ⟨by simp [e], Gw.refl W⟩
/-- Entries in a block of their own. -/
theorem el_lit {W : World} {b : Nat} {l : List Ent} {vs : Array Value} (hv : vs.toList = l.flatMap ent3) (h : W.heap[b]? = some (.cells vs 32 (0, 0))) (ok : ∀ e ∈ l, e.ok) : EL W (some ⟨b, 0, none⟩) l := by
  have c : ∀ i, i < l.length → ∀ j, j < 3 → W.cell? ⟨b, i * 3 + j, none⟩ = (ent3 (l.getD i ent0))[j]? := fun i hi j hj => by
    have e := flat_e l i hi j hj
    rw [← hv] at e
    simp only [World.cell?, h]
    rw [← e]
    simp
  refine ⟨fun _ => ⟨b, 0, rfl, blkl h, fun i hi => ?_⟩, fun i hi => ?_⟩
  · rw [Nat.zero_add]
    exact ⟨c i hi 0 (by decide), c i hi 1 (by decide), c i hi 2 (by decide)⟩
  · have e : l.getD i ent0 = l[i] := by simp [List.getD, hi]
    show (l.getD i ent0).ok
    rw [e]; exact ok _ (List.getElem_mem hi)
theorem alloc5 (w : World) (o0 o1 o2 o3 o4 : Obj) (N : Nat) (hN : w.heap.size = N) : (((((w.alloc o0).alloc o1).alloc o2).alloc o3).alloc o4).heap[N]? = some o0 ∧ (((((w.alloc o0).alloc o1).alloc o2).alloc o3).alloc o4).heap[N + 1]? = some o1 ∧ (((((w.alloc o0).alloc o1).alloc o2).alloc o3).alloc o4).heap[N + 1 + 1]? = some o2 ∧ (((((w.alloc o0).alloc o1).alloc o2).alloc o3).alloc o4).heap[N + 1 + 1 + 1]? = some o3 ∧ (((((w.alloc o0).alloc o1).alloc o2).alloc o3).alloc o4).heap[N + 1 + 1 + 1 + 1]? = some o4 := by
  subst hN
  have h1 := World.alloc_heap_new w o0
  have h2 := World.alloc_heap_new (w.alloc o0) o1
  have h3 := World.alloc_heap_new ((w.alloc o0).alloc o1) o2
  have h4 := World.alloc_heap_new (((w.alloc o0).alloc o1).alloc o2) o3
  have h5 := World.alloc_heap_new ((((w.alloc o0).alloc o1).alloc o2).alloc o3) o4
  simp only [World.size_alloc] at h1 h2 h3 h4 h5
  have k : ∀ (v : World) (o : Obj) (q : Nat) (r : Option Obj), v.heap[q]? = r → q < v.heap.size → (v.alloc o).heap[q]? = r := fun v o q r h hq => (Below.heap_alloc _ _ _ hq).trans h
  refine ⟨?_, ?_, ?_, ?_, h5⟩
  · exact k _ _ _ _ (k _ _ _ _ (k _ _ _ _ (k _ _ _ _ h1 (by simp)) (by simp; omega)) (by simp; omega)) (by simp; omega)
  · exact k _ _ _ _ (k _ _ _ _ (k _ _ _ _ h2 (by simp)) (by simp)) (by simp)
  · exact k _ _ _ _ (k _ _ _ _ h3 (by simp)) (by simp)
  · exact k _ _ _ _ h4 (by simp)
/-- Two lists in a row. -/
theorem ev_two {W : World} {b b1 b2 : Nat} {l1 l2 : List Ent} (h : W.heap[b]? = some (.cells #[.slice (some ⟨b1, 0, none⟩) l1.length l1.length, .slice (some ⟨b2, 0, none⟩) l2.length l2.length] 24 (0, 0))) (e1 : EL W (some ⟨b1, 0, none⟩) l1) (e2 : EL W (some ⟨b2, 0, none⟩) l2) : EV W (some ⟨b, 0, none⟩) [l1, l2] := by
  refine ⟨fun _ => ⟨b, 0, rfl, blkl h, fun i hi => ?_⟩⟩
  have : i = 0 ∨ i = 1 := by simp at hi; omega
  rcases this with rfl | rfl
  · exact ⟨_, _, blkc h rfl, Nat.le_refl _, e1, fun q => by cases q⟩
  · exact ⟨_, _, blkc h rfl, Nat.le_refl _, e2, fun q => by cases q⟩
def sh1 (N : Nat) : Lst Int := ⟨N, 0, 3, [1, 12, 23]⟩
def sh2 (N : Nat) : Lst Int := ⟨N + 1 + 1, 0, 2, [2, 33]⟩
def shR (N : Nat) (q : Nat) : Prop := rdLi (N + 1) (sh1 N) q ∨ rdLi (N + 1 + 1 + 1) (sh2 N) q
def shS (N : Nat) (_ : Nat) (W : World) : Prop := Lsdi (N + 1) (some ⟨N, 0, none⟩) 3 (sh1 N) W ∧ Lsdi (N + 1 + 1 + 1) (some ⟨N + 1 + 1, 0, none⟩) 2 (sh2 N) W
def shF (N : Nat) (i : Nat) : Nat × Array Value := (39, #[.pointer (some ⟨if i = 0 then N + 1 else N + 1 + 1 + 1, 0, none⟩)])
theorem shS.keep {N i : Nat} {W W' : World} (h : shS N i W) (z : W.heap.size ≤ W'.heap.size) (k : ∀ q, shR N q → W'.heap[q]? = W.heap[q]?) : shS N i W' := ⟨h.1.keep z fun q hq => k q (.inl hq), h.2.keep z fun q hq => k q (.inr hq)⟩
theorem fam_sh (N : Nat) : Fam encI [[1, 12, 23], [2, 33]] (shR N) (fun _ => False) (shS N) (shF N) := by
  refine ⟨fun i hi => ?_, fun i hi args W => rfl, fun i W W' h z k => h.keep z fun q hq => k q (.inl hq)⟩
  have : i = 0 ∨ i = 1 := by simp at hi; omega
  rcases this with rfl | rfl
  · exact SeqO.more (listed_i Fence.wide 2 trivial rfl (by omega) (N + 1) (some ⟨N, 0, none⟩) 3 (sh1 N) (by simp [sh1])) (fun q hq => .inl hq) (fun W h => h.1) (fun W W' a z zs k => ⟨z, a.2.keep zs fun q hq => k q (.inr hq) (a.2.lt q hq)⟩) (fun _ _ e => e)
  · exact SeqO.more (listed_i Fence.wide 2 trivial rfl (by omega) (N + 1 + 1 + 1) (some ⟨N + 1 + 1, 0, none⟩) 2 (sh2 N) (by simp [sh2])) (fun q hq => .inr hq) (fun W h => h.2) (fun W W' a z zs k => ⟨a.1.keep zs fun q hq => k q (.inl hq) (a.1.lt q hq), z⟩) (fun _ _ e => e)
def shV (l : List Int) : Int := l.foldl (fun a x => 100 * a + x) 0
/-- What the loop's variables hold. -/
structure shI (W9 : World) (bn bm : Nat) (pre : List Int) (W : World) : Prop where
  n : W.heap[bn]? = some (.cells #[.int .i64 (shV pre)] 3 (0, 0))
  m : W.heap[bm]? = some (.cells #[.int .i64 (pre.length : Int)] 3 (0, 0))
  g : Gx (fun q => q = bn ∨ q = bm) W9 W
theorem sh_pre {pre : List Int} {x : Int} (h : (pre ++ [x]) <+: [1, 12, 23]) : (pre = [] ∧ x = 1) ∨ (pre = [1] ∧ x = 12) ∨ (pre = [1, 12] ∧ x = 23) := by
  obtain ⟨t, ht⟩ := h
  match pre, ht with
  | [], ht => simp at ht; exact .inl ⟨rfl, ht.1⟩
  | [a], ht => simp at ht; exact .inr (.inl ⟨by rw [ht.1], ht.2.1⟩)
  | [a, b], ht => simp at ht; exact .inr (.inr ⟨by rw [ht.1, ht.2.1], ht.2.2.1⟩)
  | a :: b :: c :: r, ht => simp at ht
theorem mg_sh : Mg (fun n : Int => IntKind.u64.wrap (n.tmod 10)) [[1, 12, 23], [2, 33]] [1, 12, 23] := Mg.step rfl (Mg.step rfl (Mg.step rfl (Mg.done rfl)))
theorem ent_two (w : World) (l1 l2 o : List Ent) (vs1 vs2 : Array Value) (h1 : vs1.toList = l1.flatMap ent3) (h2 : vs2.toList = l2.flatMap ent3) (n1 : l1.length = 2) (n2 : l2.length = 2) (ok1 : ∀ e ∈ l1, e.ok) (ok2 : ∀ e ∈ l2, e.ok) (hM : Mg Ent.k [l1, l2] o) :
    Calls Try.prog 17 #[.slice (some ⟨w.heap.size + 1 + 1, 0, none⟩) 2 2] (((w.alloc (.cells vs1 32)).alloc (.cells vs2 32)).alloc (.cells #[.slice (some ⟨w.heap.size, 0, none⟩) 2 2, .slice (some ⟨w.heap.size + 1, 0, none⟩) 2 2] 24)) fun e w' => (∃ bo oc, e = .returned (.slice bo o.length oc) ∧ EL w' bo o) ∧ Gw w w' := by
  obtain ⟨W, hW⟩ : ∃ W, (((w.alloc (.cells vs1 32)).alloc (.cells vs2 32)).alloc (.cells #[.slice (some ⟨w.heap.size, 0, none⟩) 2 2, .slice (some ⟨w.heap.size + 1, 0, none⟩) 2 2] 24)) = W := ⟨_, rfl⟩
  have g : Gw w W := by rw [← hW]; exact (((Gw.refl w).alloc _ _).alloc _ _).alloc _ _
  have b1 : W.heap[w.heap.size]? = some (.cells vs1 32 (0, 0)) := by rw [← hW]; exact (Below.heap_alloc _ _ _ (by simp; omega)).trans ((Below.heap_alloc _ _ _ (by simp)).trans (heap_alloc_new w _))
  have b2 : W.heap[w.heap.size + 1]? = some (.cells vs2 32 (0, 0)) := by
    rw [← hW]
    have := heap_alloc_new (w.alloc (.cells vs1 32)) (.cells vs2 32)
    rw [World.size_alloc] at this
    exact (Below.heap_alloc _ _ _ (by simp)).trans this
  have b3 : W.heap[w.heap.size + 1 + 1]? = some (.cells #[.slice (some ⟨w.heap.size, 0, none⟩) 2 2, .slice (some ⟨w.heap.size + 1, 0, none⟩) 2 2] 24 (0, 0)) := by
    rw [← hW]
    have := heap_alloc_new ((w.alloc (.cells vs1 32)).alloc (.cells vs2 32)) (.cells #[.slice (some ⟨w.heap.size, 0, none⟩) 2 2, .slice (some ⟨w.heap.size + 1, 0, none⟩) 2 2] 24)
    simpa only [World.size_alloc] using this
  have e1 := el_lit h1 b1 ok1
  have e2 := el_lit h2 b2 ok2
  have ev : EV W (some ⟨w.heap.size + 1 + 1, 0, none⟩) [l1, l2] := ev_two (by rw [n1, n2]; exact b3) e1 e2
  rw [hW]
  have := entries13 (some ⟨w.heap.size + 1 + 1, 0, none⟩) 2 [l1, l2] (by simp) (fun i hi => by
    have : i = 0 ∨ i = 1 := by simp at hi; omega
    rcases this with rfl | rfl
    · show l1.length ≤ _; omega
    · show l2.length ≤ _; omega) (by simp [sizes]; omega) W ev
  refine Calls.mono this ?_
  rintro e w' ⟨⟨bo, oc, o', a1, a2, a3⟩, b⟩
  have : o' = o := Mg.one a3 hM
  subst this
  exact ⟨⟨bo, oc, a1, eo_el a2 (a3.oks ev.oks)⟩, g.trans b⟩
theorem same_lit (W : World) (ao : Option Addr) (c n : Nat) (l : List Ent) (vs : Array Value) (hv : vs.toList = l.flatMap ent3) (hl : l.length = n) (hn : n ≤ 9) (ok : ∀ e ∈ l, e.ok) (h : EL W ao l) :
    Calls Try.prog 11 #[.slice ao n c, .slice (some ⟨W.heap.size, 0, none⟩) n n] (W.alloc (.cells vs 32)) fun e w' => e = .returned (.bool true) ∧ Gw W w' := by
  subst hl
  have g : Gw W (W.alloc (.cells vs 32)) := (Gw.refl W).alloc _ _
  have := same13 ao (some ⟨W.heap.size, 0, none⟩) c l.length l (by omega) (W.alloc (.cells vs 32)) (h.gw g) (el_lit hv (heap_alloc_new W _) ok)
  exact Calls.mono this fun e w' ⟨q1, q2⟩ => ⟨q1, g.trans q2⟩
set_option maxRecDepth 100000 in
set_option maxHeartbeats 8000000 in
theorem shown13 (w : World) : Calls Try.prog 6 #[] w fun e w' => e = .returned (.bool true) ∧ Gw w w' := by
  refine (callsIn_wide (n := 3)).1 ?_
  have h1 : 1 ≤ 3 := by omega
  have hro : Fence.wide.round = none := rfl
  have T1 : Hid (∀ W, _) := fun W => ent_two W [⟨1, 10, false⟩, ⟨3, 30, false⟩] [⟨1, 11, false⟩, ⟨2, 22, false⟩] [⟨1, 10, false⟩, ⟨2, 22, false⟩, ⟨3, 30, false⟩] #[.int .u64 1, .int .u64 10, .bool false, .int .u64 3, .int .u64 30, .bool false] #[.int .u64 1, .int .u64 11, .bool false, .int .u64 2, .int .u64 22, .bool false] rfl rfl rfl rfl (by simp [Ent.ok]) (by simp [Ent.ok]) (by simp [Mg, least, pass])
  have T2 : Hid (∀ W, _) := fun W => ent_two W [⟨5, 1, false⟩, ⟨5, 2, false⟩] [⟨5, 3, false⟩, ⟨4, 4, false⟩] [⟨5, 1, false⟩, ⟨4, 4, false⟩, ⟨5, 2, false⟩] #[.int .u64 5, .int .u64 1, .bool false, .int .u64 5, .int .u64 2, .bool false] #[.int .u64 5, .int .u64 3, .bool false, .int .u64 4, .int .u64 4, .bool false] rfl rfl rfl rfl (by simp [Ent.ok]) (by simp [Ent.ok]) (by simp [Mg, least, pass])
  refine callsIn_of_wp_marks Try.func6 rfl trivial ?_ hro
  simp only [Try.ntmps6, List.size_toArray, List.length_nil, Nat.sub_zero, List.nil_append, List.length_cons, Nat.reduceAdd, Nat.reduceSub, Array.replicate_succ, Array.replicate_zero, List.push_toArray, List.append_toArray, List.cons_append]
  gi_wp2
  refine ⟨trivial, ?_⟩
  refine CallsIn.mono (callsIn_wide.2 (T1.out _)) ?_
  rintro e w1 ⟨⟨ao1, c1, rfl, el1⟩, g1⟩
  have A1 : Hid (EL w1 ao1 [⟨1, 10, false⟩, ⟨2, 22, false⟩, ⟨3, 30, false⟩]) := el1
  have G1 : Hid (Gw w w1) := g1
  clear el1 g1 T1
  gi_wp2
  refine ⟨trivial, ?_⟩
  refine CallsIn.mono (callsIn_wide.2 (T2.out _)) ?_
  rintro e w2 ⟨⟨ao2, c2, rfl, el2⟩, g2⟩
  have A2 : Hid (EL w2 ao2 [⟨5, 1, false⟩, ⟨4, 4, false⟩, ⟨5, 2, false⟩]) := el2
  have G2 : Hid (Gw w1 w2) := g2
  clear el2 g2 T2
  have T3 : Hid (Calls Try.prog 17 #[.slice none 0 0] w2 fun e w' => (∃ bo oc, e = .returned (.slice bo 0 oc)) ∧ Gw w2 w') := by
    have := entries13 none 0 [] (by simp) (fun i hi => by simp at hi) (by simp [sizes]) w2 ⟨fun h => by simp at h⟩
    refine Calls.mono this ?_
    rintro e w' ⟨⟨bo, oc, o, a1, a2, a3⟩, b⟩
    have : o = [] := Mg.one a3 (Mg.done rfl)
    subst this
    exact ⟨⟨bo, oc, a1⟩, b⟩
  gi_wp2
  refine ⟨trivial, ?_⟩
  refine CallsIn.mono (callsIn_wide.2 T3.out) ?_
  rintro e w3 ⟨⟨ao3, c3, rfl⟩, g3⟩
  have G3 : Hid (Gw w2 w3) := g3
  clear g3 T3
  have T4 : Hid (Calls Try.prog 18 #[.slice (some ⟨w3.heap.size, 0, none⟩) 3 3, .func (.func 19) #[] #[]] (w3.alloc (.cells #[.int .u64 1, .int .u64 10, .bool false, .int .u64 2, .int .u64 0, .bool true, .int .u64 3, .int .u64 0, .bool true] 32)) fun e w' => (∃ bo oc, e = .returned (.slice bo 2 oc) ∧ EL w' bo [⟨1, 10, false⟩, ⟨3, 0, true⟩]) ∧ Gw w3 w') := by
    obtain ⟨W, hW⟩ : ∃ W, w3.alloc (.cells #[.int .u64 1, .int .u64 10, .bool false, .int .u64 2, .int .u64 0, .bool true, .int .u64 3, .int .u64 0, .bool true] 32) = W := ⟨_, rfl⟩
    have g : Gw w3 W := by rw [← hW]; exact (Gw.refl w3).alloc _ _
    have b1 : W.heap[w3.heap.size]? = some (.cells #[.int .u64 1, .int .u64 10, .bool false, .int .u64 2, .int .u64 0, .bool true, .int .u64 3, .int .u64 0, .bool true] 32 (0, 0)) := by rw [← hW]; exact heap_alloc_new w3 _
    have e1 := el_lit (l := [⟨1, 10, false⟩, ⟨2, 0, true⟩, ⟨3, 0, true⟩]) rfl b1 (by simp [Ent.ok])
    rw [hW]
    have := sift13 (some ⟨w3.heap.size, 0, none⟩) 3 [⟨1, 10, false⟩, ⟨2, 0, true⟩, ⟨3, 0, true⟩] 19 #[] (fun k => k == 3) (by simp) W e1 (live_sh W)
    refine Calls.mono this ?_
    rintro e w' ⟨⟨bo, oc, a1, a2⟩, b⟩
    have ff : [⟨1, 10, false⟩, ⟨2, 0, true⟩, ⟨3, 0, true⟩].filter (keepP (fun k => k == 3)) = [(⟨1, 10, false⟩ : Ent), ⟨3, 0, true⟩] := rfl
    rw [ff] at a1 a2
    exact ⟨⟨bo, oc, a1, eo_el a2 (by simp [Ent.ok])⟩, g.trans b⟩
  gi_wp2
  refine ⟨trivial, ?_⟩
  refine CallsIn.mono (callsIn_wide.2 T4.out) ?_
  rintro e w4 ⟨⟨ao4, c4, rfl, el4⟩, g4⟩
  have A4 : Hid (EL w4 ao4 [⟨1, 10, false⟩, ⟨3, 0, true⟩]) := el4
  have G4 : Hid (Gw w3 w4) := g4
  clear el4 g4 T4
  gi_wp2
  refine ⟨trivial, ?_⟩
  refine CallsIn.mono (callsIn_wide.2 (mlisted_i _ _ _ _)) ?_
  rintro e w5 ⟨rfl, rfl⟩
  gi_wp2
  refine ⟨trivial, ?_⟩
  refine CallsIn.mono (callsIn_wide.2 (mlisted_i _ _ _ _)) ?_
  rintro e w6 ⟨rfl, rfl⟩
  gi_wp2
  obtain ⟨N, hN⟩ : ∃ N, w4.heap.size = N := ⟨_, rfl⟩
  obtain ⟨W5, E5⟩ : ∃ W5, ((((w4.alloc (.cells #[.int .i64 1, .int .i64 12, .int .i64 23] 3)).alloc (.cells #[.slice (some ⟨w4.heap.size, 0, none⟩) 3 3] 52)).alloc (.cells #[.int .i64 2, .int .i64 33] 3)).alloc (.cells #[.slice (some ⟨w4.heap.size + 1 + 1, 0, none⟩) 2 2] 52)).alloc (.cells #[.func (.func 39) #[] #[.pointer (some ⟨w4.heap.size + 1, 0, none⟩)], .func (.func 39) #[] #[.pointer (some ⟨w4.heap.size + 1 + 1 + 1, 0, none⟩)]] 58) = W5 := ⟨_, rfl⟩
  have g5 : Gw w4 W5 := by rw [← E5]; exact (((((Gw.refl w4).alloc _ _).alloc _ _).alloc _ _).alloc _ _).alloc _ _
  obtain ⟨b0, b1, b2, b3, b4⟩ : W5.heap[N]? = some (.cells #[.int .i64 1, .int .i64 12, .int .i64 23] 3 (0, 0)) ∧ W5.heap[N + 1]? = some (.cells #[.slice (some ⟨N, 0, none⟩) 3 3] 52 (0, 0)) ∧ W5.heap[N + 1 + 1]? = some (.cells #[.int .i64 2, .int .i64 33] 3 (0, 0)) ∧ W5.heap[N + 1 + 1 + 1]? = some (.cells #[.slice (some ⟨N + 1 + 1, 0, none⟩) 2 2] 52 (0, 0)) ∧ W5.heap[N + 1 + 1 + 1 + 1]? = some (.cells #[.func (.func 39) #[] #[.pointer (some ⟨N + 1, 0, none⟩)], .func (.func 39) #[] #[.pointer (some ⟨N + 1 + 1 + 1, 0, none⟩)]] 58 (0, 0)) := by
    rw [← E5, hN]
    exact alloc5 w4 _ _ _ _ _ N hN
  rw [E5, hN]
  have S5 : shS N 0 W5 := ⟨⟨b1, fun _ => ⟨rfl, blkl b0, fun i x hx => by
      match i, hx with
      | 0, hx => cases hx; exact blkc b0 rfl
      | 1, hx => cases hx; exact blkc b0 rfl
      | 2, hx => cases hx; exact blkc b0 rfl⟩⟩, ⟨b3, fun _ => ⟨rfl, blkl b2, fun i x hx => by
      match i, hx with
      | 0, hx => cases hx; exact blkc b2 rfl
      | 1, hx => cases hx; exact blkc b2 rfl⟩⟩⟩
  have FR : FRow (shF N) W5 (some ⟨N + 1 + 1 + 1 + 1, 0, none⟩) 2 (fun _ => False) := ⟨fun _ => ⟨_, 0, rfl, blkl b4, fun e => e, fun i hi => by
    have : i = 0 ∨ i = 1 := by omega
    rcases this with rfl | rfl
    · exact blkc b4 rfl
    · exact blkc b4 rfl⟩⟩
  have lt4 : N + 1 + 1 + 1 + 1 < W5.heap.size := blkl b4
  have S5H : Hid (shS N 0 W5) := S5
  have G5 : Hid (Gw w4 W5) := g5
  have MG : Hid _ := merge_i (w := W5) (K := 21) (cp := 2) FR (by omega)
  clear b0 b1 b2 b3 b4 g5 S5 FR E5
  refine ⟨trivial, ?_⟩
  refine CallsIn.mono (callsIn_wide.2 MG.out) ?_
  rintro e w6 ⟨⟨bk, bl, bo, c6, rfl, mr, hbk, hbl, hbo⟩, g6⟩
  have MR : Hid (MrAi 21 bk bl bo 2 c6 (shF N) (fun _ => False) w6) := mr _ (fun q e => e.elim)
  have G6 : Hid (Gw W5 w6) := g6
  have nn : ∀ W : World, (binOp .eql 58 (.func (.func 36) #[] #[.pointer (some ⟨bk, 0, none⟩), .pointer (some ⟨bl, 0, none⟩)]) .nilFunc).run Try.prog W = .ok (.bool false) W := fun W => by kernel_rfl
  obtain ⟨W9, E9⟩ : ∃ W9, (w6.alloc (.cells #[.int .i64 0] 3)).alloc (.cells #[.int .i64 0] 3) = W9 := ⟨_, rfl⟩
  have g9 : Gw w6 W9 := by rw [← E9]; exact ((Gw.refl w6).alloc _ _).alloc _ _
  have n9 : W9.heap[w6.heap.size]? = some (.cells #[.int .i64 0] 3 (0, 0)) := by rw [← E9]; exact (Below.heap_alloc _ _ _ (by simp)).trans (heap_alloc_new w6 _)
  have m9 : W9.heap[w6.heap.size + 1]? = some (.cells #[.int .i64 0] 3 (0, 0)) := by
    rw [← E9]
    have := heap_alloc_new (w6.alloc (.cells #[.int .i64 0] 3)) (.cells #[.int .i64 0] 3)
    simpa using this
  have z9 : W9.heap.size = w6.heap.size + 1 + 1 := by rw [← E9]; simp
  have I9 : Hid (shI W9 w6.heap.size (w6.heap.size + 1) [] W9) := ⟨n9, m9, Gx.refl _ _⟩
  have G9 : Hid (Gw w6 W9) := g9
  have RL : Hid (∀ q, rdMi (shR N) bk bl bo 2 q ∨ False → q < w6.heap.size) := fun q hq => by
    rcases hq with (e | e | e | ⟨_, a, e1, e2⟩) | e
    · rcases e with e | e
      · have := S5H.out.1.lt q e; have := G6.out.size; omega
      · have := S5H.out.2.lt q e; have := G6.out.size; omega
    · rw [e]; exact blkl MR.out.k
    · rw [e]; exact blkl MR.out.l
    · obtain ⟨b, off, e3, h1, _⟩ := MR.out.r.cells (by omega)
      rw [e3] at e1; cases e1; rw [← e2]; exact h1
    · exact e.elim
  have SQ : Hid _ := merge1_i 21 _ key_sh bk bl bo 2 c6 [[1, 12, 23], [2, 33]] (shF N) (shR N) (fun _ => False) (shS N) (fam_sh N) rfl (by omega) (by simp [sizes]) (fun l hl x hx => by
    simp at hl
    rcases hl with rfl | rfl
    · simp at hx; rcases hx with rfl | rfl | rfl <;> simp [okI]
    · simp at hx; rcases hx with rfl | rfl <;> simp [okI]) ⟨fun e => e, fun e => e⟩ [1, 12, 23] mg_sh
  have E9H : Hid ((w6.alloc (.cells #[.int .i64 0] 3)).alloc (.cells #[.int .i64 0] 3) = W9) := E9
  clear mr g6 g9 n9 m9 MG E9
  gi_wp2
  rw [E9H.out]
  clear nn
  refine range_out (ps := #[40]) hro h1 (gf := 36) (lb := #[.pointer (some ⟨bk, 0, none⟩), .pointer (some ⟨bl, 0, none⟩)]) rfl trivial (fun _ _ => rfl) SQ.out
    (fun W g => ⟨MR.out.keep (R := shR N) (Nat.le_trans G9.out.size g.size) (fun q hq => ((G9.out.trans g).below.block q (RL.out q (.inl hq)))), shS.keep S5H.out (Nat.le_trans (G6.out.trans G9.out).size g.size) (fun q hq => ((G6.out.trans G9.out).trans g).below.block q (by
      rcases hq with e | e
      · exact S5H.out.1.lt q e
      · exact S5H.out.2.lt q e))⟩) (fun _ => rfl)
    (fun q => q = w6.heap.size ∨ q = w6.heap.size + 1) (fun q hq => ⟨by have := RL.out q hq; omega, by have := RL.out q hq; omega⟩) (fun q hq => by omega)
    (fun pre O W => shI W9 w6.heap.size (w6.heap.size + 1) pre W) (fun _ _ _ _ => False)
    (fun pre O X Y h k => ⟨(k.block _ (blkl h.n) (.inl ⟨by omega, fun e => e⟩)).trans h.n, (k.block _ (blkl h.m) (.inl ⟨by omega, fun e => e⟩)).trans h.m, ⟨k.os.trans h.g.os, k.tape.trans h.g.tape, k.output.trans h.g.output, Nat.le_trans h.g.size k.size, fun q hq hs => (k.block q (Nat.lt_of_lt_of_le hq h.g.size) (.inl ⟨hq, fun e => e⟩)).trans (h.g.block q hq hs)⟩⟩) (fun _ _ _ _ _ h _ => h)
    (fun W W' z zs k => ⟨z.1.keep (R := shR N) zs (fun q hq => k q (by have := RL.out q (.inl hq); omega)), shS.keep z.2 zs (fun q hq => k q (by have := RL.out q (.inl (.inl hq)); omega))⟩)
    I9.out ?round ?done (fun _ _ _ _ _ _ _ _ _ h _ _ => h.elim)
  case round => as_aux_lemma =>
    intro l n1 hl hn1 pre x O W hi hn hr ho hx
    gi_wp2
    refine ⟨Gw.refl _, ?_⟩
    intro W2 i2 r2 k2 z2
    have cn := blkc (o := 0) i2.n rfl
    have cm := blkc (o := 0) i2.m rfl
    have fn := blkf (o := 0) i2.n
    have fm := blkf (o := 0) i2.m
    have ln := blkl i2.n
    have lm := blkl i2.m
    have II : Hid _ := i2
    have FIN : Hid (∀ v k, v = shV (pre ++ [x]) → k = ((pre ++ [x]).length : Int) → shI W9 w6.heap.size (w6.heap.size + 1) (pre ++ [x]) ((W2.setCell ⟨w6.heap.size, 0, none⟩ (.int .i64 v)).setCell ⟨w6.heap.size + 1, 0, none⟩ (.int .i64 k)) ∧ Gx (fun q => (q < W9.heap.size ∧ (q = w6.heap.size ∨ q = w6.heap.size + 1)) ∨ O q ∨ W.heap.size ≤ q) W2 ((W2.setCell ⟨w6.heap.size, 0, none⟩ (.int .i64 v)).setCell ⟨w6.heap.size + 1, 0, none⟩ (.int .i64 k))) := fun v k hv hk => by
      subst hv hk
      have x1 := blk_set (o := 0) II.out.n (.int .i64 (shV (pre ++ [x])))
      have x2 : (W2.setCell ⟨w6.heap.size, 0, none⟩ (.int .i64 (shV (pre ++ [x])))).heap[w6.heap.size + 1]? = _ := (Go.Deep.blk_setCell_other _ _ _ _ (by simp)).trans II.out.m
      refine ⟨⟨(Go.Deep.blk_setCell_other _ _ _ _ (by simp)).trans x1, blk_set (o := 0) x2 _, (II.out.g.set (.inl (.inl rfl)) _ _).set (.inl (.inr rfl)) _ _⟩, ((Gx.refl _ _).set (.inl (.inl ⟨by omega, .inl rfl⟩)) _ _).set (.inl (.inl ⟨by omega, .inr rfl⟩)) _ _⟩
    clear i2
    rcases sh_pre hx with ⟨rfl, rfl⟩ | ⟨rfl, rfl⟩ | ⟨rfl, rfl⟩
    all_goals simp only [encI, shV, List.foldl_cons, List.foldl_nil, List.length_cons, List.length_nil] at cn cm ⊢
    all_goals gi_wp2
    all_goals (obtain ⟨q1, q2⟩ := FIN.out _ _ rfl rfl; exact ⟨fun _ => False, fun q e => e.elim, q2, q1⟩)
  case done =>
    rintro D O W hD nD hO ii hZ bD
    have g4 : Gw w4 W := Gx.gw ((G5.out.trans G6.out).trans G9.out) ii.g (fun q hq => by have := (G5.out.trans G6.out).size; rcases hq with e | e <;> omega)
    have gw : Gw w W := (((G1.out.trans G2.out).trans G3.out).trans G4.out).trans g4
    have S1 : Hid _ := same_lit W ao1 c1 3 [⟨1, 10, false⟩, ⟨2, 22, false⟩, ⟨3, 30, false⟩] #[.int .u64 1, .int .u64 10, .bool false, .int .u64 2, .int .u64 22, .bool false, .int .u64 3, .int .u64 30, .bool false] rfl rfl (by omega) (by simp [Ent.ok]) (A1.out.gw (((G2.out.trans G3.out).trans G4.out).trans g4))
    have S2 : Hid (∀ u, Gw W u → _) := fun u g => same_lit u ao2 c2 3 [⟨5, 1, false⟩, ⟨4, 4, false⟩, ⟨5, 2, false⟩] #[.int .u64 5, .int .u64 1, .bool false, .int .u64 4, .int .u64 4, .bool false, .int .u64 5, .int .u64 2, .bool false] rfl rfl (by omega) (by simp [Ent.ok]) ((A2.out.gw ((G3.out.trans G4.out).trans g4)).gw g)
    have S3 : Hid (∀ u, Gw W u → _) := fun u g => same_lit u ao4 c4 2 [⟨1, 10, false⟩, ⟨3, 0, true⟩] #[.int .u64 1, .int .u64 10, .bool false, .int .u64 3, .int .u64 0, .bool true] rfl rfl (by omega) (by simp [Ent.ok]) ((A4.out.gw g4).gw g)
    have CE : Hid (∀ u, Gw W u → u.cell? ⟨w6.heap.size, 0, none⟩ = some (.int .i64 11223) ∧ u.cell? ⟨w6.heap.size + 1, 0, none⟩ = some (.int .i64 3) ∧ u.heap[D]? = some (.deferred (some [])) ∧ Gw w u) := fun u g => ⟨blkc ((g.below.block _ (blkl ii.n)).trans ii.n) rfl, blkc ((g.below.block _ (blkl ii.m)).trans ii.m) rfl, (g.below.block _ (blkl bD)).trans bD, gw.trans g⟩
    have DW : w.heap.size ≤ D := by have := (((G1.out.trans G2.out).trans G3.out).trans G4.out).size; have := (G5.out.trans G6.out).size; omega
    clear ii hZ bD nD hO g4 gw
    gi_wp2
    refine ⟨trivial, ?_⟩
    refine CallsIn.mono (callsIn_wide.2 S1.out) ?_
    rintro e u1 ⟨rfl, g1⟩
    have GU1 : Hid (Gw W u1) := g1
    clear g1
    gi_wp2
    refine ⟨trivial, ?_⟩
    refine CallsIn.mono (callsIn_wide.2 (S2.out u1 GU1.out)) ?_
    rintro e u2 ⟨rfl, g2⟩
    have GU2 : Hid (Gw W u2) := GU1.out.trans g2
    clear g2
    gi_wp2
    refine ⟨trivial, ?_⟩
    refine CallsIn.mono (callsIn_wide.2 (S3.out u2 GU2.out)) ?_
    rintro e u3 ⟨rfl, g3⟩
    obtain ⟨cn, cm, hK, gf⟩ := CE.out u3 (GU2.out.trans g3)
    have GF : Hid (Gw w u3) := gf
    clear g3 gf
    gi_wp2
    refine ⟨by simp, .inl ⟨_, _, rfl, run_takeDeferred hK, ?_⟩⟩
    refine ⟨.bool true, ?_, rfl, ⟨GF.out.below.trans (belowK_b (w := w) (Nat.le_refl _) _ D _ _ DW hK rfl rfl)⟩⟩
    simp [results, Try.f6, go_sem]
end Go.Proofs.Ythkahedhmfkhhaa

/- Package merge: what is asked of it. -/
namespace Go.Proofs.Ythkahedhmfkhhaa
open Go.RowKit
set_option linter.unusedVariables false

theorem mergec : MergeC where
  sift := fun ao c l K cap p h1 h2 h3 w h4 h5 => sift13 ao c l K cap p h1 w h4 h5
  entries := fun ao c L h1 h2 h3 h4 h5 w h6 => entries13 ao c L h1 h2 h3 w h6
  shown := shown13
end Go.Proofs.Ythkahedhmfkhhaa
