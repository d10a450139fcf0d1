/- MergeOften: the walk. -/
import Derived.Test.YthkahedhmfkhhaaPOf
import Derived.Test.YthkahedhmfkhhaaPMge
import Derived.Test.YthkahedhmfkhhaaPWd
import Derived.Test.YthkahedhmfkhhaaPSm
import Derived.Maps.OwnIn
namespace Go.Proofs.Ythkahedhmfkhhaa
open Go.RowKit Go.Shelf
set_option linter.unusedVariables false

attribute [local go_sem] Oper.semAt_some

def fvO (p : OfP) (i : Nat) : Nat × Array Value := (16, #[.pointer (some ⟨p.bbx, 0, none⟩), .pointer (some ⟨p.ib i, 0, none⟩), .pointer (some ⟨p.obx, 0, none⟩), .pointer (some ⟨p.lbx, 0, none⟩)])
theorem fam_o (p : OfP) (d : OfD p) (hl : ∀ s ∈ p.L, s.l.length ≤ 4000000) : Fam encE (p.L.map Lst.l) (rdO p) (wrO p) (OfS p) (fvO p) := by
  refine ⟨fun i hi => ?_, fun i hi args W => rfl, fun i W W' h z k => OfG.keep h d z k⟩
  have il : i < p.L.length := by simpa using hi
  have e : (p.L.map Lst.l)[i] = p.L[i].l := List.getElem_map _
  rw [e]
  exact often1 p d i (by rw [← d.ln]; exact il) il (hl _ (List.getElem_mem il))
theorem info_int : (Try.prog.info? 3).map (fun i => (i.zero, i.size, i.bytes)) = some (some (.int .i64 0), 1, 8) := by kernel_rfl
/-- The functions, as cells. -/
def fnO (bbx obx lbx : Nat) (IB : List Nat) : List Value := IB.map fun b => .func (.func 16) #[] #[.pointer (some ⟨bbx, 0, none⟩), .pointer (some ⟨b, 0, none⟩), .pointer (some ⟨obx, 0, none⟩), .pointer (some ⟨lbx, 0, none⟩)]
theorem info_fo : (Try.prog.info? 28).map (fun i => (i.zero, i.size, i.bytes)) = some (some .nilFunc, 1, 8) := by kernel_rfl
/-- The functions so far, and the boxes of i. -/
structure OI (b0 bbx obx lbx : Nat) (i fb fc cur : Nat) (IB : List Nat) (w : World) : Prop where
  own : w.ownsRow b0 28 1 (.slice (some ⟨fb, 0, none⟩) i fc) i (fnO bbx obx lbx IB)
  len : IB.length = i
  ib : ∀ j, j < i → w.heap[IB.getD j 0]? = some (.cells #[.int .i64 (j : Int)] 3 (0, 0)) ∧ IB.getD j 0 ≠ fb ∧ b0 ≤ IB.getD j 0
  cu : w.heap[cur]? = some (.cells #[.int .i64 (i : Int)] 3 (0, 0)) ∧ cur ≠ fb ∧ b0 ≤ cur
theorem OI.step {b0 bbx obx lbx i fb fc cur fb' fc' : Nat} {IB : List Nat} {w w7 : World} {o : Obj} (h : OI b0 bbx obx lbx i fb fc cur IB w) (hb : b0 ≤ w.heap.size) (r1 : w7.ownsRow b0 28 1 (.slice (some ⟨fb', 0, none⟩) (i + 1) fc') (i + 1) (fnO bbx obx lbx IB ++ [.func (.func 16) #[] #[.pointer (some ⟨bbx, 0, none⟩), .pointer (some ⟨cur, 0, none⟩), .pointer (some ⟨obx, 0, none⟩), .pointer (some ⟨lbx, 0, none⟩)]])) (r2 : (w.alloc o).grownBy w7 (some fb)) (r4 : fb' = fb ∨ fb' = w.heap.size + 1) :
    OI b0 bbx obx lbx (i + 1) fb' fc' w7.heap.size (IB ++ [cur]) (w7.alloc (.cells #[.int .i64 ((i : Int) + 1)] 3)) ∧ w7.heap[cur]? = w.heap[cur]? := by
  have fbl : b0 ≤ fb ∧ fb < w.heap.size := World.ownsRow.lt h.own fb rfl
  have z7 : w.heap.size + 1 ≤ w7.heap.size := by have := r2.size; simpa using this
  have n7 : ∀ q, q < w.heap.size → q ≠ fb → w7.heap[q]? = w.heap[q]? := fun q hq hn => (r2.block q (by simp; omega) (fun e => hn (by cases e; rfl))).trans (Below.heap_alloc _ _ _ hq)
  obtain ⟨W8, hW8⟩ : ∃ W, w7.alloc (.cells #[.int .i64 ((i : Int) + 1)] 3) = W := ⟨_, rfl⟩
  have k8 : ∀ q, q < w7.heap.size → W8.heap[q]? = w7.heap[q]? := fun q hq => by
    rw [← hW8]
    exact Below.heap_alloc _ _ _ hq
  have b8 : W8.heap[w7.heap.size]? = some (.cells #[.int .i64 ((i : Int) + 1)] 3 (0, 0)) := by
    rw [← hW8]
    exact heap_alloc_new w7 _
  have fb7 : fb' < w7.heap.size := (World.ownsRow.lt r1 fb' rfl).2
  have curl := blkl h.cu.1
  have ne' : ∀ q, q < w.heap.size → q ≠ fb → q ≠ fb' := fun q hq hn => by
    rcases r4 with e | e
    · rw [e]; exact hn
    · omega
  rw [hW8]
  refine ⟨⟨?_, by rw [List.length_append, h.len]; rfl, fun j hj => ?_, b8, by omega, by omega⟩, n7 cur curl h.cu.2.1⟩
  · have e : fnO bbx obx lbx (IB ++ [cur]) = fnO bbx obx lbx IB ++ [.func (.func 16) #[] #[.pointer (some ⟨bbx, 0, none⟩), .pointer (some ⟨cur, 0, none⟩), .pointer (some ⟨obx, 0, none⟩), .pointer (some ⟨lbx, 0, none⟩)]] := by simp [fnO]
    rw [e]
    refine ⟨r1.1, ?_⟩
    rcases r1.2 with ⟨q, _⟩ | ⟨b, cap, cu, q, hb', hh, r⟩
    · cases q
    · injection q with q1 q2 q3
      injection q1 with q1
      injection q1 with q1
      subst q1 q3
      exact .inr ⟨fb', fc', cu, rfl, hb', (k8 fb' fb7).trans hh, r⟩
  · by_cases e : j < i
    · have eg : (IB ++ [cur]).getD j 0 = IB.getD j 0 := by
        rw [List.getD_eq_getElem?_getD, List.getElem?_append_left (by rw [h.len]; exact e), ← List.getD_eq_getElem?_getD]
      rw [eg]
      obtain ⟨a1, a2, a3⟩ := h.ib j e
      have al := blkl a1
      exact ⟨(k8 _ (by omega)).trans ((n7 _ al a2).trans a1), ne' _ al a2, a3⟩
    · have ej : j = i := by omega
      subst ej
      have eg : (IB ++ [cur]).getD j 0 = cur := by
        rw [List.getD_eq_getElem?_getD, ← h.len]; simp
      rw [eg]
      exact ⟨(k8 _ (by omega)).trans ((n7 _ curl h.cu.2.1).trans h.cu.1), ne' _ curl h.cu.2.1, h.cu.2.2⟩
set_option maxRecDepth 100000 in
set_option maxHeartbeats 8000000 in
theorem often_walk (ao : Option Addr) (c : Nat) (L0 : List (List Ent)) (hL0 : L0.length ≤ 1048576) (hS0 : sizes L0 ≤ 1048576) (leave : Int) (w : World) (h : EV w ao L0) :
    Calls Try.prog 5 #[.slice ao L0.length c, .int .i64 leave] w fun e w' => e = .returned (.bool true) ∧ Gw w w' := by
  have hr : ∀ i, i < L0.length → (L0.getD i []).length ≤ 2000000 := fun i hi => Nat.le_trans (rows_le hi) (by omega)
  obtain ⟨L, hL, lv, lok, lel⟩ := ev_lists h hr
  have OKS : Hid (∀ l ∈ L0, ∀ x ∈ l, x.ok) := h.oks
  refine (callsIn_wide (n := 3)).1 ?_
  have h1 : 1 ≤ 3 := by omega
  have hro : Fence.wide.round = none := rfl
  obtain ⟨n, hn⟩ : ∃ n, L0.length = n := ⟨_, rfl⟩
  have LN : Hid (L.length = n) := by rw [← hn, ← hL]; exact (List.length_map _).symm
  have L0H : Hid (L.map Lst.l = L0) := hL
  have LVH : Hid (LV w ao L) := lv
  have LOKH : Hid (∀ s ∈ L, LOk Ent.ok w.heap.size s) := lok
  have LELH : Hid (∀ s ∈ L, s.l ≠ [] → ElE w s) := lel
  rw [hn] at hL0 ⊢
  clear h hr hL lv lok lel hn
  obtain ⟨N, hN⟩ : ∃ N, w.heap.size = N := ⟨_, rfl⟩
  obtain ⟨w0, E0⟩ : ∃ w0, (w.alloc (.cells #[.slice ao n c] 22)).alloc (.cells #[.int .i64 leave] 3) = w0 := ⟨_, rfl⟩
  have E0H : Hid ((w.alloc (.cells #[.slice ao n c] 22)).alloc (.cells #[.int .i64 leave] 3) = w0) := E0
  have NH : Hid (w.heap.size = N) := hN
  have BL0 : Hid (w0.heap[N]? = some (.cells #[.slice ao n c] 22 (0, 0))) := by show _ = _; rw [← E0, ← hN]; exact (Below.heap_alloc _ _ _ (by simp)).trans (heap_alloc_new w _)
  have BA0 : Hid (w0.heap[N + 1]? = some (.cells #[.int .i64 leave] 3 (0, 0))) := by
    show _ = _
    rw [← E0, ← hN]
    have := heap_alloc_new (w.alloc (.cells #[.slice ao n c] 22)) (.cells #[.int .i64 leave] 3)
    simpa using this
  have G0 : Hid (Gw w w0) := by show Gw _ _; rw [← E0]; exact ((Gw.refl w).alloc _ _).alloc _ _
  clear E0
  refine callsIn_of_wp_marks Try.func5 rfl trivial ?_ hro
  simp only [Try.ntmps5, List.size_toArray, List.length_nil, List.nil_append, List.length_cons, Nat.reduceAdd, Nat.reduceSub, Array.replicate_succ, Array.replicate_zero, List.push_toArray, List.append_toArray, List.cons_append]
  gi_wp2
  rw [E0H.out]
  refine ⟨trivial, ?_⟩
  refine CallsIn.mono (callsIn_wide.2 (shown13 _)) ?_
  rintro e w1 ⟨rfl, g1⟩
  have BL : Hid (w1.heap[N]? = some (.cells #[.slice ao n c] 22 (0, 0))) := (g1.below.block N (blkl BL0.out)).trans BL0.out
  have BA : Hid (w1.heap[N + 1]? = some (.cells #[.int .i64 leave] 3 (0, 0))) := (g1.below.block (N + 1) (blkl BA0.out)).trans BA0.out
  have G1 : Hid (Gw w w1) := G0.out.trans g1
  have cl : w1.cell? ⟨N, 0, none⟩ = some (.slice ao n c) := blkc BL.out rfl
  have Nl := blkl BL.out
  clear g1 BL0 BA0 G0 E0H hN
  have hmk := run_make_row' (P := Try.prog) 52 3 (.int .i64 0) 8 Try.underlying52 info_int rfl .i64 .i64 n (by omega) (by omega)
  gi_wp2
  obtain ⟨Z, hZ⟩ : ∃ Z, w1.heap.size = Z := ⟨_, rfl⟩
  rw [hZ]
  obtain ⟨w4, E4⟩ : ∃ W, (((w1.alloc (.cells (madeCells #[.int .i64 0] n) 3)).alloc (.cells #[.slice (some ⟨Z, 0, none⟩) n n] 52)).alloc (.cells (madeCells #[.int .i64 0] n) 3)).alloc (.cells #[.slice (some ⟨Z + 1 + 1, 0, none⟩) n n] 52) = W := ⟨_, rfl⟩
  obtain ⟨w5, E5⟩ : ∃ W, w4.alloc (.cells #[] 28) = W := ⟨_, rfl⟩
  obtain ⟨w6, E6⟩ : ∃ W, w5.alloc (.cells #[.int .i64 0] 3) = W := ⟨_, rfl⟩
  rw [E4, E5, E6]
  have z4 : w4.heap.size = Z + 1 + 1 + 1 + 1 := by rw [← E4]; simp [hZ]
  have z5 : w5.heap.size = Z + 1 + 1 + 1 + 1 + 1 := by rw [← E5]; simp [z4]
  have G4 : Hid (Gw w1 w4) := by show Gw _ _; rw [← E4]; exact ((((Gw.refl w1).alloc _ _).alloc _ _).alloc _ _).alloc _ _
  have R0 : Hid (w4.rowIs Z 3 n (fun _ => .int .i64 0)) := by
    have a := World.rowIs_made w1 (.int .i64 0) n 3
    rw [hZ] at a
    rw [← E4]
    exact ((a.alloc _).alloc _).alloc _
  have B1 : Hid (w4.heap[Z + 1]? = some (.cells #[.slice (some ⟨Z, 0, none⟩) n n] 52 (0, 0))) := by
    show _ = _
    rw [← E4]
    have := heap_alloc_new (w1.alloc (.cells (madeCells #[.int .i64 0] n) 3)) (.cells #[.slice (some ⟨Z, 0, none⟩) n n] 52)
    rw [World.size_alloc, hZ] at this
    exact (Below.heap_alloc _ _ _ (by simp [hZ])).trans ((Below.heap_alloc _ _ _ (by simp [hZ])).trans this)
  have R2 : Hid (w4.rowIs (Z + 1 + 1) 3 n (fun _ => .int .i64 0)) := by
    have a := World.rowIs_made ((w1.alloc (.cells (madeCells #[.int .i64 0] n) 3)).alloc (.cells #[.slice (some ⟨Z, 0, none⟩) n n] 52)) (.int .i64 0) n 3
    simp only [World.size_alloc, hZ] at a
    rw [← E4]
    exact a.alloc _
  have B3 : Hid (w4.heap[Z + 1 + 1 + 1]? = some (.cells #[.slice (some ⟨Z + 1 + 1, 0, none⟩) n n] 52 (0, 0))) := by
    show _ = _
    rw [← E4]
    have := heap_alloc_new (((w1.alloc (.cells (madeCells #[.int .i64 0] n) 3)).alloc (.cells #[.slice (some ⟨Z, 0, none⟩) n n] 52)).alloc (.cells (madeCells #[.int .i64 0] n) 3)) (.cells #[.slice (some ⟨Z + 1 + 1, 0, none⟩) n n] 52)
    simpa only [World.size_alloc, hZ] using this
  have G6 : Hid (Gw w4 w6) := by show Gw _ _; rw [← E6, ← E5]; exact ((Gw.refl w4).alloc _ _).alloc _ _
  have O6 : Hid (OI w4.heap.size (Z + 1) (Z + 1 + 1 + 1) N 0 w4.heap.size 0 w5.heap.size [] w6) := by
    refine ⟨by rw [← E6, ← E5]; exact World.ownsRow.alloc (World.ownsRow_made w4 #[] 0 (Nat.le_refl _) (Nat.zero_le _) rfl) _, rfl, fun j hj => by omega, by rw [← E6]; exact heap_alloc_new w5 _, by omega, by omega⟩
  rw [← z5, ← z4]
  have Z4 : Hid (w4.heap.size = Z + 1 + 1 + 1 + 1) := z4
  have HZ : Hid (w1.heap.size = Z) := hZ
  clear E4 E5 E6 hmk z4 z5 hZ
  gi_loopg [8, 9] n (fun gg s8 s9 wr => ∃ (i fb fc cur : Nat) (IB : List Nat), s8 = .slice (some ⟨fb, 0, none⟩) i fc ∧ s9 = .pointer (some ⟨cur, 0, none⟩) ∧ i ≤ n ∧ n - i ≤ gg ∧ Hid (OI w4.heap.size (Z + 1) (Z + 1 + 1 + 1) N i fb fc cur IB wr) ∧ Hid (Gw w4 wr))
  case atStart => exact ⟨0, _, _, _, [], rfl, rfl, Nat.zero_le _, by omega, O6, G6⟩
  case round =>
    clear O6 G6
    obtain ⟨i, fb, fc, cur, IB, rfl, rfl, hin, hgg, OO, G⟩ := hrel
    have cc : wr.cell? ⟨cur, 0, none⟩ = some (.int .i64 (i : Int)) := blkc OO.out.cu.1 rfl
    have lc : wr.cell? ⟨N, 0, none⟩ = some (.slice ao n c) := blkc (((G4.out.trans G.out).below.block N (blkl BL.out)).trans BL.out) rfl
    have cul := blkl OO.out.cu.1
    by_cases ilt : i < n
    · have ilt' : (i : Int) < (n : Int) := by omega
      obtain ⟨ii, hii, hz', hsz', hby'⟩ := info_parts info_fo
      obtain ⟨w7, E7⟩ : ∃ W, wr.alloc (.cells #[.func (.func 16) #[] #[.pointer (some ⟨Z + 1, 0, none⟩), .pointer (some ⟨cur, 0, none⟩), .pointer (some ⟨Z + 1 + 1 + 1, 0, none⟩), .pointer (some ⟨N, 0, none⟩)]] 28) = W := ⟨_, rfl⟩
      have E7H : Hid (wr.alloc (.cells #[.func (.func 16) #[] #[.pointer (some ⟨Z + 1, 0, none⟩), .pointer (some ⟨cur, 0, none⟩), .pointer (some ⟨Z + 1 + 1 + 1, 0, none⟩), .pointer (some ⟨N, 0, none⟩)]] 28) = w7) := E7
      have RF7 : Hid (w7.ownsRow w4.heap.size 28 1 (.slice (some ⟨fb, 0, none⟩) i fc) i (fnO (Z + 1) (Z + 1 + 1 + 1) N IB)) := by rw [← E7]; exact OO.out.own.alloc _
      have NW : Hid (∀ j u, [Value.func (.func 16) #[] #[.pointer (some ⟨Z + 1, 0, none⟩), .pointer (some ⟨cur, 0, none⟩), .pointer (some ⟨Z + 1 + 1 + 1, 0, none⟩), .pointer (some ⟨N, 0, none⟩)]][j]? = some u → w7.cell? ((⟨wr.heap.size, 0, none⟩ : Addr).add j) = some u) := by show ∀ j u, _; rw [← E7]; exact new_v13 wr _ _
      have Z7 : Hid (w7.heap.size = wr.heap.size + 1) := by show _ = _; rw [← E7]; simp
      have gz := G.out.size
      gi_wp2_with (gi_at_builtin; refine wpListIn_append_own_at _ rfl _ _ 26 rfl w4.heap.size 28 ii .nilFunc 1 8 Try.underlying26 hii hz' hsz' hby' rfl (by decide) (.slice (some ⟨fb, 0, none⟩) i fc) i _ rfl RF7.out ⟨wr.heap.size, 0, none⟩ 1 1 [.func (.func 16) #[] #[.pointer (some ⟨Z + 1, 0, none⟩), .pointer (some ⟨cur, 0, none⟩), .pointer (some ⟨Z + 1 + 1 + 1, 0, none⟩), .pointer (some ⟨N, 0, none⟩)]] rfl rfl NW.out (fun u hu => by simp at hu; subst hu; rfl) (by simp only [maxLen]; omega) (by omega) (by have := Z7.out; omega) ?_)
      intro v8 w8 q1 q2 q3 q4
      obtain ⟨b8, cap8, ev, hb8, _, _⟩ := own_slice q1 (by simpa using q3)
      subst ev
      obtain ⟨O9, k9⟩ := OO.out.step (o := .cells #[.func (.func 16) #[] #[.pointer (some ⟨Z + 1, 0, none⟩), .pointer (some ⟨cur, 0, none⟩), .pointer (some ⟨Z + 1 + 1 + 1, 0, none⟩), .pointer (some ⟨N, 0, none⟩)]] 28) gz q1 (by rw [E7H.out]; exact q2) (by
        rcases q4 with q | q
        · exact .inl (by simpa [Value.ownBlock] using q)
        · exact .inr (by have := Z7.out; have q' : b8 = w7.heap.size := (by simpa [Value.ownBlock] using q); omega))
      have O9H : Hid _ := O9
      have G8 : Gw w4 w8 := by
        have : Gw w4 w7 := by rw [← E7H.out]; exact G.out.alloc _ _
        exact this.grown q2 (fun k hk => (World.ownsRow.lt RF7.out k hk).1)
      have G9 : Hid (Gw w4 (w8.alloc (.cells #[.int .i64 ((i : Int) + 1)] 3))) := G8.alloc _ _
      have c8 : w8.cell? ⟨cur, 0, none⟩ = some (.int .i64 (i : Int)) := blkc (k9.trans OO.out.cu.1) rfl
      have wi : IntKind.i64.wrap ((i : Int) + 1) = (i : Int) + 1 := by rw [IntKind.wrap_i64]; omega
      clear hii hz' hsz' hby' q1 q2 q3 q4 NW RF7 E7 O9 k9 G8 OO G cc lc
      gi_wp2
      gi_roundg (n - (i + 1))
      case measure => omega
      case rel => exact ⟨i + 1, b8, cap8, w8.heap.size, _, rfl, rfl, by omega, Nat.le_refl _, O9H, G9⟩
    · have ei : n = i := by omega
      subst ei
      obtain ⟨p, hp⟩ : ∃ p : OfP, p = ⟨Z + 1, Z + 1 + 1 + 1, N, Z, Z + 1 + 1, n, ao, c, L, fun j => IB.getD j 0⟩ := ⟨_, rfl⟩
      have PH : Hid (p = ⟨Z + 1, Z + 1 + 1 + 1, N, Z, Z + 1 + 1, n, ao, c, L, fun j => IB.getD j 0⟩) := hp
      have NZ : N + 1 < Z := by have := blkl BA.out; have := HZ.out; omega
      have wN := NH.out
      have z4 := Z4.out
      have DD : Hid (OfD p) := by
        refine ⟨by rw [hp]; exact LN.out, ?_, by rw [hp]; show Z ≠ Z + 1 + 1; omega⟩
        rw [hp]
        rintro q (e | e | e | ⟨j, hj, e⟩ | ⟨a, ea, h0, e⟩ | ⟨s, hs, ne, e⟩) (x | x)
        all_goals (dsimp only at e x)
        all_goals (try omega)
        · have := (OO.out.ib j hj).2.2; omega
        · have := (OO.out.ib j hj).2.2; omega
        · obtain ⟨b, off, e1, hb, _⟩ := LVH.out.cells (by rw [LN.out]; exact h0)
          have ea' : ao = some a := ea
          rw [e1] at ea'; cases ea'; dsimp only at e; omega
        · obtain ⟨b, off, e1, hb, _⟩ := LVH.out.cells (by rw [LN.out]; exact h0)
          have ea' : ao = some a := ea
          rw [e1] at ea'; cases ea'; dsimp only at e; omega
        · have := (LOKH.out s hs ne).1; omega
        · have := (LOKH.out s hs ne).1; omega
      have GALL : Hid (Gw w wr) := (G1.out.trans G4.out).trans G.out
      have SS : Hid (OfS p 0 wr) := by
        show OfG _ _ _ _
        rw [hp]
        have k4 : ∀ q, q < w4.heap.size → wr.heap[q]? = w4.heap[q]? := fun q hq => G.out.below.block q hq
        refine ⟨(k4 _ (blkl B1.out)).trans B1.out, (k4 _ (blkl B3.out)).trans B3.out, ((G4.out.trans G.out).below.block N (blkl BL.out)).trans BL.out, fun j hj => (OO.out.ib j hj).1, LVH.out.gw GALL.out, fun s hs ne => ⟨Nat.lt_of_lt_of_le (LOKH.out s hs ne).1 GALL.out.size, (LELH.out s hs ne).keep (GALL.out.below.block _ (LOKH.out s hs ne).1)⟩, (R0.out.of_block (k4 _ R0.out.lt)).congr (fun j _ => by simp), R2.out.of_block (k4 _ R2.out.lt)⟩
      have FRW : Hid (FRow (fvO p) wr (some ⟨fb, 0, none⟩) n (fun _ => False)) := ⟨fun h0 => by
        have fbl := World.ownsRow.lt OO.out.own fb rfl
        refine ⟨fb, 0, rfl, fbl.2, fun e => e, fun j hj => ?_⟩
        rw [Nat.zero_add, World.ownsRow.cellAt OO.out.own j (by omega)]
        have jb : j < IB.length := by rw [OO.out.len]; exact hj
        rw [hp]
        simp [fnO, fvO, List.getD, jb]⟩
      have MG : Hid _ := merge_e (w := wr) (K := 10) (cp := fc) FRW.out (by omega)
      clear hp
      gi_wp2
      refine ⟨trivial, ?_⟩
      refine CallsIn.mono (callsIn_wide.2 MG.out) ?_
      rintro e w7 ⟨⟨bk, bl, bo, c7, rfl, mr, hbk, hbl, hbo⟩, g7⟩
      have WRL : Hid (∀ q, wrO p q → q < w4.heap.size) := fun q hq => by
        rw [PH.out] at hq
        rcases hq with e | e
        · have e' : q = Z := e; omega
        · have e' : q = Z + 1 + 1 := e; omega
      have MR : Hid (MrAe 10 bk bl bo n c7 (fvO p) (wrO p) w7) := mr _ (fun q hq => Nat.lt_of_lt_of_le (WRL.out q hq) G.out.size)
      have G7 : Hid (Gw wr w7) := g7
      have NK : Hid (¬ wrO p bk ∧ ¬ wrO p bl) := ⟨fun e => by have := WRL.out bk e; have := G.out.size; omega, fun e => by have := WRL.out bl e; have := G.out.size; omega⟩
      have nn : ∀ W : World, (binOp .eql 28 (.func (.func 25) #[] #[.pointer (some ⟨bk, 0, none⟩), .pointer (some ⟨bl, 0, none⟩)]) .nilFunc).run Try.prog W = .ok (.bool false) W := fun W => by kernel_rfl
      obtain ⟨bn, hbn⟩ : ∃ b, w7.heap.size = b := ⟨_, rfl⟩
      obtain ⟨W9, E9⟩ : ∃ W9, w7.alloc (.cells #[.int .i64 0] 3) = W9 := ⟨_, rfl⟩
      have G9 : Hid (Gw w7 W9) := by show Gw _ _; rw [← E9]; exact (Gw.refl w7).alloc _ _
      have N9 : Hid (W9.heap[bn]? = some (.cells #[.int .i64 (([] : List Ent).length : Int)] 3 (0, 0))) := by show _ = _; rw [← E9, ← hbn]; exact heap_alloc_new w7 _
      have z9 : W9.heap.size = bn + 1 := by rw [← E9, ← hbn]; simp
      have E9H : Hid (w7.alloc (.cells #[.int .i64 0] 3) = W9) := E9
      have HBN : Hid (w7.heap.size = bn) := hbn
      clear mr g7 MG E9 hbn cc lc cul
      gi_wp2
      rw [E9H.out, HBN.out]
      clear nn
      have F7 : Hid (OfS p 0 w7) := OfG.keep SS.out DD.out G7.out.size (fun q hq => G7.out.below.block q (SS.out.lt DD.out q hq))
      have RL : Hid (∀ q, rdMe (rdO p) bk bl bo n q ∨ wrO p q → q < w7.heap.size) := fun q hq => by
        rcases hq with (e | e | e | ⟨e0, a, e1, e2⟩) | e
        · exact F7.out.lt DD.out q (.inl e)
        · rw [e]; exact blkl MR.out.k
        · rw [e]; exact blkl MR.out.l
        · obtain ⟨b, off, e3, h1, _⟩ := MR.out.r.cells e0
          rw [e3] at e1; cases e1; rw [← e2]; exact h1
        · exact F7.out.lt DD.out q (.inr e)
      obtain ⟨out, hM⟩ := Mg.ex Ent.k _ L0 (Nat.le_refl _)
      have OUT : Hid (out.length ≤ 2000000) := by have := hM.few; show _ ≤ _; omega
      have PL1 : p.L = L := by rw [PH.out]
      have PN1 : p.n = n := by rw [PH.out]
      have SQ : Hid _ := merge1_e 10 Ent.k key_e13 bk bl bo n c7 L0 (fvO p) (rdO p) (wrO p) (OfS p) (by
        have := fam_o p DD.out (fun s hs => by
          rw [PL1] at hs
          have : s.l ∈ L0 := by rw [← L0H.out]; exact List.mem_map.2 ⟨s, hs, rfl⟩
          have q : s.l.length ≤ sizes L0 := by
            obtain ⟨j, hj, ej⟩ := List.mem_iff_getElem.1 this
            have := rows_le hj
            rw [List.getD_eq_getElem?_getD, List.getElem?_eq_getElem hj] at this
            rw [← ej]; exact this
          omega)
        rw [PL1, L0H.out] at this
        exact this) (by rw [← L0H.out, List.length_map]; exact LN.out) (by omega) (by omega) OKS.out NK.out out hM
      have bnz := HBN.out
      have BW : Hid (¬ wrO p bn) := fun e => by have := RL.out bn (.inr e); omega
      have LV9 : Hid (W9.heap[N + 1]? = some (.cells #[.int .i64 leave] 3 (0, 0))) := (((G4.out.trans G.out).trans (G7.out.trans G9.out)).below.block (N + 1) (blkl BA.out)).trans BA.out
      have NW1 : Hid (¬ wrO p (N + 1)) := fun e => by
        rw [PH.out] at e
        rcases e with e | e
        · have e' : N + 1 = Z := e; omega
        · have e' : N + 1 = Z + 1 + 1 := e; omega
      have NB : Hid (N + 1 ≠ bn) := by have := blkl BA.out; have := ((G4.out.trans G.out).trans G7.out).size; show _ ≠ _; omega
      refine range_out (ps := #[39]) hro h1 (gf := 25) (lb := #[.pointer (some ⟨bk, 0, none⟩), .pointer (some ⟨bl, 0, none⟩)]) rfl trivial (fun _ _ => rfl) SQ.out
        (fun W g => ⟨MR.out.keep (R := rdO p) (Nat.le_trans G9.out.size g.size) (fun q hq => ((G9.out.trans g).below.block q (RL.out q (.inl hq)))), OfG.keep F7.out DD.out (G9.out.trans g).size (fun q hq => (G9.out.trans g).below.block q (F7.out.lt DD.out q hq))⟩) (fun _ => rfl)
        (fun q => q = bn) (fun q hq => ⟨by have := RL.out q hq; omega, fun e => by have := RL.out q hq; have e' : q = bn := e; omega⟩) (fun q hq => by have e' : q = bn := hq; omega)
        (fun pre O W => W.heap[bn]? = some (.cells #[.int .i64 (pre.length : Int)] 3 (0, 0)) ∧ Gx (fun q => q = bn ∨ wrO p q) W9 W) (fun c pre O W => c = .exit 2 ∧ Gx (fun q => q = bn ∨ wrO p q) W9 W)
        (fun pre O X Y h k => ⟨(k.block _ (blkl h.1) (.inl ⟨by omega, BW.out⟩)).trans h.1, ⟨k.os.trans h.2.os, k.tape.trans h.2.tape, k.output.trans h.2.output, Nat.le_trans h.2.size k.size, fun q hq hs => (k.block q (Nat.lt_of_lt_of_le hq h.2.size) (.inl ⟨hq, fun e => hs (.inr e)⟩)).trans (h.2.block q hq hs)⟩⟩)
        (fun c pre O X Y h k => ⟨h.1, ⟨k.os.trans h.2.os, k.tape.trans h.2.tape, k.output.trans h.2.output, Nat.le_trans h.2.size k.size, fun q hq hs => (k.block q (Nat.lt_of_lt_of_le hq h.2.size) (.inl ⟨hq, fun e => hs (.inr e)⟩)).trans (h.2.block q hq hs)⟩⟩)
        (fun W W' z zs k => ⟨z.1.keep (R := rdO p) zs (fun q hq => k q (by have := RL.out q (.inl hq); omega)), OfG.keep z.2 DD.out zs (fun q hq => k q (by have := F7.out.lt DD.out q hq; omega))⟩)
        ⟨N9.out, Gx.refl _ _⟩ ?round ?done ?stop
      case round => as_aux_lemma =>
        intro l n1 hl hn1 pre x O W hi hn hr ho hx
        gi_wp2
        refine ⟨Gw.refl _, ?_⟩
        intro W2 i2a i2b rr r2 k2 z2
        have cn : W2.cell? ⟨bn, 0, none⟩ = some (.int .i64 (pre.length : Int)) := blkc i2a rfl
        have fn := blkf (o := 0) i2a
        have ln := blkl i2a
        have cv : W2.cell? ⟨N + 1, 0, none⟩ = some (.int .i64 leave) := blkc ((i2b.block (N + 1) (blkl LV9.out) (fun e => e.elim NB.out NW1.out)).trans LV9.out) rfl
        have plen : pre.length + 1 ≤ out.length := by obtain ⟨t, ht⟩ := hx; rw [← ht]; simp only [List.length_append, List.length_singleton]; omega
        have outl := OUT.out
        have FIN : Hid (∀ (v : Int), v = ((pre ++ [x]).length : Int) → ((W2.setCell ⟨bn, 0, none⟩ (.int .i64 v)).heap[bn]? = some (.cells #[.int .i64 ((pre ++ [x]).length : Int)] 3 (0, 0)) ∧ Gx (fun q => q = bn ∨ wrO p q) W9 (W2.setCell ⟨bn, 0, none⟩ (.int .i64 v))) ∧ Gx (fun q => (q < bn + 1 ∧ q = bn) ∨ O q ∨ W.heap.size ≤ q) W2 (W2.setCell ⟨bn, 0, none⟩ (.int .i64 v))) := fun v hv => by
          subst hv
          refine ⟨⟨blk_set (o := 0) i2a _, i2b.set (.inl (.inl rfl)) _ _⟩, (Gx.refl _ _).set (.inl (.inl ⟨by omega, rfl⟩)) _ _⟩
        have STP : Hid (Gx (fun q => q = bn ∨ wrO p q) W9 W2) := i2b
        generalize hk : pre.length = k at cn plen
        have HK : Hid (pre.length = k) := hk
        have wk : IntKind.i64.wrap ((k : Int) + 1) = (k : Int) + 1 := by rw [IntKind.wrap_i64]; omega
        simp only [encE]
        clear hi hr ho i2a i2b r2 z2 hk SQ k2
        by_cases e : (k : Int) = leave
        · have e' : ((k : Int) == leave) = true := by simpa using e
          clear e
          gi_wp2
          exact ⟨fun _ => False, fun q e => e.elim, Gx.refl _ _, rfl, STP.out⟩
        · have e' : ((k : Int) == leave) = false := by simpa using e
          clear e
          gi_wp2
          obtain ⟨q1, q2⟩ := FIN.out ((k : Int) + 1) (by rw [List.length_append, HK.out]; simp)
          exact ⟨fun _ => False, fun q e => e.elim, q2, q1⟩
      case done =>
        rintro D O W hD nD hO ⟨_, ib⟩ hZ bD
        have zz := hZ.2
        have GF : Hid (Gw w W) := Gx.gw ((GALL.out.trans G7.out).trans G9.out) ib (fun q hq => by
          have h2 := (GALL.out.trans G7.out).size
          rcases hq with e | e
          · omega
          · rw [PH.out] at e
            rcases e with e | e
            · have e' : q = Z := e; omega
            · have e' : q = Z + 1 + 1 := e; omega)
        have ZS : Hid (OfG p (fun j => if j < n then 1 else 0) (fun _ => 0) W) := zz
        have DW : Hid (w.heap.size ≤ D) := by have h2 := (GALL.out.trans G7.out).size; show _ ≤ _; omega
        have BD : Hid (W.heap[D]? = some (.deferred (some []))) := bD
        have CE : Hid (∀ i, i < n → W.cell? ⟨Z + 1, 0, none⟩ = some (.slice (some ⟨Z, 0, none⟩) n n) ∧ W.cell? ⟨Z + 1 + 1 + 1, 0, none⟩ = some (.slice (some ⟨Z + 1 + 1, 0, none⟩) n n) ∧ W.cell? ⟨Z, i, none⟩ = some (.int .i64 1) ∧ W.cell? ⟨Z + 1 + 1, i, none⟩ = some (.int .i64 0)) := fun i hi => by
          have z := ZS.out
          rw [PH.out] at z
          have r := z.rb.cell hi
          rw [if_pos hi] at r
          exact ⟨blkc z.b rfl, blkc z.o rfl, r, z.ro.cell hi⟩
        have lc : W.cell? ⟨N, 0, none⟩ = some (.slice ao n c) := by
          have z := ZS.out
          rw [PH.out] at z
          exact blkc z.l rfl
        clear hZ zz bD nD hO ib SQ RL
        gi_wp2
        gi_loopg [12] n (fun gg s12 wr => ∃ (i : Nat), s12 = .int .i64 (i : Int) ∧ i ≤ n ∧ n - i ≤ gg ∧ wr = W)
        case atStart => exact ⟨0, rfl, Nat.zero_le _, by omega, rfl⟩
        case round =>
          obtain ⟨i, rfl, b1, b2, ew⟩ := hrel
          have ew2 := ew.symm
          subst ew2
          clear ew
          by_cases ilt : i < n
          · have ilt' : (i : Int) < (n : Int) := by omega
            obtain ⟨e1, e2, e3, e4⟩ := CE.out i ilt
            gi_wp2
            gi_roundg (n - (i + 1))
            case measure => omega
            case rel => exact ⟨i + 1, by go_num, by omega, Nat.le_refl _, rfl⟩
          · gi_wp2
            have hK := BD.out
            refine ⟨by simp, .inl ⟨_, _, rfl, run_takeDeferred hK, ?_⟩⟩
            refine ⟨.bool true, ?_, rfl, ⟨GF.out.below.trans (belowK_b (w := w) (Nat.le_refl _) _ D _ _ DW.out hK rfl rfl)⟩⟩
            simp [results, Try.f5, go_sem]
      case stop =>
        rintro D cc pre O W hD nD hO hpre ⟨rfl, ib⟩ hZ bD
        have zz := hZ.2
        have GF : Hid (Gw w W) := Gx.gw ((GALL.out.trans G7.out).trans G9.out) ib (fun q hq => by
          have h2 := (GALL.out.trans G7.out).size
          rcases hq with e | e
          · omega
          · rw [PH.out] at e
            rcases e with e | e
            · have e' : q = Z := e; omega
            · have e' : q = Z + 1 + 1 := e; omega)
        have ZS : Hid (OfG p (fun j => if j < n then 1 else 0) (fun _ => 0) W) := zz
        have DW : Hid (w.heap.size ≤ D) := by have h2 := (GALL.out.trans G7.out).size; show _ ≤ _; omega
        have BD : Hid (W.heap[D]? = some (.deferred (some []))) := bD
        have CE : Hid (∀ i, i < n → W.cell? ⟨Z + 1, 0, none⟩ = some (.slice (some ⟨Z, 0, none⟩) n n) ∧ W.cell? ⟨Z + 1 + 1 + 1, 0, none⟩ = some (.slice (some ⟨Z + 1 + 1, 0, none⟩) n n) ∧ W.cell? ⟨Z, i, none⟩ = some (.int .i64 1) ∧ W.cell? ⟨Z + 1 + 1, i, none⟩ = some (.int .i64 0)) := fun i hi => by
          have z := ZS.out
          rw [PH.out] at z
          have r := z.rb.cell hi
          rw [if_pos hi] at r
          exact ⟨blkc z.b rfl, blkc z.o rfl, r, z.ro.cell hi⟩
        have lc : W.cell? ⟨N, 0, none⟩ = some (.slice ao n c) := by
          have z := ZS.out
          rw [PH.out] at z
          exact blkc z.l rfl
        clear hZ zz bD nD hO ib SQ RL
        gi_wp2
        gi_loopg [12] n (fun gg s12 wr => ∃ (i : Nat), s12 = .int .i64 (i : Int) ∧ i ≤ n ∧ n - i ≤ gg ∧ wr = W)
        case atStart => exact ⟨0, rfl, Nat.zero_le _, by omega, rfl⟩
        case round =>
          obtain ⟨i, rfl, b1, b2, ew⟩ := hrel
          have ew2 := ew.symm
          subst ew2
          clear ew
          by_cases ilt : i < n
          · have ilt' : (i : Int) < (n : Int) := by omega
            obtain ⟨e1, e2, e3, e4⟩ := CE.out i ilt
            gi_wp2
            gi_roundg (n - (i + 1))
            case measure => omega
            case rel => exact ⟨i + 1, by go_num, by omega, Nat.le_refl _, rfl⟩
          · gi_wp2
            have hK := BD.out
            refine ⟨by simp, .inl ⟨_, _, rfl, run_takeDeferred hK, ?_⟩⟩
            refine ⟨.bool true, ?_, rfl, ⟨GF.out.below.trans (belowK_b (w := w) (Nat.le_refl _) _ D _ _ DW.out hK rfl rfl)⟩⟩
            simp [results, Try.f5, go_sem]
end Go.Proofs.Ythkahedhmfkhhaa
