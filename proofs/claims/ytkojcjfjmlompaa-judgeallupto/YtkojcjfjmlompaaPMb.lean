import Derived.Test.YtkojcjfjmlompaaPMa
import Derived.Test.YtkojcjfjmlompaaS4Pdq
import Derived.Test.YtkojcjfjmlompaaS3My
import Derived.Deep.CutBlock
/- Package judge: the pairs from one key up to another. -/
namespace Go.Proofs.Ytkojcjfjmlompaa
open Go.RowKit
set_option linter.unusedVariables false

theorem pc2_len23 (p : Int × Int) : (pc2 p).length = 2 := rfl
theorem sorted_of {ks : List Int} {d' : Array Int} {K : List Int} (hp : Sort.PermIn 0 ks.length ks.toArray d') (hs : Sort.SortedIn ltI 0 ks.length d') (pk : ks.Perm K) (rk : K.Pairwise (· < ·)) : d'.toList = K := by
  have sz : d'.size = ks.length := by rw [hp.1]; simp
  have pm : d'.toList.Perm ks := by
    have h := hp.2.2
    have e1 : (d'.extract 0 ks.length).toList = d'.toList := by rw [← sz]; simp
    have e2 : (ks.toArray.extract 0 ks.length).toList = ks := by simp
    rw [e1, e2] at h
    exact h
  have pk2 : d'.toList.Perm K := pm.trans pk
  have nd : d'.toList.Nodup := pk2.nodup_iff.2 (rk.imp (fun {a b} h => by omega))
  refine rising_eq ?_ rk (fun x => pk2.mem_iff)
  rw [List.pairwise_iff_getElem]
  intro i j hi hj lt
  have li : i < d'.size := by simpa using hi
  have lj : j < d'.size := by simpa using hj
  have h1 := hs i j (Nat.zero_le _) lt (by omega)
  simp only [ltI, decide_eq_false_iff_not] at h1
  have e1 : d'[i]! = d'.toList[i] := by simp [li]
  have e2 : d'[j]! = d'.toList[j] := by simp [lj]
  rw [e1, e2] at h1
  have ne : d'.toList[i] ≠ d'.toList[j] := fun e => by
    have := (List.pairwise_iff_getElem.1 nd) i j hi hj lt
    exact this e
  omega
theorem btw_pairs {l : Ps} (r : RiseP l) (P : Int → Bool) : ((l.filter fun p => P p.1).map Prod.fst).map (fun k => (k, vlP l k)) = l.filter fun p => P p.1 := by
  rw [List.map_map]
  have : ∀ p ∈ l.filter (fun p => P p.1), ((fun k => (k, vlP l k)) ∘ Prod.fst) p = p := fun p hp => by
    have := (mem_key r (List.mem_filter.1 hp).1).2
    simp only [Function.comp]
    rw [this]
  rw [List.map_congr_left this]
  simp
theorem ur_own {w : World} {base g cap : Nat} {ks : List Int} {t : TypeId} (h : w.ownsRow base t 1 (.slice (some ⟨g, 0, none⟩) ks.length cap) ks.length (ks.map (Value.int .u64))) : UR w g ks.toArray := by
  rcases h.2 with ⟨q, _⟩ | ⟨g', cap', cur, q, _, hh, hc, hcc, _, hx⟩
  · cases q
  · cases q
    have hcell : ∀ i, i < ks.length → w.cell? ⟨g, i, none⟩ = some (.int .u64 ks.toArray[i]!) := fun i hi => by
      rw [World.ownsRow.cellAt h i (by omega)]
      simp [hi]
    refine ⟨cur, t, hh, ?_, fun i hi => ?_⟩
    · simp; omega
    · have hi' : i < ks.length := by simpa using hi
      have := hcell i hi'
      simpa [World.cell?, hh] using this
theorem info_p23 : (Try.prog.info? 44).map (fun i => (i.zero, i.size, i.bytes)) = some (some (.agg #[.int .u64 0, .int .u64 0]), 2, 16) := by kernel_rfl
theorem made_p23 (n : Nat) (hn : n ≤ 4000000) (w : World) :
    (Instr.makeSlice 34 (.int .i64 (n : Int)) (.int .i64 (n : Int))).run Try.prog w = .ok (.slice (some ⟨w.heap.size, 0, none⟩) n n) (w.alloc (.cells (madeCells #[.int .u64 0, .int .u64 0] (n * 2)) 44)) := by
  obtain ⟨i, hi, hz, hs, hb⟩ := info_parts info_p23
  have hr := run_make (P := Try.prog) w 34 44 i _ Try.underlying34 hi hz .i64 .i64 (n : Int) (n : Int) (by omega) (Int.le_refl _) (by rw [hb]; omega) (by omega)
  rw [hr, hs]
  have e1 : (n : Int).toNat = n := by omega
  rw [e1]
  rfl
theorem madeCells_p (n : Nat) : (madeCells #[.int .u64 0, .int .u64 0] (n * 2)).toList = (List.replicate n ((0, 0) : Int × Int)).flatMap pc2 := by
  apply List.ext_getElem?
  intro j
  by_cases h : j < n * 2
  · have F := fm_at 2 pc2 pc2_len23 (List.replicate n ((0, 0) : Int × Int)) (j / 2) (0, 0) (by rw [List.getElem?_replicate, if_pos (by omega)]) (j % 2) (.int .u64 0) (by
      rcases (show j % 2 = 0 ∨ j % 2 = 1 by omega) with e | e <;> rw [e] <;> rfl)
    rw [show j / 2 * 2 + j % 2 = j by omega] at F
    rw [F]
    rcases (show j % 2 = 0 ∨ j % 2 = 1 by omega) with e | e <;> simp [madeCells, h, e]
  · rw [List.getElem?_eq_none (by simp [madeCells]; omega), List.getElem?_eq_none (by rw [fm_len 2 pc2 pc2_len23]; simp; omega)]
theorem RowG.made (w : World) (base n : Nat) (hb : base ≤ w.heap.size) (hn : n ≤ 4000000) : RowG 44 2 pc2 (w.alloc (.cells (madeCells #[.int .u64 0, .int .u64 0] (n * 2)) 44)) base w.heap.size n n (List.replicate n (0, 0)) := by
  refine ⟨by simp, by rw [fm_len 2 pc2 pc2_len23]; simp, .inr ⟨w.heap.size, n, _, rfl, hb, heap_alloc_new w _, Nat.le_refl _, ?_, ?_, ?_⟩⟩
  · simp only [maxLen]; omega
  · simp [madeCells]
  · rw [madeCells_p, List.take_of_length_le]
    rw [fm_len 2 pc2 pc2_len23]
    simp
theorem ins_nil (w : World) : Calls Try.prog 36 #[.slice none 0 0, .int .i64 0, .int .i64 0] w fun e w' => e = .returned (.tuple #[]) ∧ w' = w := by
  go_enter Try.func36, Try.ntmps36
  go_wp2_with fail
  refine wp_loop_rounds 1 ?_
  rw [rounds_succ]
  go_wp2_with fail
  refine bodyPost_end (results_none rfl _ _ _) rfl ⟨rfl, rfl⟩
set_option maxRecDepth 100000 in
theorem pdq_nil (lm : Int) (w : World) : Calls Try.prog 34 #[.slice none 0 0, .int .i64 0, .int .i64 0, .int .i64 lm] w fun e w' => e = .returned (.tuple #[]) ∧ w' = w := by
  have I : Hid (∀ W, Calls Try.prog 36 #[.slice none 0 0, .int .i64 0, .int .i64 0] W fun e w' => e = .returned (.tuple #[]) ∧ w' = W) := fun W => ins_nil W
  go_enter Try.func34, Try.ntmps34
  go_wp2_with fail
  refine wp_loop_rounds 1 ?_
  rw [rounds_succ]
  go_wp2_with fail
  refine (I.out _).mono ?_
  rintro e w1 ⟨rfl, rfl⟩
  go_wp2_with fail
  refine bodyPost_ret (results_none rfl _ _ _) rfl ⟨rfl, rfl⟩
theorem sort_nil (w : World) : Calls Try.prog 32 #[.slice none 0 0] w fun e w' => e = .returned (.tuple #[]) ∧ w' = w := by
  have P : Hid (∀ (lm : Int) W, Calls Try.prog 34 #[.slice none 0 0, .int .i64 0, .int .i64 0, .int .i64 lm] W fun e w' => e = .returned (.tuple #[]) ∧ w' = W) := fun lm W => pdq_nil lm W
  have L : Hid (∀ W : World, Calls Try.prog 35 #[.int .u64 0] W fun e w' => e = .returned (.int .i64 ((Lib.bitLen 0 : Nat) : Int)) ∧ w' = W) := fun W => Try.bits_Len 0 W (by omega) (by omega)
  go_enter Try.func32, Try.ntmps32
  go_wp2_with (go_at_call 35; refine (L.out _).mono ?_; rintro e w' ⟨rfl, rfl⟩)
  refine (P.out _ _).mono ?_
  rintro e w1 ⟨rfl, rfl⟩
  go_wp2_with fail
  refine bodyPost_end (results_none rfl _ _ _) rfl ⟨rfl, rfl⟩
/-- The numbers that are asked for, in a row, as they are read. -/
def KeysAt (w : World) (base : Nat) (ao : Option Addr) (K : List Int) : Prop := ∀ (i : Nat) (x : Int), K[i]? = some x → ∃ g, ao = some ⟨g, 0, none⟩ ∧ base ≤ g ∧ g < w.heap.size ∧ w.cell? ⟨g, i, none⟩ = some (.int .u64 x)
theorem sort_own (base : Nat) (ao : Option Addr) (n c : Nat) (ks K : List Int) (hn : ks.length = n) (n62 : n ≤ 4000000) (pk : ks.Perm K) (rK : K.Pairwise (· < ·)) (w : World) (h : w.ownsRow base 31 1 (.slice ao n c) n (ks.map (Value.int .u64))) :
    Calls Try.prog 32 #[.slice ao n c] w fun e w' => e = .returned (.tuple #[]) ∧ KeysAt w' base ao K ∧ Gx (fun q => base ≤ q) w w' := by
  rcases h.2 with ⟨q, z⟩ | ⟨g, cap, cur, q, hb, hh, r⟩
  · injection q with q1 q2 q3
    subst q1 q2 q3
    have k0 : K = [] := by
      have := pk.length_eq
      rw [hn] at this
      exact List.eq_nil_of_length_eq_zero this.symm
    subst k0
    exact (sort_nil w).mono fun e w' h => ⟨h.1, fun i x hx => by simp at hx, by rw [h.2]; exact Gx.refl _ _⟩
  · injection q with q1 q2 q3
    subst q1 q3
    subst hn
    refine (sort23 g c ks.length ks.toArray (by simp) n62 w (ur_own h)).mono ?_
    rintro e w' ⟨rfl, d', u, ⟨p1, p2⟩, gx⟩
    have e := sorted_of p1 p2 pk rK
    refine ⟨rfl, fun i x hx => ⟨g, rfl, hb, u.lt, ?_⟩, gx.mono (fun q hq => .inl (by rw [hq]; exact hb))⟩
    rw [← e] at hx
    have hi : i < d'.size := by have := (List.getElem?_eq_some_iff.1 hx).1; simpa using this
    have hx2 : d'[i]! = x := by
      have := (List.getElem?_eq_some_iff.1 hx).2
      rw [← this]
      simp [hi]
    rw [u.cell hi, hx2]
end Go.Proofs.Ytkojcjfjmlompaa

/- Package judge: the pairs between two keys, walked. -/
namespace Go.Proofs.Ytkojcjfjmlompaa
open Go.RowKit
set_option linter.unusedVariables false

/-- The pairs that are laid so far. -/
def laidP (l : Ps) (K : List Int) (n i : Nat) : Ps := (K.take i).map (fun k => (k, vlP l k)) ++ List.replicate (n - i) (0, 0)
theorem laidP_len (l : Ps) {K : List Int} {n i : Nat} (hK : K.length = n) (hi : i ≤ n) : (laidP l K n i).length = n := by
  unfold laidP
  simp
  omega
theorem laidP_at (l : Ps) {K : List Int} {n i : Nat} (hK : K.length = n) (hi : i < n) : (laidP l K n i)[i]? = some (0, 0) := by
  unfold laidP
  have l1 : ((K.take i).map fun k => (k, vlP l k)).length = i := by simp; omega
  rw [List.getElem?_append_right (by rw [l1]; exact Nat.le_refl _), l1, Nat.sub_self, List.getElem?_replicate, if_pos (by omega)]
theorem laidP_step (l : Ps) {K : List Int} {n i : Nat} {x : Int} (hK : K.length = n) (hi : i < n) (hx : K[i]? = some x) : (laidP l K n i).set i (x, vlP l x) = laidP l K n (i + 1) := by
  unfold laidP
  have l1 : ((K.take i).map fun k => (k, vlP l k)).length = i := by simp; omega
  rw [List.set_append_right _ _ (by rw [l1]; exact Nat.le_refl _), l1, Nat.sub_self]
  have e : n - i = (n - (i + 1)) + 1 := by omega
  rw [e, List.replicate_succ, List.set_cons_zero, List.take_add_one, hx]
  simp
theorem laidP_end (l : Ps) {K : List Int} {n : Nat} (hK : K.length = n) : laidP l K n n = K.map (fun k => (k, vlP l k)) := by
  unfold laidP
  rw [Nat.sub_self, List.take_of_length_le (by omega)]
  simp
set_option maxRecDepth 100000 in
set_option maxHeartbeats 8000000 in
theorem jbtw23 (B : Nat) (most a b : Int) (l : Ps) (D : DU) (hl : l.length ≤ 4000000) (w : World) (h : MpW w B l D) :
    Calls Try.prog 23 #[.agg #[.map (some B), .int .i64 most], .int .u64 a, .int .u64 b] w fun e w' => (∃ g n, e = .returned (.slice (some ⟨g, 0, none⟩) n n) ∧ RowG 44 2 pc2 w' w.heap.size g n n (btwP l a b)) ∧ Gw w w' := by
  obtain ⟨ii, hii, hz, hs, hby⟩ := info_parts info_k
  have HW : Aside (MpW w B l D) := h
  have Blt := h.lt
  obtain ⟨hown, MI, RI, BD⟩ := h
  have hown2 := hown.alloc (.cells #[.map (some B), .int .i64 most] 65)
  have M0 : Aside (MpI D l ∧ RiseP l ∧ BdP l) := ⟨MI, RI, BD⟩
  obtain ⟨b0, hb0⟩ : ∃ b0, w.heap.size = b0 := ⟨_, rfl⟩
  obtain ⟨V, hV⟩ : ∃ V, w.alloc (.cells #[.map (some B), .int .i64 most] 65) = V := ⟨_, rfl⟩
  have BX : Aside (V.heap[b0]? = some (.cells #[.map (some B), .int .i64 most] 65 (0, 0)) ∧ V.heap.size = b0 + 1 ∧ w.heap.size = b0 ∧ B < b0) := by
    rw [← hV, ← hb0]
    exact ⟨heap_alloc_new w _, by simp, rfl, Blt⟩
  have HV : Aside (w.alloc (.cells #[.map (some B), .int .i64 most] 65) = V) := hV
  have HB : Aside (w.heap.size = b0) := hb0
  have GV : Aside (Gw w V) := by rw [← hV]; exact (Gw.refl w).alloc _ _
  obtain ⟨P, hP⟩ : ∃ P : Int → Bool, (fun x => decide (a ≤ x ∧ x ≤ b)) = P := ⟨_, rfl⟩
  have HP : Aside ((fun x => decide (a ≤ x ∧ x ≤ b)) = P) := hP
  have HPx : Aside (∀ x, P x = decide (a ≤ x ∧ x ≤ b)) := fun x => by rw [← hP]
  clear MI RI BD hown hV hb0 hP Blt
  go_enter Try.func23, Try.ntmps23
  go_wp2_with (first
    | (at_range; refine wpList_range_own _ rfl _ 63 rfl 31 31 law23 Try.underlying63 _ B l.length D rfl hown2 ?_; intro w0 hrg0 hg0 hs0)
    | go_in)
  rw [HV.out] at hrg0 hg0 ⊢
  rw [BX.out.2.1] at hrg0 ⊢
  rw [HB.out]
  go_frame
  have A0 : Aside (Met l (lfI (Maps.has D)) P []) := met_start (fun x hx => M0.out.1.start M0.out.2.2 x hx) _
  have G0 : Aside (Gw V w0) := (Gw.refl V).grown hg0 (fun k e => by cases e)
  have Z0 : Aside (b0 + 2 ≤ w0.heap.size) := by show _ ≤ _; rw [hs0, HV.out, BX.out.2.1]; exact Nat.le_refl _
  clear hs0 hg0
  go_loopg [7, 8] (Maps.size D) (fun gg s7 s8 wr => ∃ (left : Lit → Bool) (cnt : Nat) (ks : List Int) (v7 : Value), v7 = s7 ∧ cnt ≤ gg ∧ wr.ranges Try.prog 31 (plainElem Try.prog 31) B (b0 + 1) l.length D left cnt ∧ Aside (Met l (lfI left) P ks) ∧ Aside (wr.ownsRow (b0 + 2) 31 1 v7 ks.length (ks.map (Value.int .u64))) ∧ Aside (b0 + 2 ≤ wr.heap.size) ∧ Aside (Gw V wr))
  case atStart => exact ⟨_, _, [], _, rfl, Nat.le_refl _, hrg0, A0, (show Aside _ from World.ownsRow_nil _ _ _ _), Z0, G0⟩
  case round =>
    clear hrg0
    obtain ⟨left, cnt, ks, v7, rfl, hcg, hrg, HM, OW, ZZ, GG⟩ := hrel
    have kl : ks.length ≤ 4000000 := by have := met_le M0.out.2.1 HM.out; omega
    go_wp2_with (first
      | (at_next; refine wpList_next_ranges_ii _ rfl _ rfl 31 31 .u64 .u64 law23 Try.underlying31 Try.underlying31 B (b0 + 1) l.length D left cnt rfl hrg ?_ ?_)
      | go_in)
    · intro _ hl0
      have EM := met_end M0.out.2.1 HM.out (fun x => hl0 _)
      obtain ⟨K, hK⟩ : ∃ K, (l.filter fun p => P p.1).map Prod.fst = K := ⟨_, rfl⟩
      have KP : Aside (K.map (fun k => (k, vlP l k)) = btwP l a b ∧ ∀ (i : Nat) (x : Int), K[i]? = some x → isK l x = true) := by
        refine ⟨?_, fun i x hx => ?_⟩
        · rw [← hK, btw_pairs M0.out.2.1, ← HP.out]
          rfl
        · have := List.mem_of_getElem? hx
          rw [← hK] at this
          exact ((met_mem M0.out.2.1 P x).1 this).1
      have rK : K.Pairwise (· < ·) := by
        rw [← hK]
        exact rise_keys (List.Pairwise.sublist List.filter_sublist M0.out.2.1)
      rw [hK] at EM
      obtain ⟨n, hn⟩ : ∃ n, ks.length = n := ⟨_, rfl⟩
      have KN : Aside (K.length = n) := by show _ = _; rw [← hn]; exact EM.length_eq.symm
      have OW' := OW.out
      rw [hn] at OW' kl
      obtain ⟨ao, c, hv⟩ : ∃ ao c, v7 = .slice ao n c := by
        rcases OW'.2 with ⟨q, z⟩ | ⟨g, cap, cur, q, _⟩
        · exact ⟨none, 0, by rw [q, z]⟩
        · exact ⟨_, _, q⟩
      subst hv
      have SO : Hid (∀ W, W = wr → Calls Try.prog 32 #[.slice ao n c] W fun e w' => e = .returned (.tuple #[]) ∧ KeysAt w' (b0 + 2) ao K ∧ Gx (fun q => b0 + 2 ≤ q) W w') := fun W e => by
        rw [e]
        exact sort_own (b0 + 2) ao n c ks K hn kl EM rK wr OW'
      have hmk := made_p23 n kl
      clear EM hK rK hn OW' OW HM hrg hl0
      go_wp2_with fail
      refine (SO.out _ rfl).mono ?_
      rintro e w4 ⟨rfl, ka, gx⟩
      obtain ⟨g, hg⟩ : ∃ g, w4.heap.size = g := ⟨_, rfl⟩
      have KA : Aside (KeysAt w4 (b0 + 2) ao K) := ka
      have bV : b0 < wr.heap.size := by have := ZZ.out; omega
      have gB : b0 + 2 ≤ g := by rw [← hg]; have := gx.size; have := ZZ.out; omega
      have X4 : Aside (w4.heap[b0]? = some (.cells #[.map (some B), .int .i64 most] 65 (0, 0)) ∧ MpW w4 B l D ∧ Gw w w4) := by
        have hB := BX.out.2.2.2
        have hb1 := BX.out.2.1
        refine ⟨(gx.block b0 bV (by omega)).trans ((GG.out.below.block b0 (by omega)).trans BX.out.1), ?_, ?_⟩
        · have h1 := (HW.out.gw GV.out).gw GG.out
          exact h1.keep (gx.block B (by omega) (by omega))
        · exact Gx.gw (GV.out.trans GG.out) gx (fun q hq => by have := BX.out.2.2.1; omega)
      obtain ⟨W5, hW5⟩ : ∃ W5, w4.alloc (.cells (madeCells #[.int .u64 0, .int .u64 0] (n * 2)) 44) = W5 := ⟨_, rfl⟩
      have X5 : Aside (W5.heap[b0]? = some (.cells #[.map (some B), .int .i64 most] 65 (0, 0)) ∧ MpW W5 B l D ∧ Gw w W5 ∧ B < g ∧ b0 < g) := by
        have hB := BX.out.2.2.2
        refine ⟨?_, ?_, ?_, by omega, by omega⟩
        · rw [← hW5, heap_alloc_old _ _ (by omega)]
          exact X4.out.1
        · rw [← hW5]; exact X4.out.2.1.gw ((Gw.refl _).alloc _ _)
        · rw [← hW5]; exact X4.out.2.2.alloc _ _
      have R5 : Aside (RowG 44 2 pc2 W5 b0 g n n (laidP l K n 0)) := by
        have := RowG.made w4 b0 n (by omega) kl
        rw [hW5, hg] at this
        have e : laidP l K n 0 = List.replicate n (0, 0) := by unfold laidP; simp
        rw [e]
        exact this
      have K5 : Aside (∀ (i : Nat) (x : Int), K[i]? = some x → ∃ k, ao = some ⟨k, 0, none⟩ ∧ k ≠ g ∧ k < W5.heap.size ∧ W5.cell? ⟨k, i, none⟩ = some (.int .u64 x)) := fun i x hx => by
        obtain ⟨k, e, h1, h2, h3⟩ := KA.out i x hx
        refine ⟨k, e, by omega, by rw [← hW5]; simp; omega, ?_⟩
        rw [← hW5]
        exact (World.cell?_of_block (a := ⟨k, i, none⟩) (heap_alloc_old w4 _ h2)).trans h3
      have HG : Aside (w4.heap.size = g) := hg
      have HW5 : Aside (w4.alloc (.cells (madeCells #[.int .u64 0, .int .u64 0] (n * 2)) 44) = W5) := hW5
      clear ka gx hg hW5 KA X4 SO
      go_upto_block 2 with fail
      rw [HW5.out, HG.out]
      clear hmk
      go_wp2_with fail
      go_loopg [10, 11, 38] n (fun gg s10 s11 s38 wr2 => ∃ i : Nat, s38 = .int .i64 (i : Int) ∧ i ≤ n ∧ n - i ≤ gg ∧ Aside (RowG 44 2 pc2 wr2 b0 g n n (laidP l K n i)) ∧ Aside (Gx (fun q => q = g) W5 wr2))
      case atStart => exact ⟨0, rfl, Nat.zero_le _, Nat.le_refl _, R5, (show Aside _ from Gx.refl _ _)⟩
      case round =>
        obtain ⟨i, rfl, i1, i2, RR, GX⟩ := hrel
        by_cases il : i < n
        · have il' : decide ((i : Int) < (n : Int)) = true := by simpa using il
          obtain ⟨x, hx⟩ : ∃ x, K[i]? = some x := ⟨_, List.getElem?_eq_getElem (by have := KN.out; omega)⟩
          obtain ⟨k, rfl, kg, k5, kc⟩ := K5.out i x hx
          have kc2 : wr.cell? ⟨k, i, none⟩ = some (.int .u64 x) := (World.cell?_of_block (a := ⟨k, i, none⟩) (GX.out.block k k5 kg)).trans kc
          have IX : Aside (isK l x = true) := KP.out.2 i x hx
          have MW : Aside (MpW wr B l D) := X5.out.2.1.keep (GX.out.block B X5.out.2.1.lt (by have := X5.out.2.2.2.1; omega))
          have bb : wr.heap[b0]? = some (.cells #[.map (some B), .int .i64 most] 65 (0, 0)) := (GX.out.block b0 (blkl X5.out.1) (by have := X5.out.2.2.2.2; omega)).trans X5.out.1
          have k0 : wr.cell? ⟨b0, 0, none⟩ = some (.map (some B)) := blkc bb rfl
          have bx : 0 ≤ x ∧ x < 18446744073709551616 := (M0.out.2.2 _ (key_mem IX.out)).1
          have hkey := key23 bx
          have HV2 : Aside (∀ z, D.atKey (.int .u64 x) z = .lit (.int .u64 (vlP l x))) := M0.out.1.val x bx.1 bx.2 IX.out
          have la := laidP_at l KN.out il
          obtain ⟨t0, t1⟩ := RR.out.two i _ la
          have f0 := RR.out.fz (i * 2)
          have f1 := RR.out.fz (i * 2 + 1)
          have wi : IntKind.i64.wrap ((i : Int) + 1) = ((i + 1 : Nat) : Int) := by rw [IntKind.wrap_i64]; omega
          have RP : Aside (∀ v, v = vlP l x → RowG 44 2 pc2 ((wr.setCell ⟨g, i * 2, none⟩ (.int .u64 x)).setCell ⟨g, i * 2 + 1, none⟩ (.int .u64 v)) b0 g n n (laidP l K n (i + 1))) := fun v e => by
            have := RR.out.put i _ la x v
            rw [e, laidP_step l KN.out il hx] at this
            rw [e]
            exact this
          have hownr := MW.out.1
          clear hx kc la bb bx kg k5
          go_wp2_with (first
            | (at_lookup; refine wpList_lookup_own_int _ rfl _ _ 63 rfl 31 31 .u64 law23 Try.underlying63 Try.underlying31 (zero23 _) B l.length D rfl hownr _ _ rfl hkey ?_; intro c hat hwc)
            | go_in)
          have HC : Aside (c = vlP l x) := by
            have := (HV2.out _).symm.trans hat
            injection this with e1
            injection e1 with _ e2
            exact e2.symm
          go_roundg (n - (i + 1))
          case measure => omega
          case rel => exact ⟨i + 1, rfl, by omega, Nat.le_refl _, (show Aside _ from RP.out c HC.out), (show Aside _ from (GX.out.set (.inl rfl) _ _).set (.inl rfl) _ _)⟩
        · have il' : decide ((i : Int) < (n : Int)) = false := by simpa using il
          obtain rfl : i = n := by omega
          go_wp2_with fail
          refine bodyPost_ret (v := .slice (some ⟨g, 0, none⟩) i i) (by simp [results, Try.results23, go_sem]) rfl ⟨⟨g, i, rfl, ?_⟩, ?_⟩
          · rw [HB.out, ← KP.out.1, ← laidP_end l KN.out]
            exact RR.out
          · exact Gx.gw X5.out.2.2.1 GX.out (fun q hq => by have := X5.out.2.2.2.2; have := HB.out; omega)
    · intro x c w1 cnt1 hwx hwc hlx hat hrg1 hlt hg1 hs1 hen
      have CM : Aside (isK l x = true ∧ (0 ≤ x ∧ x < 18446744073709551616)) := M0.out.1.came hwx hat
      have HL : Aside (lfI left x = true) := hlx
      have G1 : Aside (Gw V w1) := GG.out.grown hg1 (fun k e => by cases e; rw [BX.out.2.1]; exact Nat.le_refl _)
      have O1 : Aside (w1.ownsRow (b0 + 2) 31 1 v7 ks.length (ks.map (Value.int .u64))) := OW.out.kept hg1 (Or.inr (fun e => by have := (World.ownsRow.lt OW.out (b0 + 1) e).1; omega))
      have Z1 : Aside (b0 + 2 ≤ w1.heap.size) := by have := ZZ.out; show _ ≤ _; omega
      clear hs1 hg1 hlx hat hwx hwc
      by_cases cx : a ≤ x
      · have cx' : decide (a ≤ x) = true := by simpa using cx
        by_cases cy : x ≤ b
        · have cy' : decide (x ≤ b) = true := by simpa using cy
          have HM1 : Aside (Met l (lfI fun z => left z && !z.sameKey (.int .u64 x)) P (ks ++ [x])) := met_step HM.out CM.out.1 HL.out (lfI_step left x) (by rw [HPx.out]; simpa using ⟨cx, cy⟩)
          go_wp2_with (at_builtin; refine wpList_append_own _ rfl _ _ 75 rfl (b0 + 2) 31 ii (.int .u64 0) 1 8 Try.underlying75 hii hz hs hby rfl (by decide) _ ks.length _ rfl (O1.out.alloc _) ⟨w1.heap.size, 0, none⟩ 1 1 [.int .u64 x] rfl rfl (new_one w1 x) (ints_oneCell .u64 [x]) (by simp only [maxLen]; omega) (by omega) (by have := Z1.out; simp; omega) ?_)
          intro v' w3 q1 q2 q3
          have hrg3 := (hrg1.alloc (.cells #[.int .u64 x] 31)).kept q2 (fun e => by have := (World.ownsRow.lt O1.out B e.symm).1; have := BX.out.2.2.2; omega) (fun e => by have := (World.ownsRow.lt O1.out (b0 + 1) e.symm).1; omega)
          have O3 : Aside (w3.ownsRow (b0 + 2) 31 1 v' (ks ++ [x]).length ((ks ++ [x]).map (Value.int .u64))) := by
            rw [List.length_append, List.map_append]
            exact q1
          have G3 : Aside (Gw V w3) := (G1.out.alloc _ _).grown q2 (fun k e => by have := (World.ownsRow.lt O1.out k e).1; have := BX.out.2.1; omega)
          have Z3 : Aside (b0 + 2 ≤ w3.heap.size) := by have := q2.size; have := Z1.out; show _ ≤ _; simp at *; omega
          clear q1 q2 q3 hrg1
          go_wp2_with fail
          go_roundg cnt1
          case measure => omega
          case rel => exact ⟨_, cnt1, _, _, rfl, Nat.le_refl _, hrg3, HM1, O3, Z3, G3⟩
        · have cy' : decide (x ≤ b) = false := by simpa using cy
          have HM1 : Aside (Met l (lfI fun z => left z && !z.sameKey (.int .u64 x)) P ks) := met_skip HM.out (lfI_step left x) (by rw [HPx.out]; simp; omega)
          go_wp2_with fail
          go_roundg cnt1
          case measure => omega
          case rel => exact ⟨_, cnt1, _, _, rfl, Nat.le_refl _, hrg1, HM1, O1, Z1, G1⟩
      · have cx' : decide (a ≤ x) = false := by simpa using cx
        have HM1 : Aside (Met l (lfI fun z => left z && !z.sameKey (.int .u64 x)) P ks) := met_skip HM.out (lfI_step left x) (by rw [HPx.out]; simp; omega)
        go_wp2_with fail
        go_roundg cnt1
        case measure => omega
        case rel => exact ⟨_, cnt1, _, _, rfl, Nat.le_refl _, hrg1, HM1, O1, Z1, G1⟩
end Go.Proofs.Ytkojcjfjmlompaa
