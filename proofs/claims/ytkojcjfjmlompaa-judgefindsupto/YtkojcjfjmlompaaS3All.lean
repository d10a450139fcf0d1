/- Layer 23, the document's: All. -/
import Derived.Test.YtkojcjfjmlompaaS3Row
import Derived.Test.YtkojcjfjmlompaaS3New
import Derived.StillTailTactics
import Derived.Lib.MinMax
namespace Go.Proofs.Ytkojcjfjmlompaa
open Go.RowKit
set_option linter.unusedVariables false

theorem fc2_len (x : Int × Int) : (fc2 x).length = 2 := rfl
theorem see_len (a b : Aw) : (seeP a b).length ≤ 5 := by
  unfold seeP
  simp only [List.length_append]
  have k : ∀ (P : Prop) [Decidable P] (x : Int), (if P then [] else [x] : List Int).length ≤ 1 := fun P _ x => by split <;> simp
  have h1 := k (b.c = a.c) 1
  have h2 := k (b.is = a.is) 2
  have h3 := k (b.k = a.k ∧ b.v = a.v) 3
  have h4 := k (b.n = a.n) 4
  have h5 := k (b.L = a.L) 5
  omega
theorem all_len (most : Int) : ∀ (x : List (Ot × Aw)) (l : Ps) (i : Nat), (allP most l i x).length ≤ 5 * x.length := by
  intro x
  induction x with
  | nil => intro l i; simp [allP]
  | cons a x ih =>
    intro l i
    obtain ⟨o, A⟩ := a
    have h1 := ih (nxtP most l o.1 o.2.1 o.2.2) (i + 1)
    have h2 := see_len (ansP most l o.1 o.2.1 o.2.2) A
    simp only [allP, List.length_append, List.length_map, List.length_cons]
    omega
theorem end_len (most : Int) : ∀ (x : List Ot) (l : Ps), (endP most l x).length ≤ l.length + x.length := by
  intro x
  induction x with
  | nil => intro l; simp [endP]
  | cons o x ih =>
    intro l
    have h1 := ih (nxtP most l o.1 o.2.1 o.2.2)
    have h2 := len_one l most o.1 o.2.1 o.2.2
    simp only [endP, List.length_cons]
    omega
/-- One more. -/
theorem all_step (most : Int) (z : List (Ot × Aw)) (i : Nat) (o : Ot) (A : Aw) (h : z[i]? = some (o, A)) : allP most [] 0 (z.take (i + 1)) = allP most [] 0 (z.take i) ++ (seeP (ansP most (endP most [] ((z.take i).map Prod.fst)) o.1 o.2.1 o.2.2) A).map (fun x => ((i : Int), x)) := by
  have il := (List.getElem?_eq_some_iff.1 h).1
  rw [List.take_add_one, h, all_app]
  have e : (z.take i).length = i := by rw [List.length_take]; omega
  rw [e]
  simp only [Option.toList, allP, List.append_nil, Nat.zero_add]
theorem end_step (most : Int) (z : List (Ot × Aw)) (i : Nat) (o : Ot) (A : Aw) (h : z[i]? = some (o, A)) : endP most [] ((z.take (i + 1)).map Prod.fst) = nxtP most (endP most [] ((z.take i).map Prod.fst)) o.1 o.2.1 o.2.2 := by
  rw [List.take_add_one, h, List.map_append]
  have k : ∀ (x : List Ot) (l : Ps), endP most l (x ++ [o]) = nxtP most (endP most l x) o.1 o.2.1 o.2.2 := by
    intro x
    induction x with
    | nil => intro l; rfl
    | cons y x ih => intro l; exact ih _
  exact k _ _
/-- The loop's memory. -/
structure AI23 (w wr : World) (p : Nat) (S : Nat → Prop) (most : Int) (l : Ps) (g m cap : Nat) (Lf : List (Int × Int)) : Prop where
  hp : HPl wr p S most l
  row : RowG 61 2 fc2 wr w.heap.size g m cap Lf
  ap : ¬ S g
  lo : ∀ q, S q → w.heap.size ≤ q
  gw : Gw w wr
theorem AI23.drew {w wr : World} {p : Nat} {S : Nat → Prop} {most : Int} {l : Ps} {g m cap : Nat} {Lf : List (Int × Int)} (h : AI23 w wr p S most l g m cap Lf) : AI23 w wr.drew p S most l g m cap Lf :=
  ⟨h.hp.gw (Gw.refl wr).drew, h.row.gw (Gw.refl wr).drew, h.ap, h.lo, h.gw.drew⟩
/-- Behind See. -/
theorem AI23.see {w wr w' : World} {p : Nat} {S S' : Nat → Prop} {most : Int} {l l' : Ps} {g m cap : Nat} {Lf : List (Int × Int)} (h : AI23 w wr p S most l g m cap Lf) (h1 : HPl w' p S' most l') (h2 : Gx S wr w') (h3 : ∀ q, S' q → S q ∨ wr.heap.size ≤ q) : AI23 w w' p S' most l' g m cap Lf :=
  ⟨h1, h.row.keep (h2.block _ h.row.lt.2 h.ap), fun q => by rcases h3 g q with k | k; exact h.ap k; have := h.row.lt.2; omega, fun q hq => by
    rcases h3 q hq with k | k
    · exact h.lo q k
    · have := h.gw.size; omega, Gx.gw h.gw h2 h.lo⟩
/-- A fault more. -/
theorem AI23.more {w wr wa w' : World} {p : Nat} {S : Nat → Prop} {most : Int} {l : Ps} {g m cap g' m' cap' : Nat} {Lf Lf' : List (Int × Int)} (h : AI23 w wr p S most l g m cap Lf) (hS : ∀ q, S q → q < wr.heap.size) (ga : Gw wr wa) (r1 : RowG 61 2 fc2 w' w.heap.size g' m' cap' Lf') (r2 : wa.grownBy w' (some g)) (r3 : g' = g ∨ g' = wa.heap.size) : AI23 w w' p S most l g' m' cap' Lf' := by
  have sz := ga.size
  refine ⟨(h.hp.gw ga).keep (fun q hq hl => r2.block q hl (fun e => by cases e; exact h.ap hq)), r1, fun hq => ?_, h.lo, (h.gw.trans ga).grown r2 (fun k hk => by cases hk; exact h.row.lt.1)⟩
  rcases r3 with e | e
  · rw [e] at hq; exact h.ap hq
  · have := hS _ hq; omega
theorem AI23.trim {w wr : World} {p : Nat} {S : Nat → Prop} {most : Int} {l : Ps} {g m cap : Nat} {Lf : List (Int × Int)} (h : AI23 w wr p S most l g m cap Lf) : AI23 w wr p (fun q => S q ∧ q < wr.heap.size) most l g m cap Lf :=
  ⟨h.hp.trim, h.row, fun q => h.ap q.1, fun q hq => h.lo q hq.1, h.gw⟩
theorem far23 {wr w2 wa w' : World} {gn g g9 : Nat} (s1 : gn < w2.heap.size) (h : g ≠ gn ∧ wr.heap[gn]? = w2.heap[gn]? ∧ w2.heap.size ≤ wr.heap.size) (ga : Gw wr wa) (r2 : wa.grownBy w' (some g)) (r3 : g9 = g ∨ g9 = wa.heap.size) : g9 ≠ gn ∧ w'.heap[gn]? = w2.heap[gn]? ∧ w2.heap.size ≤ w'.heap.size := by
  have s2 := h.2.2
  have s3 := ga.size
  refine ⟨?_, (r2.block gn (by omega) (fun e => h.1 (by cases e; rfl))).trans ((ga.below.block gn (by omega)).trans h.2.1), Nat.le_trans (by omega) r2.size⟩
  rcases r3 with e | e
  · rw [e]; exact h.1
  · omega
theorem info_fault : (Try.prog.info? 61).map (fun i => (i.zero, i.size, i.bytes)) = some (some (.agg #[.int .i64 0, .int .i64 0]), 2, 16) := by kernel_rfl
theorem fcs_one (l : List (Int × Int)) : ∀ u ∈ l.flatMap fc2, u.oneCell' = true := by
  intro u hu
  obtain ⟨p, _, h⟩ := List.mem_flatMap.1 hu
  simp only [fc2, List.mem_cons, List.not_mem_nil, or_false] at h
  rcases h with rfl | rfl <;> rfl
set_option maxRecDepth 100000 in
set_option maxHeartbeats 8000000 in
theorem rall23_no (most : Int) (h : most < 1 ∨ 4294967296 < most) (a b : Value) (w : World) :
    Calls Try.prog 16 #[.int .i64 most, a, b] w fun e w' => e = .returned (.tuple #[.slice none 0 0, .int .i64 1]) ∧ Gw w w' := by
  have NW : Hid (∀ W, Calls Try.prog 9 #[.int .i64 most] W fun e w' => e = .returned (.tuple #[.pointer none, .int .i64 1]) ∧ w' = W) := fun W => rnew23_no most h W
  clear h
  go_enter Try.func16, Try.ntmps16
  go_wp2_with fail
  refine (NW.out _).mono ?_
  rintro e w1 ⟨rfl, hw1⟩
  have G1 : Hid (Gw w w1) := by rw [hw1]; exact Gw.refl w
  clear hw1
  dsimp only
  go_wp2_with fail
  exact bodyPost_ret (v := .tuple #[.slice none 0 0, .int .i64 1]) (by simp [results, Try.results16, go_sem]) rfl ⟨rfl, G1.out⟩
set_option maxRecDepth 100000 in
set_option maxHeartbeats 8000000 in
theorem rall23 (most : Int) (lo ao : Option Addr) (lc ac : Nat) (os : List Ot) (aa : List Aw) (w : World) (m1 : 1 ≤ most) (m2 : most ≤ 4294967296) (hos : os.length ≤ 1048576) (haa : aa.length ≤ 1048576) (bo : ∀ o ∈ os, BdO o) (ba : ∀ A ∈ aa, A.L.length ≤ 4000000) (ho : OLr w lo os) (ha : ALr w ao aa) :
    Calls Try.prog 16 #[.int .i64 most, .slice lo os.length lc, .slice ao aa.length ac] w fun e w' => AllJ w w' e (tellsP most os aa) := by
  obtain ⟨ii, hii, hz, hsz, hby⟩ := info_parts info_fault
  have NW : Hid (∀ W, Calls Try.prog 9 #[.int .i64 most] W fun e w' => e = .returned (.tuple #[.pointer (some ⟨W.heap.size, 0, none⟩), .int .i64 0]) ∧ HPl w' W.heap.size (fun q => q = W.heap.size) most [] ∧ Gw W w') := fun W => rnew23 most m1 m2 W
  have OH : Hid (OLr w lo os) := ho
  have AH : Hid (ALr w ao aa) := ha
  have BO : Hid (∀ o ∈ os, BdO o) := bo
  have BA : Hid (∀ A ∈ aa, A.L.length ≤ 4000000) := ba
  obtain ⟨n, hn⟩ : ∃ n : Nat, min os.length aa.length = n := ⟨_, rfl⟩
  have hmin : min (os.length : Int) (aa.length : Int) = (n : Int) := by rw [← hn]; omega
  have NB : Hid (n ≤ os.length ∧ n ≤ aa.length ∧ n ≤ 1048576) := ⟨by omega, by omega, by omega⟩
  obtain ⟨z, hzz⟩ : ∃ z, os.zip aa = z := ⟨_, rfl⟩
  have ZL : Hid (z.length = n) := by show _ = _; rw [← hzz, List.length_zip]; exact hn
  have ZI : Hid (∀ i, i < n → ∃ o A, os[i]? = some o ∧ aa[i]? = some A ∧ z[i]? = some (o, A)) := fun i hi => by
    have i1 : i < os.length := by omega
    have i2 : i < aa.length := by omega
    refine ⟨os[i], aa[i], List.getElem?_eq_getElem i1, List.getElem?_eq_getElem i2, ?_⟩
    rw [← hzz]
    simp [List.getElem?_zip_eq_some, i1, i2]
  have TE : Hid (tellsP most os aa = allP most [] 0 z ++ if os.length = aa.length then [] else [((n : Int), 6)]) := by
    show _ = _
    unfold tellsP
    rw [hzz, hn]
  rw [TE.out]
  obtain ⟨ol, hol⟩ : ∃ ol, os.length = ol := ⟨_, rfl⟩
  obtain ⟨al, hal⟩ : ∃ al, aa.length = al := ⟨_, rfl⟩
  rw [hol, hal] at hmin
  rw [hol] at hos
  rw [hal] at haa
  rw [hol, hal]
  have LN : Hid (os.length = ol ∧ aa.length = al) := ⟨hol, hal⟩
  obtain ⟨TL, hTL⟩ : ∃ TL, (if ol = al then [] else [((n : Int), (6 : Int))]) = TL := ⟨_, rfl⟩
  have TH : Hid ((ol = al → TL = []) ∧ (¬ ol = al → TL = [((n : Int), 6)])) := ⟨fun q => by rw [← hTL, if_pos q], fun q => by rw [← hTL, if_neg q]⟩
  rw [hTL]
  clear hTL
  have MN : Hid (min (ol : Int) (al : Int) = (n : Int)) := hmin
  clear m1 m2 ho ha bo ba hn hzz hol hal TE
  go_enter Try.func16, Try.ntmps16
  go_wp2_with fail
  refine (NW.out _).mono ?_
  rintro e w1 ⟨rfl, h1, g1⟩
  have H1 : Hid (HPl w1 w.heap.size (fun q => q = w.heap.size) most []) := h1
  have G1 : Hid (Gw w w1) := g1
  obtain ⟨p, hp⟩ : ∃ p, w.heap.size = p := ⟨_, rfl⟩
  have P0 : Hid (w.heap.size = p) := hp
  rw [hp] at H1
  dsimp only
  rw [hp]
  clear h1 g1 hp
  obtain ⟨k1, hk1⟩ : ∃ k1, w1.heap.size = k1 := ⟨_, rfl⟩
  have K1 : Hid (w1.heap.size = k1) := hk1
  have HIT : Hid (AI23 w (w1.alloc (.cells #[] 61)) p (fun q => q = p) most (endP most [] ((z.take 0).map Prod.fst)) w1.heap.size 0 0 (allP most [] 0 (z.take 0))) := ⟨H1.out.gw ((Gw.refl _).alloc _ _), RowG.new _ _ _ w1 _ _ rfl G1.out.size, (fun q => by have := blkl H1.out.lies.choose_spec.1; omega), fun q hq => by rw [hq, ← P0.out]; exact Nat.le_refl _, G1.out.alloc _ _⟩
  clear hk1
  go_wp2_with fail
  clear hmin MN
  go_loopg [10, 12] n (fun gg s10 s12 wr => ∃ (i g m cap : Nat) (S : Nat → Prop), s12 = .int .i64 (i : Int) ∧ s10 = .slice (some ⟨g, 0, none⟩) m cap ∧ i ≤ n ∧ n - i ≤ gg ∧ Hid (AI23 w wr p S most (endP most [] ((z.take i).map Prod.fst)) g m cap (allP most [] 0 (z.take i))))
  case atStart => exact ⟨0, w1.heap.size, 0, 0, _, rfl, rfl, Nat.zero_le _, by omega, HIT⟩
  case round =>
    clear HIT
    obtain ⟨i, g, m, cap, S, rfl, rfl, a1, a2, AI⟩ := hrel
    by_cases ilt : i < n
    · have ilt' : (i : Int) < (n : Int) := by omega
      obtain ⟨o, A, hoi, hai, hzi⟩ := ZI.out i ilt
      have ol1 : i < ol := by have := LN.out.1; have := NB.out.1; omega
      have al1 : i < al := by have := LN.out.2; have := NB.out.2.1; omega
      have ol1' : (i : Int) < (ol : Int) := by omega
      have al1' : (i : Int) < (al : Int) := by omega
      obtain ⟨lb, lf, rfl, hlb, hlc⟩ := OH.out.cells (by have := LN.out.1; omega)
      obtain ⟨ab, af, rfl, hab, hac⟩ := AH.out.cells (by have := LN.out.2; omega)
      obtain ⟨bo, bc, pl, bn, d0, d1, d2, d3, d4, d5⟩ := hac i A hai
      have c0 := hlc i o hoi 0 _ rfl
      have c1 := hlc i o hoi 1 _ rfl
      have c2 := hlc i o hoi 2 _ rfl
      rw [Nat.add_zero] at c0
      have BDO : Hid (BdO o) := BO.out o (List.mem_of_getElem? hoi)
      have BAL : Hid (A.L.length ≤ 4000000) := BA.out A (List.mem_of_getElem? hai)
      have ST : Hid (allP most [] 0 (z.take (i + 1)) = allP most [] 0 (z.take i) ++ (seeP (ansP most (endP most [] ((z.take i).map Prod.fst)) o.1 o.2.1 o.2.2) A).map (fun x => ((i : Int), x)) ∧ endP most [] ((z.take (i + 1)).map Prod.fst) = nxtP most (endP most [] ((z.take i).map Prod.fst)) o.1 o.2.1 o.2.2) := ⟨all_step most z i o A hzi, end_step most z i o A hzi⟩
      have ML : Hid (m ≤ 5 * i) := by
        have h1 := AI.out.row.len
        have h2 := all_len most (z.take i) [] 0
        rw [List.length_take] at h2
        show m ≤ 5 * i
        omega
      have EL : Hid ((endP most [] ((z.take i).map Prod.fst)).length ≤ 3999999) := by
        have h1 := end_len most ((z.take i).map Prod.fst) []
        rw [List.length_map, List.length_take] at h1
        have h2 := NB.out.2.2
        show _ ≤ _
        simp only [List.length_nil] at h1
        omega
      obtain ⟨wD, hwD⟩ : ∃ wD, World.drew wr = wD := ⟨_, rfl⟩
      have AID : Hid (AI23 w wD p S most (endP most [] ((z.take i).map Prod.fst)) g m cap (allP most [] 0 (z.take i))) := by rw [← hwD]; exact AI.out.drew
      generalize endP most [] ((z.take i).map Prod.fst) = l at ST EL AID
      generalize allP most [] 0 (z.take i) = Lf at ST AID
      clear AI
      have gD := AID.out.gw
      have kl := fun j => gD.cell lb j hlb
      have ka := fun j => gD.cell ab j hab
      replace c0 := (kl _).trans c0
      replace c1 := (kl _).trans c1
      replace c2 := (kl _).trans c2
      replace d0 := (ka _).trans d0
      replace d1 := (ka _).trans d1
      replace d2 := (ka _).trans d2
      replace d3 := (ka _).trans d3
      replace d4 := (ka _).trans d4
      replace d5 := (ka _).trans d5
      have PB : Hid (PLr wD bo A.L ∧ ∀ a, bo = some a → 0 < A.L.length → ¬ S a.block) := ⟨pl.gw gD, fun a e h0 hs => by
        obtain ⟨b, off, e', hb, _⟩ := pl.cells h0
        rw [e] at e'
        cases e'
        have := AID.out.lo _ hs
        dsimp only at this
        omega⟩
      clear kl ka hlc hac pl hoi hai hzi gD
      obtain ⟨Ac, Ai, Ak, Av, An, AL⟩ := A
      obtain ⟨o1, o2, o3⟩ := o
      dsimp only at c0 c1 c2 d0 d1 d2 d3 d4 d5
      obtain ⟨am, ham⟩ : ∃ am, AL.length = am := ⟨_, rfl⟩
      have AM : Hid (AL.length = am) := ham
      rw [ham] at d5
      clear ham
      go_wp2_with fail
      refine wp_region_still_tail 9 (by kernel_rfl) (by kernel_rfl) ?_
      change wpStill _ _ (World.drew wr) (fun a' => wpList _ _ _ _ a' (World.drew wr)) _ _
      simp only [List.take_succ_cons, List.take_zero, List.drop_succ_cons, List.drop_zero]
      rw [hwD]
      clear hwD
      repeat still_step
      refine wpStill_nil ?_
      go_wp2_with fail
      have SE := see23 p S most l o1 o2 o3 BDO.out.1 BDO.out.2 EL.out ⟨Ac, Ai, Ak, Av, An, AL⟩ bo bc BAL.out wD AID.out.hp PB.out.1 PB.out.2
      dsimp only [awV] at SE
      rw [AM.out] at SE
      refine SE.mono ?_
      clear SE
      rintro e w2 ⟨v, S', rfl, ⟨⟨gn, cn, rfl⟩, nrow⟩, HP, GX, SS, VS⟩
      obtain ⟨Ln, hLn⟩ : ∃ Ln, seeP (ansP most l o1 o2 o3) ⟨Ac, Ai, Ak, Av, An, AL⟩ = Ln := ⟨_, rfl⟩
      obtain ⟨l', hl'⟩ : ∃ l', nxtP most l o1 o2 o3 = l' := ⟨_, rfl⟩
      have L5 := see_len (ansP most l o1 o2 o3) ⟨Ac, Ai, Ak, Av, An, AL⟩
      rw [hLn] at nrow ST L5
      dsimp only
      rw [hLn]
      rw [hl'] at HP ST
      have gnl := World.ownsRow.lt nrow gn rfl
      have GA : Hid (g ≠ gn ∧ gn < w2.heap.size) := ⟨by have := AID.out.row.lt.2; omega, gnl.2⟩
      have NC : Hid (∀ (W : World) (k : Nat) (x : Int), W.heap[gn]? = w2.heap[gn]? → Ln[k]? = some x → W.cell? ⟨gn, k, none⟩ = some (.int .i64 x)) := fun W k x hW hx => by
        have kl := (List.getElem?_eq_some_iff.1 hx).1
        rw [World.cell?_of_block (a := ⟨gn, k, none⟩) hW, World.ownsRow.cellAt nrow k (by omega)]
        simp [nis, hx]
      have A2 : Hid (AI23 w w2 p (fun q => S' q ∧ q < w2.heap.size) most l' g m cap Lf) := (AID.out.see HP GX SS).trim
      have A3 : Hid (AI23 w w2 p (fun q => S' q ∧ q < w2.heap.size) most l' g m cap (Lf ++ (Ln.take 0).map (fun x => ((i : Int), x)))) := by
        show AI23 _ _ _ _ _ _ _ _ _ _
        simpa using A2.out
      obtain ⟨N, hN⟩ : ∃ N, Ln.length = N := ⟨_, rfl⟩
      have LNN : Hid (Ln.length = N) := hN
      rw [hN] at L5
      rw [hN]
      clear hLn hl' nrow HP GX SS VS gnl AID PB d0 d1 d2 d3 d4 d5 c0 c1 c2 hN
      go_wp2_with fail
      go_loopg [10, 14] N (fun gg s10 s14 wr => ∃ (k g' m' cap' : Nat), s14 = .int .i64 (k : Int) ∧ s10 = .slice (some ⟨g', 0, none⟩) m' cap' ∧ k ≤ N ∧ N - k ≤ gg ∧ m' = m + k ∧ Hid (AI23 w wr p (fun q => S' q ∧ q < w2.heap.size) most l' g' m' cap' (Lf ++ (Ln.take k).map (fun x => ((i : Int), x)))) ∧ Hid (g' ≠ gn ∧ wr.heap[gn]? = w2.heap[gn]? ∧ w2.heap.size ≤ wr.heap.size))
      case atStart => exact ⟨0, g, m, cap, rfl, rfl, Nat.zero_le _, by omega, rfl, A3, ⟨GA.out.1, rfl, Nat.le_refl _⟩⟩
      case round =>
        obtain ⟨k, g', m', cap', rfl, rfl, b1, b2, hm', AI, GK⟩ := hrel
        by_cases klt : k < N
        · have klt' : (k : Int) < (N : Int) := by omega
          obtain ⟨x, hx⟩ : ∃ x, Ln[k]? = some x := ⟨Ln[k]'(by rw [LNN.out]; exact klt), List.getElem?_eq_getElem _⟩
          have cx := NC.out wr k x GK.out.2.1 hx
          have TK : Hid ((Ln.take (k + 1)).map (fun x => ((i : Int), x)) = (Ln.take k).map (fun x => ((i : Int), x)) ++ [((i : Int), x)]) := by
            show _ = _
            rw [List.take_add_one, hx, List.map_append]
            rfl
          have mb : m' + 1 ≤ 5300000 := by have := ML.out; have := NB.out.2.2; omega
          have MM : Hid (m' = m + k) := hm'
          clear hx hm'
          go_wp2_with (at_builtin; refine app4_w _ rfl _ _ 51 rfl w.heap.size 61 ii _ 2 16 Try.underlying51 hii hz hsz hby rfl (by decide) fc2 fc2_len g' m' cap' _ rfl (AI.out.row.gw ((Gw.refl _).alloc _ _)) (some ⟨wr.heap.size, 0, none⟩) 1 1 [((i : Int), x)] rfl (fun e => by cases e) rfl (fun ad e => by cases e; exact newc wr #[.int .i64 (i : Int), .int .i64 x] _) (fcs_one _) (by simp only [maxLen]; omega) (by omega) ?_; intro g9 cap9 w9 r1 r2 r3; have A9 : Hid (AI23 w w9 p (fun q => S' q ∧ q < w2.heap.size) most l' g9 (m' + 1) cap9 (Lf ++ (Ln.take (k + 1)).map (fun x => ((i : Int), x)))) := (by rw [TK.out, ← List.append_assoc]; exact AI.out.more (fun q hq => Nat.lt_of_lt_of_le hq.2 GK.out.2.2) ((Gw.refl _).alloc _ _) r1 r2 r3); have G9 : Hid (g9 ≠ gn ∧ w9.heap[gn]? = w2.heap[gn]? ∧ w2.heap.size ≤ w9.heap.size) := far23 GA.out.2 GK.out ((Gw.refl _).alloc _ _) r2 r3; clear r1 r2 r3)
          go_roundg (N - (k + 1))
          case measure => omega
          case rel => exact ⟨k + 1, g9, m' + 1, cap9, by go_num, rfl, by omega, Nat.le_refl _, by have := MM.out; omega, A9, G9⟩
        · have ek : k = N := by omega
          have AE : Hid (AI23 w wr p (fun q => S' q ∧ q < w2.heap.size) most (endP most [] ((z.take (i + 1)).map Prod.fst)) g' m' cap' (allP most [] 0 (z.take (i + 1)))) := by
            rw [ST.out.1, ST.out.2]
            have := AI.out
            rw [List.take_of_length_le (by rw [LNN.out]; omega)] at this
            exact this
          clear AI ek
          go_wp2_with fail
          go_roundg (n - (i + 1))
          case measure => omega
          case rel => exact ⟨i + 1, g', m', cap', _, by go_num, rfl, by omega, Nat.le_refl _, AE⟩
    · have AE : Hid (AI23 w wr p S most (endP most [] ((z.take i).map Prod.fst)) g m cap (allP most [] 0 z)) := by
        have := AI.out
        have e : allP most [] 0 (z.take i) = allP most [] 0 z := by rw [List.take_of_length_le (by rw [ZL.out]; omega)]
        rw [e] at this
        exact this
      have mb : m + 1 ≤ 5300000 := by
        have h1 := AE.out.row.len
        have h2 := all_len most z [] 0
        have h3 := ZL.out
        have h4 := NB.out.2.2
        omega
      clear AI
      by_cases q : ol = al
      · have q1 : ((ol : Int) != (al : Int)) = false := by rw [q]; simp
        have q2 : ((ol : Int) == (al : Int)) = true := by rw [q]; simp
        have QT : Hid (TL = []) := TH.out.1 q
        clear q
        go_wp2_with fail
        refine bodyPost_ret (v := .tuple #[.slice (some ⟨g, 0, none⟩) m cap, .int .i64 0]) (by simp [results, Try.results16, go_sem]) rfl ?_
        rw [QT.out, List.append_nil]
        exact ⟨_, cap, by rw [AE.out.row.len], AE.out.row.ls fc2_len, by rw [AE.out.row.len]; exact AE.out.row.cap, (fun e => by cases e), AE.out.gw⟩
      · have q1 : ((ol : Int) != (al : Int)) = true := by simp; omega
        have q2 : ((ol : Int) == (al : Int)) = false := by simp; omega
        have QT : Hid (TL = [((n : Int), 6)]) := TH.out.2 q
        clear q
        go_wp2_with (at_builtin; refine app4_w _ rfl _ _ 51 rfl w.heap.size 61 ii _ 2 16 Try.underlying51 hii hz hsz hby rfl (by decide) fc2 fc2_len g m cap _ rfl (AE.out.row.gw ((Gw.refl _).alloc _ _)) (some ⟨wr.heap.size, 0, none⟩) 1 1 [((n : Int), 6)] rfl (fun e => by cases e) rfl (fun ad e => by cases e; exact newc wr #[.int .i64 (n : Int), .int .i64 6] _) (fcs_one _) (by simp only [maxLen]; omega) (by omega) ?_; intro g9 cap9 w9 r1 r2 r3; have A9 := AE.out.trim.more (fun q hq => hq.2) ((Gw.refl wr).alloc _ _) r1 r2 r3; have A8 : Hid (RowG 61 2 fc2 w9 w.heap.size g9 (m + 1) cap9 (allP most [] 0 z ++ [((n : Int), 6)]) ∧ Gw w w9) := ⟨r1, A9.gw⟩; clear r1 r2 r3 A9)
        refine bodyPost_ret (v := .tuple #[.slice (some ⟨g9, 0, none⟩) (m + 1) cap9, .int .i64 0]) (by simp [results, Try.results16, go_sem]) rfl ?_
        rw [QT.out]
        exact ⟨_, cap9, by rw [A8.out.1.len], A8.out.1.ls fc2_len, by rw [A8.out.1.len]; exact A8.out.1.cap, (fun e => by cases e), A8.out.2⟩
end Go.Proofs.Ytkojcjfjmlompaa
