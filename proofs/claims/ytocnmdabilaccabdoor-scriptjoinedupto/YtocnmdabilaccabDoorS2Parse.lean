/- Package script: a text read. -/
import Derived.Test.YtocnmdabilaccabDoorS2PI
import Derived.Sort.QuietIn
import Derived.Maps.OwnIn
namespace Go.Proofs.YtocnmdabilaccabDoor
open Go.RowKit Go.Shelf
set_option linter.unusedVariables false

attribute [local go_sem] Oper.semAt_some

set_option maxRecDepth 100000 in
set_option maxHeartbeats 8000000 in
theorem parse_any (t : List UInt8) (w : World) (ht : t.length ≤ 2000000) : Calls Tryd.prog 6 #[.string (Bs t)] w fun e w' => ParO w w' e (parse t) ∧ Gw w w' := by
  refine (callsIn_wide (n := 3)).1 ?_
  have h1 : 1 ≤ 3 := by omega
  have hro : Fence.wide.round = none := rfl
  obtain ⟨tn, htn⟩ : ∃ tn, t.length = tn := ⟨_, rfl⟩
  have TN : Aside (t.length = tn) := htn
  have SQ : Hid (∀ sb ss sn, sb ≠ ss → sn ≠ ss → SeqO Fence.wide 2 Tryd.prog 37 #[.pointer (some ⟨sb, 0, none⟩), .pointer (some ⟨ss, 0, none⟩), .pointer (some ⟨sn, 0, none⟩)] (fun x : List UInt8 => #[.string (Bs x)]) (spl 10 [] t) (fun q => q = sb ∨ q = sn) (fun q => q = ss) (SpA sb ss sn t) (fun _ => True)) := fun sb ss sn n1 n2 => split_seq sb ss sn t ht n1 n2
  rw [htn] at ht
  clear htn
  obtain ⟨N, hN⟩ : ∃ N, w.heap.size = N := ⟨_, rfl⟩
  have NH : Hid (w.heap.size = N) := hN
  obtain ⟨w1, E1⟩ : ∃ W, w.alloc (.cells #[.slice none 0 0] 24) = W := ⟨_, rfl⟩
  obtain ⟨w2, E2⟩ : ∃ W, w1.alloc (.cells #[.int .i64 0] 3) = W := ⟨_, rfl⟩
  obtain ⟨w0, E3⟩ : ∃ W, w2.alloc (.cells #[.int .i64 0] 25) = W := ⟨_, rfl⟩
  have z1 : w1.heap.size = N + 1 := by rw [← E1]; simp [hN]
  have z2 : w2.heap.size = N + 2 := by rw [← E2]; simp [z1]
  have z0 : w0.heap.size = N + 3 := by rw [← E3]; simp [z2]
  have g1 : Gw w w1 := by rw [← E1]; exact (Gw.refl _).alloc _ _
  have g2 : Gw w1 w2 := by rw [← E2]; exact (Gw.refl _).alloc _ _
  have g3 : Gw w2 w0 := by rw [← E3]; exact (Gw.refl _).alloc _ _
  have G0 : Hid (Gw w w0) := g1.trans (g2.trans g3)
  have B0 : Hid (w0.heap[N]? = some (.cells #[.slice none 0 0] 24 (0, 0))) := ((g2.trans g3).below.block N (by omega)).trans (by rw [← E1, ← hN]; exact heap_alloc_new _ _)
  have B1 : Hid (w0.heap[N + 1]? = some (.cells #[.int .i64 0] 3 (0, 0))) := (g3.below.block _ (by omega)).trans (by rw [← E2, ← z1]; exact heap_alloc_new _ _)
  have B2 : Hid (w0.heap[N + 2]? = some (.cells #[.int .i64 0] 25 (0, 0))) := by show _ = _; rw [← E3, ← z2]; exact heap_alloc_new _ _
  have E0H : Hid (((w.alloc (.cells #[.slice none 0 0] 24)).alloc (.cells #[.int .i64 0] 3)).alloc (.cells #[.int .i64 0] 25) = w0) := by show _ = _; rw [E1, E2, E3]
  have Z0 : Hid (w0.heap.size = N + 3) := z0
  clear E1 E2 E3 z1 z2 z0 g1 g2 g3
  refine callsIn_of_wp_marks Tryd.func6 rfl trivial ?_ hro
  simp only [Tryd.ntmps6, List.size_toArray, List.length_nil, List.nil_append, List.length_cons, Nat.reduceAdd, Nat.reduceSub, Array.replicate_succ, Array.replicate_zero, List.push_toArray, List.append_toArray, List.cons_append]
  by_cases q : 65536 < tn
  · have PE : Aside (parse t = ([], 0, 210)) := by show _ = _; unfold parse; rw [if_pos (by rw [TN.out]; exact q)]
    have q' : (65536 : Int) < (tn : Int) := by omega
    have tl : t.length = tn := TN.out
    gi_wp2
    have gE : Gw w (((w.alloc (.cells #[.slice none 0 0] 24)).alloc (.cells #[.int .i64 0] 3)).alloc (.cells #[.int .i64 210] 25)) := (((Gw.refl w).alloc _ _).alloc _ _).alloc _ _
    refine ⟨.tuple #[.slice none 0 0, .int .i64 0, .int .i64 210], (by simp [results, Tryd.results6, go_sem, hN]), ⟨none, 0, 0, [], by rw [PE.out], by rw [PE.out]; rfl, by rw [PE.out]; exact CO.nil _ _⟩, gE⟩
  · have PE : Aside (parse t = goP (spl 10 [] t) 0 []) := by show _ = _; unfold parse; rw [if_neg (by rw [TN.out]; exact q)]
    have q' : ¬ (65536 : Int) < (tn : Int) := by omega
    have tl : t.length = tn := TN.out
    obtain ⟨SS, hSS⟩ : ∃ SS, w0.heap.size = SS := ⟨_, rfl⟩
    have SEQ : Hid (Calls Tryd.prog 11 #[.string (Bs t), .string (Bs [10])] w0 fun e w' => e = .returned (.func (.func 37) #[] #[.pointer (some ⟨SS + 1, 0, none⟩), .pointer (some ⟨SS, 0, none⟩), .pointer (some ⟨SS + 2, 0, none⟩)]) ∧ SpA (SS + 1) SS (SS + 2) t w' ∧ w'.heap.size = SS + 3 ∧ Gw w0 w') := by rw [← hSS]; exact seq_any t w0
    have S3 : Hid (SS = N + 3) := by rw [← hSS]; exact Z0.out
    obtain ⟨xs, hxs⟩ : ∃ xs, spl 10 [] t = xs := ⟨_, rfl⟩
    have npb : xs.length ≤ 65537 := by
      have h1 := len_lens (spl 10 [] t)
      rw [spl_lens, hxs, TN.out] at h1
      simp at h1
      omega
    have XL : Hid (∀ x ∈ xs, x.length ≤ 2000000) := fun x hx => by
      have h1 := mem_lens hx
      rw [← hxs, spl_lens, TN.out] at h1
      simp at h1
      omega
    have NPB : Hid (xs.length ≤ 65537) := npb
    have SQX := SQ.out
    rw [hxs] at PE SQX
    have SQH : Hid _ := SQX
    clear hSS hxs npb SQ SQX
    gi_wp2
    rw [E0H.out]
    refine ⟨trivial, ?_⟩
    refine CallsIn.mono (callsIn_wide.2 SEQ.out) ?_
    rintro e X ⟨rfl, sa, zx, gx⟩
    have SA : Hid (SpA (SS + 1) SS (SS + 2) t X) := sa
    have ZX : Hid (X.heap.size = SS + 3) := zx
    have GX : Hid (Gw w0 X) := gx
    clear sa zx gx SEQ
    have PI0 : Hid (PI X N SS xs [] (fun _ => False) X) := by
      have k := GX.out
      refine ⟨⟨.slice none 0 0, [], [], (k.below.block _ (blkl B0.out)).trans B0.out, CO.nil _ _, ?_, by simp, by simp⟩, (k.below.block _ (blkl B1.out)).trans B1.out, (k.below.block _ (blkl B2.out)).trans B2.out, Gx.refl _ _⟩
      rintro q (e | ⟨i, u, hi, _⟩)
      · simp [Value.ownBlock] at e
      · simp at hi
    have XN : Hid (N + 2 < X.heap.size ∧ N + 2 < SS) := ⟨by rw [ZX.out, S3.out]; omega, by rw [S3.out]; omega⟩
    gi_wp2
    refine range_out (ps := #[14]) hro h1 (gf := 37) (lb := #[.pointer (some ⟨SS + 1, 0, none⟩), .pointer (some ⟨SS, 0, none⟩), .pointer (some ⟨SS + 2, 0, none⟩)]) rfl trivial (fun _ _ => rfl) (SQH.out (SS + 1) SS (SS + 2) (by omega) (by omega))
      (fun W g => SA.out.keep fun q hq => g.below.block q (by rw [ZX.out]; omega)) (fun _ => rfl)
      (fun q => q = N ∨ q = N + 1 ∨ q = N + 2) (fun q hq => ⟨by rw [ZX.out]; omega, fun e => by have := S3.out; omega⟩) (fun q hq => by have := XN.out.1; omega)
      (PI X N SS xs) (fun c pre O W => c = .ret ∧ PJ X N SS xs W)
      (fun pre O W1 W2 h k => h.ko XN.out.1 XN.out.2 k) (fun c pre O W1 W2 h k => ⟨h.1, h.2.ko XN.out.1 XN.out.2 k⟩) (fun W W' _ _ _ => trivial)
      PI0.out ?round ?done ?stop
    case round => as_aux_lemma =>
      intro l n1 hl hn1 pre x O W hi hn hr ho hx
      gi_wp2
      refine ⟨Gw.refl _, ?_⟩
      intro W2 i2 r2 k2 z2
      have hx' : xs[pre.length]? = some x := by
        obtain ⟨u, rfl⟩ := hx
        simp
      obtain ⟨v, V, out, e1, e2, e3, e4, e5⟩ := i2.ex
      have GO : Hid (goP xs 0 [] = if (cmdOf (wordsOf x) out.length).2.1 ≠ 0 then ([], (pre.length : Int) + 1, (cmdOf (wordsOf x) out.length).2.1) else if (cmdOf (wordsOf x) out.length).1 = true then goP (xs.drop (pre.length + 1)) (pre.length + 1) (out ++ [(cmdOf (wordsOf x) out.length).2.2]) else goP (xs.drop (pre.length + 1)) (pre.length + 1) out) := e4.trans (go_from hx' out)
      obtain ⟨bo, n, cp, rfl, hnl⟩ := e2.shape
      have NL : Aside (n = out.length) := hnl
      have I2 : Hid (PI X N SS xs pre O W2) := i2
      have C2 : Hid (CO W2 X.heap.size (.slice bo n cp) out V) := e2
      have OC : Hid (∀ q, ownC (.slice bo n cp) V q → O q) := e3
      have OX : Hid (∀ q, O q → X.heap.size ≤ q) := fun q hq => by have := ho q hq; have := (by have := hi.gx.size; exact this : X.heap.size ≤ W.heap.size); have := hl; omega
      have xl : x.length ≤ 2000000 := XL.out x (List.mem_of_getElem? hx')
      have n4 : n ≤ 4096 := by rw [hnl]; exact e5
      have N4 : Hid (out.length ≤ 4096) := e5
      have kx : pre.length < 65537 := by have := (List.getElem?_eq_some_iff.1 hx').1; have := NPB.out; omega
      obtain ⟨k, hk⟩ : ∃ k, pre.length = k := ⟨_, rfl⟩
      have HK : Aside (pre.length = k) := hk
      have E1 : Hid (W2.heap[N]? = some (.cells #[.slice bo n cp] 24 (0, 0))) := e1
      have b1 := blkc (o := 0) i2.at' rfl
      have f1 := blkf (o := 0) i2.at'
      have l1 := blkl i2.at'
      have wk : IntKind.i64.wrap ((k : Int) + 1) = (k : Int) + 1 := by rw [IntKind.wrap_i64]; omega
      have Z2 : Hid (W2.heap.size = W.heap.size) := z2
      have b1' : W2.cell? ⟨N + 1, 0, none⟩ = some (.int .i64 (k : Int)) := by rw [← hk]; exact b1
      obtain ⟨A, hA⟩ : ∃ A, W2.setCell ⟨N + 1, 0, none⟩ (.int .i64 ((k : Int) + 1)) = A := ⟨_, rfl⟩
      have A0 : Hid (A.heap[N]? = some (.cells #[.slice bo n cp] 24 (0, 0))) := by
        rw [← hA]; exact (Go.Deep.blk_setCell_other _ _ _ _ (by simp)).trans e1
      have A1 : Hid (A.heap[N + 1]? = some (.cells #[.int .i64 ((k : Int) + 1)] 3 (0, 0))) := by
        rw [← hA]; exact blk_put (o := 0) i2.at' _
      have A2 : Hid (A.heap[N + 1 + 1]? = some (.cells #[.int .i64 0] 25 (0, 0))) := by
        rw [← hA]; exact (Go.Deep.blk_setCell_other _ _ _ _ (by simp)).trans i2.er
      have GA : Hid (Gx (fun q => q = N + 1) W2 A) := by
        rw [← hA]; exact Gx.set (S := fun q => q = N + 1) (q := N + 1) (Gx.refl _ W2) (.inl rfl) _ _
      have zA : A.heap.size = W2.heap.size := by rw [← hA]; simp [World.setCell]
      have ZA : Hid (A.heap.size = W2.heap.size) := zA
      clear hi hn hr hx hx' e1 e2 e3 e4 e5 hnl i2 r2 k2 z2 b1 hk zA ho
      gi_wp2
      clear hA b1' f1 l1
      refine ⟨trivial, ?_⟩
      refine CallsIn.mono (CallsIn.inRound l (callsIn_wide.2 (words_any x xl A))) ?_
      rintro e B ⟨⟨wb, wc, rfl, TX⟩, g⟩
      have GB : Hid (Gw A B) := g
      have TXH : Hid (TXO B A.heap.size (.slice (some ⟨wb, 0, none⟩) (wordsOf x).length wc) (wordsOf x)) := TX
      have WL : Hid (∀ y ∈ wordsOf x, y.length ≤ 2000000) := fun y hy => by have := words_len hy; omega
      have WN : Hid ((wordsOf x).length ≤ 2000001) := by
        have h1 := List.length_filter_le (fun p => decide (p ≠ [])) (spl 32 [] x)
        have h2 := len_lens (spl 32 [] x)
        rw [spl_lens] at h2
        simp at h2
        show (wordsOf x).length ≤ _
        unfold wordsOf
        omega
      have B0' : Hid (B.heap[N]? = some (.cells #[.slice bo n cp] 24 (0, 0))) := (g.below.block _ (blkl A0.out)).trans A0.out
      have B1' : Hid (B.heap[N + 1]? = some (.cells #[.int .i64 ((k : Int) + 1)] 3 (0, 0))) := (g.below.block _ (blkl A1.out)).trans A1.out
      have B2' : Hid (B.heap[N + 1 + 1]? = some (.cells #[.int .i64 0] 25 (0, 0))) := (g.below.block _ (blkl A2.out)).trans A2.out
      have GW2 : Hid (Gx (fun q => q = N + 1) W2 B) := GA.out.tw g
      have CB : Hid (CO B X.heap.size (.slice bo n cp) out V) := C2.out.keep fun q hq => GW2.out.block q (C2.out.lt q hq).2 (by have := (C2.out.lt q hq).1; have := XN.out.1; omega)
      have SK : Hid (cmdOf (wordsOf x) out.length = (false, 0, ⟨[], []⟩) → ∃ O' : Nat → Prop, (∀ q, O' q → (O q ∨ W.heap.size ≤ q) ∧ q < B.heap.size) ∧ Gx (fun q => (q < X.heap.size ∧ (q = N ∨ q = N + 1 ∨ q = N + 2)) ∨ O q ∨ W.heap.size ≤ q) W2 B ∧ PI X N SS xs (pre ++ [x]) O' B) := fun q => by
        refine PI.close I2.out XN.out.1 Z2.out B0'.out (by rw [HK.out]; exact B1'.out) B2'.out CB.out ?_ N4.out (fun q hq => .inl (OC.out q hq)) (GW2.out.mono fun q hq => .inl (.inr (.inl hq))) OX.out
        have := GO.out
        rw [q] at this
        simpa using this
      have S2 : Hid (W.heap.size ≤ A.heap.size ∧ A.heap.size ≤ B.heap.size) := ⟨by rw [ZA.out, Z2.out]; exact Nat.le_refl _, g.size⟩
      clear g TX A0 A1 A2 GA ZA C2 E1
      cases hws : wordsOf x with
      | nil =>
        have SKH := SK.out (by rw [hws]; rfl)
        have FIN : Hid _ := SKH
        clear SKH
        gi_wp2
        exact FIN.out
      | cons w0 r =>
        rw [hws] at TXH WL WN SK GO
        have RN : Hid (r.length ≤ 2000000) := by have := WN.out; simp at this; exact this
        have TX2 : Hid (TXO B A.heap.size (.slice (some ⟨wb, 0, none⟩) (r.length + 1) wc) (w0 :: r)) := TXH.out
        have w00 : B.cell? ⟨wb, 0, none⟩ = some (.string (Bs w0)) := TX2.out.cell (by simp) rfl
        have CMD : Hid (Calls Tryd.prog 14 #[.slice (some ⟨wb, 0, none⟩) (r.length + 1) wc] B fun e w' => CmR B w' e (cmdW w0 r) ∧ Gw B w') := command_any w0 r wb wc _ B WL.out RN.out TX2.out
        obtain ⟨rn, hrn⟩ : ∃ rn, r.length = rn := ⟨_, rfl⟩
        have RE : Aside (r.length = rn) := hrn
        have rl : (w0 :: r).length = rn + 1 := by simp [hrn]
        rw [hrn] at CMD
        rw [rl]
        have ne : (((rn + 1 : Nat) : Int) == 0) = false := by simp; omega
        have ne' : ((rn : Int) + 1 == 0) = false := by simp; omega
        have rp : (0 : Int) < (rn : Int) + 1 := by omega
        have rp' : 0 < rn + 1 := by omega
        have HA : Hid (∀ Wx, Calls Tryd.prog 13 #[.string (Bs w0), .string (Bs [35])] Wx fun e w' => e = .returned (.bool (decide (w0.head? = some 35))) ∧ w' = Wx) := hash_any w0
        clear hws hrn rl TXH
        gi_wp2
        refine ⟨trivial, ?_⟩
        refine CallsIn.mono (CallsIn.inRound l (callsIn_wide.2 (HA.out B))) ?_
        rintro e w' ⟨rfl, hw⟩
        obtain rfl := hw.symm
        clear hw w00
        by_cases hh : w0.head? = some 35
        · have SKH := SK.out (cmd_hash _ hh)
          have FIN : Hid _ := SKH
          have dd : decide (w0.head? = some 35) = true := by simp [hh]
          rw [dd]
          clear SKH dd
          gi_wp2
          exact FIN.out
        · have dd : decide (w0.head? = some 35) = false := by simp [hh]
          rw [dd]
          clear dd SK
          have d0 := blkc (o := 0) B0'.out rfl
          have d1 := blkc (o := 0) B1'.out rfl
          have d2 : B.cell? ⟨N + 1 + 1, 0, none⟩ = some (.int .i64 0) := blkc (o := 0) B2'.out rfl
          have y0 := blkf (o := 0) B0'.out
          have y1 := blkf (o := 0) B1'.out
          have y2 : B.frozen? ⟨N + 1 + 1, 0, none⟩ = false := blkf (o := 0) B2'.out
          have m0 := blkl B0'.out
          have m1 := blkl B1'.out
          have m2 : N + 1 + 1 < B.heap.size := blkl B2'.out
          by_cases full : n = 4096
          · have fb : ((n : Int) == 4096) = true := by simp [full]
            gi_wp2
            have FIN : Hid _ := PJ.stores (z := W.heap.size) I2.out XN.out.1 B0'.out B1'.out B2'.out GW2.out (a := (k : Int) + 1) (e := 210) (by
              have := GO.out
              rw [cmd_many hh (by rw [← NL.out]; omega), HK.out] at this
              exact this)
            gi_region
            all_goals
              gi_wp2
              obtain ⟨O', h1, h2, _, h3⟩ := FIN.out
              exact ⟨O', h1, h2, rfl, h3⟩
          · have fb : ((n : Int) == 4096) = false := by simp; omega
            gi_wp2
            refine ⟨trivial, ?_⟩
            refine CallsIn.mono (CallsIn.inRound l (callsIn_wide.2 CMD.out)) ?_
            rintro e D ⟨⟨u, rfl, NU⟩, gd⟩
            obtain ⟨⟨er, cm⟩, hcm⟩ : ∃ y, cmdW w0 r = y := ⟨_, rfl⟩
            have CW : Hid (cmdOf (w0 :: r) out.length = (true, er, cm)) := by
              have := cmdW_of w0 r out.length hh (by rw [← NL.out]; omega)
              rw [hcm] at this
              exact this
            rw [hcm] at NU ⊢
            dsimp only at NU ⊢
            obtain ⟨uo, uc, rfl, _⟩ := nu_slice NU
            have NUH : Hid (NUO D B.heap.size (.slice uo cm.nums.length uc) cm.nums) := NU
            have OKH : Hid (NumsOk cm) := by
              have := (cmd_ok (ws := w0 :: r) (n := out.length)).1
              rw [CW.out] at this
              exact this
            have GD : Hid (Gw B D) := gd
            obtain ⟨cw, cn⟩ := cm
            obtain ⟨cnl, hcnl⟩ : ∃ m, cn.length = m := ⟨_, rfl⟩
            have CNL : Aside (cn.length = cnl) := hcnl
            dsimp only at NUH hcnl ⊢
            rw [hcnl] at NUH ⊢
            obtain ⟨E, hE⟩ : ∃ E, D.alloc (.cells #[.string (Bs cw), .slice uo cnl uc] 34) = E := ⟨_, rfl⟩
            have EH : Hid (D.alloc (.cells #[.string (Bs cw), .slice uo cnl uc] 34) = E) := hE
            have gde : Gw D E := by rw [← hE]; exact (Gw.refl _).alloc _ _
            have GE : Hid (Gw B E) := gd.trans gde
            obtain ⟨cb, hcb⟩ : ∃ cb, D.heap.size = cb := ⟨_, rfl⟩
            have HCB : Hid (D.heap.size = cb) := hcb
            have EB : Hid (E.heap[cb]? = some (.cells #[.string (Bs cw), .slice uo cnl uc] 34 (0, 0))) := by show _ = _; rw [← hE, ← hcb]; exact heap_alloc_new _ _
            have E0' : Hid (E.heap[N]? = some (.cells #[.slice bo n cp] 24 (0, 0))) := (GE.out.below.block _ (blkl B0'.out)).trans B0'.out
            have E1' : Hid (E.heap[N + 1]? = some (.cells #[.int .i64 ((k : Int) + 1)] 3 (0, 0))) := (GE.out.below.block _ (blkl B1'.out)).trans B1'.out
            have E2' : Hid (E.heap[N + 1 + 1]? = some (.cells #[.int .i64 0] 25 (0, 0))) := (GE.out.below.block _ (blkl B2'.out)).trans B2'.out
            have GW5 : Hid (Gx (fun q => q = N + 1) W2 E) := GW2.out.tw GE.out
            clear NU gd gde hcm hcnl CMD TX2 d0 d1 d2 y0 y1 y2 m0 m1 m2
            have d0 := blkc (o := 0) E0'.out rfl
            have d1 := blkc (o := 0) E1'.out rfl
            have d2 : E.cell? ⟨N + 1 + 1, 0, none⟩ = some (.int .i64 0) := blkc (o := 0) E2'.out rfl
            have y0 := blkf (o := 0) E0'.out
            have y1 := blkf (o := 0) E1'.out
            have y2 : E.frozen? ⟨N + 1 + 1, 0, none⟩ = false := blkf (o := 0) E2'.out
            have m0 := blkl E0'.out
            have m1 := blkl E1'.out
            have m2 : N + 1 + 1 < E.heap.size := blkl E2'.out
            have x0 : E.cell? ⟨cb, 0, none⟩ = some (.string (Bs cw)) := blkc (o := 0) EB.out rfl
            have x1 : E.cell? ⟨cb, 1, none⟩ = some (.slice uo cnl uc) := blkc (o := 1) EB.out rfl
            have xb := blkl EB.out
            obtain ⟨ii, hii, hz, hsz, hby⟩ := info_parts info_cmd
            by_cases q1 : er = 0
            · subst q1
              have OW : Hid (E.ownsRow X.heap.size 34 2 (.slice bo n cp) n (cds out V)) := by
                have := (CB.out.gw GE.out).row
                rw [← NL.out] at this
                exact this
              have XE : X.heap.size ≤ E.heap.size := by have := I2.out.gx.size; have := GW5.out.size; omega
              gi_wp2_with (gi_at_builtin; refine wpListIn_append_own_at _ rfl _ _ 24 rfl X.heap.size 34 ii (.agg #[.string (Bs []), .slice none 0 0]) 2 40 Tryd.underlying24 hii hz hsz hby rfl (by decide) (.slice bo n cp) n _ rfl (OW.out.alloc _) ⟨E.heap.size, 0, none⟩ 1 1 (cd2 ⟨cw, cn⟩ (.slice uo cnl uc)) rfl rfl (new_cmd E ⟨cw, cn⟩ _) (cd2_one _ _ _ _) (by simp only [maxLen]; omega) (by omega) (by simp; omega) ?_)
              intro v' w7 r1 r2 r3 r4
              obtain ⟨b8, cap8, rfl, hb8, _, _⟩ := own_slice r1 (by simpa using r3)
              obtain ⟨W6, hW6⟩ : ∃ W6, E.alloc (.cells #[.string (Bs cw), .slice uo cnl uc] 34) = W6 := ⟨_, rfl⟩
              have z6 : W6.heap.size = E.heap.size + 1 := by rw [← hW6]; simp
              have g6 : Gw E W6 := by rw [← hW6]; exact (Gw.refl E).alloc _ _
              rw [hW6] at r2
              have xn := XN.out
              have ob : ∀ q, (Value.slice bo n cp).ownBlock = some q → X.heap.size ≤ q := fun q hq => (World.ownsRow.lt OW.out q hq).1
              have t7 : ∀ q, q ≤ N + 2 → q < E.heap.size → w7.heap[q]? = E.heap[q]? := fun q h1 h2 => (r2.block q (by omega) (fun e => by have := ob q e.symm; omega)).trans (g6.below.block q h2)
              have F0 : Hid (w7.heap[N]? = some (.cells #[.slice bo n cp] 24 (0, 0))) := (t7 N (by omega) (blkl E0'.out)).trans E0'.out
              have F1 : Hid (w7.heap[N + 1]? = some (.cells #[.int .i64 ((k : Int) + 1)] 3 (0, 0))) := (t7 _ (by omega) (blkl E1'.out)).trans E1'.out
              have F2 : Hid (w7.heap[N + 1 + 1]? = some (.cells #[.int .i64 0] 25 (0, 0))) := (t7 _ (by omega) (blkl E2'.out)).trans E2'.out
              have lo : ∀ q, ownC (.slice bo n cp) V q → X.heap.size ≤ q ∧ q < B.heap.size := CB.out.lt
              have C7 : CO w7 X.heap.size (.slice (some ⟨b8, 0, none⟩) (n + 1) cap8) (out ++ [⟨cw, cn⟩]) (V ++ [.slice uo cnl uc]) := CO.more (w2 := W6) (B := B.heap.size) CB.out (by have := GE.out.size; omega) (fun q hq => (GE.out.trans g6).below.block q hq)
                (fun q hq => (lo q (.inl hq)).2) (fun j y q hy hq => (lo q (.inr ⟨j, y, hy, hq⟩)).2) (by have := I2.out.gx.size; have := GW2.out.size; omega)
                (own_gw (by have := NUH.out; rw [← CNL.out]; rw [← CNL.out] at this; exact this) ((by rw [← EH.out]; exact (Gw.refl D).alloc _ _ : Gw D E).trans g6)) OKH.out (by rw [← NL.out]; exact r1) (fun q h1 h2 => r2.block q h1 (fun e => h2 e.symm)) (by
                  rcases r4 with e | e
                  · exact .inl e
                  · refine .inr fun q hq => ?_
                    rw [e] at hq
                    have := Option.some.inj hq
                    omega)
              have oc : ∀ q, ownC (.slice (some ⟨b8, 0, none⟩) (n + 1) cap8) (V ++ [.slice uo cnl uc]) q → O q ∨ W.heap.size ≤ q := fun q hq => by
                have s2 := S2.out
                have s3 := GE.out.size
                rcases hq with e | ⟨j, y, hy, e⟩
                · rcases r4 with e4 | e4
                  · exact .inl (OC.out q (.inl (e4 ▸ e)))
                  · rw [e4] at e
                    have := Option.some.inj e
                    exact .inr (by omega)
                · by_cases hj : j < V.length
                  · rw [List.getElem?_append_left hj] at hy
                    exact .inl (OC.out q (.inr ⟨j, y, hy, e⟩))
                  · rw [List.getElem?_append_right (by omega)] at hy
                    have ey : y = .slice uo cnl uc := by
                      rcases Nat.eq_zero_or_pos (j - V.length) with z | z
                      · rw [z] at hy; simpa using hy.symm
                      · rw [List.getElem?_eq_none (by simp; omega)] at hy; cases hy
                    rw [ey] at e
                    have := (World.ownsRow.lt NUH.out q e).1
                    exact .inr (by omega)
              have G7 : Gx (fun q => q = N ∨ q = N + 1 ∨ O q) W2 w7 := ((GW5.out.tw g6).mono (fun q hq => .inl (.inr (.inl hq)))).grown r2 (fun q hq => .inl (.inr (.inr (OC.out q (.inl hq)))))
              have FIN : Hid (∃ O' : Nat → Prop, (∀ q, O' q → (O q ∨ W.heap.size ≤ q) ∧ q < (w7.setCell ⟨N, 0, none⟩ (.slice (some ⟨b8, 0, none⟩) (n + 1) cap8)).heap.size) ∧ Gx (fun q => (q < X.heap.size ∧ (q = N ∨ q = N + 1 ∨ q = N + 2)) ∨ O q ∨ W.heap.size ≤ q) W2 (w7.setCell ⟨N, 0, none⟩ (.slice (some ⟨b8, 0, none⟩) (n + 1) cap8)) ∧ PI X N SS xs (pre ++ [x]) O' (w7.setCell ⟨N, 0, none⟩ (.slice (some ⟨b8, 0, none⟩) (n + 1) cap8))) := by
                refine PI.close (V' := V ++ [.slice uo cnl uc]) (out' := out ++ [⟨cw, cn⟩]) I2.out XN.out.1 Z2.out (blk_put (o := 0) F0.out _) ((Go.Deep.blk_setCell_other _ _ _ _ (by simp)).trans (by rw [HK.out]; exact F1.out)) ((Go.Deep.blk_setCell_other _ _ _ _ (by simp <;> omega)).trans F2.out)
                  (C7.keep fun q hq => Go.Deep.blk_setCell_other _ _ _ _ (by have := (C7.lt q hq).1; show ¬ q = N; omega)) ?_ (by have := NL.out; rw [List.length_append]; simp; omega) oc (G7.set (.inl (.inl rfl)) _ _) OX.out
                have := GO.out
                rw [CW.out] at this
                simpa using this
              have p0 := blkc (o := 0) F0.out rfl
              have p1 := blkf (o := 0) F0.out
              have p2 := blkl F0.out
              clear r1 r2 r3 r4 hW6 z6 g6 ob t7 lo C7 oc G7
              gi_wp2
              exact FIN.out
            · have q1' : (er == 0) = false := by simp [q1]
              have FIN : Hid _ := PJ.stores (z := W.heap.size) I2.out XN.out.1 E0'.out E1'.out E2'.out GW5.out (a := (k : Int) + 1) (e := er) (by
                have := GO.out
                rw [CW.out, HK.out] at this
                dsimp only at this
                rw [if_pos q1] at this
                exact this)
              gi_wp2
              try rw [EH.out]
              gi_region
              all_goals
                gi_wp2
                obtain ⟨O', h1, h2, _, h3⟩ := FIN.out
                exact ⟨O', h1, h2, rfl, h3⟩
    case done =>
      rintro D O W hD nD hO hI _ hDef
      obtain ⟨v, V, out, e1, e2, e3, e4, e5⟩ := hI.ex
      have GG : Hid (goP xs 0 [] = (out, 0, 0)) := by show _ = _; rw [e4, List.drop_length]; rfl
      obtain ⟨bo, n, cp, rfl, hn⟩ := e2.shape
      have C0 : Hid (CO W X.heap.size (.slice bo n cp) out V) := e2
      have OD : Hid (∀ q, ownC (.slice bo n cp) V q → q ≠ D ∧ N + 2 < q) := fun q hq => ⟨fun e => nD (by rw [← e]; exact e3 q hq), by have := (C0.out.lt q hq).1; have := XN.out.1; omega⟩
      have NL : Hid (n = out.length) := hn
      have b0 := blkc (o := 0) e1 rfl
      have f0 := blkf (o := 0) e1
      have l0 := blkl e1
      have b1 := blkc (o := 0) hI.at' rfl
      have f1 := blkf (o := 0) hI.at'
      have l1 := blkl hI.at'
      have b2 : W.cell? ⟨N + 1 + 1, 0, none⟩ = some (.int .i64 0) := blkc (o := 0) hI.er rfl
      have f2 : W.frozen? ⟨N + 1 + 1, 0, none⟩ = false := blkf (o := 0) hI.er
      have l2 : N + 1 + 1 < W.heap.size := blkl hI.er
      have HI : Hid (PI X N SS xs xs O W) := hI
      have E1 : Hid (W.heap[N]? = some (.cells #[.slice bo n cp] 24 (0, 0))) := e1
      have DH : Hid (W.heap[D]? = some (.deferred (some [])) ∧ X.heap.size ≤ D) := ⟨hDef, hD⟩
      clear e1 e2 e3 e4 e5 hn hI hDef hO nD hD
      gi_wp2
      obtain ⟨W4, hW4⟩ : ∃ W4, ((W.setCell ⟨N, 0, none⟩ (.slice bo n cp)).setCell ⟨N + 1, 0, none⟩ (.int .i64 0)).setCell ⟨N + 1 + 1, 0, none⟩ (.int .i64 0) = W4 := ⟨_, rfl⟩
      rw [hW4]
      have xn := XN.out
      have oth : ∀ q, q ≠ N → q ≠ N + 1 → q ≠ N + 1 + 1 → W4.heap[q]? = W.heap[q]? := fun q h1 h2 h3 => by
        rw [← hW4, Go.Deep.blk_setCell_other _ _ _ _ h3, Go.Deep.blk_setCell_other _ _ _ _ h2, Go.Deep.blk_setCell_other _ _ _ _ h1]
      have y0 : W4.heap[N]? = some (.cells #[.slice bo n cp] 24 (0, 0)) := by
        rw [← hW4, Go.Deep.blk_setCell_other _ _ _ _ (by simp <;> omega), Go.Deep.blk_setCell_other _ _ _ _ (by simp)]
        exact blk_put (o := 0) E1.out _
      have y1 : W4.heap[N + 1]? = some (.cells #[.int .i64 0] 3 (0, 0)) := by
        rw [← hW4, Go.Deep.blk_setCell_other _ _ _ _ (by simp)]
        exact blk_put (o := 0) ((Go.Deep.blk_setCell_other _ _ _ _ (by simp)).trans HI.out.at') _
      have y2 : W4.heap[N + 1 + 1]? = some (.cells #[.int .i64 0] 25 (0, 0)) := by
        rw [← hW4]
        exact blk_put (o := 0) ((Go.Deep.blk_setCell_other _ _ _ _ (by simp)).trans ((Go.Deep.blk_setCell_other _ _ _ _ (by simp <;> omega)).trans HI.out.er)) _
      have G4 : Gx (fun q => q = N ∨ q = N + 1 ∨ q = N + 2 ∨ q = SS) X W4 := by
        rw [← hW4]
        exact ((HI.out.gx.set (.inl (.inl rfl)) _ _).set (.inl (.inr (.inl rfl))) _ _).set (.inl (.inr (.inr (.inl rfl)))) _ _
      refine leaves_mark1 D W4 ((oth D (by have := DH.out.2; omega) (by have := DH.out.2; omega) (by have := DH.out.2; omega)).trans DH.out.1) ?_
      intro W' k1 k2 k3 k4 k5
      have c0 : W'.cell? ⟨N, 0, none⟩ = some (.slice bo n cp) := blkc ((k1 N (by have := DH.out.2; omega)).trans y0) rfl
      have c1 : W'.cell? ⟨N + 1, 0, none⟩ = some (.int .i64 0) := blkc ((k1 (N + 1) (by have := DH.out.2; omega)).trans y1) rfl
      have c2 : W'.cell? ⟨N + 1 + 1, 0, none⟩ = some (.int .i64 0) := blkc ((k1 (N + 1 + 1) (by have := DH.out.2; omega)).trans y2) rfl
      refine ⟨.tuple #[.slice bo n cp, .int .i64 0, .int .i64 0], (by simp [results, Tryd.results6, go_sem, c0, c1, c2]), ?_, ?_⟩
      · rw [PE.out, GG.out]
        refine ⟨bo, n, cp, V, rfl, NL.out, CO.low (base := X.heap.size) (C0.out.keep fun q hq => ?_) (by have := NH.out; omega)⟩
        obtain ⟨d1, d2⟩ := OD.out q hq
        exact (k1 q d1).trans (oth q (by omega) (by omega) (by omega))
      · refine Gx.gw (G0.out.trans GX.out) (G4.trans (⟨k3, k4, k5, by rw [k2]; exact Nat.le_refl _, fun q _ hs => k1 q hs⟩ : Gx (fun q => q = D) W4 W') (fun q hq => .inr (by rw [hq]; exact DH.out.2))) (fun q hq => by have := NH.out; have := S3.out; omega)
    case stop =>
      rintro D c pre O W hD nD hO hp ⟨rfl, hJ⟩ _ hDef
      obtain ⟨k, e, e1, y0, y1, y2⟩ := hJ.ex
      have DH : Hid (W.heap[D]? = some (.deferred (some [])) ∧ X.heap.size ≤ D) := ⟨hDef, hD⟩
      have Y : Hid (W.heap[N]? = some (.cells #[.slice none 0 0] 24 (0, 0)) ∧ W.heap[N + 1]? = some (.cells #[.int .i64 k] 3 (0, 0)) ∧ W.heap[N + 1 + 1]? = some (.cells #[.int .i64 e] 25 (0, 0))) := ⟨y0, y1, y2⟩
      have GG : Hid (goP xs 0 [] = ([], k, e)) := e1
      have G4 : Hid (Gx (fun q => q = N ∨ q = N + 1 ∨ q = N + 2 ∨ q = SS) X W) := hJ.gx
      clear e1 y0 y1 y2 hJ hDef hO nD hD hp
      gi_wp2
      have xn := XN.out
      refine leaves_mark1 D W DH.out.1 ?_
      intro W' k1 k2 k3 k4 k5
      have c0 : W'.cell? ⟨N, 0, none⟩ = some (.slice none 0 0) := blkc ((k1 N (by have := DH.out.2; omega)).trans Y.out.1) rfl
      have c1 : W'.cell? ⟨N + 1, 0, none⟩ = some (.int .i64 k) := blkc ((k1 (N + 1) (by have := DH.out.2; omega)).trans Y.out.2.1) rfl
      have c2 : W'.cell? ⟨N + 1 + 1, 0, none⟩ = some (.int .i64 e) := blkc ((k1 (N + 1 + 1) (by have := DH.out.2; omega)).trans Y.out.2.2) rfl
      refine ⟨.tuple #[.slice none 0 0, .int .i64 k, .int .i64 e], (by simp [results, Tryd.results6, go_sem, c0, c1, c2]), ?_, ?_⟩
      · rw [PE.out, GG.out]
        exact ⟨none, 0, 0, [], rfl, rfl, CO.nil _ _⟩
      · refine Gx.gw (G0.out.trans GX.out) (G4.out.trans (⟨k3, k4, k5, by rw [k2]; exact Nat.le_refl _, fun q _ hs => k1 q hs⟩ : Gx (fun q => q = D) W W') (fun q hq => .inr (by rw [hq]; exact DH.out.2))) (fun q hq => by have := NH.out; have := S3.out; omega)
end Go.Proofs.YtocnmdabilaccabDoor
