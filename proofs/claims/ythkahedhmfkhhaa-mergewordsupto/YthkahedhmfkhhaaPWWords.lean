/- MergeWords: the walk. -/
import Derived.Test.YthkahedhmfkhhaaPWI
import Derived.Test.YthkahedhmfkhhaaPMgs
import Derived.Test.YthkahedhmfkhhaaPSm
import Derived.Test.YthkahedhmfkhhaaPRq
import Derived.Maps.OwnIn
namespace Go.Proofs.Ythkahedhmfkhhaa
open Go.RowKit Go.Shelf
set_option linter.unusedVariables false

attribute [local go_sem] Oper.semAt_some

theorem mem_sizes {α : Type} : ∀ {Ls : List (List α)} {l : List α}, l ∈ Ls → l.length ≤ sizes Ls
  | [], _, h => by cases h
  | a :: Ls, l, h => by
    rw [sizes_cons]
    rcases List.mem_cons.1 h with e | e
    · rw [e]; omega
    · have := mem_sizes e; omega
set_option maxRecDepth 100000 in
set_option maxHeartbeats 8000000 in
theorem words_walk (ao : Option Addr) (c : Nat) (L : List (Lst ByteArray)) (hL : L.length + sizes (L.map Lst.l) ≤ 2000000) (w : World) (hv : LV w ao L) (hel : ∀ s ∈ L, s.l ≠ [] → s.b < w.heap.size ∧ s.l.length ≤ s.c ∧ El1 encS w s) :
    Calls Try.prog 4 #[.slice ao L.length c] w fun e w' => e = .returned (.bool true) ∧ Gw w w' := by
  refine (callsIn_wide (n := 3)).1 ?_
  have h1 : 1 ≤ 3 := by omega
  have hro : Fence.wide.round = none := rfl
  have LVH : Hid (LV w ao L) := hv
  have ELH : Hid (∀ s ∈ L, s.l ≠ [] → s.b < w.heap.size ∧ s.l.length ≤ s.c ∧ El1 encS w s) := hel
  obtain ⟨n, hn⟩ : ∃ n, L.length = n := ⟨_, rfl⟩
  have LN : Aside (L.length = n) := hn
  rw [hn] at hL ⊢
  have SZ : Aside (n + sizes (L.map Lst.l) ≤ 2000000) := hL
  clear hv hel hn
  obtain ⟨N, hN⟩ : ∃ N, w.heap.size = N := ⟨_, rfl⟩
  obtain ⟨w0, E0⟩ : ∃ w0, (w.alloc (.cells #[.slice ao n c] 37)).alloc (.cells #[.bool false] 4) = w0 := ⟨_, rfl⟩
  have E0H : Hid ((w.alloc (.cells #[.slice ao n c] 37)).alloc (.cells #[.bool false] 4) = w0) := E0
  have NH : Hid (w.heap.size = N) := hN
  have BL0 : Hid (w0.heap[N]? = some (.cells #[.slice ao n c] 37 (0, 0))) := by show _ = _; rw [← E0, ← hN]; exact (Below.heap_alloc _ _ _ (by simp)).trans (heap_alloc_new w _)
  have BA0 : Hid (w0.heap[N + 1]? = some (.cells #[.bool false] 4 (0, 0))) := by
    show _ = _
    rw [← E0, ← hN]
    have := heap_alloc_new (w.alloc (.cells #[.slice ao n c] 37)) (.cells #[.bool false] 4)
    simpa using this
  have G0 : Hid (Gw w w0) := by show Gw _ _; rw [← E0]; exact ((Gw.refl w).alloc _ _).alloc _ _
  clear E0
  refine callsIn_of_wp_marks Try.func4 rfl trivial ?_ hro
  simp only [Try.ntmps4, List.size_toArray, List.length_nil, List.nil_append, List.length_cons, Nat.reduceAdd, Nat.reduceSub, Array.replicate_succ, Array.replicate_zero, List.push_toArray, List.append_toArray, List.cons_append]
  gi_wp2
  rw [E0H.out]
  refine ⟨trivial, ?_⟩
  refine CallsIn.mono (callsIn_wide.2 (shown13 _)) ?_
  rintro e w1 ⟨rfl, g1⟩
  have BL : Hid (w1.heap[N]? = some (.cells #[.slice ao n c] 37 (0, 0))) := (g1.below.block N (blkl BL0.out)).trans BL0.out
  have BA : Hid (w1.heap[N + 1]? = some (.cells #[.bool false] 4 (0, 0))) := (g1.below.block (N + 1) (blkl BA0.out)).trans BA0.out
  have G1 : Hid (Gw w w1) := G0.out.trans g1
  have KEEP : Hid (∀ W, Gw w1 W → W.cell? ⟨N, 0, none⟩ = some (.slice ao n c) ∧ N < W.heap.size ∧ ∀ i, i < n → ∃ (lb lo : Nat) (bo : Option Addr) (sc : Nat) (h : i < L.length), ao = some ⟨lb, lo, none⟩ ∧ W.cell? ⟨lb, lo + i, none⟩ = some (.slice bo L[i].l.length sc) ∧ (0 < L[i].l.length → bo = some ⟨L[i].b, L[i].off, none⟩ ∧ sc = L[i].c) ∧ (L[i].l ≠ [] → bo = some ⟨L[i].b, L[i].off, none⟩ ∧ L[i].b < w1.heap.size ∧ El1 encS W L[i])) := fun W g => by
    have x := (g.below.block N (blkl BL.out)).trans BL.out
    refine ⟨blkc x rfl, blkl x, fun i hi => ?_⟩
    have il : i < L.length := by rw [LN.out]; exact hi
    obtain ⟨lb, lo, e, hb, hc⟩ := (LVH.out.gw (G1.out.trans g)).cells (by omega)
    obtain ⟨bo, sc, q1, q2⟩ := hc i il
    refine ⟨lb, lo, bo, sc, il, e, q1, q2, fun ne => ?_⟩
    obtain ⟨s1, s2, s3⟩ := ELH.out L[i] (List.getElem_mem il) ne
    refine ⟨(q2 (List.length_pos_iff.2 ne)).1, Nat.lt_of_lt_of_le s1 G1.out.size, s3.keep ((G1.out.trans g).below.block _ s1)⟩
  clear g1 BL0 BA0 G0 E0H hN
  gi_wp2
  obtain ⟨w2, E2⟩ : ∃ w2, w1.alloc (.cells #[] 42) = w2 := ⟨_, rfl⟩
  obtain ⟨w3, E3⟩ : ∃ w3, w2.alloc (.cells #[] 45) = w3 := ⟨_, rfl⟩
  have z2 : w2.heap.size = w1.heap.size + 1 := by rw [← E2]; simp
  have W3 : Hid (WI w1.heap.size L 0 0 w1.heap.size 0 (w1.heap.size + 1) 0 [] [] w3) := by
    refine ⟨by rw [← E3, ← E2]; exact World.ownsRow.alloc (World.ownsRow_made w1 #[] 0 (Nat.le_refl _) (Nat.zero_le _) rfl) _, Fls.none w3, by rw [← E3, ← z2]; exact World.ownsRow_made w2 #[] 0 (by omega) (Nat.zero_le _) rfl, ⟨by simp, fun i hi => by simp at hi⟩, ⟨by simp, fun i hi => by simp at hi⟩, by omega, ?_⟩
    rintro q ⟨i, hi, _⟩
    simp at hi
  have G3 : Hid (Gw w1 w3) := by rw [← E3, ← E2]; exact ((Gw.refl w1).alloc _ _).alloc _ _
  rw [E2, E3]
  gi_loopg [5, 6, 7] n (fun gg s5 s6 s7 wr => ∃ (i fb fc kb kc : Nat) (B : List Bxs) (vals : List Value), s5 = .slice (some ⟨fb, 0, none⟩) i fc ∧ s6 = .slice (some ⟨kb, 0, none⟩) i kc ∧ s7 = .int .i64 (i : Int) ∧ i ≤ n ∧ n - i ≤ gg ∧ Hid (WI w1.heap.size L i i fb fc kb kc B vals wr) ∧ Hid (Gw w1 wr))
  case atStart => exact ⟨0, _, _, _, _, [], [], rfl, rfl, rfl, Nat.zero_le _, by omega, W3, G3⟩
  case round =>
    clear W3 G3 z2 E2 E3
    obtain ⟨i, fb, fc, kb, kc, B, vals, rfl, rfl, rfl, hin, hgg, WR, G⟩ := hrel
    obtain ⟨wS, hwS⟩ : ∃ wx, wx = wr := ⟨_, rfl⟩
    subst hwS
    obtain ⟨cl, Nl, KP⟩ := KEEP.out wS G.out
    by_cases ilt : i < n
    · have ilt' : (i : Int) < (n : Int) := by omega
      obtain ⟨lb, lo, bo, bc, il, eao, p1, p2, p3⟩ := KP i ilt
      subst eao
      have P3 : Hid (L[i].l ≠ [] → bo = some ⟨L[i].b, L[i].off, none⟩ ∧ L[i].b < w1.heap.size ∧ El1 encS wS L[i]) := p3
      obtain ⟨m, hm⟩ : ∃ m, L[i].l.length = m := ⟨_, rfl⟩
      have MH : Hid (L[i].l.length = m) := hm
      have mb : m ≤ 2000000 := by
        have := mem_sizes (Ls := L.map Lst.l) (List.mem_map.2 ⟨L[i], List.getElem_mem il, rfl⟩)
        omega
      rw [hm] at p1
      have TM : Hid _ := mlisted_s bo m bc wS
      clear p2 p3 KP hm
      gi_wp2
      refine ⟨trivial, ?_⟩
      refine CallsIn.mono (callsIn_wide.2 TM.out) ?_
      rintro e w4 ⟨rfl, e4⟩
      have E4 : Hid (wS.alloc (.cells #[.slice bo m bc] 44) = w4) := e4.symm
      have z4 : w4.heap.size = wS.heap.size + 1 := by rw [e4]; simp
      clear e4 TM
      obtain ⟨w5, E5⟩ : ∃ w5, w4.alloc (.cells #[.func (.func 28) #[] #[.pointer (some ⟨wS.heap.size, 0, none⟩)]] 42) = w5 := ⟨_, rfl⟩
      have g5 : Gw wS w5 := by rw [← E5, ← E4.out]; exact ((Gw.refl wS).alloc _ _).alloc _ _
      have z5 : w5.heap.size = wS.heap.size + 1 + 1 := by rw [← E5]; simp [z4]
      obtain ⟨ii, hii, hz', hsz', hby'⟩ := info_parts info_fs
      have gz := G.out.size
      have RF5 : Hid _ := orow13 WR.out.rf g5
      have NW : Hid (∀ j u, [Value.func (.func 28) #[] #[.pointer (some ⟨wS.heap.size, 0, none⟩)]][j]? = some u → w5.cell? ((⟨wS.heap.size + 1, 0, none⟩ : Addr).add j) = some u) := by show ∀ j u, _; rw [← E5, ← z4]; exact new_v13 w4 _ _
      gi_wp2_with (gi_at_builtin; refine wpListIn_append_own_at _ rfl _ _ 39 rfl w1.heap.size 42 ii .nilFunc 1 8 Try.underlying39 hii hz' hsz' hby' rfl (by decide) (.slice (some ⟨fb, 0, none⟩) i fc) i (fnFs B) rfl RF5.out ⟨wS.heap.size + 1, 0, none⟩ 1 1 [.func (.func 28) #[] #[.pointer (some ⟨wS.heap.size, 0, none⟩)]] rfl rfl NW.out (fun u hu => by simp at hu; subst hu; rfl) (by simp only [maxLen]; omega) (by omega) (by omega) ?_)
      intro v7 w7 q1 q2 q3 q4
      obtain ⟨b8, cap8, ev, hb8, _, _⟩ := own_slice q1 (by simpa using q3)
      subst ev
      have B5 : w5.heap[wS.heap.size]? = some (.cells #[.slice bo m bc] 44 (0, 0)) := by
        rw [← E5, ← E4.out]; exact (Below.heap_alloc _ _ _ (by simp)).trans (heap_alloc_new wS _)
      have W7 : Hid (WI w1.heap.size L (i + 1) i b8 cap8 kb kc (B ++ [⟨wS.heap.size, bo, bc⟩]) vals w7) := WR.out.fn il (by omega) g5 (by rw [MH.out]; exact B5) P3.out gz q1 q2 (by
        rcases q4 with q | q
        · exact .inl (by simpa [Value.ownBlock] using q)
        · exact .inr (by rw [z5]; simpa [Value.ownBlock] using q))
      have G7 : Hid (Gw w1 w7) := (G.out.trans g5).grown q2 (fun k hk => (World.ownsRow.lt WR.out.rf k hk).1)
      clear hii hz' hsz' hby' q1 q2 q3 q4 NW RF5 E5 g5 z5 z4 B5 E4 P3
      obtain ⟨l, hl⟩ : ∃ l, L[i].l = l := ⟨_, rfl⟩
      have HL : Hid (L[i].l = l) := hl
      have LLm : Hid (l.length = m) := by show _ = _; rw [← hl]; exact MH.out
      have SQ8 : Hid (∀ W, Gw w7 W → W.cell? ⟨N, 0, none⟩ = some (.slice (some ⟨lb, lo, none⟩) n c) ∧ N < W.heap.size ∧ ∃ (bo' : Option Addr) (bc' : Nat), W.cell? ⟨lb, lo + i, none⟩ = some (.slice bo' m bc') ∧ ∀ k x, l[k]? = some x → ∃ eb eo, bo' = some ⟨eb, eo, none⟩ ∧ W.cell? ⟨eb, eo + k, none⟩ = some (.string x)) := fun W g => by
        obtain ⟨x1, x2, x3⟩ := KEEP.out W (G7.out.trans g)
        obtain ⟨lb', lo', bo', bc', il', eao, q1, q2, q3⟩ := x3 i ilt
        cases eao
        rw [MH.out] at q1
        refine ⟨x1, x2, bo', bc', q1, fun k x hx => ?_⟩
        have ne : L[i].l ≠ [] := fun e => by rw [HL.out] at e; rw [e] at hx; simp at hx
        obtain ⟨y1, _, y3⟩ := q3 ne
        exact ⟨_, _, y1, y3 k x (by rw [HL.out]; exact hx)⟩
      clear hl cl Nl p1 WR G gz
      gi_wp2
      obtain ⟨rb0, hrb⟩ : ∃ x, w7.heap.size = x := ⟨_, rfl⟩
      have RB : Hid (w7.heap.size = rb0) := hrb
      have Q2 : Hid ((w7.alloc (.cells #[] 30)).ownsRow rb0 30 1 (.slice (some ⟨rb0, 0, none⟩) 0 0) 0 ((l.take 0).map fun x => Value.int .u64 (lenS x))) := by rw [← hrb]; exact World.ownsRow_made w7 #[] 0 (Nat.le_refl _) (Nat.zero_le _) rfl
      have G2 : Hid (Gw w7 (w7.alloc (.cells #[] 30))) := (Gw.refl w7).alloc _ _
      rw [hrb]
      generalize w7.alloc (.cells #[] 30) = w8 at Q2 G2 ⊢
      clear hrb
      gi_loopg [8, 9] m (fun gg s8 s9 wr => ∃ (j rb rc : Nat), s8 = .slice (some ⟨rb, 0, none⟩) j rc ∧ s9 = .int .i64 (j : Int) ∧ j ≤ m ∧ m - j ≤ gg ∧ Hid (wr.ownsRow rb0 30 1 (.slice (some ⟨rb, 0, none⟩) j rc) j ((l.take j).map fun x => Value.int .u64 (lenS x))) ∧ Hid (Gw w7 wr))
      case atStart => exact ⟨0, rb0, 0, rfl, rfl, Nat.zero_le _, by omega, Q2, G2⟩
      case round =>
        clear Q2 G2
        obtain ⟨j, rb, rc, rfl, rfl, b1, b2, Q, GG⟩ := hrel
        obtain ⟨cl, Nl, bo', bc', p1, p3⟩ := SQ8.out wr GG.out
        by_cases jlt : j < m
        · have jlt' : (j : Int) < (m : Int) := by omega
          obtain ⟨x, hx⟩ : ∃ x, l[j]? = some x := ⟨_, List.getElem?_eq_getElem (by rw [LLm.out]; exact jlt)⟩
          obtain ⟨eb, eo, ebo, xc⟩ := p3 j x hx
          subst ebo
          have TKJ : Hid (l.take (j + 1) = l.take j ++ [x]) := by show _ = _; rw [List.take_add_one, hx]; rfl
          have KC : Hid (∀ W, Calls Try.prog 12 #[.string x] W fun e w' => e = .returned (.int .u64 (lenS x)) ∧ Gw W w') := fun W => key_w.tells W x trivial
          obtain ⟨kx, hkx⟩ : ∃ k, lenS x = k := ⟨_, rfl⟩
          have KX : Hid (lenS x = kx) := hkx
          rw [hkx] at KC
          clear hx p3 hkx
          gi_wp2
          refine ⟨trivial, ?_⟩
          refine CallsIn.mono (callsIn_wide.2 (KC.out _)) ?_
          rintro e w9 ⟨rfl, g9⟩
          have G9 : Hid (Gw w7 w9) := GG.out.trans g9
          have Q9 : Hid (w9.ownsRow rb0 30 1 (.slice (some ⟨rb, 0, none⟩) j rc) j ((l.take j).map fun x => Value.int .u64 (lenS x))) := orow13 Q.out g9
          obtain ⟨cl9, Nl9, _⟩ := SQ8.out w9 G9.out
          have wz := G9.out.size
          have rbe := RB.out
          obtain ⟨kk, hkk, kz, ks', kby⟩ := info_parts info_k
          obtain ⟨w10, E10⟩ : ∃ W, w9.alloc (.cells #[.int .u64 kx] 30) = W := ⟨_, rfl⟩
          have Q10 : Hid (w10.ownsRow rb0 30 1 (.slice (some ⟨rb, 0, none⟩) j rc) j ((l.take j).map fun x => Value.int .u64 (lenS x))) := by rw [← E10]; exact Q9.out.alloc _
          have N10 : Hid (∀ j u, [Value.int .u64 kx][j]? = some u → w10.cell? ((⟨w9.heap.size, 0, none⟩ : Addr).add j) = some u) := by show ∀ j u, _; rw [← E10]; exact new_one w9 kx
          have G10 : Hid (Gw w7 w10) := by show Gw _ _; rw [← E10]; exact G9.out.alloc _ _
          have z10 : w10.heap.size = w9.heap.size + 1 := by rw [← E10]; simp
          clear g9 Q cl Nl p1 xc KC
          gi_wp2_with (gi_at_builtin; refine wpListIn_append_own_at _ rfl _ _ 45 rfl rb0 30 kk (.int .u64 0) 1 8 Try.underlying45 hkk kz ks' kby rfl (by decide) _ j _ rfl Q10.out ⟨w9.heap.size, 0, none⟩ 1 1 [.int .u64 kx] rfl rfl N10.out (ints_oneCell .u64 [kx]) (by simp only [maxLen]; omega) (by omega) (by omega) ?_)
          intro v' w11 r1 r2 r3 r4
          obtain ⟨b5, cap5, rfl, hb5, _, _⟩ := own_slice r1 (by simpa using r3)
          have Q11 : Hid (w11.ownsRow rb0 30 1 (.slice (some ⟨b5, 0, none⟩) (j + 1) cap5) (j + 1) ((l.take (j + 1)).map fun x => Value.int .u64 (lenS x))) := by
            show World.ownsRow _ _ _ _ _ _ _
            rw [TKJ.out, List.map_append, List.map_singleton, KX.out, List.map_take]; exact r1
          have G11 : Hid (Gw w7 w11) := G10.out.grown r2 (fun q hq => by have := (World.ownsRow.lt Q10.out q hq).1; omega)
          clear r1 r2 r3 r4 Q9 Q10 N10 E10 G9 G10 GG cl9 Nl9 hkk kz ks' kby
          gi_wp2
          gi_roundg (m - (j + 1))
          case measure => omega
          case rel => exact ⟨j + 1, b5, cap5, rfl, by go_num, by omega, Nat.le_refl _, Q11, G11⟩
        · have ej : m = j := by omega
          subst ej
          have LT : l.take m = l := List.take_of_length_le (by rw [LLm.out]; exact Nat.le_refl _)
          rw [LT] at Q
          have MLn : Hid ((l.map lenS).length = m) := by show _ = _; rw [List.length_map, LLm.out]
          have KR : Hid (KS wr (some ⟨rb, 0, none⟩) (l.map lenS).length (fun t => (l.map lenS).getD t 0)) := by
            show KS _ _ _ _
            rw [MLn.out]
            refine ks_own Q.out (Nat.le_refl _) (fun t ht => ?_) (fun t ht => ?_)
            · have ht' : t < l.length := by rw [LLm.out]; exact ht
              simp [List.getD, ht']
            · have ht' : t < l.length := by rw [LLm.out]; exact ht
              have : (l.map lenS).getD t 0 = lenS l[t] := by simp [List.getD, ht']
              rw [this]
              exact u64w_bd _
          have rbl := (World.ownsRow.lt Q.out rb rfl)
          have W10 : Hid (WI w1.heap.size L (i + 1) i b8 cap8 kb kc (B ++ [⟨wS.heap.size, bo, bc⟩]) vals wr) := W7.out.gw GG.out
          have fb8 := (World.ownsRow.lt W7.out.rf b8 rfl).2
          have kb8 := (World.ownsRow.lt W7.out.rk kb rfl).2
          have rbe := RB.out
          have KT : Hid ((keysS (L.map Lst.l)).take (i + 1) = (keysS (L.map Lst.l)).take i ++ [l.map lenS]) := by
            show _ = _
            have hi : i < (keysS (L.map Lst.l)).length := by rw [keysS_len, List.length_map]; exact il
            rw [List.take_add_one, List.getElem?_eq_getElem hi]
            simp [keysS, HL.out]
          have G10 : Hid (Gw w1 wr) := G7.out.trans GG.out
          have wz := G10.out.size
          obtain ⟨jj, hjj, jz, js, jby⟩ := info_parts info_ks13
          obtain ⟨w11, E11⟩ : ∃ W, wr.alloc (.cells #[.slice (some ⟨rb, 0, none⟩) m rc] 45) = W := ⟨_, rfl⟩
          have R11 : Hid (w11.ownsRow w1.heap.size 45 1 (.slice (some ⟨kb, 0, none⟩) i kc) i vals) := by rw [← E11]; exact W10.out.rk.alloc _
          have N11 : Hid (∀ j u, [Value.slice (some ⟨rb, 0, none⟩) m rc][j]? = some u → w11.cell? ((⟨wr.heap.size, 0, none⟩ : Addr).add j) = some u) := by show ∀ j u, _; rw [← E11]; exact new_v13 wr _ _
          have z11 : w11.heap.size = wr.heap.size + 1 := by rw [← E11]; simp
          have E11H : Hid (wr.alloc (.cells #[.slice (some ⟨rb, 0, none⟩) m rc] 45) = w11) := E11
          clear LT Q p3
          gi_wp2_with (gi_at_builtin; refine wpListIn_append_own_at _ rfl _ _ 40 rfl w1.heap.size 45 jj (.slice none 0 0) 1 24 Try.underlying40 hjj jz js jby rfl (by decide) _ i _ rfl R11.out ⟨wr.heap.size, 0, none⟩ 1 1 [(.slice (some ⟨rb, 0, none⟩) m rc)] rfl rfl N11.out (fun u hu => by simp at hu; subst hu; rfl) (by simp only [maxLen]; omega) (by omega) (by omega) ?_)
          intro v' w12 r1 r2 r3 r4
          obtain ⟨b5, cap5, rfl, hb5, _, _⟩ := own_slice r1 (by simpa using r3)
          have W12 : Hid (WI w1.heap.size L (i + 1) (i + 1) b8 cap8 b5 cap5 (B ++ [⟨wS.heap.size, bo, bc⟩]) (vals ++ [.slice (some ⟨rb, 0, none⟩) m rc]) w12) := by
            have := W10.out.ky (o := .cells #[.slice (some ⟨rb, 0, none⟩) m rc] 45) (row := l.map lenS) (rb := rb) (rc := rc) (w8 := w12) (kb' := b5) (kc' := cap5) KT.out ⟨by omega, by omega⟩ rbl.2 KR.out (by rw [MLn.out]; exact r1) (by rw [E11H.out]; exact r2) (by
              rcases r4 with q | q
              · exact .inl (by simpa [Value.ownBlock] using q)
              · have q' : b5 = wr.heap.size + 1 := by simpa [Value.ownBlock] using q
                exact .inr (by omega))
            rw [MLn.out] at this
            exact this
          have G12 : Hid (Gw w1 w12) := by
            have : Gw w1 w11 := by rw [← E11H.out]; exact G10.out.alloc _ _
            exact this.grown r2 (fun q hq => (World.ownsRow.lt R11.out q hq).1)
          clear r1 r2 r3 r4 hjj jz js jby E11 N11 R11
          gi_wp2
          gi_roundg (n - (i + 1))
          case measure => omega
          case rel => exact ⟨i + 1, b8, cap8, b5, cap5, _, _, rfl, rfl, by go_num, by omega, Nat.le_refl _, W12, G12⟩
    · have ei : n = i := by omega
      subst ei
      have TLn : L.take n = L := List.take_of_length_le (by rw [LN.out]; exact Nat.le_refl _)
      have KLn : (keysS (L.map Lst.l)).length = n := by rw [keysS_len, List.length_map]; exact LN.out
      have KVH : Hid (KV wS (some ⟨kb, 0, none⟩) (keysS (L.map Lst.l))) := by
        have := WR.out.ki
        rw [List.take_of_length_le (by rw [KLn]; exact Nat.le_refl _)] at this
        exact this.kv WR.out.rk KLn
      have FLH : Hid (Fls L B wS) := by have := WR.out.fl; rw [TLn] at this; exact this
      have BLn : B.length = n := by rw [FLH.out.len]; exact LN.out
      obtain ⟨fo, fcap, fev, FRW⟩ := frow_s BLn WR.out.rf
      cases fev
      have FRH : Hid (FRow (fvFs B) wS (some ⟨fb, 0, none⟩) n (fun _ => False)) := FRW
      have RM : Hid (Calls Try.prog 14 #[.slice (some ⟨kb, 0, none⟩) n kc] wS fun e w' => (∃ ob oc P, e = .returned (.slice (some ⟨ob, 0, none⟩) P.length oc) ∧ PL w' (wS.heap.size + 1) (.slice (some ⟨ob, 0, none⟩) P.length oc) P ∧ Mg lenS (L.map Lst.l) (P.map fun p => ((L.map Lst.l).getD p.1 []).getD p.2 no0) ∧ (∀ p ∈ P, p.1 < n ∧ p.2 < ((L.map Lst.l).getD p.1 []).length) ∧ P.length ≤ 2000000) ∧ Gw wS w') := by
        have e : (L.map Lst.l).length = n := by rw [List.length_map]; exact LN.out
        have := rmergeW (some ⟨kb, 0, none⟩) kc (L.map Lst.l) (by omega) (fun i hi => by
          have q : (L.map Lst.l).getD i [] = (L.map Lst.l)[i] := by rw [List.getD_eq_getElem?_getD, List.getElem?_eq_getElem hi]; rfl
          rw [q]
          have := mem_sizes (List.getElem_mem hi)
          omega) (by omega) wS KVH.out
        rw [e] at this
        exact this
      clear WR TLn KLn BLn FRW KVH KP
      gi_wp2
      refine ⟨trivial, ?_⟩
      refine CallsIn.mono (callsIn_wide.2 RM.out) ?_
      rintro e w4 ⟨⟨tb, tc, PP, rfl, pl, mg, pb, pn⟩, g4⟩
      have PLH : Hid (PL w4 (wS.heap.size + 1) (.slice (some ⟨tb, 0, none⟩) PP.length tc) PP) := pl
      have MGH : Hid (Mg lenS (L.map Lst.l) (PP.map fun p => ((L.map Lst.l).getD p.1 []).getD p.2 no0)) := mg
      have PBH : Hid (∀ p ∈ PP, p.1 < n ∧ p.2 < ((L.map Lst.l).getD p.1 []).length) := pb
      have G4 : Hid (Gw wS w4) := g4
      obtain ⟨pm, hpm⟩ : ∃ pm, PP.length = pm := ⟨_, rfl⟩
      have PM : Hid (PP.length = pm) := hpm
      rw [hpm] at pn ⊢
      clear hpm pl mg pb g4 RM
      gi_wp2
      obtain ⟨bw, hbw⟩ : ∃ b, w4.heap.size = b := ⟨_, rfl⟩
      obtain ⟨W5, E5⟩ : ∃ W, w4.alloc (.cells #[.slice (some ⟨tb, 0, none⟩) pm tc] 46) = W := ⟨_, rfl⟩
      have G5 : Hid (Gw wS W5) := by show Gw _ _; rw [← E5]; exact G4.out.alloc _ _
      have BW5 : Hid (W5.heap[bw]? = some (.cells #[.slice (some ⟨tb, 0, none⟩) pm tc] 46 (0, 0))) := by show _ = _; rw [← E5, ← hbw]; exact heap_alloc_new _ _
      have PL5 : Hid (PL W5 (wS.heap.size + 1) (.slice (some ⟨tb, 0, none⟩) PP.length tc) PP) := by show PL _ _ _ _; rw [← E5]; exact pl_gw PLH.out ((Gw.refl w4).alloc _ _)
      have FR5 : FRow (fvFs B) W5 (some ⟨fb, 0, none⟩) n (fun _ => False) := ⟨fun h0 => by
        obtain ⟨b, off, e, q1, q2, q3⟩ := FRH.out.cells h0
        exact ⟨b, off, e, Nat.lt_of_lt_of_le q1 G5.out.size, q2, fun i hi => (G5.out.cell _ _ q1).trans (q3 i hi)⟩⟩
      have F5 : Hid (Fls L B W5) := FLH.out.gw G5.out
      have MG : Hid _ := merge_s (w := W5) (K := 12) (cp := fc) FR5 (by omega)
      rw [E5, hbw]
      clear E5 hbw FR5 FRH FLH PLH
      refine ⟨trivial, ?_⟩
      refine CallsIn.mono (callsIn_wide.2 MG.out) ?_
      rintro e w6 ⟨⟨bk, bl, bo, c6, rfl, mr, hbk, hbl, hbo⟩, g6⟩
      have MR : Hid (MrAs 12 bk bl bo n c6 (fvFs B) (fun _ => False) w6) := mr _ (fun q e => e.elim)
      have G6 : Hid (Gw W5 w6) := g6
      have nn : ∀ W : World, (binOp .eql 42 (.func (.func 30) #[] #[.pointer (some ⟨bk, 0, none⟩), .pointer (some ⟨bl, 0, none⟩)]) .nilFunc).run Try.prog W = .ok (.bool false) W := fun W => by kernel_rfl
      obtain ⟨bn, hbn⟩ : ∃ b, w6.heap.size = b := ⟨_, rfl⟩
      obtain ⟨W9, E9⟩ : ∃ W9, w6.alloc (.cells #[.int .i64 0] 3) = W9 := ⟨_, rfl⟩
      have G9 : Hid (Gw w6 W9) := by show Gw _ _; rw [← E9]; exact (Gw.refl w6).alloc _ _
      have N9 : Hid (W9.heap[bn]? = some (.cells #[.int .i64 (([] : List ByteArray).length : Int)] 3 (0, 0))) := by show _ = _; rw [← E9, ← hbn]; exact heap_alloc_new w6 _
      have z9 : W9.heap.size = bn + 1 := by rw [← E9, ← hbn]; simp
      have E9H : Hid (w6.alloc (.cells #[.int .i64 0] 3) = W9) := E9
      have HBN : Hid (w6.heap.size = bn) := hbn
      have F6 : Hid (Fls L B w6) := F5.out.gw G6.out
      have RL : Hid (∀ q, rdMs (rdFs L B) bk bl bo n q ∨ False → q < w6.heap.size) := fun q hq => by
        rcases hq with (e | e | e | ⟨e0, a, e1, e2⟩) | e
        · exact F6.out.lt q e
        · rw [e]; exact blkl MR.out.k
        · rw [e]; exact blkl MR.out.l
        · obtain ⟨b, off, e3, h1, _⟩ := MR.out.r.cells e0
          rw [e3] at e1; cases e1; rw [← e2]; exact h1
        · exact e.elim
      have SQ : Hid _ := merge1_s 12 lenS key_w bk bl bo n c6 (L.map Lst.l) (fvFs B) (rdFs L B) (fun _ => False) (fun _ => Fls L B) (fam_ls L B (fun s hs => by
        have := mem_sizes (Ls := L.map Lst.l) (List.mem_map.2 ⟨s, hs, rfl⟩)
        omega)) (by rw [List.length_map]; exact LN.out) (by omega) (by omega) (fun l hl x hx => trivial) ⟨fun e => e, fun e => e⟩ _ MGH.out
      have GT : Hid (Gw w1 W9) := ((G.out.trans G5.out).trans G6.out).trans G9.out
      have CELLS : Hid (∀ W, Gx (fun q => q = bn) W9 W → (W.cell? ⟨bw, 0, none⟩ = some (.slice (some ⟨tb, 0, none⟩) pm tc) ∧ W.cell? ⟨N, 0, none⟩ = some (.slice ao n c) ∧ W.heap[N + 1]? = some (.cells #[.bool false] 4 (0, 0))) ∧ ∀ (k : Nat) (x : ByteArray), (PP.map fun p => ((L.map Lst.l).getD p.1 []).getD p.2 no0)[k]? = some x → k < pm ∧ ∃ (u t lb lo eb eo m sc : Nat), W.cell? ⟨tb, k * 2, none⟩ = some (.int .i64 (u : Int)) ∧ W.cell? ⟨tb, k * 2 + 1, none⟩ = some (.int .i64 (t : Int)) ∧ u < n ∧ t < m ∧ ao = some ⟨lb, lo, none⟩ ∧ W.cell? ⟨lb, lo + u, none⟩ = some (.slice (some ⟨eb, eo, none⟩) m sc) ∧ W.cell? ⟨eb, eo + t, none⟩ = some (.string x)) := fun W g => by
        have bl9 : bn < W9.heap.size := by omega
        have keep : ∀ q, q < w6.heap.size → W.heap[q]? = w6.heap[q]? := fun q hq => (g.block q (Nat.lt_of_lt_of_le hq G9.out.size) (fun e => by have e' : q = bn := e; have := HBN.out; omega)).trans (G9.out.below.block q hq)
        have kc : ∀ q o, q < w6.heap.size → W.cell? ⟨q, o, none⟩ = w6.cell? ⟨q, o, none⟩ := fun q o hq => World.cell?_of_block (a := ⟨q, o, none⟩) (keep q hq)
        have g16 : Gw w1 w6 := (G.out.trans G5.out).trans G6.out
        have b6 : w6.heap[bw]? = some (.cells #[.slice (some ⟨tb, 0, none⟩) pm tc] 46 (0, 0)) := (G6.out.below.block bw (blkl BW5.out)).trans BW5.out
        obtain ⟨k1, k2, k3⟩ := KEEP.out w6 g16
        have a6 : w6.heap[N + 1]? = some (.cells #[.bool false] 4 (0, 0)) := (g16.below.block (N + 1) (blkl BA.out)).trans BA.out
        refine ⟨⟨(kc _ _ (blkl b6)).trans (blkc b6 rfl), (kc _ _ k2).trans k1, (keep _ (blkl a6)).trans a6⟩, fun k x hx => ?_⟩
        have kl : k < PP.length := by have := (List.getElem?_eq_some_iff.1 hx).1; simpa using this
        rw [List.getElem?_map, List.getElem?_eq_getElem kl] at hx
        simp only [Option.map_some, Option.some.injEq] at hx
        obtain ⟨u, hu⟩ : ∃ u, PP[k].1 = u := ⟨_, rfl⟩
        obtain ⟨t, ht⟩ : ∃ t, PP[k].2 = t := ⟨_, rfl⟩
        obtain ⟨q1, q2⟩ := PBH.out PP[k] (List.getElem_mem kl)
        rw [hu] at q1 q2 hx
        rw [ht] at q2 hx
        have ul : u < L.length := by rw [LN.out]; exact q1
        have eg : (L.map Lst.l).getD u [] = L[u].l := by rw [List.getD_eq_getElem?_getD, List.getElem?_eq_getElem (by rw [List.length_map]; exact ul)]; simp
        rw [eg] at q2 hx
        obtain ⟨c0, c1⟩ := pl_cells (pl_gw PL5.out G6.out) kl
        have ep : PP.getD k (0, 0) = PP[k] := by rw [List.getD_eq_getElem?_getD, List.getElem?_eq_getElem kl]; rfl
        rw [ep, hu] at c0
        rw [ep, ht] at c1
        have tbl : tb < w6.heap.size := Nat.lt_of_lt_of_le (World.ownsRow.lt PL5.out tb rfl).2 G6.out.size
        obtain ⟨lb, lo, bo', sc, il, e1, e2, e3, e4⟩ := k3 u q1
        have ne : L[u].l ≠ [] := fun e => by rw [e] at q2; simp at q2
        obtain ⟨f1, f2, f3⟩ := e4 ne
        subst f1
        obtain ⟨lb', lo', el, hlb, _⟩ := (LVH.out.gw (G1.out.trans g16)).cells (by omega)
        rw [e1] at el
        cases el
        have hx' : L[u].l[t]? = some x := by rw [List.getElem?_eq_getElem q2]; rw [List.getD_eq_getElem?_getD, List.getElem?_eq_getElem q2] at hx; simpa using hx
        refine ⟨by rw [← PM.out]; exact kl, u, t, lb, lo, L[u].b, L[u].off, L[u].l.length, sc, (kc _ _ tbl).trans c0, (kc _ _ tbl).trans c1, q1, q2, e1, (kc _ _ hlb).trans e2, (kc _ _ (Nat.lt_of_lt_of_le f2 g16.size)).trans (f3 t x hx')⟩
      clear mr g6 MG E9 hbn
      gi_wp2
      rw [E9H.out, HBN.out]
      clear nn
      obtain ⟨out, hout⟩ : ∃ o, (PP.map fun p => ((L.map Lst.l).getD p.1 []).getD p.2 no0) = o := ⟨_, rfl⟩
      have OUT : Hid (out.length = pm) := by show _ = _; rw [← hout, List.length_map]; exact PM.out
      rw [hout] at SQ CELLS
      clear hout
      have bnz := HBN.out
      refine range_out (ps := #[67]) hro h1 (gf := 30) (lb := #[.pointer (some ⟨bk, 0, none⟩), .pointer (some ⟨bl, 0, none⟩)]) rfl trivial (fun _ _ => rfl) SQ.out
        (fun W g => ⟨MR.out.keep (R := rdFs L B) (Nat.le_trans G9.out.size g.size) (fun q hq => ((G9.out.trans g).below.block q (RL.out q (.inl hq)))), F6.out.gw (G9.out.trans g)⟩) (fun _ => rfl)
        (fun q => q = bn) (fun q hq => ⟨by have := RL.out q hq; omega, fun e => by have := RL.out q hq; have e' : q = bn := e; omega⟩) (fun q hq => by have e' : q = bn := hq; omega)
        (fun pre O W => W.heap[bn]? = some (.cells #[.int .i64 (pre.length : Int)] 3 (0, 0)) ∧ Gx (fun q => q = bn) W9 W) (fun _ _ _ _ => False)
        (fun pre O X Y h k => ⟨(k.block _ (blkl h.1) (.inl ⟨by omega, fun e => e⟩)).trans h.1, ⟨k.os.trans h.2.os, k.tape.trans h.2.tape, k.output.trans h.2.output, Nat.le_trans h.2.size k.size, fun q hq hs => (k.block q (Nat.lt_of_lt_of_le hq h.2.size) (.inl ⟨hq, fun e => e⟩)).trans (h.2.block q hq hs)⟩⟩) (fun _ _ _ _ _ h _ => h)
        (fun W W' z zs k => ⟨z.1.keep (R := rdFs L B) zs (fun q hq => k q (by have := RL.out q (.inl hq); omega)), z.2.keep zs (fun q hq => k q (by have := RL.out q (.inl (.inl hq)); omega))⟩)
        ⟨N9.out, Gx.refl _ _⟩ ?round ?done (fun _ _ _ _ _ _ _ _ _ h _ _ => h.elim)
      case round => as_aux_lemma =>
        intro l n1 hl hn1 pre x O W hi hn hr ho hx
        gi_wp2
        refine ⟨Gw.refl _, ?_⟩
        intro W2 i2 r2 k2 z2
        obtain ⟨i2a, i2b⟩ := i2
        have cn : W2.cell? ⟨bn, 0, none⟩ = some (.int .i64 (pre.length : Int)) := blkc i2a rfl
        have fn := blkf (o := 0) i2a
        have ln := blkl i2a
        have hx' : out[pre.length]? = some x := by
          obtain ⟨t, rfl⟩ := hx
          simp
        obtain ⟨⟨k1, k2', k3⟩, k4⟩ := CELLS.out W2 i2b
        obtain ⟨kpm, u, t, lb, lo, eb, eo, m, sc, c0, c1, un, tm, eao, c2, c3⟩ := k4 pre.length x hx'
        subst eao
        have FIN : Hid (∀ (W3 : World) (v : Int), W3.heap = W2.heap → W3.os = W2.os → W3.tape = W2.tape → W3.output = W2.output → v = ((pre ++ [x]).length : Int) → ((W3.setCell ⟨bn, 0, none⟩ (.int .i64 v)).heap[bn]? = some (.cells #[.int .i64 ((pre ++ [x]).length : Int)] 3 (0, 0)) ∧ Gx (fun q => q = bn) W9 (W3.setCell ⟨bn, 0, none⟩ (.int .i64 v))) ∧ Gx (fun q => (q < W9.heap.size ∧ q = bn) ∨ O q ∨ W.heap.size ≤ q) W2 (W3.setCell ⟨bn, 0, none⟩ (.int .i64 v))) := fun W3 v e1 e2 e3 e4 hv => by
          subst hv
          have g23 : ∀ S : Nat → Prop, Gx S W2 W3 := fun S => ⟨e2, e3, e4, by rw [e1]; exact Nat.le_refl _, fun q _ _ => by rw [e1]⟩
          refine ⟨⟨blk_set (o := 0) (by rw [e1]; exact i2a) _, ((i2b.trans (g23 (fun q => q = bn)) (fun q hq => .inl hq)).set (.inl rfl) _ _)⟩, ((g23 _).set (.inl (.inl ⟨by omega, rfl⟩)) _ _)⟩
        generalize hk : pre.length = k at cn kpm c0 c1 hx'
        have kb2 : k ≤ 2000000 := by omega
        have wk : IntKind.i64.wrap ((k : Int) + 1) = (k : Int) + 1 := by rw [IntKind.wrap_i64]; omega
        have dk : ¬ pm ≤ k := by omega
        have un' : (u : Int) < (n : Int) := by omega
        have tm' : (t : Int) < (m : Int) := by omega
        have km' : (k : Int) < (pm : Int) := by omega
        have HK : Hid (pre.length = k) := hk
        simp only [encS]
        clear k4 k3 hx' hi hr ho i2a i2b r2 z2 hk SQ CELLS KEEP
        gi_wp2
        refine round_quiet (F := Fence.wide) rfl (by kernel_rfl) (by kernel_rfl) (by kernel_rfl) ?_
        repeat (gi_big_quiet_step (fail))
        refine wpQuietIn_nil ?_
        rintro _ ⟨nq, rfl⟩
        gi_wp2
        obtain ⟨q1, q2⟩ := FIN.out (W2.drewN nq) ((k : Int) + 1) rfl rfl rfl rfl (by rw [List.length_append, HK.out]; simp)
        exact ⟨fun _ => False, fun q e => e.elim, q2, q1⟩
      case done =>
        rintro D O W hD nD hO ii hZ bD
        obtain ⟨ia, ib⟩ := ii
        obtain ⟨⟨k1, k2, k3⟩, _⟩ := CELLS.out W ib
        rw [OUT.out] at ia
        have cn : W.cell? ⟨bn, 0, none⟩ = some (.int .i64 (pm : Int)) := blkc ia rfl
        have ca : W.cell? ⟨N + 1, 0, none⟩ = some (.bool false) := blkc k3 rfl
        have fa := blkf (o := 0) k3
        have la := blkl k3
        have g4 : Gw w1 W := Gx.gw GT.out ib (fun q hq => by have e' : q = bn := hq; have := ((G.out.trans G5.out).trans G6.out).size; omega)
        have GF : Hid (Gw w W) := G1.out.trans g4
        have NN : Hid (w.heap.size ≤ N + 1 ∧ w.heap.size ≤ D ∧ N + 1 ≠ D) := by
          have h1 := NH.out
          have h2 := ((G1.out.trans GT.out)).size
          have h3 := blkl BA.out
          have h4 := GT.out.size
          exact ⟨by omega, by omega, by omega⟩
        have BD : Hid (W.heap[D]? = some (.deferred (some []))) := bD
        have K3 : Hid (W.heap[N + 1]? = some (.cells #[.bool false] 4 (0, 0))) := k3
        clear ia ib hZ bD nD hO g4 k3 SQ CELLS KEEP
        gi_wp2
        have hK : (W.setCell ⟨N + 1, 0, none⟩ (.bool true)).heap[D]? = some (.deferred (some [])) := (Go.Deep.blk_setCell_other _ _ _ _ (fun e => NN.out.2.2 e.symm)).trans BD.out
        have GF2 : Gw w (W.setCell ⟨N + 1, 0, none⟩ (.bool true)) := GF.out.setCell NN.out.1 _
        have B2 := blk_set (o := 0) K3.out (.bool true)
        refine ⟨by simp, .inl ⟨_, _, rfl, run_takeDeferred hK, ?_⟩⟩
        refine ⟨.bool true, ?_, rfl, ⟨GF2.below.trans (belowK_b (w := w) (Nat.le_refl _) _ D _ _ NN.out.2.1 hK rfl rfl)⟩⟩
        have CC : ((W.setCell ⟨N + 1, 0, none⟩ (.bool true)).putObj D (.deferred none)).cell? ⟨N + 1, 0, none⟩ = some (.bool true) := (World.cell?_of_block (a := ⟨N + 1, 0, none⟩) (World.putObj_heap_other NN.out.2.2)).trans (blkc B2 rfl)
        simp [results, Try.f4, go_sem, CC]
end Go.Proofs.Ythkahedhmfkhhaa
