/- Package script: commands written. -/
import Derived.Test.YtocnmdabilaccabDoorS2Txt
import Derived.Test.YtocnmdabilaccabDoorS2Bld
import Derived.Test.YtocnmdabilaccabDoorS2Num
import Derived.Test.YtocnmdabilaccabDoorS1Ref5
namespace Go.Proofs.YtocnmdabilaccabDoor
open Go.RowKit
set_option linter.unusedVariables false

/-- The words of a line up to number k. -/
def lw (c : Cd) (k : Nat) : List (List UInt8) := c.word :: (c.nums.take k).map (fun n => digits n.toNat)
theorem lw_step {c : Cd} {k : Nat} {n : Int} (h : c.nums[k]? = some n) : lw c (k + 1) = lw c k ++ [digits n.toNat] := by
  unfold lw
  rw [List.take_add_one, h]
  simp
theorem lw_len {c : Cd} {k : Nat} (h : k ≤ c.nums.length) : (lw c k).length = k + 1 := by
  simp [lw]; omega
theorem lw_join {c : Cd} {k : Nat} (h : c.nums.length ≤ k) : Lib.join (lw c k) [32] = lineOf c := by
  unfold lw lineOf
  rw [Lib.join_cons, List.take_of_length_le h]
  congr 1
  simp [Lib.joinTail, List.flatMap, List.map_map, Function.comp_def]
theorem nums_long : ∀ (ns : List Int), (∀ x ∈ ns, 0 ≤ x ∧ x < 18446744073709551616) → (ns.flatMap (fun n => 32 :: digits n.toNat)).length ≤ 21 * ns.length := by
  intro ns
  induction ns with
  | nil => intro _; simp
  | cons x ns ih =>
    intro h
    have h1 := ih (fun y hy => h y (List.mem_cons_of_mem _ hy))
    have h2 := h x List.mem_cons_self
    have h3 := digits_len20 (n := x.toNat) (by omega)
    simp only [List.flatMap_cons, List.length_append, List.length_cons]
    omega
set_option maxRecDepth 100000 in
set_option maxHeartbeats 8000000 in
theorem line_any (c : Cd) (bo : Option Addr) (cp : Nat) (w : World) (T : Tab w) (hw : c.word.length ≤ 5) (hn : c.nums.length ≤ 3) (h : KS w bo c.nums.length (fun j => c.nums.getD j 0)) :
    Calls Tryd.prog 17 #[.agg #[.string (Bs c.word), .slice bo c.nums.length cp]] w fun e w' => e = .returned (.string (Bs (lineOf c ++ [10]))) ∧ Gw w w' := by
  have KH : Hid (KS w bo c.nums.length (fun j => c.nums.getD j 0)) := h
  have TW : Hid (Tab w) := T
  have LL : (lineOf c).length ≤ 68 := by
    have := nums_long c.nums (fun x hx => by
      obtain ⟨j, hj, e⟩ := List.mem_iff_getElem.1 hx
      have := h.bd j hj
      have e3 : c.nums.getD j 0 = x := by simp [List.getD, hj, e]
      simp only [e3] at this
      exact this)
    unfold lineOf
    simp only [List.length_append]
    omega
  obtain ⟨m, hm⟩ : ∃ m, c.nums.length = m := ⟨_, rfl⟩
  have CM : Aside (c.nums.length = m) := hm
  obtain ⟨cw, hcw⟩ : ∃ cw, c.word = cw := ⟨_, rfl⟩
  have CW : Aside (c.word = cw) := hcw
  rw [hm] at hn ⊢
  rw [hcw]
  clear h hm T hw
  obtain ⟨ii, hii, hz, hsz, hby⟩ := info_parts info_text
  obtain ⟨N, hN⟩ : ∃ N, w.heap.size = N := ⟨_, rfl⟩
  obtain ⟨w1, E1⟩ : ∃ W, w.alloc (.cells #[.string (Bs cw), .slice bo m cp] 34) = W := ⟨_, rfl⟩
  have z1 : w1.heap.size = N + 1 := by rw [← E1]; simp [hN]
  have G1 : Hid (Gw w w1) := by rw [← E1]; exact (Gw.refl w).alloc _ _
  have B1 : Hid (w1.heap[N]? = some (.cells #[.string (Bs cw), .slice bo m cp] 34 (0, 0))) := by show _ = _; rw [← E1, ← hN]; exact heap_alloc_new _ _
  have E1H : Hid (w.alloc (.cells #[.string (Bs cw), .slice bo m cp] 34) = w1) := E1
  have NH : Hid (w.heap.size = N) := hN
  obtain ⟨w2, E2⟩ : ∃ W, w1.alloc (.cells #[.string (Bs cw)] 9) = W := ⟨_, rfl⟩
  have E2H : Hid (w1.alloc (.cells #[.string (Bs cw)] 9) = w2) := E2
  have G2 : Hid (Gw w1 w2) := by show Gw _ _; rw [← E2]; exact (Gw.refl _).alloc _ _
  have T2 : Hid (TXO w2 (N + 1) (.slice (some ⟨N + 1, 0, none⟩) 1 1) (lw c 0)) := by
    show TXO _ _ _ _
    unfold TXO
    rw [← E2, ← z1]
    have := World.ownsRow_lit (e := 9) (size := 1) w1 #[.string (Bs cw)] 1 (Nat.le_refl w1.heap.size) (by decide) rfl
    simpa [lw, txs, CW.out] using this
  have Z1 : Hid (w1.heap.size = N + 1) := z1
  have a0 : w1.cell? ⟨N, 0, none⟩ = some (.string (Bs cw)) := blkc B1.out rfl
  have a1 : w1.cell? ⟨N, 1, none⟩ = some (.slice bo m cp) := blkc B1.out rfl
  have bN : N < w1.heap.size := blkl B1.out
  clear E1 E2 hcw
  go_enter Tryd.func17, Tryd.ntmps17
  go_wp2_with fail
  rw [E1H.out]
  rw [E2H.out]
  go_loopg [3, 12] m (fun gg s3 s12 wr => ∃ (b cap k : Nat), s3 = .slice (some ⟨b, 0, none⟩) (k + 1) cap ∧ s12 = .int .i64 (k : Int) ∧ k ≤ m ∧ m - k ≤ gg ∧ Hid (TXO wr (N + 1) (.slice (some ⟨b, 0, none⟩) (k + 1) cap) (lw c k)) ∧ Hid (Gw w1 wr))
  case atStart => exact ⟨N + 1, 1, 0, rfl, rfl, Nat.zero_le _, by omega, T2, G2⟩
  case round =>
    obtain ⟨b, cap, k, rfl, rfl, hk, hg, TX, G⟩ := hrel
    have zr : N + 1 ≤ wr.heap.size := by have := G.out.size; have := Z1.out; omega
    by_cases klt : k < m
    · have klt' : (k : Int) < (m : Int) := by omega
      have kl : k < c.nums.length := by rw [CM.out]; exact klt
      have KW := KH.out.gw (G1.out.trans G.out)
      rw [CM.out] at KW
      obtain ⟨kb, kf, rfl, _, kc⟩ := KW.cells (by omega)
      have kck := kc k klt
      have kbd := KW.bd k klt
      have kg : c.nums.getD k 0 = c.nums[k] := by simp [List.getD, kl]
      obtain ⟨x, hx⟩ : ∃ x, c.nums.getD k 0 = x := ⟨_, rfl⟩
      simp only [hx] at kck kbd
      have LS : Aside (lw c (k + 1) = lw c k ++ [digits x.toNat]) := lw_step (by rw [← hx, kg]; exact List.getElem?_eq_getElem kl)
      have LN : Hid ((lw c k).length = k + 1) := lw_len (by omega)
      have D : Hid (Calls Tryd.prog 23 #[.int .u64 x] wr fun e w' => e = .returned (.string (Bs (digits x.toNat))) ∧ Gw wr w') := digits_any x kbd.1 kbd.2 wr (TW.out.gw (G1.out.trans G.out))
      obtain ⟨S, hS⟩ : ∃ S, digits x.toNat = S := ⟨_, rfl⟩
      rw [hS] at LS D
      clear KW kc kg hx hS
      go_wp2_with (go_at_call 23; fail)
      refine D.out.mono ?_
      rintro e w3 ⟨rfl, g3⟩
      have G3 : Hid (Gw w1 w3) := G.out.trans g3
      have T3 : Hid (w3.ownsRow (N + 1) 9 1 (.slice (some ⟨b, 0, none⟩) (k + 1) cap) (k + 1) (txs (lw c k))) := by have := TX.out.gw g3; unfold TXO at this; rw [LN.out] at this; exact this
      have z3 : N + 1 ≤ w3.heap.size := by have := g3.size; omega
      clear g3 D kck TX G
      go_wp2_with (at_builtin; refine wpList_append_own _ rfl _ _ 49 rfl (N + 1) 9 ii (.string (Bs [])) 1 16 Tryd.underlying49 hii hz hsz hby rfl (by decide) _ (k + 1) _ rfl (T3.out.alloc _) ⟨w3.heap.size, 0, none⟩ 1 1 [.string (Bs S)] rfl rfl (new_text w3 S) (txs_one [S]) (by simp only [maxLen]; omega) (by omega) (by simp; omega) ?_)
      intro v' w5 r1 r2 r3
      obtain ⟨b5, cap5, rfl, hb5, _, _⟩ := own_slice r1 (by simpa using r3)
      have T5 : Hid (TXO w5 (N + 1) (.slice (some ⟨b5, 0, none⟩) (k + 1 + 1) cap5) (lw c (k + 1))) := by rw [LS.out]; exact TXO.more (by rw [LN.out]; exact r1)
      have G5 : Hid (Gw w1 w5) := (G3.out.alloc _ _).grown r2 (fun q hq => by have := (World.ownsRow.lt T3.out q hq).1; rw [Z1.out]; exact this)
      clear r1 r2 r3
      go_wp2_with fail
      go_roundg (m - (k + 1))
      case measure => omega
      case rel => exact ⟨b5, cap5, k + 1, rfl, by go_num, by omega, Nat.le_refl _, T5, G5⟩
    · have ke : k = m := by omega
      subst ke
      have LN : Hid ((lw c k).length = k + 1) := lw_len (by rw [CM.out]; exact Nat.le_refl _)
      have JN : Aside (Lib.join (lw c k) [32] = lineOf c) := lw_join (by rw [CM.out]; exact Nat.le_refl _)
      have TXL := TX.out
      have BL := (World.ownsRow.lt TXL b rfl)
      have CP : k + 1 ≤ cap := by
        have := TXL
        unfold TXO at this
        rw [LN.out] at this
        rcases this.2 with ⟨e, _⟩ | ⟨_, _, _, e, _, _, r, _⟩
        · cases e
        · cases e; exact r
      have MP : ((lw c k).map Bs).map (·.data.toList) = lw c k := by
        rw [List.map_map]
        conv => rhs; rw [← List.map_id (lw c k)]
        congr 1
      have JO : Hid (Calls Tryd.prog 34 #[.slice (some ⟨b, 0, none⟩) (k + 1) cap, .string (Bs [32])] wr fun e w' => e = .returned (.string (Bs (lineOf c))) ∧ Gw wr w') := by
        have := Tryd.strings_Join b 0 cap ((lw c k).map Bs) (Bs [32]) wr (fun j x hx => by
          rw [Nat.zero_add]
          simp only [List.getElem?_map, Option.map_eq_some_iff] at hx
          obtain ⟨l, hl, rfl⟩ := hx
          exact TXL.cell LN.out.symm hl) BL.2 (by rw [List.length_map, LN.out]; omega) (by rw [List.length_map, LN.out]; exact CP) (by
            rw [MP]
            show (Lib.join (lw c k) [32]).length ≤ _
            rw [JN.out]; omega)
        rw [List.length_map, LN.out, MP] at this
        refine this.mono ?_
        rintro e w' ⟨he, hb⟩
        refine ⟨?_, ⟨hb⟩⟩
        rw [he]
        show Ending.returned (.string ⟨(Lib.join (lw c k) [32]).toArray⟩) = _
        rw [JN.out]
        rfl
      obtain ⟨S, hS⟩ : ∃ S, lineOf c = S := ⟨_, rfl⟩
      have SH : Aside (lineOf c = S) := hS
      rw [hS] at JO LL
      clear TXL BL CP MP hS TX
      go_wp2_with (go_at_call 34; fail)
      refine JO.out.mono ?_
      rintro e w7 ⟨rfl, g7⟩
      have G7 : Hid (Gw w w7) := G1.out.trans (G.out.trans g7)
      clear g7 JO
      go_wp2_with fail
      refine bodyPost_ret (v := .string (Bs (S ++ [10]))) (by simp [results, Tryd.results17, go_sem]) rfl ⟨by rw [SH.out], G7.out⟩
theorem chk_zeroW {l : List UInt8} {n : Nat} : chkW l n = 0 ↔ takes l = (n : Int) := by
  unfold chkW
  constructor
  · intro h
    split at h
    · omega
    · split at h
      · omega
      · rename_i q; exact Decidable.of_not_not q
  · intro h
    rw [if_neg (by omega), if_neg (fun q => q h)]
theorem chk_next {L : List Cd} {i : Nat} {c : Cd} (h : L[i]? = some c) : chk (L.drop i) = if chkW c.word c.nums.length = 0 then chk (L.drop (i + 1)) else chkW c.word c.nums.length := by
  rw [chk_step h]
  unfold chkW
  split
  · rw [if_neg (by decide)]
  · split
    · rw [if_neg (by decide)]
    · rw [if_pos rfl]
set_option maxRecDepth 100000 in
set_option maxHeartbeats 8000000 in
theorem print_any (ao : Option Addr) (cp : Nat) (L : List Cd) (w : World) (hl : L.length ≤ 2000000) (hn : ∀ c ∈ L, c.nums.length ≤ 2000000) (h : CS w ao L) (T : Tab w) :
    Calls Tryd.prog 8 #[.slice ao L.length cp] w fun e w' => e = .returned (.tuple #[.string (Bs (print L).1), .int .i64 (print L).2]) ∧ Gw w w' := by
  have CSH : Hid (CS w ao L) := h
  have TW : Hid (Tab w) := T
  have HN : Hid (∀ c ∈ L, c.nums.length ≤ 2000000) := hn
  obtain ⟨n, hln⟩ : ∃ n, L.length = n := ⟨_, rfl⟩
  have LN : Aside (L.length = n) := hln
  rw [hln] at hl ⊢
  clear h hn hln T
  by_cases q0 : 4096 < n
  · have PE : Aside (print L = ([], 210)) := by show _ = _; unfold print; rw [if_pos (by rw [LN.out]; exact q0)]
    have q0' : (4096 : Int) < (n : Int) := by omega
    go_enter Tryd.func8, Tryd.ntmps8
    go_wp2_with fail
    exact bodyPost_ret (v := .tuple #[.string (Bs []), .int .i64 210]) (by simp [results, Tryd.results8, go_sem]) rfl ⟨by rw [PE.out], Gw.refl w⟩
  have P0 : Hid (¬ 4096 < L.length) := by show ¬ _; rw [LN.out]; exact q0
  have q0' : ¬ (4096 : Int) < (n : Int) := by omega
  obtain ⟨B, hB⟩ : ∃ B, w.heap.size = B := ⟨_, rfl⟩
  obtain ⟨w1, E1⟩ : ∃ W, w.alloc (.cells #[.pointer none, .slice none 0 0] 55) = W := ⟨_, rfl⟩
  have B1 : Hid (BB w1 B B []) := by rw [← E1, ← hB]; exact BB.new w
  have G1 : Hid (Gw w w1) := by rw [← E1]; exact (Gw.refl w).alloc _ _
  have E1H : Hid (w.alloc (.cells #[.pointer none, .slice none 0 0] 55) = w1) := E1
  have BH : Hid (w.heap.size = B) := hB
  clear E1
  go_enter Tryd.func8, Tryd.ntmps8
  go_wp2_with fail
  rw [E1H.out]
  go_loopg [13] n (fun gg s13 wr => ∃ (i : Nat) (S : List UInt8), s13 = .int .i64 (i : Int) ∧ i ≤ n ∧ n - i ≤ gg ∧ S.length ≤ 69 * i ∧ Aside (S = text (L.take i)) ∧ Aside (chk L = chk (L.drop i)) ∧ Hid (BB wr B B S) ∧ Hid (Gw w wr))
  case atStart => exact ⟨0, [], rfl, Nat.zero_le _, by omega, by simp, (by show _ = _; simp [text]), (by show _ = _; simp), B1, G1⟩
  case round =>
    obtain ⟨i, S, rfl, hi, hg, sl, SE, CK, BR, G⟩ := hrel
    have zr : B ≤ wr.heap.size := by have := G.out.size; rw [BH.out] at this; exact this
    by_cases ilt : i < n
    · have ilt' : (i : Int) < (n : Int) := by omega
      have il : i < L.length := by rw [LN.out]; exact ilt
      obtain ⟨c, hc⟩ : ∃ c, L[i]? = some c := ⟨L[i], List.getElem?_eq_getElem il⟩
      obtain ⟨b, off, rfl, hb, hcc⟩ := (CSH.out.gw G.out).cells (by omega)
      obtain ⟨bo, bc, d0, d1, d2, _⟩ := hcc i c hc
      have D2 : Hid (KS wr bo c.nums.length (fun j => c.nums.getD j 0)) := d2
      have CS1 : Aside (chk L = _) := CK.out.trans (chk_next hc)
      have mb : c.nums.length ≤ 2000000 := HN.out c (List.mem_of_getElem? hc)
      have TX : Aside (text (L.take (i + 1)) = S ++ (lineOf c ++ [10])) := by show _ = _; rw [text_take hc, ← SE.out]
      have CH : Hid (∀ W, Calls Tryd.prog 15 #[.string (Bs c.word), .int .i64 (c.nums.length : Int)] W fun e w' => e = .returned (.int .i64 (chkW c.word c.nums.length)) ∧ w' = W) := check_any c.word c.nums.length (by omega)
      have LI : Hid (chkW c.word c.nums.length = 0 → ∀ W, Gw wr W → Calls Tryd.prog 17 #[.agg #[.string (Bs c.word), .slice bo c.nums.length bc]] W fun e w' => (e = .returned (.string (Bs (lineOf c ++ [10]))) ∧ Gw W w')) := fun q W g => by
        have t := chk_zeroW.1 q
        have tb := takes_bd c.word
        exact line_any c bo bc W (TW.out.gw (G.out.trans g)) (takes_len (by omega)) (by omega) (D2.out.gw g)
      have LL : Hid (chkW c.word c.nums.length = 0 → (lineOf c).length ≤ 68) := fun q => by
        have t := chk_zeroW.1 q
        have tb := takes_bd c.word
        have h1 := nums_long c.nums (fun x hx => by
          obtain ⟨j, hj, e⟩ := List.mem_iff_getElem.1 hx
          have := D2.out.bd j hj
          have e3 : c.nums.getD j 0 = x := by simp [List.getD, hj, e]
          simp only [e3] at this
          exact this)
        have h2 := takes_len (l := c.word) (by omega)
        unfold lineOf
        simp only [List.length_append]
        omega
      obtain ⟨ck, hck⟩ : ∃ ck, chkW c.word c.nums.length = ck := ⟨_, rfl⟩
      obtain ⟨m, hm⟩ : ∃ m, c.nums.length = m := ⟨_, rfl⟩
      obtain ⟨cw, hcw⟩ : ∃ cw, c.word = cw := ⟨_, rfl⟩
      obtain ⟨Z, hZ⟩ : ∃ Z, lineOf c = Z := ⟨_, rfl⟩
      rw [hck] at CS1 CH LI LL
      rw [hm, hcw] at CH LI
      rw [hm] at d1 mb
      rw [hcw] at d0
      rw [hZ] at TX LI LL
      obtain ⟨w4, E4⟩ : ∃ W, wr.alloc (.cells #[.string (Bs cw), .slice bo m bc] 34) = W := ⟨_, rfl⟩
      have E4H : Hid (wr.alloc (.cells #[.string (Bs cw), .slice bo m bc] 34) = w4) := E4
      have g4 : Gw wr w4 := by rw [← E4]; exact (Gw.refl _).alloc _ _
      have G4 : Hid (Gw wr w4) := g4
      have B4 : Hid (BB w4 B B S) := BR.out.gw g4
      have C4 : Hid (w4.heap[wr.heap.size]? = some (.cells #[.string (Bs cw), .slice bo m bc] 34 (0, 0))) := by show _ = _; rw [← E4]; exact heap_alloc_new _ _
      obtain ⟨CB, hCB⟩ : ∃ CB, wr.heap.size = CB := ⟨_, rfl⟩
      rw [hCB] at C4
      have k0 : w4.cell? ⟨CB, 0, none⟩ = some (.string (Bs cw)) := blkc C4.out rfl
      have k1 : w4.cell? ⟨CB, 1, none⟩ = some (.slice bo m bc) := blkc C4.out rfl
      clear hck hm hcw hZ hc hcc d2 D2 CK E4 g4 C4
      go_wp2_with (go_at_call 15; fail)
      rw [E4H.out]
      refine (CH.out _).mono ?_
      rintro e w' ⟨rfl, hw⟩
      obtain rfl := hw.symm
      clear hw
      by_cases q1 : ck = 0
      · have CE : Aside (chk L = chk (L.drop (i + 1))) := by have := CS1.out; rw [if_pos q1] at this; exact this
        have LZ := LL.out q1
        have LC := LI.out q1 w4 G4.out
        have LCH : Hid _ := LC
        subst q1
        clear LC
        go_wp2_with (go_at_call 17; fail)
        refine Calls.mono LCH.out ?_
        rintro e w5 ⟨rfl, g5⟩
        have G5 : Hid (Gw w w5) := (G.out.trans G4.out).trans g5
        have B5 : Hid (BB w5 B B S) := B4.out.gw g5
        have z5 : B ≤ w5.heap.size := by have := G5.out.size; rw [BH.out] at this; exact this
        clear g5 LCH LL LI CH CS1 k0 k1 d0 d1
        go_wp2_with (go_at_call 16; fail)
        refine (write_any B B S (Z ++ [10]) w5 B5.out (by simp; omega) z5).mono ?_
        rintro e w6 ⟨rfl, b6, g6⟩
        have G6 : Hid (Gw w w6) := G5.out.low g6 (by rw [BH.out]; exact Nat.le_refl _)
        have B6 : Hid (BB w6 B B (S ++ (Z ++ [10]))) := b6
        clear g6 b6 B5 G5 z5
        go_wp2_with fail
        go_roundg (n - (i + 1))
        case measure => omega
        case rel => exact ⟨i + 1, S ++ (Z ++ [10]), by go_num, by omega, Nat.le_refl _, by simp; omega, (by show _ = _; rw [TX.out]), CE, B6, G6⟩
      · have q1' : (ck == 0) = false := by simp [q1]
        have CE : Aside (chk L = ck) := by have := CS1.out; rw [if_neg q1] at this; exact this
        have PE : Aside (print L = ([], ck)) := by show _ = _; unfold print; rw [if_neg P0.out, CE.out, if_pos q1]
        clear q1
        go_wp2_with fail
        exact bodyPost_ret (v := .tuple #[.string (Bs []), .int .i64 ck]) (by simp [results, Tryd.results8, go_sem]) rfl ⟨by rw [PE.out], G.out.trans G4.out⟩
    · have C0 : Hid (chk L = 0) := by
        have := CK.out
        rw [List.drop_eq_nil_of_le (by rw [LN.out]; omega)] at this
        exact this
      have ST : Aside (S = text L) := by show _ = _; rw [SE.out, List.take_of_length_le (by rw [LN.out]; omega)]
      go_wp2_with (go_at_call 18; fail)
      refine (len_any B B S wr BR.out).mono ?_
      rintro e w' ⟨rfl, hw⟩
      obtain rfl := hw.symm
      clear hw
      by_cases big : 65536 < S.length
      · have big' : (65536 : Int) < (S.length : Int) := by omega
        have PE : Aside (print L = ([], 210)) := by
          show _ = _
          unfold print
          rw [if_neg P0.out, if_neg (by rw [C0.out]; simp), ← ST.out, if_pos big]
        go_wp2_with fail
        exact bodyPost_ret (v := .tuple #[.string (Bs []), .int .i64 210]) (by simp [results, Tryd.results8, go_sem]) rfl ⟨by rw [PE.out], G.out⟩
      · have big' : ¬ (65536 : Int) < (S.length : Int) := by omega
        have PE : Aside (print L = (S, 0)) := by
          show _ = _
          unfold print
          rw [if_neg P0.out, if_neg (by rw [C0.out]; simp), ← ST.out, if_neg big]
        go_wp2_with (go_at_call 19; fail)
        refine (string_any B B S wr BR.out zr).mono ?_
        rintro e w7 ⟨rfl, g7⟩
        have G7 : Hid (Gw w w7) := G.out.low g7 (by rw [BH.out]; exact Nat.le_refl _)
        clear g7
        go_wp2_with fail
        exact bodyPost_ret (v := .tuple #[.string (Bs S), .int .i64 0]) (by simp [results, Tryd.results8, go_sem]) rfl ⟨by rw [PE.out], G7.out⟩
end Go.Proofs.YtocnmdabilaccabDoor
