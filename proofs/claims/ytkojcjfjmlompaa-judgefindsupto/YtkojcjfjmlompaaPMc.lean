import Derived.Test.YtkojcjfjmlompaaS3Law
import Derived.Deep.LoopGhost
import Derived.Deep.QuietTactic
import Derived.BigQuiet
import Derived.Test.YtkojcjfjmlompaaS3Row
import Derived.Deep.CutBlock
/- The library's Equal of two lists of pairs. -/
namespace Go.Proofs.Ytkojcjfjmlompaa
open Go.RowKit
set_option linter.unusedVariables false

theorem pl_at23 {w : World} {ao : Option Addr} {L : Ps} (h : PLr w ao L) {i : Nat} {p : Int × Int} (hp : L[i]? = some p) : ∃ b off, ao = some ⟨b, off, none⟩ ∧ b < w.heap.size ∧ w.cell? ⟨b, off + i * 2, none⟩ = some (.int .u64 p.1) ∧ w.cell? ⟨b, off + i * 2 + 1, none⟩ = some (.int .u64 p.2) := by
  obtain ⟨b, off, e, hb, hc⟩ := h.cells (Nat.lt_of_le_of_lt (Nat.zero_le _) (List.getElem?_eq_some_iff.1 hp).1)
  have h0 := hc i p hp 0 _ rfl
  have h1 := hc i p hp 1 _ rfl
  rw [Nat.add_zero] at h0
  exact ⟨b, off, e, hb, h0, h1⟩
theorem neq_p (a b c d : Int) (W : World) : (binOp .neq 44 (.agg #[.int .u64 a, .int .u64 b]) (.agg #[.int .u64 c, .int .u64 d])).run Try.prog W = .ok (.bool (!(a == c && b == d))) W := by
  by_cases h1 : a = c <;> by_cases h2 : b = d <;> simp [go_sem, h1, h2]
set_option maxRecDepth 100000 in
set_option maxHeartbeats 4000000 in
theorem equal23 (ao bo : Option Addr) (ca cb : Nat) (L1 L2 : Ps) (hl : L1.length ≤ 4000000) (w : World) (h1 : PLr w ao L1) (h2 : PLr w bo L2) :
    Calls Try.prog 26 #[.slice ao L1.length ca, .slice bo L2.length cb] w fun e w' => e = .returned (.bool (decide (L1 = L2))) ∧ Gw w w' := by
  obtain ⟨n, hn⟩ : ∃ n, L1.length = n := ⟨_, rfl⟩
  obtain ⟨m, hm⟩ : ∃ m, L2.length = m := ⟨_, rfl⟩
  have NM : Aside (L1.length = n ∧ L2.length = m) := ⟨hn, hm⟩
  have P1 : Aside (PLr w ao L1) := h1
  have P2 : Aside (PLr w bo L2) := h2
  rw [hn] at hl
  rw [hn, hm]
  clear hn hm h1 h2
  by_cases nm : n = m
  · subst nm
    have nm' : ((n : Int) != (n : Int)) = false := by simp
    go_enter Try.func26, Try.ntmps26
    go_wp2_with fail
    go_loopg [5, 13] n (fun gg s5 s13 wr => ∃ i : Nat, s13 = .int .i64 (i : Int) ∧ i ≤ n ∧ n - i ≤ gg ∧ Aside (∀ j, j < i → L1[j]? = L2[j]?) ∧ Aside (Gw w wr))
    case atStart => exact ⟨0, rfl, Nat.zero_le _, Nat.le_refl _, (show Aside _ from fun j hj => by omega), (show Aside _ from Gw.refl _)⟩
    case round =>
      obtain ⟨i, rfl, i1, i2, EQ, GG⟩ := hrel
      by_cases il : i < n
      · have il' : decide ((i : Int) < (n : Int)) = true := by simpa using il
        obtain ⟨p, hp⟩ : ∃ p, L1[i]? = some p := ⟨_, List.getElem?_eq_getElem (by have := NM.out.1; omega)⟩
        obtain ⟨q, hq⟩ : ∃ q, L2[i]? = some q := ⟨_, List.getElem?_eq_getElem (by have := NM.out.2; omega)⟩
        obtain ⟨b1, o1, rfl, _, c0, c1⟩ := pl_at23 (P1.out.gw GG.out) hp
        obtain ⟨b2, o2, rfl, _, d0, d1⟩ := pl_at23 (P2.out.gw GG.out) hq
        have wi : IntKind.i64.wrap ((i : Int) + 1) = ((i + 1 : Nat) : Int) := by rw [IntKind.wrap_i64]; omega
        have HP : Aside (L1[i]? = some p ∧ L2[i]? = some q) := ⟨hp, hq⟩
        obtain ⟨p1, p2⟩ := p
        obtain ⟨q1, q2⟩ := q
        dsimp only at c0 c1 d0 d1
        obtain ⟨t, ht⟩ : ∃ t, (!(p1 == q1 && p2 == q2)) = t := ⟨_, rfl⟩
        have NQ := neq_p p1 p2 q1 q2
        rw [ht] at NQ
        have HT : Aside ((!(p1 == q1 && p2 == q2)) = t) := ht
        clear hp hq ht
        cases t with
        | true =>
          have NE : Aside (decide (L1 = L2) = false) := by
            show _ = _
            rw [decide_eq_false_iff_not]
            intro e
            have h := HP.out
            rw [e] at h
            have := Option.some.inj (h.1.symm.trans h.2)
            cases this
            have := HT.out
            simp at this
          go_wp2_with fail
          go_quiet (fail)
          go_wp2_with fail
          refine bodyPost_ret (v := .bool false) (by simp [results, Try.results26, go_sem]) rfl ⟨by rw [NE.out], GG.out.drewN _⟩
        | false =>
          have PQ : Aside (p1 = q1 ∧ p2 = q2) := by
            have := HT.out
            show _ ∧ _
            simpa using this
          go_wp2_with fail
          go_quiet (fail)
          go_wp2_with fail
          go_roundg (n - (i + 1))
          case measure => omega
          case rel => exact ⟨i + 1, rfl, by omega, Nat.le_refl _, (show Aside _ from fun j hj => by
            by_cases e : j = i
            · subst e; rw [HP.out.1, HP.out.2, PQ.out.1, PQ.out.2]
            · exact EQ.out j (by omega)), (show Aside _ from GG.out.drewN _)⟩
      · have il' : decide ((i : Int) < (n : Int)) = false := by simpa using il
        obtain rfl : i = n := by omega
        have NE : Aside (decide (L1 = L2) = true) := by
          show _ = _
          rw [decide_eq_true_eq]
          refine List.ext_getElem? fun j => ?_
          by_cases jl : j < i
          · exact EQ.out j jl
          · rw [List.getElem?_eq_none (by have := NM.out.1; omega), List.getElem?_eq_none (by have := NM.out.2; omega)]
        go_wp2_with fail
        refine bodyPost_ret (v := .bool true) (by simp [results, Try.results26, go_sem]) rfl ⟨by rw [NE.out], GG.out⟩
  · have nm' : ((n : Int) != (m : Int)) = true := by simp; omega
    have NE : Aside (decide (L1 = L2) = false) := by
      show _ = _
      rw [decide_eq_false_iff_not]
      intro e
      have := NM.out
      rw [e] at this
      omega
    go_enter Try.func26, Try.ntmps26
    go_wp2_with fail
    refine bodyPost_ret (v := .bool false) (by simp [results, Try.results26, go_sem]) rfl ⟨by rw [NE.out], Gw.refl _⟩
end Go.Proofs.Ytkojcjfjmlompaa

/- Package judge: which rules an answer breaks. -/
namespace Go.Proofs.Ytkojcjfjmlompaa
open Go.RowKit
set_option linter.unusedVariables false

theorem info_i23 : (Try.prog.info? 3).map (fun i => (i.zero, i.size, i.bytes)) = some (some (.int .i64 0), 1, 8) := by kernel_rfl
/-- A row of rules of a call's own. -/
def RuI (w : World) (base : Nat) (v : Value) (L : List Int) : Prop := w.ownsRow base 3 1 v L.length (L.map (Value.int .i64))
theorem RuI.gw {w w' : World} {base : Nat} {v : Value} {L : List Int} (h : RuI w base v L) (g : Gw w w') : RuI w' base v L := own_keep3 h (Nat.le_refl _) (fun q hq => g.below.block q (World.ownsRow.lt h q hq).2)
set_option maxRecDepth 100000 in
set_option maxHeartbeats 8000000 in
theorem broken23 (Wc Wk Wv Wn Ac Ak Av An : Int) (Wi Ai : Bool) (wo ao : Option Addr) (cw ca : Nat) (WL AL : Ps) (hwl : WL.length ≤ 4000000) (hal : AL.length ≤ 4000000) (w : World) (hw : PLr w wo WL) (ha : PLr w ao AL) :
    Calls Try.prog 20 #[.agg #[.int .i64 Wc, .bool Wi, .int .u64 Wk, .int .u64 Wv, .int .i64 Wn, .slice wo WL.length cw], .agg #[.int .i64 Ac, .bool Ai, .int .u64 Ak, .int .u64 Av, .int .i64 An, .slice ao AL.length ca]] w fun e w' => (∃ v, e = .returned v ∧ RuI w' w.heap.size v (seeP ⟨Wc, Wi, Wk, Wv, Wn, WL⟩ ⟨Ac, Ai, Ak, Av, An, AL⟩)) ∧ Gw w w' := by
  obtain ⟨ii, hii, hz, hs, hby⟩ := info_parts info_i23
  obtain ⟨wl, hwl'⟩ : ∃ wl, WL.length = wl := ⟨_, rfl⟩
  obtain ⟨al, hal'⟩ : ∃ al, AL.length = al := ⟨_, rfl⟩
  obtain ⟨b0, hb0⟩ : ∃ b0, w.heap.size = b0 := ⟨_, rfl⟩
  obtain ⟨V, hV⟩ : ∃ V, (w.alloc (.cells #[.int .i64 Wc, .bool Wi, .int .u64 Wk, .int .u64 Wv, .int .i64 Wn, .slice wo wl cw] 36)).alloc (.cells #[.int .i64 Ac, .bool Ai, .int .u64 Ak, .int .u64 Av, .int .i64 An, .slice ao al ca] 36) = V := ⟨_, rfl⟩
  have GV : Aside (Gw w V) := by rw [← hV]; exact ((Gw.refl w).alloc _ _).alloc _ _
  have BX : Aside (V.heap[b0]? = some (.cells #[.int .i64 Wc, .bool Wi, .int .u64 Wk, .int .u64 Wv, .int .i64 Wn, .slice wo wl cw] 36 (0, 0)) ∧ V.heap[b0 + 1]? = some (.cells #[.int .i64 Ac, .bool Ai, .int .u64 Ak, .int .u64 Av, .int .i64 An, .slice ao al ca] 36 (0, 0)) ∧ V.heap.size = b0 + 2) := by
    rw [← hV, ← hb0]
    refine ⟨?_, ?_, by simp⟩
    · rw [heap_alloc_old _ _ (by simp)]
      exact heap_alloc_new w _
    · have := heap_alloc_new (w.alloc (.cells #[.int .i64 Wc, .bool Wi, .int .u64 Wk, .int .u64 Wv, .int .i64 Wn, .slice wo wl cw] 36)) (.cells #[.int .i64 Ac, .bool Ai, .int .u64 Ak, .int .u64 Av, .int .i64 An, .slice ao al ca] 36)
      simpa using this
  have EQ : Hid (∀ W, Gw w W → Calls Try.prog 26 #[.slice ao al ca, .slice wo wl cw] W fun e w' => e = .returned (.bool (decide (AL = WL))) ∧ Gw W w') := fun W g => by
    have := equal23 ao wo ca cw AL WL hal W (ha.gw g) (hw.gw g)
    rw [hal', hwl'] at this
    exact this
  rw [hwl', hal', hb0]
  obtain ⟨L1, h1⟩ : ∃ L1 : List Int, (if Ac = Wc then [] else [1]) = L1 := ⟨_, rfl⟩
  obtain ⟨L2, h2⟩ : ∃ L2 : List Int, L1 ++ (if Ai = Wi then [] else [2]) = L2 := ⟨_, rfl⟩
  obtain ⟨L3, h3⟩ : ∃ L3 : List Int, L2 ++ (if Ak = Wk ∧ Av = Wv then [] else [3]) = L3 := ⟨_, rfl⟩
  obtain ⟨L4, h4⟩ : ∃ L4 : List Int, L3 ++ (if An = Wn then [] else [4]) = L4 := ⟨_, rfl⟩
  obtain ⟨L5, h5⟩ : ∃ L5 : List Int, L4 ++ (if AL = WL then [] else [5]) = L5 := ⟨_, rfl⟩
  have SE : seeP ⟨Wc, Wi, Wk, Wv, Wn, WL⟩ ⟨Ac, Ai, Ak, Av, An, AL⟩ = L5 := by
    rw [← h5, ← h4, ← h3, ← h2, ← h1]
    unfold seeP
    simp only [List.append_assoc]
  rw [SE]
  have lens : Aside (L1.length ≤ 1 ∧ L2.length ≤ 2 ∧ L3.length ≤ 3 ∧ L4.length ≤ 4) := by
    have l1 : L1.length ≤ 1 := by rw [← h1]; split <;> simp
    have l2 : L2.length ≤ 2 := by rw [← h2]; split <;> simp <;> omega
    have l3 : L3.length ≤ 3 := by rw [← h3]; split <;> simp <;> omega
    have l4 : L4.length ≤ 4 := by rw [← h4]; split <;> simp <;> omega
    exact ⟨l1, l2, l3, l4⟩
  have HH : Aside ((([] : List Int) ++ (if Ac = Wc then [] else [1]) = L1) ∧ L1 ++ (if Ai = Wi then [] else [2]) = L2 ∧ L2 ++ (if Ak = Wk ∧ Av = Wv then [] else [3]) = L3 ∧ L3 ++ (if An = Wn then [] else [4]) = L4 ∧ L4 ++ (if AL = WL then [] else [5]) = L5) := ⟨h1, h2, h3, h4, h5⟩
  have HV : Aside ((w.alloc (.cells #[.int .i64 Wc, .bool Wi, .int .u64 Wk, .int .u64 Wv, .int .i64 Wn, .slice wo wl cw] 36)).alloc (.cells #[.int .i64 Ac, .bool Ai, .int .u64 Ak, .int .u64 Av, .int .i64 An, .slice ao al ca] 36) = V) := hV
  have HB : Aside (w.heap.size = b0) := hb0
  clear h1 h2 h3 h4 h5 SE hV hb0 hwl' hal' hw ha hwl hal
  go_enter Try.func20, Try.ntmps20
  go_upto_region 2 with fail
  rw [HV.out, HB.out]
  have R0 : Aside (RuI V (b0 + 2) (.slice none 0 0) []) := World.ownsRow_nil _ _ _ _
  have G0 : Aside (Gw V V) := Gw.refl V
  have w0 : V.cell? ⟨b0, 0, none⟩ = some (.int .i64 Wc) := (G0.out.cell _ _ (blkl BX.out.1)).trans (blkc BX.out.1 rfl)
  have a0 : V.cell? ⟨b0 + 1, 0, none⟩ = some (.int .i64 Ac) := (G0.out.cell _ _ (blkl BX.out.2.1)).trans (blkc BX.out.2.1 rfl)
  go_upto_if 10 with fail
  go_cut [5] (fun s5 wc => ∃ v, v = s5 ∧ Aside (RuI wc (b0 + 2) v L1) ∧ Aside (Gw V wc))
  case first =>
    by_cases e : Ac = Wc
    · have e' : (Ac != Wc) = false := by simp [e]
      have EE : Aside (Ac = Wc) := e
      clear e
      go_wp2_with fail
      go_meet
      case rel => exact ⟨_, rfl, (show Aside _ from by have eh := HH.out.1; rw [if_pos EE.out, List.append_nil] at eh; rw [← eh]; exact R0.out), G0⟩
    · have e' : (Ac != Wc) = true := by simp [e]
      have EE : Aside (¬ Ac = Wc) := e
      clear e
      go_wp2_with (at_builtin; refine wpList_append_own _ rfl _ _ 39 rfl (b0 + 2) 3 ii (.int .i64 0) 1 8 Try.underlying39 hii hz hs hby rfl (by decide) _ ([] : List Int).length _ rfl (World.ownsRow.alloc R0.out _) ⟨V.heap.size, 0, none⟩ 1 1 [.int .i64 1] rfl rfl (newc V #[.int .i64 1] 3) (ints_oneCell .i64 [1]) (by have := lens.out; simp only [maxLen]; (try simp only [List.length_nil]); omega) (by have := lens.out; (try simp only [List.length_nil]); omega) (by have := (G0.out.alloc #[.int .i64 1] 3).size; have := BX.out.2.2; omega) ?_)
      intro v' w3 q1 q2 q3
      have R9 : Aside (RuI w3 (b0 + 2) v' L1) := by
        have eh := HH.out.1
        rw [if_neg EE.out] at eh
        rw [← eh]
        unfold RuI
        rw [List.length_append, List.map_append]
        exact q1
      have G9 : Aside (Gw V w3) := (G0.out.alloc _ _).grown q2 (fun j e => by have := (World.ownsRow.lt R0.out j e).1; have := BX.out.2.2; omega)
      clear q1 q2 q3
      go_wp2_with fail
      go_meet
      case rel => exact ⟨_, rfl, R9, G9⟩
  case rest =>
    obtain ⟨v, rfl, R1, G1⟩ := hcut
    obtain ⟨W1, hwx⟩ : ∃ wx, wx = wc := ⟨_, rfl⟩
    subst hwx
    clear w0 a0
    have w1 : W1.cell? ⟨b0, 1, none⟩ = some (.bool Wi) := (G1.out.cell _ _ (blkl BX.out.1)).trans (blkc BX.out.1 rfl)
    have a1 : W1.cell? ⟨b0 + 1, 1, none⟩ = some (.bool Ai) := (G1.out.cell _ _ (blkl BX.out.2.1)).trans (blkc BX.out.2.1 rfl)
    go_upto_if 18 with fail
    go_cut [5] (fun s5 wc => ∃ v, v = s5 ∧ Aside (RuI wc (b0 + 2) v L2) ∧ Aside (Gw V wc))
    case first =>
      cases Ai with
      | false =>
        cases Wi with
        | false =>
          have R12 : Aside (RuI W1 (b0 + 2) v L2) := by
            have eh := HH.out.2.1
            rw [if_pos rfl, List.append_nil] at eh
            rw [← eh]
            exact R1.out
          go_wp2_with fail
          go_meet
          case rel => exact ⟨_, rfl, R12, G1⟩
        | true =>
          have E2 : Aside (L1 ++ [2] = L2) := by
            have eh := HH.out.2.1
            rw [if_neg (by decide)] at eh
            exact eh
          go_wp2_with (at_builtin; refine wpList_append_own _ rfl _ _ 39 rfl (b0 + 2) 3 ii (.int .i64 0) 1 8 Try.underlying39 hii hz hs hby rfl (by decide) _ L1.length _ rfl (World.ownsRow.alloc R1.out _) ⟨W1.heap.size, 0, none⟩ 1 1 [.int .i64 2] rfl rfl (newc W1 #[.int .i64 2] 3) (ints_oneCell .i64 [2]) (by have := lens.out; simp only [maxLen]; (try simp only [List.length_nil]); omega) (by have := lens.out; (try simp only [List.length_nil]); omega) (by have := (G1.out.alloc #[.int .i64 2] 3).size; have := BX.out.2.2; omega) ?_)
          intro v' w3 q1 q2 q3
          have R9 : Aside (RuI w3 (b0 + 2) v' L2) := by
            rw [← E2.out]
            unfold RuI
            rw [List.length_append, List.map_append]
            exact q1
          have G9 : Aside (Gw V w3) := (G1.out.alloc _ _).grown q2 (fun j e => by have := (World.ownsRow.lt R1.out j e).1; have := BX.out.2.2; omega)
          clear q1 q2 q3
          go_wp2_with fail
          go_meet
          case rel => exact ⟨_, rfl, R9, G9⟩
      | true =>
        cases Wi with
        | false =>
          have E2 : Aside (L1 ++ [2] = L2) := by
            have eh := HH.out.2.1
            rw [if_neg (by decide)] at eh
            exact eh
          go_wp2_with (at_builtin; refine wpList_append_own _ rfl _ _ 39 rfl (b0 + 2) 3 ii (.int .i64 0) 1 8 Try.underlying39 hii hz hs hby rfl (by decide) _ L1.length _ rfl (World.ownsRow.alloc R1.out _) ⟨W1.heap.size, 0, none⟩ 1 1 [.int .i64 2] rfl rfl (newc W1 #[.int .i64 2] 3) (ints_oneCell .i64 [2]) (by have := lens.out; simp only [maxLen]; (try simp only [List.length_nil]); omega) (by have := lens.out; (try simp only [List.length_nil]); omega) (by have := (G1.out.alloc #[.int .i64 2] 3).size; have := BX.out.2.2; omega) ?_)
          intro v' w3 q1 q2 q3
          have R9 : Aside (RuI w3 (b0 + 2) v' L2) := by
            rw [← E2.out]
            unfold RuI
            rw [List.length_append, List.map_append]
            exact q1
          have G9 : Aside (Gw V w3) := (G1.out.alloc _ _).grown q2 (fun j e => by have := (World.ownsRow.lt R1.out j e).1; have := BX.out.2.2; omega)
          clear q1 q2 q3
          go_wp2_with fail
          go_meet
          case rel => exact ⟨_, rfl, R9, G9⟩
        | true =>
          have R12 : Aside (RuI W1 (b0 + 2) v L2) := by
            have eh := HH.out.2.1
            rw [if_pos rfl, List.append_nil] at eh
            rw [← eh]
            exact R1.out
          go_wp2_with fail
          go_meet
          case rel => exact ⟨_, rfl, R12, G1⟩
    case rest =>
      obtain ⟨v, rfl, R2, G2⟩ := hcut
      obtain ⟨W2, hwx⟩ : ∃ wx, wx = wc := ⟨_, rfl⟩
      subst hwx
      clear w1 a1
      have w2 : W2.cell? ⟨b0, 2, none⟩ = some (.int .u64 Wk) := (G2.out.cell _ _ (blkl BX.out.1)).trans (blkc BX.out.1 rfl)
      have a2 : W2.cell? ⟨b0 + 1, 2, none⟩ = some (.int .u64 Ak) := (G2.out.cell _ _ (blkl BX.out.2.1)).trans (blkc BX.out.2.1 rfl)
      have w3 : W2.cell? ⟨b0, 3, none⟩ = some (.int .u64 Wv) := (G2.out.cell _ _ (blkl BX.out.1)).trans (blkc BX.out.1 rfl)
      have a3 : W2.cell? ⟨b0 + 1, 3, none⟩ = some (.int .u64 Av) := (G2.out.cell _ _ (blkl BX.out.2.1)).trans (blkc BX.out.2.1 rfl)
      go_upto_region 6 with fail
      go_cut [33] (fun s33 wc => ∃ t : Bool, s33 = .bool t ∧ Aside (t = true ↔ ¬ (Ak = Wk ∧ Av = Wv)) ∧ wc = W2)
      case first =>
        by_cases e : Ak = Wk
        · have e' : (Ak != Wk) = false := by simp [e]
          by_cases e2 : Av = Wv
          · have e2' : (Av != Wv) = false := by simp [e2]
            have T : Aside (Ak = Wk ∧ Av = Wv) := ⟨e, e2⟩
            clear e e2
            go_wp2_with fail
            go_meet
            case rel => exact ⟨false, rfl, (show Aside _ from (by show _ ↔ _; simp only [T.out]; simp)), rfl⟩
          · have e2' : (Av != Wv) = true := by simp [e2]
            have T : Aside (¬ (Ak = Wk ∧ Av = Wv)) := fun z => e2 z.2
            clear e e2
            go_wp2_with fail
            go_meet
            case rel => exact ⟨true, rfl, (show Aside _ from ⟨fun _ => T.out, fun _ => rfl⟩), rfl⟩
        · have e' : (Ak != Wk) = true := by simp [e]
          have T : Aside (¬ (Ak = Wk ∧ Av = Wv)) := fun z => e z.1
          clear e
          go_wp2_with fail
          go_meet
          case rel => exact ⟨true, rfl, (show Aside _ from ⟨fun _ => T.out, fun _ => rfl⟩), rfl⟩
      case rest =>
        obtain ⟨t, rfl, TT, rfl⟩ := hcut
        clear w2 a2 w3 a3
        go_upto_if 33 with fail
        go_cut [5] (fun s5 wc => ∃ v, v = s5 ∧ Aside (RuI wc (b0 + 2) v L3) ∧ Aside (Gw V wc))
        case first =>
          cases t with
          | false =>
            have e : Ak = Wk ∧ Av = Wv := by
              have := TT.out
              simpa using this
            have EE : Aside (Ak = Wk ∧ Av = Wv) := e
            clear e
            go_wp2_with fail
            go_meet
            case rel => exact ⟨_, rfl, (show Aside _ from by have eh := HH.out.2.2.1; rw [if_pos EE.out, List.append_nil] at eh; rw [← eh]; exact R2.out), G2⟩
          | true =>
            have e : ¬ (Ak = Wk ∧ Av = Wv) := TT.out.1 rfl
            have EE : Aside (¬ (Ak = Wk ∧ Av = Wv)) := e
            clear e
            go_wp2_with (at_builtin; refine wpList_append_own _ rfl _ _ 39 rfl (b0 + 2) 3 ii (.int .i64 0) 1 8 Try.underlying39 hii hz hs hby rfl (by decide) _ L2.length _ rfl (World.ownsRow.alloc R2.out _) ⟨wc.heap.size, 0, none⟩ 1 1 [.int .i64 3] rfl rfl (newc wc #[.int .i64 3] 3) (ints_oneCell .i64 [3]) (by have := lens.out; simp only [maxLen]; (try simp only [List.length_nil]); omega) (by have := lens.out; (try simp only [List.length_nil]); omega) (by have := (G2.out.alloc #[.int .i64 3] 3).size; have := BX.out.2.2; omega) ?_)
            intro v' w3 q1 q2 q3
            have R9 : Aside (RuI w3 (b0 + 2) v' L3) := by
              have eh := HH.out.2.2.1
              rw [if_neg EE.out] at eh
              rw [← eh]
              unfold RuI
              rw [List.length_append, List.map_append]
              exact q1
            have G9 : Aside (Gw V w3) := (G2.out.alloc _ _).grown q2 (fun j e => by have := (World.ownsRow.lt R2.out j e).1; have := BX.out.2.2; omega)
            clear q1 q2 q3
            go_wp2_with fail
            go_meet
            case rel => exact ⟨_, rfl, R9, G9⟩
        case rest =>
          obtain ⟨v, rfl, R3, G3⟩ := hcut
          obtain ⟨W3, hwx⟩ : ∃ wx, wx = wc := ⟨_, rfl⟩
          subst hwx
          have w4 : W3.cell? ⟨b0, 4, none⟩ = some (.int .i64 Wn) := (G3.out.cell _ _ (blkl BX.out.1)).trans (blkc BX.out.1 rfl)
          have a4 : W3.cell? ⟨b0 + 1, 4, none⟩ = some (.int .i64 An) := (G3.out.cell _ _ (blkl BX.out.2.1)).trans (blkc BX.out.2.1 rfl)
          go_upto_if 41 with fail
          go_cut [5] (fun s5 wc => ∃ v, v = s5 ∧ Aside (RuI wc (b0 + 2) v L4) ∧ Aside (Gw V wc))
          case first =>
            by_cases e : An = Wn
            · have e' : (An != Wn) = false := by simp [e]
              have EE : Aside (An = Wn) := e
              clear e
              go_wp2_with fail
              go_meet
              case rel => exact ⟨_, rfl, (show Aside _ from by have eh := HH.out.2.2.2.1; rw [if_pos EE.out, List.append_nil] at eh; rw [← eh]; exact R3.out), G3⟩
            · have e' : (An != Wn) = true := by simp [e]
              have EE : Aside (¬ An = Wn) := e
              clear e
              go_wp2_with (at_builtin; refine wpList_append_own _ rfl _ _ 39 rfl (b0 + 2) 3 ii (.int .i64 0) 1 8 Try.underlying39 hii hz hs hby rfl (by decide) _ L3.length _ rfl (World.ownsRow.alloc R3.out _) ⟨W3.heap.size, 0, none⟩ 1 1 [.int .i64 4] rfl rfl (newc W3 #[.int .i64 4] 3) (ints_oneCell .i64 [4]) (by have := lens.out; simp only [maxLen]; (try simp only [List.length_nil]); omega) (by have := lens.out; (try simp only [List.length_nil]); omega) (by have := (G3.out.alloc #[.int .i64 4] 3).size; have := BX.out.2.2; omega) ?_)
              intro v' w3 q1 q2 q3
              have R9 : Aside (RuI w3 (b0 + 2) v' L4) := by
                have eh := HH.out.2.2.2.1
                rw [if_neg EE.out] at eh
                rw [← eh]
                unfold RuI
                rw [List.length_append, List.map_append]
                exact q1
              have G9 : Aside (Gw V w3) := (G3.out.alloc _ _).grown q2 (fun j e => by have := (World.ownsRow.lt R3.out j e).1; have := BX.out.2.2; omega)
              clear q1 q2 q3
              go_wp2_with fail
              go_meet
              case rel => exact ⟨_, rfl, R9, G9⟩
          case rest =>
            obtain ⟨v, rfl, R4, G4⟩ := hcut
            obtain ⟨W4, hwx⟩ : ∃ wx, wx = wc := ⟨_, rfl⟩
            subst hwx
            clear w4 a4
            have w5 : W4.cell? ⟨b0, 5, none⟩ = some (.slice wo wl cw) := (G4.out.cell _ _ (blkl BX.out.1)).trans (blkc BX.out.1 rfl)
            have a5 : W4.cell? ⟨b0 + 1, 5, none⟩ = some (.slice ao al ca) := (G4.out.cell _ _ (blkl BX.out.2.1)).trans (blkc BX.out.2.1 rfl)
            go_wp2_with fail
            refine (EQ.out _ (GV.out.trans G4.out)).mono ?_
            clear w5 a5
            rintro e w6 ⟨rfl, g5⟩
            have R5 : Aside (RuI w6 (b0 + 2) v L4) := R4.out.gw g5
            have G5 : Aside (Gw V w6) := G4.out.trans g5
            clear g5
            by_cases e : AL = WL
            · have e' : decide (AL = WL) = true := by simpa using e
              have FIN : Aside (RuI w6 (b0 + 2) v L5) := by
                have h := HH.out.2.2.2.2
                rw [if_pos e, List.append_nil] at h
                rw [← h]
                exact R5.out
              clear e
              go_wp2_with fail
              refine bodyPost_ret (v := v) (by simp [results, Try.results20, go_sem]) rfl ⟨⟨_, rfl, own_keep3 FIN.out (by have := HB.out; omega) (fun q hq => rfl)⟩, GV.out.trans G5.out⟩
            · have e' : decide (AL = WL) = false := by simpa using e
              have EE : Aside (¬ AL = WL) := e
              clear e
              go_wp2_with (at_builtin; refine wpList_append_own _ rfl _ _ 39 rfl (b0 + 2) 3 ii (.int .i64 0) 1 8 Try.underlying39 hii hz hs hby rfl (by decide) _ L4.length _ rfl (World.ownsRow.alloc R5.out _) ⟨w6.heap.size, 0, none⟩ 1 1 [.int .i64 5] rfl rfl (newc w6 #[.int .i64 5] 3) (ints_oneCell .i64 [5]) (by have := lens.out; simp only [maxLen]; (try simp only [List.length_nil]); omega) (by have := lens.out; (try simp only [List.length_nil]); omega) (by have := (G5.out.alloc #[.int .i64 5] 3).size; have := BX.out.2.2; omega) ?_)
              intro v' w3 q1 q2 q3
              have R9 : Aside (RuI w3 (b0 + 2) v' L5) := by
                have eh := HH.out.2.2.2.2
                rw [if_neg EE.out] at eh
                rw [← eh]
                unfold RuI
                rw [List.length_append, List.map_append]
                exact q1
              have G9 : Aside (Gw V w3) := (G5.out.alloc _ _).grown q2 (fun j e => by have := (World.ownsRow.lt R5.out j e).1; have := BX.out.2.2; omega)
              clear q1 q2 q3
              go_wp2_with fail
              refine bodyPost_ret (v := v') (by simp [results, Try.results20, go_sem]) rfl ⟨⟨_, rfl, own_keep3 R9.out (by have := HB.out; omega) (fun q hq => rfl)⟩, GV.out.trans G9.out⟩
end Go.Proofs.Ytkojcjfjmlompaa
