/- The document's layer 21: a line read. -/
import Derived.Test.YtocnmdabilaccaaDoorS1Ref2
import Derived.Test.YtocnmdabilaccaaDoorPMem
namespace Go.Proofs.YtocnmdabilaccaaDoor
open Go.RowKit
set_option linter.unusedVariables false

theorem nums_more : ∀ {r : List (List UInt8)} {j : Nat} {ns : List Int} {w : List UInt8} {n : Int}, numsOf (r.take j) = some ns → r[j]? = some w → numOf w = some n → numsOf (r.take (j + 1)) = some (ns ++ [n]) := by
  intro r
  induction r with
  | nil => intro j ns w n _ h; simp at h
  | cons x r ih =>
    intro j ns w n h1 h2 h3
    cases j with
    | zero =>
      simp only [List.getElem?_cons_zero, Option.some.injEq] at h2
      subst h2
      simp only [List.take_zero, numsOf, Option.some.injEq] at h1
      subst h1
      simp [numsOf, h3]
    | succ j =>
      rw [List.getElem?_cons_succ] at h2
      rw [List.take_succ_cons, numsOf] at h1 ⊢
      cases e : numOf x with
      | none => rw [e] at h1; cases h1
      | some m =>
        rw [e] at h1
        cases e2 : numsOf (r.take j) with
        | none => rw [e2] at h1; cases h1
        | some ms =>
          rw [e2] at h1
          cases h1
          rw [ih e2 h2 h3]
          rfl
theorem nums_bad : ∀ {r : List (List UInt8)} {w : List UInt8}, w ∈ r → numOf w = none → numsOf r = none := by
  intro r
  induction r with
  | nil => intro w h; cases h
  | cons x r ih =>
    intro w h e
    rw [numsOf]
    rcases List.mem_cons.1 h with rfl | q
    · rw [e]
    · cases numOf x with
      | none => rfl
      | some m => rw [ih q e]
/-- A row of numbers of a call's own. -/
def nus (ns : List Int) : List Value := ns.map fun n => .int .u64 n
theorem nus_one (ns : List Int) : ∀ u ∈ nus ns, u.oneCell' = true := by
  intro u hu
  obtain ⟨_, _, rfl⟩ := List.mem_map.1 hu
  rfl
def NUO (w : World) (base : Nat) (v : Value) (ns : List Int) : Prop := w.ownsRow base 31 1 v ns.length (nus ns)
theorem NUO.more {w : World} {base : Nat} {v : Value} {ns : List Int} {n : Int} (h : w.ownsRow base 31 1 v (ns.length + 1) (nus ns ++ [.int .u64 n])) : NUO w base v (ns ++ [n]) := by
  unfold NUO nus
  rw [List.length_append, List.map_append]
  exact h
theorem NUO.low {w : World} {base base' : Nat} {v : Value} {ns : List Int} (h : NUO w base v ns) (hb : base' ≤ base) : NUO w base' v ns := by
  refine ⟨h.1, ?_⟩
  rcases h.2 with q | ⟨b, cap, cur, rfl, hb', r⟩
  · exact .inl q
  · exact .inr ⟨b, cap, cur, rfl, Nat.le_trans hb hb', r⟩
theorem own_keep {w w' : World} {base e size n : Nat} {v : Value} {xs : List Value} (h : w.ownsRow base e size v n xs) (k : ∀ q, v.ownBlock = some q → w'.heap[q]? = w.heap[q]?) : w'.ownsRow base e size v n xs := by
  refine ⟨h.1, ?_⟩
  rcases h.2 with q | ⟨b, cap, cur, rfl, hb, hh, r⟩
  · exact .inl q
  · exact .inr ⟨b, cap, cur, rfl, hb, (k b rfl).trans hh, r⟩
theorem NUO.nil (w : World) (base : Nat) : NUO w base (.slice none 0 0) [] := World.ownsRow_nil w base _ _
theorem box2c {b : Nat} {w : World} {x y : Value} {t : TypeId} (h : w.heap[b]? = some (.cells #[x, y] t (0, 0))) (u v : Value) :
    ((w.setCell ⟨b, 0, none⟩ u).setCell ⟨b, 1, none⟩ v).heap[b]? = some (.cells #[u, v] t (0, 0)) := by
  have h1 : (w.setCell ⟨b, 0, none⟩ u).heap[b]? = some (.cells #[u, y] t (0, 0)) := by simp [World.setCell, Array.getElem?_modify, h]
  generalize w.setCell ⟨b, 0, none⟩ u = w1 at h1
  simp [World.setCell, Array.getElem?_modify, h1]
theorem box2 {b : Nat} {w : World} {x y : Value} {t : TypeId} (h : w.heap[b]? = some (.cells #[x, y] t (0, 0))) (u v : Value) :
    ((w.setCell ⟨b, 0, none⟩ u).setCell ⟨b, 1, none⟩ v).cell? ⟨b, 0, none⟩ = some u ∧ ((w.setCell ⟨b, 0, none⟩ u).setCell ⟨b, 1, none⟩ v).cell? ⟨b, 1, none⟩ = some v :=
  ⟨blkc (box2c h u v) rfl, blkc (box2c h u v) rfl⟩
theorem len_lens : ∀ (P : List (List UInt8)), P.length ≤ lens P := by
  intro P
  induction P with
  | nil => exact Nat.le_refl _
  | cons p P ih => simp [lens] at ih ⊢; omega
/-- What 'command' tells of a line. -/
def CmdO (w w' : World) (e : Ending) (r : Bool × Int × Cd) : Prop :=
  ∃ v, e = .returned (.tuple #[.agg #[.string (Bs r.2.2.word), v], .bool r.1, .int .i64 r.2.1]) ∧ NUO w' w.heap.size v r.2.2.nums
theorem filter_snoc {α : Type} (p : α → Bool) (l : List α) (i : Nat) (x : α) (h : l[i]? = some x) : (l.take (i + 1)).filter p = (l.take i).filter p ++ (if p x = true then [x] else []) := by
  rw [List.take_add_one, h]
  simp only [Option.toList_some, List.filter_append]
  cases e : p x <;> simp [e]
theorem mem_lens : ∀ {P : List (List UInt8)} {x : List UInt8}, x ∈ P → x.length + 1 ≤ lens P := by
  intro P
  induction P with
  | nil => intro x h; cases h
  | cons p P ih =>
    intro x h
    have e : lens (p :: P) = p.length + 1 + lens P := by simp [lens]
    rcases List.mem_cons.1 h with rfl | q
    · omega
    · have := ih q; omega
theorem words_len {l x : List UInt8} (h : x ∈ wordsOf l) : x.length ≤ l.length := by
  have := mem_lens (List.mem_filter.1 h).1
  rw [spl_lens] at this
  simp at this
  omega
theorem info_u64 : (Tryd.prog.info? 31).map (fun i => (i.zero, i.size, i.bytes)) = some (some (.int .u64 0), 1, 8) := by kernel_rfl
set_option maxRecDepth 100000 in
set_option maxHeartbeats 8000000 in
theorem command21 (l : List UInt8) (ahead : Nat) (hl : l.length ≤ 2000000) (ha : ahead ≤ 2000000) (w : World) : Calls Tryd.prog 25 #[.string (Bs l), .int .i64 (ahead : Int)] w fun e w' => CmdO w w' e (cmdOf (wordsOf l) ahead) ∧ Gw w w' := by
  have SP : Hid (∀ W, Calls Tryd.prog 24 #[.string (Bs l), .int .u8 32] W fun e w' => TXv W w' e (spl 32 [] l) ∧ Gw W w') := fun W => split21 l 32 hl W
  obtain ⟨ii, hii, hz, hsz, hby⟩ := info_parts info_text
  obtain ⟨N, hN⟩ : ∃ N, w.heap.size = N := ⟨_, rfl⟩
  have NH : Hid (w.heap.size = N) := hN
  have NEW : Hid (∀ u1, Gw (w.alloc (.cells #[.string (Bs []), .slice none 0 0] 30)) u1 → u1.heap[N]? = some (.cells #[.string (Bs []), .slice none 0 0] 30 (0, 0))) := fun u1 gg => by
    rw [← NH.out]
    exact (gg.below.block _ (by simp)).trans (heap_alloc_new _ _)
  go_enter Tryd.func25, Tryd.ntmps25
  go_wp2_with fail
  refine (SP.out _).mono ?_
  rintro e w2 ⟨⟨pb, pc, rfl, T⟩, g2⟩
  obtain ⟨P, hP⟩ : ∃ P, spl 32 [] l = P := ⟨_, rfl⟩
  have PH : Aside (spl 32 [] l = P) := hP
  rw [hP] at T ⊢
  obtain ⟨np, hnp⟩ : ∃ np, P.length = np := ⟨_, rfl⟩
  have PN : Aside (P.length = np) := hnp
  have npb : np ≤ 2000001 := by
    have h1 := len_lens (spl 32 [] l)
    rw [spl_lens, hP, hnp] at h1
    simp at h1
    omega
  rw [hnp] at T ⊢
  have TP : Hid (∀ W, Gw w2 W → ∀ i x, P[i]? = some x → W.cell? ⟨pb, i, none⟩ = some (.string (Bs x))) := fun W g i x hx => (T.gw g).cell hnp.symm hx
  have G2 : Hid (Gw w w2) := ((Gw.refl w).alloc _ _).trans g2
  have NB2 : Hid (w2.heap[N]? = some (.cells #[.string (Bs []), .slice none 0 0] 30 (0, 0))) := NEW.out w2 g2
  have PB : Hid (pb < w2.heap.size) := (World.ownsRow.lt T pb rfl).2
  clear hP hnp T g2 NEW hN SP
  obtain ⟨ne, nee⟩ : ∃ ne : List UInt8 → Bool, ne = fun p => decide (p ≠ []) := ⟨_, rfl⟩
  have NEQ : Aside (ne = fun p => decide (p ≠ [])) := nee
  clear nee
  go_wp2
  go_loopg [8, 9] np (fun gg s8 s9 wr => ∃ (b cap k i : Nat), s8 = .slice (some ⟨b, 0, none⟩) k cap ∧ s9 = .int .i64 (i : Int) ∧ i ≤ np ∧ k ≤ i ∧ np - i ≤ gg ∧ Aside (((P.take i).filter ne).length = k) ∧ Hid (TXO wr w2.heap.size (.slice (some ⟨b, 0, none⟩) k cap) ((P.take i).filter ne)) ∧ Hid (Gw w2 wr))
  case atStart => exact ⟨_, _, 0, 0, rfl, rfl, by omega, by omega, by omega, (by show _ = _; simp), World.ownsRow_made w2 #[] 0 (Nat.le_refl _) (Nat.zero_le _) rfl, (Gw.refl w2).alloc _ _⟩
  case round =>
    obtain ⟨b, cap, k, i, rfl, rfl, hi, hk, hg, KL, T, G⟩ := hrel
    have gz := G.out.size
    by_cases ilt : i < np
    · have ilt' : (i : Int) < (np : Int) := by omega
      obtain ⟨x, hx⟩ : ∃ x, P[i]? = some x := ⟨P[i]'(by rw [PN.out]; exact ilt), List.getElem?_eq_getElem _⟩
      have c1 := TP.out wr G.out i x hx
      have SN := filter_snoc ne P i x hx
      by_cases xe : x = []
      · have xb : (x == []) = true := by simp [xe]
        have EQ : Aside ((P.take (i + 1)).filter ne = (P.take i).filter ne) := by show _ = _; rw [SN, NEQ.out]; simp [xe]
        clear SN hx
        subst xe
        go_wp2
        go_roundg (np - (i + 1))
        case measure => omega
        case rel => exact ⟨b, cap, k, i + 1, rfl, by go_num, by omega, by omega, Nat.le_refl _, (by show _ = _; rw [EQ.out]; exact KL.out), (by rw [EQ.out]; exact T), G⟩
      · have xb : (x == []) = false := by simp [xe]
        have EQ : Aside ((P.take (i + 1)).filter ne = (P.take i).filter ne ++ [x]) := by show _ = _; rw [SN, NEQ.out]; simp [xe]
        have T2 : Hid (wr.ownsRow w2.heap.size 9 1 (.slice (some ⟨b, 0, none⟩) k cap) k (txs ((P.take i).filter ne))) := by have := T.out; unfold TXO at this; rw [KL.out] at this; exact this
        clear SN hx xe
        go_wp2_with (at_builtin; refine wpList_append_own _ rfl _ _ 52 rfl w2.heap.size 9 ii (.string (Bs [])) 1 16 Tryd.underlying52 hii hz hsz hby rfl (by decide) _ k _ rfl (T2.out.alloc _) ⟨wr.heap.size, 0, none⟩ 1 1 [.string (Bs x)] rfl rfl (new_text wr x) (txs_one [x]) (by simp only [maxLen]; omega) (by omega) (by simp; omega) ?_)
        intro v' w5 r1 r2 r3
        obtain ⟨b5, cap5, rfl, hb5, _, _⟩ := own_slice r1 (by simpa using r3)
        have T5 : Hid (TXO w5 w2.heap.size (.slice (some ⟨b5, 0, none⟩) (k + 1) cap5) ((P.take (i + 1)).filter ne)) := by rw [EQ.out]; exact TXO.more (by rw [KL.out]; exact r1)
        have G5 : Hid (Gw w2 w5) := (G.out.alloc _ _).grown r2 (fun q hq => (World.ownsRow.lt T2.out q hq).1)
        clear r1 r2 r3 c1 T T2 G
        go_wp2
        go_roundg (np - (i + 1))
        case measure => omega
        case rel => exact ⟨b5, cap5, k + 1, i + 1, rfl, by go_num, by omega, by omega, Nat.le_refl _, (by show _ = _; rw [EQ.out, List.length_append, KL.out]; rfl), T5, G5⟩
    · have WS : Aside ((P.take i).filter ne = wordsOf l) := by
        show _ = _
        rw [List.take_of_length_le (by rw [PN.out]; omega), ← PH.out, NEQ.out]
        rfl
      have GW : Hid (Gw w wr) := G2.out.trans G.out
      have NB : wr.heap[N]? = some (.cells #[.string (Bs []), .slice none 0 0] 30 (0, 0)) := (G.out.below.block N (blkl NB2.out)).trans NB2.out
      have m0 : wr.cell? ⟨N, 0, none⟩ = some (.string (Bs [])) := blkc NB rfl
      have m1 : wr.cell? ⟨N, 1, none⟩ = some (.slice none 0 0) := blkc NB rfl
      have z0 := blkf (o := 0) NB
      have z1 := blkf (o := 1) NB
      have bl := blkl NB
      have TT := box2 NB (.string (Bs [])) (.slice none 0 0)
      have FIN : Hid (Gw w ((wr.setCell ⟨N, 0, none⟩ (.string (Bs []))).setCell ⟨N, 1, none⟩ (.slice none 0 0))) := (GW.out.setCell (Nat.le_of_eq NH.out) _).setCell (Nat.le_of_eq NH.out) _
      have NBH : Hid (wr.heap[N]? = some (.cells #[.string (Bs []), .slice none 0 0] 30 (0, 0))) := NB
      clear NB
      obtain ⟨ws, hws⟩ : ∃ ws, wordsOf l = ws := ⟨_, rfl⟩
      have W2 := WS.out
      rw [hws] at W2
      rw [W2] at T KL
      have NE : Aside (∀ x ∈ ws, x ≠ []) := fun x hx => by
        rw [← hws] at hx
        simpa using (List.mem_filter.1 hx).2
      have WH : Aside (wordsOf l = ws) := hws
      clear W2 WS hws TP
      cases ws with
      | nil =>
        have k0 : k = 0 := KL.out.symm
        subst k0
        have CF : Aside (cmdOf (wordsOf l) ahead = (false, 0, ⟨[], []⟩)) := by show _ = _; rw [WH.out]; rfl
        go_wp2
        refine bodyPost_ret (v := .tuple #[.agg #[.string (Bs []), .slice none 0 0], .bool false, .int .i64 0]) (by simp [results, Tryd.results25, go_sem, TT.1, TT.2]) rfl ⟨⟨.slice none 0 0, ?_, ?_⟩, FIN.out⟩
        · rw [CF.out]
        · rw [CF.out]; exact NUO.nil _ _
      | cons w0 r =>
        have kr : k = r.length + 1 := by rw [← KL.out]; rfl
        obtain ⟨rn, hrn⟩ : ∃ rn, r.length = rn := ⟨_, rfl⟩
        have RN : Aside (r.length = rn) := hrn
        rw [hrn] at kr
        subst kr
        have TC : Hid (∀ W, Gw wr W → ∀ i x, (w0 :: r)[i]? = some x → W.cell? ⟨b, i, none⟩ = some (.string (Bs x))) := fun W g i x hx => (T.out.gw g).cell (by simp; exact hrn.symm) hx
        have c0 : wr.cell? ⟨b, 0, none⟩ = some (.string (Bs w0)) := TC.out wr (Gw.refl _) 0 w0 rfl
        have w0n := NE.out w0 List.mem_cons_self
        obtain ⟨a0, w0', hw0⟩ : ∃ a0 w0', w0 = a0 :: w0' := by
          cases w0 with
          | nil => exact absurd rfl w0n
          | cons a0 w0' => exact ⟨a0, w0', rfl⟩
        have ix : ∀ W, (Instr.index 9 (.string (Bs w0)) (.int .i64 0)).run Tryd.prog W = .ok (.int .u8 (a0.toNat : Int)) W := fun W => index_bs w0 0 a0 (by rw [hw0]; rfl) W
        have HD : Aside (w0.head? = some a0) := by show _ = _; rw [hw0]; rfl
        have nz : ((rn : Int) + 1 == 0) = false := by simp; omega
        obtain ⟨an, han⟩ : ∃ an : Nat, a0.toNat = an := ⟨_, rfl⟩
        rw [han] at ix
        have AN : Aside (a0.toNat = an) := han
        clear hrn w0n hw0 han KL
        by_cases q1 : a0 = 35
        · have a35 : an = 35 := by rw [← AN.out, q1]; rfl
          subst a35
          have CF : Aside (cmdOf (wordsOf l) ahead = (false, 0, ⟨[], []⟩)) := by show _ = _; rw [WH.out, cmdOf, if_pos (by rw [HD.out, q1])]
          go_wp2
          refine bodyPost_ret (v := .tuple #[.agg #[.string (Bs []), .slice none 0 0], .bool false, .int .i64 0]) (by simp [results, Tryd.results25, go_sem, TT.1, TT.2]) rfl ⟨⟨.slice none 0 0, ?_, ?_⟩, FIN.out⟩
          · rw [CF.out]
          · rw [CF.out]; exact NUO.nil _ _
        have a35 : ((an : Int) == 35) = false := by
          simp only [beq_eq_false_iff_ne, ne_eq]
          intro q
          apply q1
          apply UInt8.toNat_inj.1
          rw [AN.out]
          show an = 35
          omega
        have H1 : Aside (¬ w0.head? = some 35) := fun q => q1 (by rw [HD.out] at q; exact Option.some.inj q)
        clear q1
        by_cases q2 : 4096 ≤ ahead
        · have q2' : (4096 : Int) ≤ ahead := by omega
          have CF : Aside (cmdOf (wordsOf l) ahead = (true, 210, ⟨[], []⟩)) := by show _ = _; rw [WH.out, cmdOf, if_neg H1.out, if_pos q2]
          go_wp2
          refine bodyPost_ret (v := .tuple #[.agg #[.string (Bs []), .slice none 0 0], .bool true, .int .i64 210]) (by simp [results, Tryd.results25, go_sem, TT.1, TT.2]) rfl ⟨⟨.slice none 0 0, ?_, ?_⟩, FIN.out⟩
          · rw [CF.out]
          · rw [CF.out]; exact NUO.nil _ _
        have TK : Hid (∀ W, Calls Tryd.prog 31 #[.string (Bs w0)] W fun e w' => e = .returned (.int .i64 (takes w0)) ∧ w' = W) := fun W => takes21 w0 W
        have tb : -1 ≤ takes w0 ∧ takes w0 ≤ 3 := by
          unfold takes
          repeat' split
          all_goals decide
        obtain ⟨tk, htk⟩ : ∃ tk, takes w0 = tk := ⟨_, rfl⟩
        have TKH : Aside (takes w0 = tk) := htk
        rw [htk] at TK tb
        clear htk
        have H2 : Aside (¬ 4096 ≤ ahead) := q2
        go_wp2_with fail
        refine (TK.out _).mono ?_
        rintro e w' ⟨rfl, hw'⟩
        have hw : wr = w' := hw'.symm
        subst hw
        clear hw'
        by_cases q3 : tk < 0
        · have CF : Aside (cmdOf (wordsOf l) ahead = (true, 211, ⟨[], []⟩)) := by show _ = _; rw [WH.out, cmdOf, if_neg H1.out, if_neg H2.out, if_pos (by rw [TKH.out]; exact q3)]
          go_wp2
          refine bodyPost_ret (v := .tuple #[.agg #[.string (Bs []), .slice none 0 0], .bool true, .int .i64 211]) (by simp [results, Tryd.results25, go_sem, TT.1, TT.2]) rfl ⟨⟨.slice none 0 0, ?_, ?_⟩, FIN.out⟩
          · rw [CF.out]
          · rw [CF.out]; exact NUO.nil _ _
        go_wp2_with fail
        refine (TK.out _).mono ?_
        rintro e w' ⟨rfl, hw'⟩
        have hw : wr = w' := hw'.symm
        subst hw
        clear hw'
        by_cases q4 : tk = (rn : Int)
        · subst q4
          have XL : Hid (∀ x ∈ w0 :: r, x.length ≤ 2000000) := fun x hx => by
            rw [← WH.out] at hx
            have := words_len hx
            omega
          obtain ⟨kk, hkk, kz, ks, kby⟩ := info_parts info_u64
          have H3 : Aside (¬ takes w0 < 0 ∧ takes w0 = (r.length : Int)) := ⟨by rw [TKH.out]; omega, by rw [TKH.out, RN.out]⟩
          obtain ⟨wO, hwO⟩ : ∃ wO, wO = wr := ⟨_, rfl⟩
          subst hwO
          obtain ⟨cb, hcb⟩ : ∃ cb, wO.heap.size = cb := ⟨_, rfl⟩
          have CB : Hid (wO.heap.size = cb) := hcb
          have NcB : Hid (N < cb) := by show N < cb; omega
          have Bcb : Hid (b < cb) := by
            have := (World.ownsRow.lt T.out b rfl).2
            show b < cb
            omega
          clear TT FIN ix a35 nz TK q3 tb m0 m1 z0 z1 bl
          go_wp2
          go_loopg [11] rn (fun gg s11 wv => ∃ (i : Nat) (v : Value) (ns : List Int), s11 = .int .i64 (i : Int) ∧ 1 ≤ i ∧ i ≤ rn + 1 ∧ rn + 1 - i ≤ gg ∧ Aside (numsOf (r.take (i - 1)) = some ns ∧ ns.length + 1 = i) ∧ Hid (wv.heap[cb]? = some (.cells #[.string (Bs w0), v] 30 (0, 0))) ∧ Hid (NUO wv (cb + 1) v ns) ∧ Hid (Gw wO wv))
          case atStart => exact ⟨1, .slice none 0 0, [], rfl, by omega, by omega, by omega, ⟨by simp [numsOf], rfl⟩, (by show _ = _; rw [← CB.out]; exact heap_alloc_new _ _), NUO.nil _ _, (Gw.refl wO).alloc _ _⟩
          case round =>
            obtain ⟨i, v, ns, rfl, i1, i2, hg, NS, CBk, NU, G5⟩ := hrel
            have gz5 := G5.out.size
            have bcw := blkl CBk.out
            by_cases ilt : i < rn + 1
            · have ilt' : (i : Int) < (rn : Int) + 1 := by omega
              have ir : i - 1 < r.length := by rw [RN.out]; omega
              obtain ⟨x, hx⟩ : ∃ x, r[i - 1]? = some x := ⟨r[i - 1]'ir, List.getElem?_eq_getElem ir⟩
              have hx' : (w0 :: r)[i]? = some x := by
                cases i with
                | zero => omega
                | succ i => exact hx
              have cx := TC.out wr G5.out i x hx'
              have XR : Aside (r[i - 1]? = some x ∧ x ∈ r) := ⟨hx, List.mem_of_getElem? hx⟩
              have NM : Hid (∀ W, Calls Tryd.prog 47 #[.string (Bs x)] W fun e w' => NumO x e ∧ Gw W w') := fun W => number21 x (XL.out x (List.mem_of_getElem? hx')) W
              clear hx hx' ir
              go_wp2_with fail
              refine (NM.out _).mono ?_
              rintro e w6 ⟨⟨nv, nb, rfl, hnv, hnum⟩, g6⟩
              have G6 : Hid (Gw wO w6) := G5.out.trans g6
              have C6 : Hid (w6.heap[cb]? = some (.cells #[.string (Bs w0), v] 30 (0, 0))) := (g6.below.block cb (blkl CBk.out)).trans CBk.out
              have NU6 : Hid (NUO w6 (cb + 1) v ns) := own_gw NU.out g6
              have s6 := g6.size
              clear cx NM CBk NU
              cases nb with
              | false =>
                have NB : w6.heap[N]? = some (.cells #[.string (Bs []), .slice none 0 0] 30 (0, 0)) := (G6.out.below.block N (blkl NBH.out)).trans NBH.out
                have m0 : w6.cell? ⟨N, 0, none⟩ = some (.string (Bs [])) := blkc NB rfl
                have m1 : w6.cell? ⟨N, 1, none⟩ = some (.slice none 0 0) := blkc NB rfl
                have z0 := blkf (o := 0) NB
                have z1 := blkf (o := 1) NB
                have bl := blkl NB
                have TT := box2 NB (.string (Bs [])) (.slice none 0 0)
                have FIN : Hid (Gw w ((w6.setCell ⟨N, 0, none⟩ (.string (Bs []))).setCell ⟨N, 1, none⟩ (.slice none 0 0))) := ((GW.out.trans G6.out).setCell (Nat.le_of_eq NH.out) _).setCell (Nat.le_of_eq NH.out) _
                have CF : Aside (cmdOf (wordsOf l) ahead = (true, 212, ⟨[], []⟩)) := by
                  show _ = _
                  rw [WH.out, cmdOf, if_neg H1.out, if_neg H2.out, if_neg (by have := H3.out.1; omega), if_neg (fun q => q H3.out.2), nums_bad XR.out.2 (by simpa using hnum)]
                clear NB hnum hnv g6 G5
                go_wp2
                refine bodyPost_ret (v := .tuple #[.agg #[.string (Bs []), .slice none 0 0], .bool true, .int .i64 212]) (by simp [results, Tryd.results25, go_sem, TT.1, TT.2]) rfl ⟨⟨.slice none 0 0, ?_, ?_⟩, FIN.out⟩
                · rw [CF.out]
                · rw [CF.out]; exact NUO.nil _ _
              | true =>
                have NX : Aside (numsOf (r.take i) = some (ns ++ [nv])) := by
                  have := nums_more NS.out.1 XR.out.1 (by simpa using hnum)
                  rw [show i - 1 + 1 = i by omega] at this
                  exact this
                have c1 : w6.cell? ⟨cb, 1, none⟩ = some v := blkc C6.out rfl
                have z1 := blkf (o := 1) C6.out
                have cl := blkl C6.out
                have NL := NS.out.2
                have OW : Hid (w6.ownsRow (cb + 1) 31 1 v (i - 1) (nus ns)) := by have := NU6.out; unfold NUO at this; rw [show ns.length = i - 1 by omega] at this; exact this
                have iL : i - 1 ≤ 2000001 := by omega
                clear hnum hnv g6 G5
                go_wp2_with (at_builtin; refine wpList_append_own _ rfl _ _ 28 rfl (cb + 1) 31 kk (.int .u64 0) 1 8 Tryd.underlying28 hkk kz ks kby rfl (by decide) v (i - 1) _ rfl (OW.out.alloc _) ⟨w6.heap.size, 0, none⟩ 1 1 [.int .u64 nv] rfl rfl (new_one w6 nv) (nus_one [nv]) (by simp only [maxLen]; omega) (by omega) (by simp; omega) ?_)
                intro v' w7 r1 r2 r3
                obtain ⟨b8, cap8, rfl, hb8, _, _⟩ := own_slice r1 (by simpa using r3)
                have e7 : w7.heap[cb]? = some (.cells #[.string (Bs w0), v] 30 (0, 0)) := (r2.block cb (by simp; omega) (fun e => by have := (World.ownsRow.lt OW.out cb e.symm).1; omega)).trans ((heap_alloc_old _ _ cl).trans C6.out)
                have d1 : w7.cell? ⟨cb, 1, none⟩ = some v := blkc e7 rfl
                have y1 := blkf (o := 1) e7
                have b7 := blkl e7
                have E7 : Hid (w7.heap[cb]? = some (.cells #[.string (Bs w0), v] 30 (0, 0))) := e7
                have N7 : Hid (NUO w7 (cb + 1) (.slice (some ⟨b8, 0, none⟩) i cap8) (ns ++ [nv])) := NUO.more (by rw [show ns.length + 1 = i by omega]; exact r1)
                have G7 : Hid (Gw wO w7) := (G6.out.alloc _ _).grown r2 (fun q hq => by have := (World.ownsRow.lt OW.out q hq).1; omega)
                have cb8 : cb ≠ b8 := by omega
                clear r1 r2 r3 e7 c1 z1 cl
                go_wp2
                go_roundg (rn + 1 - (i + 1))
                case measure => omega
                case rel => exact ⟨i + 1, .slice (some ⟨b8, 0, none⟩) i cap8, ns ++ [nv], by go_num, by omega, by omega, Nat.le_refl _, ⟨NX.out, by simp; omega⟩, (by show _ = _; simp [World.setCell, Array.getElem?_modify, E7.out]), own_keep N7.out (fun q hq => by cases hq; exact Go.Deep.blk_setCell_other _ _ _ _ (Ne.symm cb8)), G7.out.setCell (Nat.le_of_eq CB.out) _⟩
            · have CF : Aside (cmdOf (wordsOf l) ahead = (true, 0, ⟨w0, ns⟩)) := by
                have e : numsOf r = some ns := by
                  have := NS.out.1
                  rw [List.take_of_length_le (by rw [RN.out]; omega)] at this
                  exact this
                show _ = _
                rw [WH.out, cmdOf, if_neg H1.out, if_neg H2.out, if_neg (by have := H3.out.1; omega), if_neg (fun q => q H3.out.2), e]
              have NB : wr.heap[N]? = some (.cells #[.string (Bs []), .slice none 0 0] 30 (0, 0)) := (G5.out.below.block N (blkl NBH.out)).trans NBH.out
              have m0 : wr.cell? ⟨N, 0, none⟩ = some (.string (Bs [])) := blkc NB rfl
              have m1 : wr.cell? ⟨N, 1, none⟩ = some (.slice none 0 0) := blkc NB rfl
              have z0 := blkf (o := 0) NB
              have z1 := blkf (o := 1) NB
              have bl := blkl NB
              have TT := box2 NB (.string (Bs w0)) v
              have FIN : Hid (Gw w ((wr.setCell ⟨N, 0, none⟩ (.string (Bs w0))).setCell ⟨N, 1, none⟩ v)) := ((GW.out.trans G5.out).setCell (Nat.le_of_eq NH.out) _).setCell (Nat.le_of_eq NH.out) _
              have N5 : Hid (NUO ((wr.setCell ⟨N, 0, none⟩ (.string (Bs w0))).setCell ⟨N, 1, none⟩ v) w.heap.size v ns) := NUO.low (base := cb + 1) (own_keep NU.out (fun q hq => by
                have h1 := (World.ownsRow.lt NU.out q hq).1
                have h2 := NcB.out
                have h3 : q ≠ N := by omega
                rw [Go.Deep.blk_setCell_other _ _ _ _ h3, Go.Deep.blk_setCell_other _ _ _ _ h3])) (by have := GW.out.size; omega)
              have c1 : wr.cell? ⟨cb, 0, none⟩ = some (.string (Bs w0)) := blkc CBk.out rfl
              have c2 : wr.cell? ⟨cb, 1, none⟩ = some v := blkc CBk.out rfl
              obtain ⟨vo, vn, vc, rfl⟩ : ∃ vo vn vc, v = .slice vo vn vc := by
                rcases NU.out.2 with ⟨q, _⟩ | ⟨_, _, _, q, _⟩
                · exact ⟨_, _, _, q⟩
                · exact ⟨_, _, _, q⟩
              clear NB
              go_wp2
              refine bodyPost_ret (v := .tuple #[.agg #[.string (Bs w0), .slice vo vn vc], .bool true, .int .i64 0]) (by simp [results, Tryd.results25, go_sem, TT.1, TT.2]) rfl ⟨⟨.slice vo vn vc, ?_, ?_⟩, FIN.out⟩
              · rw [CF.out]
              · rw [CF.out]; exact N5.out
        · have q4' : (tk == (rn : Int)) = false := by simpa using q4
          have CF : Aside (cmdOf (wordsOf l) ahead = (true, 213, ⟨[], []⟩)) := by show _ = _; rw [WH.out, cmdOf, if_neg H1.out, if_neg H2.out, if_neg (by rw [TKH.out]; omega), if_pos (by rw [TKH.out, RN.out]; exact q4)]
          go_wp2
          refine bodyPost_ret (v := .tuple #[.agg #[.string (Bs []), .slice none 0 0], .bool true, .int .i64 213]) (by simp [results, Tryd.results25, go_sem, TT.1, TT.2]) rfl ⟨⟨.slice none 0 0, ?_, ?_⟩, FIN.out⟩
          · rw [CF.out]
          · rw [CF.out]; exact NUO.nil _ _
end Go.Proofs.YtocnmdabilaccaaDoor
