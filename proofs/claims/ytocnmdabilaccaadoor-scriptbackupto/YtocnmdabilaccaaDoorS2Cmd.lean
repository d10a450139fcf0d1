/- Package script: the words of a line read as a command. -/
import Derived.Test.YtocnmdabilaccaaDoorS2Num
import Derived.Test.YtocnmdabilaccaaDoorS2Words
namespace Go.Proofs.YtocnmdabilaccaaDoor
open Go.RowKit
set_option linter.unusedVariables false

/-- What the words of a line say. -/
def cmdW (w0 : List UInt8) (r : List (List UInt8)) : Int × Cd :=
  if chkW w0 r.length ≠ 0 then (chkW w0 r.length, ⟨[], []⟩)
  else match numsOf r with
    | none => (212, ⟨[], []⟩)
    | some ns => (0, ⟨w0, ns⟩)
theorem cmdW_of (w0 : List UInt8) (r : List (List UInt8)) (a : Nat) (h : w0.head? ≠ some 35) (ha : a < 4096) : cmdOf (w0 :: r) a = (true, (cmdW w0 r).1, (cmdW w0 r).2) := by
  unfold cmdW chkW
  simp only [cmdOf]
  rw [if_neg h, if_neg (by omega)]
  split
  · rw [if_pos (by decide)]
  · split
    · rw [if_pos (by decide)]
    · rw [if_neg (by decide)]
      cases numsOf r <;> rfl
/-- What 'command' tells. -/
def CmR (w w' : World) (e : Ending) (r : Int × Cd) : Prop :=
  ∃ v, e = .returned (.tuple #[.agg #[.string (Bs r.2.word), v], .int .i64 r.1]) ∧ NUO w' w.heap.size v r.2.nums
theorem tail_at (b rn cap : Nat) (h : rn + 1 ≤ cap) : ∃ RA : Option Addr, (0 < rn → RA = some ⟨b, 1, none⟩) ∧ ∀ W, (Instr.slice 52 (.slice (some ⟨b, 0, none⟩) (rn + 1) cap) (some (.int .i64 1)) none none).run Tryd.prog W = .ok (.slice RA rn (cap - 1)) W := by
  by_cases c : cap = 1
  · subst c
    have e : rn = 0 := by omega
    subst e
    refine ⟨_, fun q => by omega, fun W => by simp [go_sem, Instr.slice]; rfl⟩
  · refine ⟨some ⟨b, 1, none⟩, fun _ => rfl, fun W => ?_⟩
    have h' : (0 : Int) ≤ 1 ∧ (1 : Int) ≤ ((rn + 1 : Nat) : Int) := ⟨by omega, by omega⟩
    simp [go_sem, Instr.slice, c]
    intro q
    omega
set_option maxRecDepth 100000 in
set_option maxHeartbeats 8000000 in
theorem command_any (w0 : List UInt8) (r : List (List UInt8)) (b cap base : Nat) (w : World) (hx : ∀ x ∈ w0 :: r, x.length ≤ 2000000) (hr : r.length ≤ 2000000) (h : TXO w base (.slice (some ⟨b, 0, none⟩) (r.length + 1) cap) (w0 :: r)) :
    Calls Tryd.prog 23 #[.slice (some ⟨b, 0, none⟩) (r.length + 1) cap] w fun e w' => CmR w w' e (cmdW w0 r) ∧ Gw w w' := by
  have XL : Hid (∀ x ∈ w0 :: r, x.length ≤ 2000000) := hx
  obtain ⟨rn, hrn⟩ : ∃ rn, r.length = rn := ⟨_, rfl⟩
  have RN : Aside (r.length = rn) := hrn
  have TC : Hid (∀ W, Gw w W → ∀ i x, (w0 :: r)[i]? = some x → W.cell? ⟨b, i, none⟩ = some (.string (Bs x))) := fun W g i x hi => (h.gw g).cell (by simp) hi
  have BL : Hid (b < w.heap.size) := (World.ownsRow.lt h b rfl).2
  have CPH : rn + 1 ≤ cap := by
    have := h
    unfold TXO at this
    rw [List.length_cons, hrn] at this
    rcases this.2 with ⟨e, _⟩ | ⟨_, _, _, e, _, _, q, _⟩
    · cases e
    · cases e; exact q
  have CH : Hid (∀ W, Calls Tryd.prog 26 #[.string (Bs w0), .int .i64 (rn : Int)] W fun e w' => e = .returned (.int .i64 (chkW w0 rn)) ∧ w' = W) := check_any w0 rn (by omega)
  have CL : Hid (∀ W, Calls Tryd.prog 45 #[.string (Bs w0)] W fun e w' => e = .returned (.string (Bs w0)) ∧ Gw W w') := clone_any w0 (hx w0 List.mem_cons_self)
  have CE : Aside (cmdW w0 r = if chkW w0 rn ≠ 0 then (chkW w0 rn, ⟨[], []⟩) else match numsOf r with | none => (212, ⟨[], []⟩) | some ns => (0, ⟨w0, ns⟩)) := by show _ = _; unfold cmdW; rw [hrn]
  rw [hrn] at hr ⊢
  obtain ⟨RA, ra, sl⟩ := tail_at b rn cap CPH
  have RAH : Hid (0 < rn → RA = some ⟨b, 1, none⟩) := ra
  obtain ⟨ck, hck⟩ : ∃ ck, chkW w0 rn = ck := ⟨_, rfl⟩
  rw [hck] at CH CE
  obtain ⟨N, hN⟩ : ∃ N, w.heap.size = N := ⟨_, rfl⟩
  have NH : Hid (w.heap.size = N) := hN
  obtain ⟨w1, E1⟩ : ∃ W, w.alloc (.cells #[.string (Bs []), .slice none 0 0] 30) = W := ⟨_, rfl⟩
  have E1H : Hid (w.alloc (.cells #[.string (Bs []), .slice none 0 0] 30) = w1) := E1
  have G1 : Hid (Gw w w1) := by show Gw _ _; rw [← E1]; exact (Gw.refl w).alloc _ _
  have N1 : Hid (w1.heap[N]? = some (.cells #[.string (Bs []), .slice none 0 0] 30 (0, 0))) := by show _ = _; rw [← E1, ← hN]; exact heap_alloc_new _ _
  have c0 : w1.cell? ⟨b, 0, none⟩ = some (.string (Bs w0)) := TC.out w1 G1.out 0 w0 rfl
  have rp : (0 : Int) < (rn : Int) + 1 := by omega
  have rp' : (0 : Int) < ((rn + 1 : Nat) : Int) := by omega
  clear hx h hrn ra hck E1
  go_enter Tryd.func23, Tryd.ntmps23
  go_wp2_with fail
  rw [E1H.out]
  go_quiet (fail)
  go_wp2_with (go_at_call 26; fail)
  refine (CH.out _).mono ?_
  rintro e w' ⟨rfl, hw⟩
  obtain rfl := hw.symm
  clear hw c0
  obtain ⟨w2, hw2⟩ : ∃ W, w1.drewN nq = W := ⟨_, rfl⟩
  have G2 : Hid (Gw w w2) := by rw [← hw2]; exact G1.out.drewN _
  have N2 : Hid (w2.heap[N]? = some (.cells #[.string (Bs []), .slice none 0 0] 30 (0, 0))) := by rw [← hw2]; exact N1.out
  rw [hw2]
  clear hw2 G1 N1 E1H
  by_cases q1 : ck = 0
  · subst q1
    have CE2 : Aside (cmdW w0 r = match numsOf r with | none => (212, ⟨[], []⟩) | some ns => (0, ⟨w0, ns⟩)) := by show _ = _; rw [CE.out, if_neg (by simp)]
    clear CE CH
    go_wp2_with (go_at_call 45; fail)
    refine (CL.out _).mono ?_
    rintro e w3 ⟨rfl, g3⟩
    have G3 : Hid (Gw w w3) := G2.out.trans g3
    have N3 : Hid (w3.heap[N]? = some (.cells #[.string (Bs []), .slice none 0 0] 30 (0, 0))) := (g3.below.block N (blkl N2.out)).trans N2.out
    clear g3 CL G2 N2
    obtain ⟨kk, hkk, kz, ks, kby⟩ := info_parts info_u64
    obtain ⟨cb, hcb⟩ : ∃ cb, w3.heap.size = cb := ⟨_, rfl⟩
    have CB : Hid (w3.heap.size = cb) := hcb
    have NcB : Hid (N < cb) := by have := blkl N3.out; show N < cb; omega
    have Bcb : Hid (b < cb) := by have := G3.out.size; have := BL.out; show b < cb; omega
    obtain ⟨w4, E4⟩ : ∃ W, w3.alloc (.cells #[.string (Bs w0), .slice none 0 0] 30) = W := ⟨_, rfl⟩
    have E4H : Hid (w3.alloc (.cells #[.string (Bs w0), .slice none 0 0] 30) = w4) := E4
    have G4 : Hid (Gw w3 w4) := by show Gw _ _; rw [← E4]; exact (Gw.refl _).alloc _ _
    have C4 : Hid (w4.heap[cb]? = some (.cells #[.string (Bs w0), .slice none 0 0] 30 (0, 0))) := by show _ = _; rw [← E4, ← hcb]; exact heap_alloc_new _ _
    clear E4
    go_wp2_with fail
    rw [E4H.out]
    try rw [hcb]
    clear hcb
    go_loopg [30] rn (fun gg s30 wv => ∃ (i : Nat) (v : Value) (ns : List Int), s30 = .int .i64 (i : Int) ∧ i ≤ rn ∧ rn - i ≤ gg ∧ Aside (numsOf (r.take i) = some ns ∧ ns.length = i) ∧ Hid (wv.heap[cb]? = some (.cells #[.string (Bs w0), v] 30 (0, 0))) ∧ Hid (NUO wv (cb + 1) v ns) ∧ Hid (Gw w3 wv))
    case atStart => exact ⟨0, .slice none 0 0, [], rfl, Nat.zero_le _, by omega, ⟨by simp [numsOf], rfl⟩, C4, NUO.nil _ _, G4⟩
    case round =>
      obtain ⟨i, v, ns, rfl, i1, hg, NS, CBk, NU, G5⟩ := hrel
      have gz5 : cb ≤ wr.heap.size := by have := G5.out.size; have := CB.out; omega
      have bcw := blkl CBk.out
      by_cases ilt : i < rn
      · have ilt' : (i : Int) < (rn : Int) := by omega
        have ir : i < r.length := by rw [RN.out]; exact ilt
        obtain ⟨x, hx⟩ : ∃ x, r[i]? = some x := ⟨r[i]'ir, List.getElem?_eq_getElem ir⟩
        have hx' : (w0 :: r)[1 + i]? = some x := by rw [Nat.add_comm]; exact hx
        have cx := TC.out wr (G3.out.trans G5.out) (1 + i) x hx'
        have re := RAH.out (by omega)
        have XR : Aside (r[i]? = some x ∧ x ∈ r) := ⟨hx, List.mem_of_getElem? hx⟩
        have NM : Hid (∀ W, Calls Tryd.prog 46 #[.string (Bs x)] W fun e w' => NumO x e ∧ Gw W w') := number_any x (XL.out x (List.mem_of_getElem? hx'))
        subst re
        clear hx hx' ir
        go_wp2_with (go_at_call 46; fail)
        refine (NM.out _).mono ?_
        rintro e w6 ⟨⟨nv, nb, rfl, hnv, hnum⟩, g6⟩
        have G6 : Hid (Gw w3 w6) := G5.out.trans g6
        have C6 : Hid (w6.heap[cb]? = some (.cells #[.string (Bs w0), v] 30 (0, 0))) := (g6.below.block cb (blkl CBk.out)).trans CBk.out
        have NU6 : Hid (NUO w6 (cb + 1) v ns) := own_gw NU.out g6
        have s6 := g6.size
        clear cx NM CBk NU
        cases nb with
        | false =>
          have NB : w6.heap[N]? = some (.cells #[.string (Bs []), .slice none 0 0] 30 (0, 0)) := (G6.out.below.block N (blkl N3.out)).trans N3.out
          have m0 : w6.cell? ⟨N, 0, none⟩ = some (.string (Bs [])) := blkc NB rfl
          have m1 : w6.cell? ⟨N, 1, none⟩ = some (.slice none 0 0) := blkc NB rfl
          have z0 := blkf (o := 0) NB
          have z1 := blkf (o := 1) NB
          have bl := blkl NB
          have TT := box2 NB (.string (Bs [])) (.slice none 0 0)
          have FIN : Hid (Gw w ((w6.setCell ⟨N, 0, none⟩ (.string (Bs []))).setCell ⟨N, 1, none⟩ (.slice none 0 0))) := ((G3.out.trans G6.out).setCell (Nat.le_of_eq NH.out) _).setCell (Nat.le_of_eq NH.out) _
          have CF : Aside (cmdW w0 r = (212, ⟨[], []⟩)) := by show _ = _; rw [CE2.out, nums_bad XR.out.2 (by simpa using hnum)]
          clear NB hnum hnv g6 G5
          go_wp2_with fail
          refine bodyPost_ret (v := .tuple #[.agg #[.string (Bs []), .slice none 0 0], .int .i64 212]) (by simp [results, Tryd.results23, go_sem, TT.1, TT.2]) rfl ⟨⟨.slice none 0 0, ?_, ?_⟩, FIN.out⟩
          · rw [CF.out]
          · rw [CF.out]; exact NUO.nil _ _
        | true =>
          have NX : Aside (numsOf (r.take (i + 1)) = some (ns ++ [nv])) := nums_more NS.out.1 XR.out.1 (by simpa using hnum)
          have c1 : w6.cell? ⟨cb, 1, none⟩ = some v := blkc C6.out rfl
          have z1 := blkf (o := 1) C6.out
          have cl := blkl C6.out
          have NL := NS.out.2
          have OW : Hid (w6.ownsRow (cb + 1) 31 1 v i (nus ns)) := by have := NU6.out; unfold NUO at this; rw [NL] at this; exact this
          clear hnum hnv g6 G5
          go_wp2_with (at_builtin; refine wpList_append_own _ rfl _ _ 28 rfl (cb + 1) 31 kk (.int .u64 0) 1 8 Tryd.underlying28 hkk kz ks kby rfl (by decide) v i _ rfl (OW.out.alloc _) ⟨w6.heap.size, 0, none⟩ 1 1 [.int .u64 nv] rfl rfl (new_one w6 nv) (nus_one [nv]) (by simp only [maxLen]; omega) (by omega) (by simp; omega) ?_)
          intro v' w7 r1 r2 r3
          obtain ⟨b8, cap8, rfl, hb8, _, _⟩ := own_slice r1 (by simpa using r3)
          have e7 : w7.heap[cb]? = some (.cells #[.string (Bs w0), v] 30 (0, 0)) := (r2.block cb (by simp; omega) (fun e => by have := (World.ownsRow.lt OW.out cb e.symm).1; omega)).trans ((heap_alloc_old _ _ cl).trans C6.out)
          have d1 : w7.cell? ⟨cb, 1, none⟩ = some v := blkc e7 rfl
          have y1 := blkf (o := 1) e7
          have b7 := blkl e7
          have E7 : Hid (w7.heap[cb]? = some (.cells #[.string (Bs w0), v] 30 (0, 0))) := e7
          have N7 : Hid (NUO w7 (cb + 1) (.slice (some ⟨b8, 0, none⟩) (i + 1) cap8) (ns ++ [nv])) := NUO.more (by rw [NL]; exact r1)
          have G7 : Hid (Gw w3 w7) := (G6.out.alloc _ _).grown r2 (fun q hq => by have := (World.ownsRow.lt OW.out q hq).1; have := CB.out; omega)
          have cb8 : cb ≠ b8 := by omega
          clear r1 r2 r3 e7 c1 z1 cl
          go_wp2_with fail
          go_roundg (rn - (i + 1))
          case measure => omega
          case rel => exact ⟨i + 1, .slice (some ⟨b8, 0, none⟩) (i + 1) cap8, ns ++ [nv], by go_num, by omega, Nat.le_refl _, ⟨NX.out, by simp; omega⟩, (by show _ = _; simp [World.setCell, Array.getElem?_modify, E7.out]), own_keep N7.out (fun q hq => by cases hq; exact Go.Deep.blk_setCell_other _ _ _ _ (Ne.symm cb8)), G7.out.setCell (Nat.le_of_eq CB.out) _⟩
      · have CF : Aside (cmdW w0 r = (0, ⟨w0, ns⟩)) := by
          have e : numsOf r = some ns := by
            have := NS.out.1
            rw [List.take_of_length_le (by rw [RN.out]; omega)] at this
            exact this
          show _ = _
          rw [CE2.out, e]
        have NB : wr.heap[N]? = some (.cells #[.string (Bs []), .slice none 0 0] 30 (0, 0)) := (G5.out.below.block N (blkl N3.out)).trans N3.out
        have m0 : wr.cell? ⟨N, 0, none⟩ = some (.string (Bs [])) := blkc NB rfl
        have m1 : wr.cell? ⟨N, 1, none⟩ = some (.slice none 0 0) := blkc NB rfl
        have z0 := blkf (o := 0) NB
        have z1 := blkf (o := 1) NB
        have bl := blkl NB
        have TT := box2 NB (.string (Bs w0)) v
        have FIN : Hid (Gw w ((wr.setCell ⟨N, 0, none⟩ (.string (Bs w0))).setCell ⟨N, 1, none⟩ v)) := ((G3.out.trans G5.out).setCell (Nat.le_of_eq NH.out) _).setCell (Nat.le_of_eq NH.out) _
        have N5 : Hid (NUO ((wr.setCell ⟨N, 0, none⟩ (.string (Bs w0))).setCell ⟨N, 1, none⟩ v) w.heap.size v ns) := NUO.low (base := cb + 1) (own_keep NU.out (fun q hq => by
          have h1 := (World.ownsRow.lt NU.out q hq).1
          have h2 := NcB.out
          have h3 : q ≠ N := by omega
          rw [Go.Deep.blk_setCell_other _ _ _ _ h3, Go.Deep.blk_setCell_other _ _ _ _ h3])) (by have := NH.out; have := NcB.out; omega)
        have c1 : wr.cell? ⟨cb, 0, none⟩ = some (.string (Bs w0)) := blkc CBk.out rfl
        have c2 : wr.cell? ⟨cb, 1, none⟩ = some v := blkc CBk.out rfl
        obtain ⟨vo, vn, vc, rfl⟩ : ∃ vo vn vc, v = .slice vo vn vc := by
          rcases NU.out.2 with ⟨q, _⟩ | ⟨_, _, _, q, _⟩
          · exact ⟨_, _, _, q⟩
          · exact ⟨_, _, _, q⟩
        clear NB
        go_wp2_with fail
        refine bodyPost_ret (v := .tuple #[.agg #[.string (Bs w0), .slice vo vn vc], .int .i64 0]) (by simp [results, Tryd.results23, go_sem, TT.1, TT.2]) rfl ⟨⟨.slice vo vn vc, ?_, ?_⟩, FIN.out⟩
        · rw [CF.out]
        · rw [CF.out]; exact N5.out
  · have q1' : (ck == 0) = false := by simp [q1]
    have CF : Aside (cmdW w0 r = (ck, ⟨[], []⟩)) := by show _ = _; rw [CE.out, if_pos q1]
    have NB := N2.out
    have m0 : w2.cell? ⟨N, 0, none⟩ = some (.string (Bs [])) := blkc NB rfl
    have m1 : w2.cell? ⟨N, 1, none⟩ = some (.slice none 0 0) := blkc NB rfl
    have z0 := blkf (o := 0) NB
    have z1 := blkf (o := 1) NB
    have bl := blkl NB
    have TT := box2 NB (.string (Bs [])) (.slice none 0 0)
    have FIN : Hid (Gw w ((w2.setCell ⟨N, 0, none⟩ (.string (Bs []))).setCell ⟨N, 1, none⟩ (.slice none 0 0))) := (G2.out.setCell (Nat.le_of_eq NH.out) _).setCell (Nat.le_of_eq NH.out) _
    clear NB q1 CE
    go_wp2_with fail
    refine bodyPost_ret (v := .tuple #[.agg #[.string (Bs []), .slice none 0 0], .int .i64 ck]) (by simp [results, Tryd.results23, go_sem, TT.1, TT.2]) rfl ⟨⟨.slice none 0 0, ?_, ?_⟩, FIN.out⟩
    · rw [CF.out]
    · rw [CF.out]; exact NUO.nil _ _
end Go.Proofs.YtocnmdabilaccaaDoor
