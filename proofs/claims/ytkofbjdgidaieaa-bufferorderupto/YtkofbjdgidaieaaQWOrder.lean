/- Layer 14: entries of unlike keys, in whatever order. -/
import Derived.Test.YtkofbjdgidaieaaQLaw2
import Derived.Test.YtkofbjdgidaieaaQOrderP
import Derived.Test.YtkofbjdgidaieaaQOpen
import Derived.BigRegion
namespace Go.Proofs.Ytkofbjdgidaieaa
open Go.RowKit
set_option linter.unusedVariables false

theorem bad_cases (e : Ent) : (e.g = false ∧ gd e = true) ∨ (e.g = true ∧ ((e.v : Int) == 0) = true ∧ gd e = true) ∨ (e.g = true ∧ ((e.v : Int) == 0) = false ∧ gd e = false) := by
  unfold gd
  cases e.g with
  | false => exact .inl ⟨rfl, rfl⟩
  | true =>
    cases h : ((e.v : Int) == 0) with
    | true => exact .inr (.inl ⟨rfl, rfl, rfl⟩)
    | false => exact .inr (.inr ⟨rfl, rfl, rfl⟩)
set_option maxRecDepth 20000 in
set_option maxHeartbeats 16000000 in
theorem order_walk (ao : Option Addr) (c : Nat) (l : List Ent) (hn : l.length ≤ 2000000) (to : Option Addr) (tc : Nat) (tl : List Int) (htn : tl.length ≤ 2000000) (most : Int) (hmo : -9223372036854775808 ≤ most ∧ most < 9223372036854775808) (w : World) (h : EL w ao l) (ht : NLs w to tl) :
    Calls Try.prog 5 #[.slice ao l.length c, .slice to tl.length tc, .int .i64 most] w fun e w' => e = .returned (.bool true) ∧ Gw w w' := by
  have SC : Aside (EL w ao l) := h
  have TC : Aside (NLs w to tl) := ht
  obtain ⟨n, hln⟩ : ∃ n, l.length = n := ⟨_, rfl⟩
  have LN : Aside (l.length = n) := hln
  obtain ⟨tn, htl⟩ : ∃ n, tl.length = n := ⟨_, rfl⟩
  have TN : Aside (tl.length = tn) := htl
  rw [hln] at hn ⊢
  rw [htl] at htn ⊢
  have CELL : Hid (∀ (W : World) (i : Nat), i < n → Gw w W → ∃ (b off : Nat) (y : Ent), ao = some ⟨b, off, none⟩ ∧ l[i]? = some y ∧ W.cell? ⟨b, off + i * 3, none⟩ = some (.int .u64 y.k) ∧ W.cell? ⟨b, off + i * 3 + 1, none⟩ = some (.int .u64 y.v) ∧ W.cell? ⟨b, off + i * 3 + 2, none⟩ = some (.bool y.g) ∧ b < W.heap.size) := fun W i hi g => by
    have hi' : i < l.length := by rw [LN.out]; exact hi
    obtain ⟨b, off, e, hb, hc⟩ := (SC.out.gw g).cells (by omega)
    obtain ⟨c0, c1, c2⟩ := hc i hi'
    exact ⟨b, off, l.getD i ent0, e, by simp [List.getD, hi'], c0, c1, c2, hb⟩
  have hqb : ∀ (b : Nat) (W : World), (binOp .eql 24 (.pointer (some ⟨b, 0, none⟩)) (.pointer none)).run Try.prog W = .ok (.bool false) W := fun _ _ => by kernel_rfl
  obtain ⟨ii, hii, hz, hs, hby⟩ := info_parts info_e
  clear h ht hln htl
  go_enter Try.func5, Try.ntmps5
  go_wp2_with fail
  refine (shown14 w).mono ?_
  rintro ex w1 ⟨rfl, g1⟩
  have G1 : Aside (Gw w w1) := g1
  clear g1
  have E1 : Aside (EO (w1.alloc (.cells #[] 35)) w.heap.size (.slice (some ⟨w1.heap.size, 0, none⟩) 0 0) []) := eo_new w1 _ G1.out.size
  have G2 : Aside (Gw w (w1.alloc (.cells #[] 35))) := G1.out.alloc _ _
  go_wp2_with fail
  generalize w1.alloc (.cells #[] 35) = w2 at E1 G2 ⊢
  go_loopg [8, 9] n (fun gg s8 s9 wr => ∃ (i m ob oc : Nat) (o : List Ent), s8 = .slice (some ⟨ob, 0, none⟩) m oc ∧ s9 = .int .i64 (i : Int) ∧ i ≤ n ∧ n - i ≤ gg ∧ m ≤ i ∧ Aside (o.length = m) ∧ Aside (EO wr w.heap.size (.slice (some ⟨ob, 0, none⟩) m oc) o) ∧ Aside (Uq o ∧ (∀ e ∈ o, gd e = true) ∧ ∀ e ∈ o, e.ok) ∧ Aside (Gw w wr))
  case atStart => exact ⟨0, 0, w1.heap.size, 0, [], rfl, rfl, Nat.zero_le _, by omega, Nat.le_refl _, (show Aside _ from rfl), E1, (show Aside _ from ⟨List.Pairwise.nil, (fun e he => by cases he), (fun e he => by cases he)⟩), G2⟩
  case round =>
    clear E1 G2 G1
    obtain ⟨i, m, ob, oc, o, rfl, rfl, a1, a2, a3, ML, EOo, UO, G⟩ := hrel
    obtain ⟨wo, hwo⟩ : ∃ wx, wx = wr := ⟨_, rfl⟩
    subst hwo
    by_cases hlt : i < n
    · have hlt' : (i : Int) < (n : Int) := by omega
      obtain ⟨sb, soff, y, eao, hy, c0, c1, c2, sl⟩ := CELL.out wo i hlt G.out
      subst eao
      have ok : y.ok := SC.out.all y (List.mem_of_getElem? hy)
      have OKY : Aside (y.ok) := ok
      have BC := bad_cases y
      have CL2 : Hid (∀ W, Gw w W → W.cell? ⟨sb, soff + i * 3, none⟩ = some (.int .u64 y.k) ∧ W.cell? ⟨sb, soff + i * 3 + 1, none⟩ = some (.int .u64 y.v) ∧ W.cell? ⟨sb, soff + i * 3 + 2, none⟩ = some (.bool y.g)) := fun W g => by
        obtain ⟨b', off', y', e1, e2, e3, e4, e5, _⟩ := CELL.out W i hlt g
        cases e1
        rw [hy] at e2
        cases e2
        exact ⟨e3, e4, e5⟩
      have OC : Hid (∀ (W : World) (k : Nat), k < m → Gw wo W → ∃ x : Ent, o[k]? = some x ∧ W.cell? ⟨ob, k * 3, none⟩ = some (.int .u64 x.k) ∧ ob < W.heap.size) := fun W k hk g => by
        obtain ⟨b, eb, _, bl, _, cc⟩ := eo_form (eo_gw EOo.out g) ML.out (by omega)
        cases eb
        exact ⟨o.getD k ent0, by simp [List.getD, show k < o.length by rw [ML.out]; exact hk], (cc k hk).1, bl⟩
      clear hy ok
      obtain ⟨yk, yv, yg⟩ := y
      have c0' : wo.cell? ⟨sb, soff + i * 3, none⟩ = some (.int .u64 yk) := c0
      have c1' : wo.cell? ⟨sb, soff + i * 3 + 1, none⟩ = some (.int .u64 yv) := c1
      have c2' : wo.cell? ⟨sb, soff + i * 3 + 2, none⟩ = some (.bool yg) := c2
      simp only at CL2 BC
      clear c0 c1 c2
      rcases BC with ⟨rfl, gt⟩ | ⟨rfl, vz, gt⟩ | ⟨rfl, vz, gt⟩
      · have GT : Aside (gd ⟨yk, yv, false⟩ = true) := gt
        clear gt
        go_wp2_with fail
        go_loopg [10, 11] m (fun gg s10 s11 wr => ∃ (k : Nat), s10 = .bool (hasK yk (o.take k)) ∧ s11 = .int .i64 (k : Int) ∧ k ≤ m ∧ m - k ≤ gg ∧ Aside (Gw wo wr))
        case atStart => exact ⟨0, (by first | rfl | (rw [bne, vz]; rfl)), rfl, Nat.zero_le _, by omega, (show Aside _ from Gw.refl wo)⟩
        case round =>
          obtain ⟨k, rfl, rfl, d1, d2, GK⟩ := hrel
          obtain ⟨x0, x1, x2⟩ := CL2.out wr (G.out.trans GK.out)
          by_cases klt : k < m
          · have klt' : (k : Int) < (m : Int) := by omega
            obtain ⟨x, hx, e0, el⟩ := OC.out wr k klt GK.out
            have HKC : hasK yk (o.take (k + 1)) = (hasK yk (o.take k) || x.k == yk) := by rw [take_snoc hx, hasK_snoc]
            generalize hasK yk (o.take k) = b at HKC ⊢
            generalize x.k = xk at HKC e0
            clear hx
            cases b with
            | true =>
              have HK' : Aside (hasK yk (o.take (k + 1)) = true) := by show _ = _; rw [HKC]; rfl
              clear HKC
              go_wp2_with fail
              go_quiet (fail)
              go_wp2_with fail
              go_roundg (m - (k + 1))
              case measure => omega
              case rel => exact ⟨k + 1, by rw [HK'.out], by go_num, by omega, Nat.le_refl _, (show Aside _ from GK.out.drewN _)⟩
            | false =>
              obtain ⟨b', hb'⟩ : ∃ b, (xk == yk) = b := ⟨_, rfl⟩
              have HK' : Aside (hasK yk (o.take (k + 1)) = b') := by show _ = _; rw [HKC, hb']; rfl
              clear HKC
              go_wp2_with fail
              go_quiet (fail)
              go_wp2_with fail
              go_roundg (m - (k + 1))
              case measure => omega
              case rel => exact ⟨k + 1, by rw [HK'.out], by go_num, by omega, Nat.le_refl _, (show Aside _ from GK.out.drewN _)⟩
          · have ek : m = k := by omega
            subst ek
            have TK : o.take m = o := List.take_of_length_le (by rw [ML.out]; exact Nat.le_refl _)
            rw [TK]
            clear TK OC
            cases hb : hasK yk o with
            | true =>
              clear hb
              go_wp2_with fail
              go_roundg (n - (i + 1))
              case measure => omega
              case rel => exact ⟨i + 1, m, ob, oc, o, rfl, by go_num, by omega, Nat.le_refl _, by omega, ML, (show Aside _ from eo_gw EOo.out GK.out), UO, (show Aside _ from G.out.trans GK.out)⟩
            | false =>
              have UO' : Aside (Uq (o ++ [⟨yk, yv, false⟩]) ∧ (∀ e ∈ o ++ [⟨yk, yv, false⟩], gd e = true) ∧ ∀ e ∈ o ++ [⟨yk, yv, false⟩], e.ok) := ⟨UO.out.1.snoc (hasK_not hb), fun e he => by
                rcases List.mem_append.1 he with q | q
                · exact UO.out.2.1 e q
                · rw [List.mem_singleton.1 q]; exact GT.out, fun e he => by
                rcases List.mem_append.1 he with q | q
                · exact UO.out.2.2 e q
                · rw [List.mem_singleton.1 q]; exact OKY.out⟩
              have EOW : Aside (wr.ownsRow w.heap.size 35 3 (.slice (some ⟨ob, 0, none⟩) m oc) m (o.flatMap ent3)) := eo_row (eo_gw EOo.out GK.out) ML.out
              have GWR : Aside (Gw w wr) := G.out.trans GK.out
              have wz := GWR.out.size
              clear hb
              go_wp2_with (at_builtin; refine wpList_append_own _ rfl _ _ 40 rfl w.heap.size 35 ii (.agg #[.int .u64 0, .int .u64 0, .bool false]) 3 24 Try.underlying40 hii hz hs hby rfl (by decide) _ m _ rfl (EOW.out.alloc _) ⟨wr.heap.size, 0, none⟩ 1 1 (ent3 ⟨yk, yv, false⟩) rfl rfl (new_ent wr ⟨yk, yv, false⟩) (ent3_one _) (by simp only [maxLen]; omega) (by omega) (by simp; omega) ?_)
              intro v' w5 r1 r2 r3
              obtain ⟨b5, cap5, rfl, hb5, _, _⟩ := own_slice r1 (by simpa using r3)
              have E5 : Aside (EO w5 w.heap.size (.slice (some ⟨b5, 0, none⟩) (m + 1) cap5) (o ++ [⟨yk, yv, false⟩])) := eo_more (by rw [ML.out]; exact r1)
              have M5 : Aside ((o ++ [(⟨yk, yv, false⟩ : Ent)]).length = m + 1) := by show _ = _; rw [List.length_append, ML.out]; rfl
              have G5 : Aside (Gw w w5) := (GWR.out.alloc _ _).grown r2 (fun q hq => (World.ownsRow.lt EOW.out q hq).1)
              clear r1 r2 r3 EOW
              go_wp2_with fail
              go_roundg (n - (i + 1))
              case measure => omega
              case rel => exact ⟨i + 1, m + 1, b5, cap5, _, rfl, by go_num, by omega, Nat.le_refl _, by omega, M5, E5, UO', G5⟩
      · have GT : Aside (gd ⟨yk, yv, true⟩ = true) := gt
        clear gt
        go_wp2_with fail
        go_loopg [10, 11] m (fun gg s10 s11 wr => ∃ (k : Nat), s10 = .bool (hasK yk (o.take k)) ∧ s11 = .int .i64 (k : Int) ∧ k ≤ m ∧ m - k ≤ gg ∧ Aside (Gw wo wr))
        case atStart => exact ⟨0, (by first | rfl | (rw [bne, vz]; rfl)), rfl, Nat.zero_le _, by omega, (show Aside _ from Gw.refl wo)⟩
        case round =>
          obtain ⟨k, rfl, rfl, d1, d2, GK⟩ := hrel
          obtain ⟨x0, x1, x2⟩ := CL2.out wr (G.out.trans GK.out)
          by_cases klt : k < m
          · have klt' : (k : Int) < (m : Int) := by omega
            obtain ⟨x, hx, e0, el⟩ := OC.out wr k klt GK.out
            have HKC : hasK yk (o.take (k + 1)) = (hasK yk (o.take k) || x.k == yk) := by rw [take_snoc hx, hasK_snoc]
            generalize hasK yk (o.take k) = b at HKC ⊢
            generalize x.k = xk at HKC e0
            clear hx
            cases b with
            | true =>
              have HK' : Aside (hasK yk (o.take (k + 1)) = true) := by show _ = _; rw [HKC]; rfl
              clear HKC
              go_wp2_with fail
              go_quiet (fail)
              go_wp2_with fail
              go_roundg (m - (k + 1))
              case measure => omega
              case rel => exact ⟨k + 1, by rw [HK'.out], by go_num, by omega, Nat.le_refl _, (show Aside _ from GK.out.drewN _)⟩
            | false =>
              obtain ⟨b', hb'⟩ : ∃ b, (xk == yk) = b := ⟨_, rfl⟩
              have HK' : Aside (hasK yk (o.take (k + 1)) = b') := by show _ = _; rw [HKC, hb']; rfl
              clear HKC
              go_wp2_with fail
              go_quiet (fail)
              go_wp2_with fail
              go_roundg (m - (k + 1))
              case measure => omega
              case rel => exact ⟨k + 1, by rw [HK'.out], by go_num, by omega, Nat.le_refl _, (show Aside _ from GK.out.drewN _)⟩
          · have ek : m = k := by omega
            subst ek
            have TK : o.take m = o := List.take_of_length_le (by rw [ML.out]; exact Nat.le_refl _)
            rw [TK]
            clear TK OC
            cases hb : hasK yk o with
            | true =>
              clear hb
              go_wp2_with fail
              go_roundg (n - (i + 1))
              case measure => omega
              case rel => exact ⟨i + 1, m, ob, oc, o, rfl, by go_num, by omega, Nat.le_refl _, by omega, ML, (show Aside _ from eo_gw EOo.out GK.out), UO, (show Aside _ from G.out.trans GK.out)⟩
            | false =>
              have UO' : Aside (Uq (o ++ [⟨yk, yv, true⟩]) ∧ (∀ e ∈ o ++ [⟨yk, yv, true⟩], gd e = true) ∧ ∀ e ∈ o ++ [⟨yk, yv, true⟩], e.ok) := ⟨UO.out.1.snoc (hasK_not hb), fun e he => by
                rcases List.mem_append.1 he with q | q
                · exact UO.out.2.1 e q
                · rw [List.mem_singleton.1 q]; exact GT.out, fun e he => by
                rcases List.mem_append.1 he with q | q
                · exact UO.out.2.2 e q
                · rw [List.mem_singleton.1 q]; exact OKY.out⟩
              have EOW : Aside (wr.ownsRow w.heap.size 35 3 (.slice (some ⟨ob, 0, none⟩) m oc) m (o.flatMap ent3)) := eo_row (eo_gw EOo.out GK.out) ML.out
              have GWR : Aside (Gw w wr) := G.out.trans GK.out
              have wz := GWR.out.size
              clear hb
              go_wp2_with (at_builtin; refine wpList_append_own _ rfl _ _ 40 rfl w.heap.size 35 ii (.agg #[.int .u64 0, .int .u64 0, .bool false]) 3 24 Try.underlying40 hii hz hs hby rfl (by decide) _ m _ rfl (EOW.out.alloc _) ⟨wr.heap.size, 0, none⟩ 1 1 (ent3 ⟨yk, yv, true⟩) rfl rfl (new_ent wr ⟨yk, yv, true⟩) (ent3_one _) (by simp only [maxLen]; omega) (by omega) (by simp; omega) ?_)
              intro v' w5 r1 r2 r3
              obtain ⟨b5, cap5, rfl, hb5, _, _⟩ := own_slice r1 (by simpa using r3)
              have E5 : Aside (EO w5 w.heap.size (.slice (some ⟨b5, 0, none⟩) (m + 1) cap5) (o ++ [⟨yk, yv, true⟩])) := eo_more (by rw [ML.out]; exact r1)
              have M5 : Aside ((o ++ [(⟨yk, yv, true⟩ : Ent)]).length = m + 1) := by show _ = _; rw [List.length_append, ML.out]; rfl
              have G5 : Aside (Gw w w5) := (GWR.out.alloc _ _).grown r2 (fun q hq => (World.ownsRow.lt EOW.out q hq).1)
              clear r1 r2 r3 EOW
              go_wp2_with fail
              go_roundg (n - (i + 1))
              case measure => omega
              case rel => exact ⟨i + 1, m + 1, b5, cap5, _, rfl, by go_num, by omega, Nat.le_refl _, by omega, M5, E5, UO', G5⟩
      · have GT : Aside (gd ⟨yk, yv, true⟩ = false) := gt
        clear gt
        go_wp2_with fail
        go_loopg [10, 11] m (fun gg s10 s11 wr => ∃ (k : Nat), s10 = .bool true ∧ s11 = .int .i64 (k : Int) ∧ k ≤ m ∧ m - k ≤ gg ∧ Aside (Gw wo wr))
        case atStart => exact ⟨0, (by first | rfl | (rw [bne, vz]; rfl)), rfl, Nat.zero_le _, by omega, (show Aside _ from Gw.refl wo)⟩
        case round =>
          obtain ⟨k, rfl, rfl, d1, d2, GK⟩ := hrel
          obtain ⟨x0, x1, x2⟩ := CL2.out wr (G.out.trans GK.out)
          by_cases klt : k < m
          · have klt' : (k : Int) < (m : Int) := by omega
            go_wp2_with fail
            go_quiet (fail)
            go_wp2_with fail
            go_roundg (m - (k + 1))
            case measure => omega
            case rel => exact ⟨k + 1, rfl, by go_num, by omega, Nat.le_refl _, (show Aside _ from GK.out.drewN _)⟩
          · have ek : m = k := by omega
            subst ek
            clear OC
            go_wp2_with fail
            go_roundg (n - (i + 1))
            case measure => omega
            case rel => exact ⟨i + 1, m, ob, oc, o, rfl, by go_num, by omega, Nat.le_refl _, by omega, ML, (show Aside _ from eo_gw EOo.out GK.out), UO, (show Aside _ from G.out.trans GK.out)⟩
    · have OKO : Aside (∀ e ∈ o, e.ok) := UO.out.2.2
      have UQ : Aside (Uq o) := UO.out.1
      have GDO : Aside (∀ e ∈ o, gd e = true) := UO.out.2.1
      have OL : Aside (EL wo (some ⟨ob, 0, none⟩) o) := eo_el (by rw [ML.out]; exact EOo.out) OKO.out
      have OBL : Aside (w.heap.size ≤ ob ∧ ob < wo.heap.size) := World.ownsRow.lt EOo.out ob rfl
      have O0 : Hid ((wo.alloc (.cells #[] 35)).ownsRow w.heap.size 35 3 (.slice (some ⟨wo.heap.size, 0, none⟩) 0 0) 0 []) := World.ownsRow_made wo #[] 0 G.out.size (Nat.zero_le _) rfl
      have NW : Hid (∀ x, (some ⟨ob, 0, none⟩ : Option Addr) = some x → ∀ j u, (o.flatMap ent3)[j]? = some u → (wo.alloc (.cells #[] 35)).cell? (x.add j) = some u) := el_news (OL.out.gw ((Gw.refl wo).alloc _ _))
      have FL : Aside ((o.flatMap ent3).length = m * 3) := by show _ = _; rw [flat_len, ML.out]
      have wz := G.out.size
      go_wp2_with (at_builtin; refine wpList_append_own_at _ rfl _ _ 40 rfl w.heap.size 35 ii (.agg #[.int .u64 0, .int .u64 0, .bool false]) 3 24 Try.underlying40 hii hz hs hby rfl (by decide) _ 0 [] rfl O0.out ⟨ob, 0, none⟩ m oc (o.flatMap ent3) rfl FL.out (NW.out _ rfl) (flat_ones o) (by simp only [maxLen]; omega) (by omega) (by simp; omega) ?_)
      intro v' w4 r1 r2 r3 r4
      obtain ⟨tb, tcap, rfl, htb, htcap, _⟩ := own_slice r1 (by simpa using r3)
      have TBL : Aside (wo.heap.size ≤ tb) := by
        show _ ≤ _
        rcases r4 with q | q
        · have q' : tb = wo.heap.size := by simpa [Value.ownBlock] using q
          omega
        · have q' : tb = wo.heap.size + 1 := by simpa [Value.ownBlock] using q
          omega
      have ET : Aside (EO w4 w.heap.size (.slice (some ⟨tb, 0, none⟩) m tcap) o) := by show World.ownsRow _ _ _ _ _ _ _; rw [ML.out]; exact r1
      have G4 : Aside (Gw wo w4) := ((Gw.refl wo).alloc _ _).grown r2 (fun q hq => by cases hq; exact Nat.le_refl _)
      have GW4 : Aside (Gw w w4) := G.out.trans G4.out
      clear r1 r2 r3 r4 O0 NW FL a2
      go_wp2_with fail
      go_loopg [13] tn (fun gg s13 wr => ∃ (i : Nat) (t : List Ent), s13 = .int .i64 (i : Int) ∧ i ≤ tn ∧ tn - i ≤ gg ∧ Aside (t.Perm o ∧ t.length = m) ∧ Aside (EO wr w.heap.size (.slice (some ⟨tb, 0, none⟩) m tcap) t) ∧ Aside (Gx (fun q => q = tb) w4 wr))
      case atStart => exact ⟨0, o, rfl, Nat.zero_le _, by omega, (show Aside _ from ⟨List.Perm.refl _, ML.out⟩), ET, (show Aside _ from Gx.refl _ w4)⟩
      case round =>
        clear ET
        obtain ⟨i, t, rfl, b1, b2, TP, ET, GT⟩ := hrel
        have GWR : Aside (Gw w wr) := Gx.gw GW4.out GT.out (fun q hq => by rw [show q = tb from hq]; exact Nat.le_trans wz TBL.out)
        by_cases ilt : i < tn ∧ 0 < m
        · obtain ⟨ilt, m0⟩ := ilt
          have ilt' : (i : Int) < (tn : Int) := by omega
          have m0' : decide ((0 : Int) < (m : Int)) = true := by simp; omega
          have mz : ((m : Int) == 0) = false := by simp; omega
          obtain ⟨nb, noff, rfl, hnb, hnc⟩ := (TC.out.gw GWR.out).cells (by rw [TN.out]; omega)
          obtain ⟨x, hx⟩ : ∃ x, tl[i]? = some x := ⟨_, List.getElem?_eq_getElem (by rw [TN.out]; exact ilt)⟩
          have xc := hnc i x hx
          have xb := TC.out.bd x (List.mem_of_getElem? hx)
          clear hnc hx
          go_wp2_with fail
          refine (kind14 x xb.1 xb.2 _).mono ?_
          rintro ex wk ⟨⟨r, rfl, r0, r1⟩, ek1⟩
          have ek2 := ek1.symm
          subst ek2
          clear ek1 xb
          obtain ⟨rn, hrn⟩ : ∃ rn : Nat, r = (rn : Int) := ⟨r.toNat, by omega⟩
          subst hrn
          have kw : Int.tmod (rn : Int) (m : Int) = ((rn % m : Nat) : Int) := rfl
          have jw : Int.tmod (i : Int) (m : Int) = ((i % m : Nat) : Int) := rfl
          go_wp2_with fail
          obtain ⟨k, hk⟩ : ∃ k : Nat, k = rn % m := ⟨_, rfl⟩
          obtain ⟨j, hj⟩ : ∃ j : Nat, j = i % m := ⟨_, rfl⟩
          have km : k < m := by rw [hk]; exact Nat.mod_lt _ m0
          have jm : j < m := by rw [hj]; exact Nat.mod_lt _ m0
          rw [show ((rn : Int) % (m : Int)) = ((k : Nat) : Int) by rw [hk]; rfl, show ((i : Int) % (m : Int)) = ((j : Nat) : Int) by rw [hj]; rfl]
          have km' : (k : Int) < (m : Int) := by omega
          have jm' : (j : Int) < (m : Int) := by omega
          obtain ⟨tb', etb, _, tbl, fz, cc⟩ := eo_form ET.out TP.out.2 m0
          cases etb
          obtain ⟨k0, k1, k2⟩ := cc k km
          obtain ⟨j0, j1, j2⟩ := cc j jm
          have PM : Aside ((swpE t j k).Perm o ∧ (swpE t j k).length = m) := ⟨(swpE_perm t (by rw [TP.out.2]; exact jm) (by rw [TP.out.2]; exact km)).trans TP.out.1, by rw [swpE_len]; exact TP.out.2⟩
          have EW1 := eo_put (k := j) (w := wr) ET.out TP.out.2 (by rw [TP.out.2]; exact jm) (t.getD k ent0)
          have EW2 := eo_put (k := k) EW1 (by rw [List.length_set]; exact TP.out.2) (by rw [List.length_set, TP.out.2]; exact km) (t.getD j ent0)
          obtain ⟨tb', etb, _, tbl1, fz1, cc1⟩ := eo_form EW1 (by rw [List.length_set]; exact TP.out.2) m0
          cases etb
          obtain ⟨l0, l1, l2⟩ := cc1 k km
          have GS : Aside (Gx (fun q => q = tb) w4 (put3 (put3 wr tb (j * 3) (t.getD k ent0)) tb (k * 3) (t.getD j ent0))) := (((((GT.out.set (.inl rfl) _ _).set (.inl rfl) _ _).set (.inl rfl) _ _).set (.inl rfl) _ _).set (.inl rfl) _ _).set (.inl rfl) _ _
          have EW3 : Aside (EO (put3 (put3 wr tb (j * 3) (t.getD k ent0)) tb (k * 3) (t.getD j ent0)) w.heap.size (.slice (some ⟨tb, 0, none⟩) m tcap) (swpE t j k)) := EW2
          generalize (t.set j (t.getD k ent0)).getD k ent0 = zz at l0 l1 l2
          clear cc cc1 EW1 EW2
          generalize t.getD k ent0 = tk at k0 k1 k2 l0 l1 l2 fz1 tbl1 GS EW3
          generalize t.getD j ent0 = tj at j0 j1 j2 GS EW3
          obtain ⟨ak, av, ag⟩ := tk
          obtain ⟨dk, dv, dg⟩ := tj
          obtain ⟨zk, zv, zg⟩ := zz
          unfold put3 at GS EW3 l0 l1 l2 fz1 tbl1
          simp only at GS EW3 l0 l1 l2 fz1 tbl1 k0 k1 k2 j0 j1 j2
          obtain ⟨W1, hW1⟩ : ∃ W, ((wr.setCell ⟨tb, j * 3, none⟩ (.int .u64 ak)).setCell ⟨tb, j * 3 + 1, none⟩ (.int .u64 av)).setCell ⟨tb, j * 3 + 2, none⟩ (.bool ag) = W := ⟨_, rfl⟩
          rw [hW1] at GS EW3 l0 l1 l2 fz1 tbl1
          obtain ⟨W2, hW2⟩ : ∃ W, ((W1.setCell ⟨tb, k * 3, none⟩ (.int .u64 dk)).setCell ⟨tb, k * 3 + 1, none⟩ (.int .u64 dv)).setCell ⟨tb, k * 3 + 2, none⟩ (.bool dg) = W := ⟨_, rfl⟩
          rw [hW2] at GS EW3
          have y0 := fz (j * 3)
          have y1 := fz (j * 3 + 1)
          have y2 := fz (j * 3 + 2)
          have y3 := fz1 (k * 3)
          have y4 := fz1 (k * 3 + 1)
          have y5 := fz1 (k * 3 + 2)
          clear fz fz1 hk hj ET GT GWR TP r0 r1 kw jw xc
          go_big_region
          go_wp2_with fail
          go_roundg (tn - (i + 1))
          case measure => omega
          case rel => exact ⟨i + 1, swpE t j k, by go_num, by omega, Nat.le_refl _, PM, (show Aside _ from eo_keep EW3.out (fun _ _ => rfl)), (show Aside _ from GS.out.drew)⟩
        · by_cases it : i < tn
          · have mz0 : ¬ 0 < m := fun q => ilt ⟨it, q⟩
            have mz1 : decide ((0 : Int) < (m : Int)) = false := by simp; omega
            have it' : (i : Int) < (tn : Int) := by omega
            clear ilt
            have OW : Aside (EL wr (some ⟨ob, 0, none⟩) o) := by
              have x := OL.out.gw G4.out
              exact x.keep (Nat.lt_of_lt_of_le (Nat.lt_of_lt_of_le OBL.out.2 G4.out.size) GT.out.size) (GT.out.block ob (Nat.lt_of_lt_of_le OBL.out.2 G4.out.size) (fun e => by have e' : ob = tb := e; have := TBL.out; have := OBL.out.2; omega))
            have TW : Aside (EL wr (some ⟨tb, 0, none⟩) t) := eo_el (by rw [TP.out.2]; exact ET.out) (fun e he => OKO.out e (TP.out.1.mem_iff.1 he))
            have OCE : Hid (∀ (W : World) (i : Nat), i < m → Gw wr W → ∃ x : Ent, o[i]? = some x ∧ W.cell? ⟨ob, i * 3, none⟩ = some (.int .u64 x.k) ∧ W.cell? ⟨ob, i * 3 + 1, none⟩ = some (.int .u64 x.v) ∧ W.cell? ⟨ob, i * 3 + 2, none⟩ = some (.bool x.g)) := fun W i hi g => by
              have hi' : i < o.length := by rw [ML.out]; exact hi
              obtain ⟨b, off, e, _, hc⟩ := (OW.out.gw g).cells (by omega)
              cases e
              have := hc i hi'
              rw [Nat.zero_add] at this
              exact ⟨o.getD i ent0, by simp [List.getD, hi'], this⟩
            have TCE : Hid (∀ (W : World) (i : Nat), i < m → Gw wr W → ∃ x : Ent, t[i]? = some x ∧ W.cell? ⟨tb, i * 3, none⟩ = some (.int .u64 x.k) ∧ W.cell? ⟨tb, i * 3 + 1, none⟩ = some (.int .u64 x.v) ∧ W.cell? ⟨tb, i * 3 + 2, none⟩ = some (.bool x.g)) := fun W i hi g => by
              have hi' : i < t.length := by rw [TP.out.2]; exact hi
              obtain ⟨b, off, e, _, hc⟩ := (TW.out.gw g).cells (by omega)
              cases e
              have := hc i hi'
              rw [Nat.zero_add] at this
              exact ⟨t.getD i ent0, by simp [List.getD, hi'], this⟩
            have BP : Aside (bldL t = bldL o) := bld_perm UQ.out GDO.out TP.out.1
            have BL : Aside ((bldL o).length = m) := by show _ = _; rw [bld_len o UQ.out GDO.out, ML.out]
            have TU : Aside (∀ x ∈ t, gd x = true ∧ x.ok) := fun x hx => ⟨GDO.out x (TP.out.1.mem_iff.1 hx), OKO.out x (TP.out.1.mem_iff.1 hx)⟩
            have TLN : Aside (t.length = m) := TP.out.2
            clear OL OW TW ET GT TP UO EOo G4 GW4 TBL OBL
            have nw : IntKind.i64.wrap ((m : Int) + 1) = (m : Int) + 1 := by rw [IntKind.wrap_i64]; omega
            obtain ⟨wb, hwb⟩ : ∃ wx, wx = wr := ⟨_, rfl⟩
            subst hwb
            go_wp2_with fail
            clear mz0 mz1
            refine (new14_ok ((m : Int) + 1) (by omega) (by omega) wb).mono ?_
            rintro ex w5 ⟨⟨rfl, h5⟩, g5⟩
            obtain ⟨pa, hpa⟩ : ∃ p, wb.heap.size = p := ⟨_, rfl⟩
            rw [hpa] at h5 ⊢
            have H5 : Aside (HB 53 w5 pa (fun q => q = pa) ((m : Int) + 1) []) := h5
            have G5 : Aside (Gw wb w5) := g5
            have PA : Aside (wb.heap.size = pa) := hpa
            clear h5 g5 hpa
            go_wp2_with fail
            refine (new14_ok ((m : Int) + 1) (by omega) (by omega) w5).mono ?_
            rintro ex w6 ⟨⟨rfl, h6⟩, g6⟩
            obtain ⟨pb, hpb⟩ : ∃ p, w5.heap.size = p := ⟨_, rfl⟩
            rw [hpb] at h6 ⊢
            have H6 : Aside (HB 53 w6 pb (fun q => q = pb) ((m : Int) + 1) []) := h6
            have H5' : Aside (HB 53 w6 pa (fun q => q = pa) ((m : Int) + 1) []) := H5.out.gw g6
            have G6 : Aside (Gw wb w6) := G5.out.trans g6
            have PB : Aside (wb.heap.size ≤ pb ∧ pa < pb) := ⟨by rw [← hpb]; exact G5.out.size, by rw [← hpb]; exact H5.out.lt pa rfl⟩
            clear h6 g6 hpb H5 G5
            go_wp2_with fail
            go_loopg [20] m (fun gg s20 wr => ∃ (i : Nat) (Sa Sb : Nat → Prop), s20 = .int .i64 (i : Int) ∧ i ≤ m ∧ m - i ≤ gg ∧ Aside (HB 53 wr pa Sa ((m : Int) + 1) (bldL (o.take i))) ∧ Aside (HB 53 wr pb Sb ((m : Int) + 1) (bldL (t.take i))) ∧ Aside ((∀ q, Sa q → ¬ Sb q) ∧ (∀ q, Sa q → wb.heap.size ≤ q) ∧ (∀ q, Sb q → wb.heap.size ≤ q)) ∧ Aside (Gw wb wr))
            case atStart => exact ⟨0, _, _, rfl, Nat.zero_le _, by omega, H5', H6, (show Aside _ from ⟨fun q a b => (by have a' : q = pa := a; have b' : q = pb := b; have := PB.out; omega), fun q a => (by have a' : q = pa := a; have := PA.out; omega), fun q a => (by have a' : q = pb := a; have := PB.out; omega)⟩), G6⟩
            case round =>
              clear H5' H6 G6
              obtain ⟨i, Sa, Sb, rfl, b1, b2, HA, HBb, AP, GR⟩ := hrel
              by_cases ilt : i < m
              · have ilt' : (i : Int) < (m : Int) := by omega
                obtain ⟨x, hx, x0, x1, x2⟩ := OCE.out wr i ilt GR.out
                obtain ⟨y, hy, _⟩ := TCE.out wr i ilt GR.out
                have YC : Hid (∀ W, Gw wb W → W.cell? ⟨tb, i * 3, none⟩ = some (.int .u64 y.k) ∧ W.cell? ⟨tb, i * 3 + 1, none⟩ = some (.int .u64 y.v) ∧ W.cell? ⟨tb, i * 3 + 2, none⟩ = some (.bool y.g)) := fun W g => by
                  obtain ⟨y', e1, e2⟩ := TCE.out W i ilt g
                  rw [hy] at e1
                  cases e1
                  exact e2
                have fx : (bldL (o.take i)).length ≤ i := by have := (bldL_facts (o.take i)).2.2; simp at this; omega
                have fy : (bldL (t.take i)).length ≤ i := by have := (bldL_facts (t.take i)).2.2; simp at this; omega
                have PX : Hid (∀ (W : World) (S : Nat → Prop), HB 53 W pa S ((m : Int) + 1) (bldL (o.take i)) → Calls Try.prog 12 #[.pointer (some ⟨pa, 0, none⟩), .agg #[.int .u64 x.k, .int .u64 x.v, .bool x.g]] W fun ex w' => ex = .returned (.int .i64 0) ∧ PutOut 53 W w' pa S ((m : Int) + 1) (bldL (o.take (i + 1)))) := fun W S hb => by
                  have := put14 pa S ((m : Int) + 1) (bldL (o.take i)) x (by omega) (OKO.out x (List.mem_of_getElem? hx)) W hb
                  rw [putR_step (by omega), GDO.out x (List.mem_of_getElem? hx)] at this
                  rw [take_snoc hx, bldL_snoc]; exact this
                have PY : Hid (∀ (W : World) (S : Nat → Prop), HB 53 W pb S ((m : Int) + 1) (bldL (t.take i)) → Calls Try.prog 12 #[.pointer (some ⟨pb, 0, none⟩), .agg #[.int .u64 y.k, .int .u64 y.v, .bool y.g]] W fun ex w' => ex = .returned (.int .i64 0) ∧ PutOut 53 W w' pb S ((m : Int) + 1) (bldL (t.take (i + 1)))) := fun W S hb => by
                  have := put14 pb S ((m : Int) + 1) (bldL (t.take i)) y (by omega) (TU.out y (List.mem_of_getElem? hy)).2 W hb
                  rw [putR_step (by omega), (TU.out y (List.mem_of_getElem? hy)).1] at this
                  rw [take_snoc hy, bldL_snoc]; exact this
                clear hx hy fx fy
                obtain ⟨xk, xv, xg⟩ := x
                obtain ⟨yk, yv, yg⟩ := y
                simp only at x0 x1 x2 YC PX PY
                go_wp2_with fail
                refine (PX.out wr Sa HA.out).mono ?_
                rintro ex w7 ⟨rfl, Sa', o7, g7, s7⟩
                have HA7 : Aside (HB 53 w7 pa Sa' ((m : Int) + 1) (bldL (o.take (i + 1)))) := o7
                have HB7 : Aside (HB 53 w7 pb Sb ((m : Int) + 1) (bldL (t.take i))) := HBb.out.gx g7 (fun q b a => AP.out.1 q a b)
                have G7 : Aside (Gw wb w7) := Gx.gw GR.out g7 AP.out.2.1
                have AP7 : Aside ((∀ q, Sa' q → ¬ Sb q) ∧ (∀ q, Sa' q → wb.heap.size ≤ q) ∧ (∀ q, Sb q → wb.heap.size ≤ q)) := ⟨fun q a b => by
                  rcases s7 q a with z | z
                  · exact AP.out.1 q z b
                  · have := HBb.out.lt q b; omega, fun q a => (s7 q a).elim (AP.out.2.1 q) (fun z => Nat.le_trans GR.out.size z), AP.out.2.2⟩
                obtain ⟨y0, y1, y2⟩ := YC.out w7 G7.out
                clear o7 g7 s7 HA HBb AP GR x0 x1 x2 YC
                go_wp2_with fail
                refine (PY.out w7 Sb HB7.out).mono ?_
                rintro ex w8 ⟨rfl, Sb', o8, g8, s8⟩
                have HB8 : Aside (HB 53 w8 pb Sb' ((m : Int) + 1) (bldL (t.take (i + 1)))) := o8
                have HA8 : Aside (HB 53 w8 pa Sa' ((m : Int) + 1) (bldL (o.take (i + 1)))) := HA7.out.gx g8 AP7.out.1
                have G8 : Aside (Gw wb w8) := Gx.gw G7.out g8 AP7.out.2.2
                have AP8 : Aside ((∀ q, Sa' q → ¬ Sb' q) ∧ (∀ q, Sa' q → wb.heap.size ≤ q) ∧ (∀ q, Sb' q → wb.heap.size ≤ q)) := ⟨fun q a b => by
                  rcases s8 q b with z | z
                  · exact AP7.out.1 q a z
                  · have := HA7.out.lt q a; omega, AP7.out.2.1, fun q b => (s8 q b).elim (AP7.out.2.2 q) (fun z => Nat.le_trans G7.out.size z)⟩
                clear o8 g8 s8 HA7 HB7 AP7 G7 PX PY
                go_wp2_with fail
                go_roundg (m - (i + 1))
                case measure => omega
                case rel => exact ⟨i + 1, Sa', Sb', by go_num, by omega, Nat.le_refl _, HA8, HB8, AP8, G8⟩
              · have ei : m = i := by omega
                subst ei
                have HA' : Aside (HB 53 wr pa Sa ((m : Int) + 1) (bldL o)) := by have := HA.out; rw [List.take_of_length_le (by rw [ML.out]; exact Nat.le_refl _)] at this; exact this
                have HB' : Aside (HB 53 wr pb Sb ((m : Int) + 1) (bldL o)) := by have := HBb.out; rw [List.take_of_length_le (by rw [TLN.out]; exact Nat.le_refl _), BP.out] at this; exact this
                clear HA HBb AP TCE TU BP PB PA
                go_wp2_with fail
                refine (list14 pa Sa ((m : Int) + 1) (bldL o) (by rw [BL.out]; omega) wr HA'.out).mono ?_
                rintro ex w7 ⟨⟨v7, rfl, o7⟩, g7⟩
                have E7 : Aside (EO w7 wr.heap.size v7 (bldL o)) := o7
                have G7 : Aside (Gw wb w7) := GR.out.trans g7
                have HB7 : Aside (HB 53 w7 pb Sb ((m : Int) + 1) (bldL o)) := HB'.out.gw g7
                have BOK : Aside (∀ e ∈ bldL o, e.ok) := HA'.out.ok
                obtain ⟨vo, vc, vev, _⟩ := eo_shape_n o7 BL.out
                subst vev
                clear o7 g7 HA' HB' GR
                go_wp2_with fail
                refine (list14 pb Sb ((m : Int) + 1) (bldL o) (by rw [BL.out]; omega) w7 HB7.out).mono ?_
                rintro ex w8 ⟨⟨v8, rfl, o8⟩, g8⟩
                have G8 : Aside (Gw wb w8) := G7.out.trans g8
                obtain ⟨uo, uc, uev, _⟩ := eo_shape_n o8 BL.out
                subst uev
                have SM : Hid (Calls Try.prog 18 #[.slice vo m vc, .slice uo m uc] w8 fun e w' => e = .returned (.bool true) ∧ Gw w8 w') := by
                  have h1 := eo_el (by rw [BL.out]; exact eo_gw E7.out g8) BOK.out
                  have h2 := eo_el (by rw [BL.out]; exact o8) BOK.out
                  have := same14 vo uo vc uc (bldL o) (by rw [BL.out]; omega) w8 h1 h2
                  rw [BL.out] at this
                  exact this
                clear o8 g8 E7 G7 HB7
                go_wp2_with fail
                refine SM.out.mono ?_
                rintro ex w9 ⟨rfl, g9⟩
                have G9 : Aside (Gw wb w9) := G8.out.trans g9
                clear g9 G8 SM
                by_cases mo : 1 ≤ most ∧ most ≤ (m : Int)
                · have t1 : decide (most < 1) = false := by simp; omega
                  have t2 : decide ((m : Int) < most) = false := by simp; omega
                  go_wp2_with fail
                  refine (new14_ok most mo.1 (by omega) w9).mono ?_
                  rintro ex w10 ⟨⟨rfl, h10⟩, g10⟩
                  obtain ⟨pc, hpc⟩ : ∃ p, w9.heap.size = p := ⟨_, rfl⟩
                  rw [hpc] at h10 ⊢
                  obtain ⟨M, hM⟩ : ∃ M : Nat, most = (M : Int) := ⟨most.toNat, by omega⟩
                  subst hM
                  have H10 : Aside (HB 53 w10 pc (fun q => q = pc) (M : Int) []) := h10
                  have G10 : Aside (Gw wb w10) := G9.out.trans g10
                  have PC : Aside (wb.heap.size ≤ pc) := by show _ ≤ _; rw [← hpc]; exact G9.out.size
                  have M1 : 1 ≤ M := by omega
                  have M2 : M ≤ m := by omega
                  clear h10 g10 hpc t1 t2 mo G9
                  go_wp2_with fail
                  go_loopg [27] m (fun gg s27 wr => ∃ (i : Nat) (Sc : Nat → Prop), s27 = .int .i64 (i : Int) ∧ i ≤ m ∧ m - i ≤ gg ∧ Aside (HB 53 wr pc Sc (M : Int) (bldL (o.take (min i M)))) ∧ Aside (∀ q, Sc q → wb.heap.size ≤ q) ∧ Aside (Gw wb wr))
                  case atStart => exact ⟨0, _, rfl, Nat.zero_le _, by omega, (by show HB _ _ _ _ _ _; rw [Nat.zero_min]; exact H10.out), (show Aside _ from fun q hq => by rw [show q = pc from hq]; exact PC.out), G10⟩
                  case round =>
                    clear H10 G10 PC
                    obtain ⟨i, Sc, rfl, b1, b2, HC, NC, GR⟩ := hrel
                    by_cases ilt : i < m
                    · have ilt' : (i : Int) < (m : Int) := by omega
                      obtain ⟨x, hx, x0, x1, x2⟩ := OCE.out wr i ilt GR.out
                      have gx := GDO.out x (List.mem_of_getElem? hx)
                      have ox := OKO.out x (List.mem_of_getElem? hx)
                      have fl : (bldL (o.take (min i M))).length = min i M := by
                        rw [bld_len _ (UQ.out.take _) (fun e he => GDO.out e (List.mem_of_mem_take he)), List.length_take, ML.out]
                        omega
                      by_cases iM : i < M
                      · have PX : Hid (Calls Try.prog 12 #[.pointer (some ⟨pc, 0, none⟩), .agg #[.int .u64 x.k, .int .u64 x.v, .bool x.g]] wr fun ex w' => ex = .returned (.int .i64 0) ∧ PutOut 53 wr w' pc Sc (M : Int) (bldL (o.take (min (i + 1) M)))) := by
                          have := put14 pc Sc (M : Int) _ x (by omega) ox wr HC.out
                          rw [putR_step (by omega), gx] at this
                          rw [show min (i + 1) M = i + 1 by omega, take_snoc hx, bldL_snoc]
                          rw [show min i M = i by omega] at this
                          exact this
                        have iM' : (i : Int) < (M : Int) := by omega
                        have iM2 : decide ((M : Int) ≤ (i : Int)) = false := by simp; omega
                        clear hx gx ox fl
                        obtain ⟨xk, xv, xg⟩ := x
                        simp only at x0 x1 x2 PX
                        go_wp2_with fail
                        refine PX.out.mono ?_
                        rintro ex w11 ⟨rfl, Sc', o11, g11, s11⟩
                        have HC' : Aside (HB 53 w11 pc Sc' (M : Int) (bldL (o.take (min (i + 1) M)))) := o11
                        have G11 : Aside (Gw wb w11) := Gx.gw GR.out g11 NC.out
                        have NC' : Aside (∀ q, Sc' q → wb.heap.size ≤ q) := fun q hq => (s11 q hq).elim (NC.out q) (fun z => Nat.le_trans GR.out.size z)
                        clear o11 g11 s11 HC GR NC PX
                        go_wp2_with fail
                        go_roundg (m - (i + 1))
                        case measure => omega
                        case rel => exact ⟨i + 1, Sc', by go_num, by omega, Nat.le_refl _, HC', NC', G11⟩
                      · have PX : Hid (Calls Try.prog 12 #[.pointer (some ⟨pc, 0, none⟩), .agg #[.int .u64 x.k, .int .u64 x.v, .bool x.g]] wr fun ex w' => ex = .returned (.int .i64 140) ∧ PutOut 53 wr w' pc Sc (M : Int) (bldL (o.take (min (i + 1) M)))) := by
                          have := put14 pc Sc (M : Int) _ x (by omega) ox wr HC.out
                          rw [show min i M = M by omega] at this fl
                          rw [putR_full (by omega) gx (late_absent UQ.out GDO.out hx (by omega))] at this
                          rw [show min (i + 1) M = M by omega]
                          exact this
                        have iM' : ¬ i < M := iM
                        have iM2 : (M : Int) ≤ (i : Int) := by omega
                        clear hx gx ox fl iM
                        obtain ⟨xk, xv, xg⟩ := x
                        simp only at x0 x1 x2 PX
                        go_wp2_with fail
                        refine PX.out.mono ?_
                        rintro ex w11 ⟨rfl, Sc', o11, g11, s11⟩
                        have HC' : Aside (HB 53 w11 pc Sc' (M : Int) (bldL (o.take (min (i + 1) M)))) := o11
                        have G11 : Aside (Gw wb w11) := Gx.gw GR.out g11 NC.out
                        have NC' : Aside (∀ q, Sc' q → wb.heap.size ≤ q) := fun q hq => (s11 q hq).elim (NC.out q) (fun z => Nat.le_trans GR.out.size z)
                        clear o11 g11 s11 HC GR NC PX
                        go_wp2_with fail
                        go_roundg (m - (i + 1))
                        case measure => omega
                        case rel => exact ⟨i + 1, Sc', by go_num, by omega, Nat.le_refl _, HC', NC', G11⟩
                    · have ei : m = i := by omega
                      subst ei
                      rw [show min m M = M by omega] at HC
                      have fl : (bldL (o.take M)).length = M := by
                        rw [bld_len _ (UQ.out.take _) (fun e he => GDO.out e (List.mem_of_mem_take he)), List.length_take, ML.out]
                        omega
                      have LE : Hid (∀ W, Gw wr W → Calls Try.prog 21 #[.pointer (some ⟨pc, 0, none⟩)] W fun e w' => e = .returned (.int .i64 (M : Int)) ∧ Gw W w') := fun W g => by
                        have := len14 pc Sc (M : Int) _ W (HC.out.gw g)
                        rw [fl] at this; exact this
                      have FU : Hid (∀ W, Gw wr W → Calls Try.prog 22 #[.pointer (some ⟨pc, 0, none⟩)] W fun e w' => e = .returned (.bool true) ∧ Gw W w') := fun W g => by
                        have := full14 pc Sc (M : Int) _ W (HC.out.gw g)
                        rw [fl, show ((M : Int) == (M : Int)) = true by simp] at this; exact this
                      clear HC NC fl
                      go_wp2_with fail
                      refine (LE.out _ (Gw.refl wr)).mono ?_
                      rintro ex w11 ⟨rfl, g11⟩
                      have G11 : Aside (Gw wr w11) := g11
                      clear g11 LE
                      go_wp2_with fail
                      refine (FU.out _ G11.out).mono ?_
                      rintro ex w12 ⟨rfl, g12⟩
                      have G12 : Aside (Gw w w12) := GWR.out.trans (GR.out.trans (G11.out.trans g12))
                      clear g12 FU
                      go_wp2_with fail
                      go_ret
                      exact ⟨rfl, G12.out⟩
                · have FIN : Aside (Gw w w9) := GWR.out.trans G9.out
                  by_cases m1 : most < 1
                  · have t1 : decide (most < 1) = true := by simpa using m1
                    clear m1 mo
                    go_wp2_with fail
                    go_ret
                    exact ⟨rfl, FIN.out⟩
                  · have t1 : decide (most < 1) = false := by simpa using m1
                    have t2 : decide ((m : Int) < most) = true := by simp; omega
                    clear m1 mo
                    go_wp2_with fail
                    go_ret
                    exact ⟨rfl, FIN.out⟩
          · clear ilt
            have OW : Aside (EL wr (some ⟨ob, 0, none⟩) o) := by
              have x := OL.out.gw G4.out
              exact x.keep (Nat.lt_of_lt_of_le (Nat.lt_of_lt_of_le OBL.out.2 G4.out.size) GT.out.size) (GT.out.block ob (Nat.lt_of_lt_of_le OBL.out.2 G4.out.size) (fun e => by have e' : ob = tb := e; have := TBL.out; have := OBL.out.2; omega))
            have TW : Aside (EL wr (some ⟨tb, 0, none⟩) t) := eo_el (by rw [TP.out.2]; exact ET.out) (fun e he => OKO.out e (TP.out.1.mem_iff.1 he))
            have OCE : Hid (∀ (W : World) (i : Nat), i < m → Gw wr W → ∃ x : Ent, o[i]? = some x ∧ W.cell? ⟨ob, i * 3, none⟩ = some (.int .u64 x.k) ∧ W.cell? ⟨ob, i * 3 + 1, none⟩ = some (.int .u64 x.v) ∧ W.cell? ⟨ob, i * 3 + 2, none⟩ = some (.bool x.g)) := fun W i hi g => by
              have hi' : i < o.length := by rw [ML.out]; exact hi
              obtain ⟨b, off, e, _, hc⟩ := (OW.out.gw g).cells (by omega)
              cases e
              have := hc i hi'
              rw [Nat.zero_add] at this
              exact ⟨o.getD i ent0, by simp [List.getD, hi'], this⟩
            have TCE : Hid (∀ (W : World) (i : Nat), i < m → Gw wr W → ∃ x : Ent, t[i]? = some x ∧ W.cell? ⟨tb, i * 3, none⟩ = some (.int .u64 x.k) ∧ W.cell? ⟨tb, i * 3 + 1, none⟩ = some (.int .u64 x.v) ∧ W.cell? ⟨tb, i * 3 + 2, none⟩ = some (.bool x.g)) := fun W i hi g => by
              have hi' : i < t.length := by rw [TP.out.2]; exact hi
              obtain ⟨b, off, e, _, hc⟩ := (TW.out.gw g).cells (by omega)
              cases e
              have := hc i hi'
              rw [Nat.zero_add] at this
              exact ⟨t.getD i ent0, by simp [List.getD, hi'], this⟩
            have BP : Aside (bldL t = bldL o) := bld_perm UQ.out GDO.out TP.out.1
            have BL : Aside ((bldL o).length = m) := by show _ = _; rw [bld_len o UQ.out GDO.out, ML.out]
            have TU : Aside (∀ x ∈ t, gd x = true ∧ x.ok) := fun x hx => ⟨GDO.out x (TP.out.1.mem_iff.1 hx), OKO.out x (TP.out.1.mem_iff.1 hx)⟩
            have TLN : Aside (t.length = m) := TP.out.2
            clear OL OW TW ET GT TP UO EOo G4 GW4 TBL OBL
            have nw : IntKind.i64.wrap ((m : Int) + 1) = (m : Int) + 1 := by rw [IntKind.wrap_i64]; omega
            obtain ⟨wb, hwb⟩ : ∃ wx, wx = wr := ⟨_, rfl⟩
            subst hwb
            go_wp2_with fail
            refine (new14_ok ((m : Int) + 1) (by omega) (by omega) wb).mono ?_
            rintro ex w5 ⟨⟨rfl, h5⟩, g5⟩
            obtain ⟨pa, hpa⟩ : ∃ p, wb.heap.size = p := ⟨_, rfl⟩
            rw [hpa] at h5 ⊢
            have H5 : Aside (HB 53 w5 pa (fun q => q = pa) ((m : Int) + 1) []) := h5
            have G5 : Aside (Gw wb w5) := g5
            have PA : Aside (wb.heap.size = pa) := hpa
            clear h5 g5 hpa
            go_wp2_with fail
            refine (new14_ok ((m : Int) + 1) (by omega) (by omega) w5).mono ?_
            rintro ex w6 ⟨⟨rfl, h6⟩, g6⟩
            obtain ⟨pb, hpb⟩ : ∃ p, w5.heap.size = p := ⟨_, rfl⟩
            rw [hpb] at h6 ⊢
            have H6 : Aside (HB 53 w6 pb (fun q => q = pb) ((m : Int) + 1) []) := h6
            have H5' : Aside (HB 53 w6 pa (fun q => q = pa) ((m : Int) + 1) []) := H5.out.gw g6
            have G6 : Aside (Gw wb w6) := G5.out.trans g6
            have PB : Aside (wb.heap.size ≤ pb ∧ pa < pb) := ⟨by rw [← hpb]; exact G5.out.size, by rw [← hpb]; exact H5.out.lt pa rfl⟩
            clear h6 g6 hpb H5 G5
            go_wp2_with fail
            go_loopg [20] m (fun gg s20 wr => ∃ (i : Nat) (Sa Sb : Nat → Prop), s20 = .int .i64 (i : Int) ∧ i ≤ m ∧ m - i ≤ gg ∧ Aside (HB 53 wr pa Sa ((m : Int) + 1) (bldL (o.take i))) ∧ Aside (HB 53 wr pb Sb ((m : Int) + 1) (bldL (t.take i))) ∧ Aside ((∀ q, Sa q → ¬ Sb q) ∧ (∀ q, Sa q → wb.heap.size ≤ q) ∧ (∀ q, Sb q → wb.heap.size ≤ q)) ∧ Aside (Gw wb wr))
            case atStart => exact ⟨0, _, _, rfl, Nat.zero_le _, by omega, H5', H6, (show Aside _ from ⟨fun q a b => (by have a' : q = pa := a; have b' : q = pb := b; have := PB.out; omega), fun q a => (by have a' : q = pa := a; have := PA.out; omega), fun q a => (by have a' : q = pb := a; have := PB.out; omega)⟩), G6⟩
            case round =>
              clear H5' H6 G6
              obtain ⟨i, Sa, Sb, rfl, b1, b2, HA, HBb, AP, GR⟩ := hrel
              by_cases ilt : i < m
              · have ilt' : (i : Int) < (m : Int) := by omega
                obtain ⟨x, hx, x0, x1, x2⟩ := OCE.out wr i ilt GR.out
                obtain ⟨y, hy, _⟩ := TCE.out wr i ilt GR.out
                have YC : Hid (∀ W, Gw wb W → W.cell? ⟨tb, i * 3, none⟩ = some (.int .u64 y.k) ∧ W.cell? ⟨tb, i * 3 + 1, none⟩ = some (.int .u64 y.v) ∧ W.cell? ⟨tb, i * 3 + 2, none⟩ = some (.bool y.g)) := fun W g => by
                  obtain ⟨y', e1, e2⟩ := TCE.out W i ilt g
                  rw [hy] at e1
                  cases e1
                  exact e2
                have fx : (bldL (o.take i)).length ≤ i := by have := (bldL_facts (o.take i)).2.2; simp at this; omega
                have fy : (bldL (t.take i)).length ≤ i := by have := (bldL_facts (t.take i)).2.2; simp at this; omega
                have PX : Hid (∀ (W : World) (S : Nat → Prop), HB 53 W pa S ((m : Int) + 1) (bldL (o.take i)) → Calls Try.prog 12 #[.pointer (some ⟨pa, 0, none⟩), .agg #[.int .u64 x.k, .int .u64 x.v, .bool x.g]] W fun ex w' => ex = .returned (.int .i64 0) ∧ PutOut 53 W w' pa S ((m : Int) + 1) (bldL (o.take (i + 1)))) := fun W S hb => by
                  have := put14 pa S ((m : Int) + 1) (bldL (o.take i)) x (by omega) (OKO.out x (List.mem_of_getElem? hx)) W hb
                  rw [putR_step (by omega), GDO.out x (List.mem_of_getElem? hx)] at this
                  rw [take_snoc hx, bldL_snoc]; exact this
                have PY : Hid (∀ (W : World) (S : Nat → Prop), HB 53 W pb S ((m : Int) + 1) (bldL (t.take i)) → Calls Try.prog 12 #[.pointer (some ⟨pb, 0, none⟩), .agg #[.int .u64 y.k, .int .u64 y.v, .bool y.g]] W fun ex w' => ex = .returned (.int .i64 0) ∧ PutOut 53 W w' pb S ((m : Int) + 1) (bldL (t.take (i + 1)))) := fun W S hb => by
                  have := put14 pb S ((m : Int) + 1) (bldL (t.take i)) y (by omega) (TU.out y (List.mem_of_getElem? hy)).2 W hb
                  rw [putR_step (by omega), (TU.out y (List.mem_of_getElem? hy)).1] at this
                  rw [take_snoc hy, bldL_snoc]; exact this
                clear hx hy fx fy
                obtain ⟨xk, xv, xg⟩ := x
                obtain ⟨yk, yv, yg⟩ := y
                simp only at x0 x1 x2 YC PX PY
                go_wp2_with fail
                refine (PX.out wr Sa HA.out).mono ?_
                rintro ex w7 ⟨rfl, Sa', o7, g7, s7⟩
                have HA7 : Aside (HB 53 w7 pa Sa' ((m : Int) + 1) (bldL (o.take (i + 1)))) := o7
                have HB7 : Aside (HB 53 w7 pb Sb ((m : Int) + 1) (bldL (t.take i))) := HBb.out.gx g7 (fun q b a => AP.out.1 q a b)
                have G7 : Aside (Gw wb w7) := Gx.gw GR.out g7 AP.out.2.1
                have AP7 : Aside ((∀ q, Sa' q → ¬ Sb q) ∧ (∀ q, Sa' q → wb.heap.size ≤ q) ∧ (∀ q, Sb q → wb.heap.size ≤ q)) := ⟨fun q a b => by
                  rcases s7 q a with z | z
                  · exact AP.out.1 q z b
                  · have := HBb.out.lt q b; omega, fun q a => (s7 q a).elim (AP.out.2.1 q) (fun z => Nat.le_trans GR.out.size z), AP.out.2.2⟩
                obtain ⟨y0, y1, y2⟩ := YC.out w7 G7.out
                clear o7 g7 s7 HA HBb AP GR x0 x1 x2 YC
                go_wp2_with fail
                refine (PY.out w7 Sb HB7.out).mono ?_
                rintro ex w8 ⟨rfl, Sb', o8, g8, s8⟩
                have HB8 : Aside (HB 53 w8 pb Sb' ((m : Int) + 1) (bldL (t.take (i + 1)))) := o8
                have HA8 : Aside (HB 53 w8 pa Sa' ((m : Int) + 1) (bldL (o.take (i + 1)))) := HA7.out.gx g8 AP7.out.1
                have G8 : Aside (Gw wb w8) := Gx.gw G7.out g8 AP7.out.2.2
                have AP8 : Aside ((∀ q, Sa' q → ¬ Sb' q) ∧ (∀ q, Sa' q → wb.heap.size ≤ q) ∧ (∀ q, Sb' q → wb.heap.size ≤ q)) := ⟨fun q a b => by
                  rcases s8 q b with z | z
                  · exact AP7.out.1 q a z
                  · have := HA7.out.lt q a; omega, AP7.out.2.1, fun q b => (s8 q b).elim (AP7.out.2.2 q) (fun z => Nat.le_trans G7.out.size z)⟩
                clear o8 g8 s8 HA7 HB7 AP7 G7 PX PY
                go_wp2_with fail
                go_roundg (m - (i + 1))
                case measure => omega
                case rel => exact ⟨i + 1, Sa', Sb', by go_num, by omega, Nat.le_refl _, HA8, HB8, AP8, G8⟩
              · have ei : m = i := by omega
                subst ei
                have HA' : Aside (HB 53 wr pa Sa ((m : Int) + 1) (bldL o)) := by have := HA.out; rw [List.take_of_length_le (by rw [ML.out]; exact Nat.le_refl _)] at this; exact this
                have HB' : Aside (HB 53 wr pb Sb ((m : Int) + 1) (bldL o)) := by have := HBb.out; rw [List.take_of_length_le (by rw [TLN.out]; exact Nat.le_refl _), BP.out] at this; exact this
                clear HA HBb AP TCE TU BP PB PA
                go_wp2_with fail
                refine (list14 pa Sa ((m : Int) + 1) (bldL o) (by rw [BL.out]; omega) wr HA'.out).mono ?_
                rintro ex w7 ⟨⟨v7, rfl, o7⟩, g7⟩
                have E7 : Aside (EO w7 wr.heap.size v7 (bldL o)) := o7
                have G7 : Aside (Gw wb w7) := GR.out.trans g7
                have HB7 : Aside (HB 53 w7 pb Sb ((m : Int) + 1) (bldL o)) := HB'.out.gw g7
                have BOK : Aside (∀ e ∈ bldL o, e.ok) := HA'.out.ok
                obtain ⟨vo, vc, vev, _⟩ := eo_shape_n o7 BL.out
                subst vev
                clear o7 g7 HA' HB' GR
                go_wp2_with fail
                refine (list14 pb Sb ((m : Int) + 1) (bldL o) (by rw [BL.out]; omega) w7 HB7.out).mono ?_
                rintro ex w8 ⟨⟨v8, rfl, o8⟩, g8⟩
                have G8 : Aside (Gw wb w8) := G7.out.trans g8
                obtain ⟨uo, uc, uev, _⟩ := eo_shape_n o8 BL.out
                subst uev
                have SM : Hid (Calls Try.prog 18 #[.slice vo m vc, .slice uo m uc] w8 fun e w' => e = .returned (.bool true) ∧ Gw w8 w') := by
                  have h1 := eo_el (by rw [BL.out]; exact eo_gw E7.out g8) BOK.out
                  have h2 := eo_el (by rw [BL.out]; exact o8) BOK.out
                  have := same14 vo uo vc uc (bldL o) (by rw [BL.out]; omega) w8 h1 h2
                  rw [BL.out] at this
                  exact this
                clear o8 g8 E7 G7 HB7
                go_wp2_with fail
                refine SM.out.mono ?_
                rintro ex w9 ⟨rfl, g9⟩
                have G9 : Aside (Gw wb w9) := G8.out.trans g9
                clear g9 G8 SM
                by_cases mo : 1 ≤ most ∧ most ≤ (m : Int)
                · have t1 : decide (most < 1) = false := by simp; omega
                  have t2 : decide ((m : Int) < most) = false := by simp; omega
                  go_wp2_with fail
                  refine (new14_ok most mo.1 (by omega) w9).mono ?_
                  rintro ex w10 ⟨⟨rfl, h10⟩, g10⟩
                  obtain ⟨pc, hpc⟩ : ∃ p, w9.heap.size = p := ⟨_, rfl⟩
                  rw [hpc] at h10 ⊢
                  obtain ⟨M, hM⟩ : ∃ M : Nat, most = (M : Int) := ⟨most.toNat, by omega⟩
                  subst hM
                  have H10 : Aside (HB 53 w10 pc (fun q => q = pc) (M : Int) []) := h10
                  have G10 : Aside (Gw wb w10) := G9.out.trans g10
                  have PC : Aside (wb.heap.size ≤ pc) := by show _ ≤ _; rw [← hpc]; exact G9.out.size
                  have M1 : 1 ≤ M := by omega
                  have M2 : M ≤ m := by omega
                  clear h10 g10 hpc t1 t2 mo G9
                  go_wp2_with fail
                  go_loopg [27] m (fun gg s27 wr => ∃ (i : Nat) (Sc : Nat → Prop), s27 = .int .i64 (i : Int) ∧ i ≤ m ∧ m - i ≤ gg ∧ Aside (HB 53 wr pc Sc (M : Int) (bldL (o.take (min i M)))) ∧ Aside (∀ q, Sc q → wb.heap.size ≤ q) ∧ Aside (Gw wb wr))
                  case atStart => exact ⟨0, _, rfl, Nat.zero_le _, by omega, (by show HB _ _ _ _ _ _; rw [Nat.zero_min]; exact H10.out), (show Aside _ from fun q hq => by rw [show q = pc from hq]; exact PC.out), G10⟩
                  case round =>
                    clear H10 G10 PC
                    obtain ⟨i, Sc, rfl, b1, b2, HC, NC, GR⟩ := hrel
                    by_cases ilt : i < m
                    · have ilt' : (i : Int) < (m : Int) := by omega
                      obtain ⟨x, hx, x0, x1, x2⟩ := OCE.out wr i ilt GR.out
                      have gx := GDO.out x (List.mem_of_getElem? hx)
                      have ox := OKO.out x (List.mem_of_getElem? hx)
                      have fl : (bldL (o.take (min i M))).length = min i M := by
                        rw [bld_len _ (UQ.out.take _) (fun e he => GDO.out e (List.mem_of_mem_take he)), List.length_take, ML.out]
                        omega
                      by_cases iM : i < M
                      · have PX : Hid (Calls Try.prog 12 #[.pointer (some ⟨pc, 0, none⟩), .agg #[.int .u64 x.k, .int .u64 x.v, .bool x.g]] wr fun ex w' => ex = .returned (.int .i64 0) ∧ PutOut 53 wr w' pc Sc (M : Int) (bldL (o.take (min (i + 1) M)))) := by
                          have := put14 pc Sc (M : Int) _ x (by omega) ox wr HC.out
                          rw [putR_step (by omega), gx] at this
                          rw [show min (i + 1) M = i + 1 by omega, take_snoc hx, bldL_snoc]
                          rw [show min i M = i by omega] at this
                          exact this
                        have iM' : (i : Int) < (M : Int) := by omega
                        have iM2 : decide ((M : Int) ≤ (i : Int)) = false := by simp; omega
                        clear hx gx ox fl
                        obtain ⟨xk, xv, xg⟩ := x
                        simp only at x0 x1 x2 PX
                        go_wp2_with fail
                        refine PX.out.mono ?_
                        rintro ex w11 ⟨rfl, Sc', o11, g11, s11⟩
                        have HC' : Aside (HB 53 w11 pc Sc' (M : Int) (bldL (o.take (min (i + 1) M)))) := o11
                        have G11 : Aside (Gw wb w11) := Gx.gw GR.out g11 NC.out
                        have NC' : Aside (∀ q, Sc' q → wb.heap.size ≤ q) := fun q hq => (s11 q hq).elim (NC.out q) (fun z => Nat.le_trans GR.out.size z)
                        clear o11 g11 s11 HC GR NC PX
                        go_wp2_with fail
                        go_roundg (m - (i + 1))
                        case measure => omega
                        case rel => exact ⟨i + 1, Sc', by go_num, by omega, Nat.le_refl _, HC', NC', G11⟩
                      · have PX : Hid (Calls Try.prog 12 #[.pointer (some ⟨pc, 0, none⟩), .agg #[.int .u64 x.k, .int .u64 x.v, .bool x.g]] wr fun ex w' => ex = .returned (.int .i64 140) ∧ PutOut 53 wr w' pc Sc (M : Int) (bldL (o.take (min (i + 1) M)))) := by
                          have := put14 pc Sc (M : Int) _ x (by omega) ox wr HC.out
                          rw [show min i M = M by omega] at this fl
                          rw [putR_full (by omega) gx (late_absent UQ.out GDO.out hx (by omega))] at this
                          rw [show min (i + 1) M = M by omega]
                          exact this
                        have iM' : ¬ i < M := iM
                        have iM2 : (M : Int) ≤ (i : Int) := by omega
                        clear hx gx ox fl iM
                        obtain ⟨xk, xv, xg⟩ := x
                        simp only at x0 x1 x2 PX
                        go_wp2_with fail
                        refine PX.out.mono ?_
                        rintro ex w11 ⟨rfl, Sc', o11, g11, s11⟩
                        have HC' : Aside (HB 53 w11 pc Sc' (M : Int) (bldL (o.take (min (i + 1) M)))) := o11
                        have G11 : Aside (Gw wb w11) := Gx.gw GR.out g11 NC.out
                        have NC' : Aside (∀ q, Sc' q → wb.heap.size ≤ q) := fun q hq => (s11 q hq).elim (NC.out q) (fun z => Nat.le_trans GR.out.size z)
                        clear o11 g11 s11 HC GR NC PX
                        go_wp2_with fail
                        go_roundg (m - (i + 1))
                        case measure => omega
                        case rel => exact ⟨i + 1, Sc', by go_num, by omega, Nat.le_refl _, HC', NC', G11⟩
                    · have ei : m = i := by omega
                      subst ei
                      rw [show min m M = M by omega] at HC
                      have fl : (bldL (o.take M)).length = M := by
                        rw [bld_len _ (UQ.out.take _) (fun e he => GDO.out e (List.mem_of_mem_take he)), List.length_take, ML.out]
                        omega
                      have LE : Hid (∀ W, Gw wr W → Calls Try.prog 21 #[.pointer (some ⟨pc, 0, none⟩)] W fun e w' => e = .returned (.int .i64 (M : Int)) ∧ Gw W w') := fun W g => by
                        have := len14 pc Sc (M : Int) _ W (HC.out.gw g)
                        rw [fl] at this; exact this
                      have FU : Hid (∀ W, Gw wr W → Calls Try.prog 22 #[.pointer (some ⟨pc, 0, none⟩)] W fun e w' => e = .returned (.bool true) ∧ Gw W w') := fun W g => by
                        have := full14 pc Sc (M : Int) _ W (HC.out.gw g)
                        rw [fl, show ((M : Int) == (M : Int)) = true by simp] at this; exact this
                      clear HC NC fl
                      go_wp2_with fail
                      refine (LE.out _ (Gw.refl wr)).mono ?_
                      rintro ex w11 ⟨rfl, g11⟩
                      have G11 : Aside (Gw wr w11) := g11
                      clear g11 LE
                      go_wp2_with fail
                      refine (FU.out _ G11.out).mono ?_
                      rintro ex w12 ⟨rfl, g12⟩
                      have G12 : Aside (Gw w w12) := GWR.out.trans (GR.out.trans (G11.out.trans g12))
                      clear g12 FU
                      go_wp2_with fail
                      go_ret
                      exact ⟨rfl, G12.out⟩
                · have FIN : Aside (Gw w w9) := GWR.out.trans G9.out
                  by_cases m1 : most < 1
                  · have t1 : decide (most < 1) = true := by simpa using m1
                    clear m1 mo
                    go_wp2_with fail
                    go_ret
                    exact ⟨rfl, FIN.out⟩
                  · have t1 : decide (most < 1) = false := by simpa using m1
                    have t2 : decide ((m : Int) < most) = true := by simp; omega
                    clear m1 mo
                    go_wp2_with fail
                    go_ret
                    exact ⟨rfl, FIN.out⟩
end Go.Proofs.Ytkofbjdgidaieaa
