import Derived.Test.YtapjipinceoaoaaPZi
import Derived.Test.YtapjipinceoaoaaZDesc
import Derived.Test.YtapjipinceoaoaaZCom
import Derived.StillTailTactics
import Derived.Deep.DeepCutAuto
import Derived.Deep.CutBlock
import Derived.Test.YtapjipinceoaoaaPZo
/- The slots' Size, Key and Segment, whatever the numbers. -/
namespace Go.Proofs.Ytapjipinceoaoaa
open Go.RowKit
set_option linter.unusedVariables false
attribute [local go_sem] run_store_float

theorem slv_set5 {w : World} {p : Nat} {ko : Option Addr} {n kc : Nat} {eps : Int} {lo : Option Addr} {ln lc : Nat} {va vb : Value} {wr : Bool} (h : w.heap[p]? = some (slV ko n kc eps lo ln lc va vb wr)) (u : Bool) : (w.setCell ⟨p, 5, none⟩ (.bool u)).heap[p]? = some (slV ko n kc eps lo ln lc va vb u) := by
  unfold slV at *
  simp [World.setCell, Array.getElem?_modify, h]
theorem SL.blame {w : World} {p : Nat} {S : Nat → Prop} {ko : Option Addr} {n kc : Nat} {eps : Int} {lo : Option Addr} {ln lc : Nat} {A B : List (Int × Int)} {wr : Bool} (h : SL w p S ko n kc eps lo ln lc A B wr) : SL (w.setCell ⟨p, 5, none⟩ (.bool true)) p S ko n kc eps lo ln lc A B true := by
  obtain ⟨va, vb, h1, h2, h3, h4, h5, h6, h7⟩ := h.blk
  refine ⟨va, vb, slv_set5 h1 true, ar_keep h2 fun q hq => Go.Deep.blk_setCell_other _ _ _ _ (fun e => h4 ?_), ar_keep h3 fun q hq => Go.Deep.blk_setCell_other _ _ _ _ (fun e => h5 ?_), h4, h5, h6, h7⟩
  · have e' : q = p := e
    rw [← e']; exact hq
  · have e' : q = p := e
    rw [← e']; exact hq

/-- Slots, blamed or not. -/
def SLw (w : World) (p : Nat) (S : Nat → Prop) (ko : Option Addr) (n kc : Nat) (eps : Int) (lo : Option Addr) (ln lc : Nat) (A B : List (Int × Int)) : Prop := ∃ wr, SL w p S ko n kc eps lo ln lc A B wr
set_option maxRecDepth 10000 in
set_option maxHeartbeats 4000000 in
theorem sl_size_any {w : World} {p : Nat} {S : Nat → Prop} {ko : Option Addr} {n kc : Nat} {eps : Int} {lo : Option Addr} {lc : Nat} {L : List (List Sg)} {ln : Nat} {A B : List (Int × Int)} {wr : Bool} (hv : VS w lo L) (hl : L.length = ln) (hln : ln ≤ 2000000) (h : SL w p S ko n kc eps lo ln lc A B wr) (lv : Int) :
    Calls Try.prog 15 #[.pointer (some ⟨p, 0, none⟩), .int .i64 lv] w fun ex w' => ex = .returned (.int .i64 (sizeV n L lv : Nat)) ∧ SLw w' p S ko n kc eps lo ln lc A B ∧ Gs S w w' := by
  by_cases r : 0 ≤ lv ∧ lv ≤ (ln : Int)
  · obtain ⟨a, ha⟩ : ∃ a : Nat, lv = (a : Int) := ⟨lv.toNat, by omega⟩
    have e : sizeV n L lv = rowN n L a := by
      unfold sizeV
      rw [hl, if_pos r, ha]
      rfl
    rw [e, ha]
    refine (sl_size hv hl hln h a (by omega)).mono ?_
    rintro ex w2 ⟨rfl, g⟩
    exact ⟨rfl, ⟨wr, h.gw g⟩, g.gs S⟩
  · have e : sizeV n L lv = 0 := by unfold sizeV; rw [hl, if_neg r]
    rw [e]
    have HS : Aside (SL w p S ko n kc eps lo ln lc A B wr) := h
    obtain ⟨va, vb, h1, _⟩ := h.blk
    obtain ⟨c0, c1, c2, c3, c4, c5⟩ := slv_cells h1
    have f5 := slv_fz h1 5
    have pl : p < w.heap.size := (Array.getElem?_eq_some_iff.1 h1).1
    have R9 : Aside (SLw (w.setCell ⟨p, 5, none⟩ (.bool true)) p S ko n kc eps lo ln lc A B ∧ Gs S w (w.setCell ⟨p, 5, none⟩ (.bool true))) := ⟨⟨true, h.blame⟩, ((Gw.refl w).gs S).set h.self 5 _⟩
    have ways : decide (lv < 0) = true ∨ (decide (lv < 0) = false ∧ decide ((ln : Int) < lv) = true) := by
      by_cases x : lv < 0
      · exact .inl (by simpa using x)
      · exact .inr ⟨by simpa using x, by simp; omega⟩
    clear h h1 hv e r
    rcases ways with t1 | ⟨t1, t2⟩
    all_goals go_enter Try.func15, Try.ntmps15
    all_goals go_wp2_with fail
    all_goals go_ret
    all_goals exact ⟨rfl, R9.out.1, R9.out.2⟩

set_option maxRecDepth 10000 in
set_option maxHeartbeats 4000000 in
theorem sl_key_any {w0 w : World} {p : Nat} {S : Nat → Prop} {ko : Option Addr} {n kc : Nat} {f : Nat → Int} {eps : Int} {lo : Option Addr} {lc : Nat} {L : List (List Sg)} {ln : Nat} {A B : List (Int × Int)} {wr : Bool} (hk : KS w0 ko n f) (hn : n ≤ 2000000) (hv : VS w0 lo L) (hl : L.length = ln) (hln : ln ≤ 2000000) (hr : ∀ i, i < L.length → (L.getD i []).length ≤ 2000000) (g0 : Gw w0 w) (hS : ∀ q, S q → w0.heap.size ≤ q) (h : SL w p S ko n kc eps lo ln lc A B wr) (la : A.length ≤ 2000000000) (lv sl : Int) (l0 : -9223372036854775808 ≤ lv) (l1 : lv < 9223372036854775808) (s0 : -9223372036854775808 ≤ sl) (s1 : sl < 9223372036854775808) :
    Calls Try.prog 17 #[.pointer (some ⟨p, 0, none⟩), .int .i64 lv, .int .i64 sl] w fun ex w' => (∃ S', ex = .returned (.int .u64 (keyV f n L lv sl)) ∧ SLw w' p S' ko n kc eps lo ln lc (A ++ [(lv, sl)]) B ∧ ∀ q, S' q → S q ∨ w.heap.size ≤ q) ∧ Gs S w w' := by
  by_cases r : (0 ≤ lv ∧ lv ≤ (L.length : Int)) ∧ 0 ≤ sl ∧ sl < (rowN n L lv.toNat : Int)
  · obtain ⟨a, ha⟩ : ∃ a : Nat, lv = (a : Int) := ⟨lv.toNat, by omega⟩
    obtain ⟨b, hb⟩ : ∃ b : Nat, sl = (b : Int) := ⟨sl.toNat, by omega⟩
    have e : keyV f n L lv sl = rowF f L a b := by
      unfold keyV
      rw [if_pos r, ha, hb]
      rfl
    rw [e]
    subst ha hb
    refine (sl_key hk hv hl hln g0 hS h la a b (by omega) (by simpa using r.2.2)).mono ?_
    rintro ex w2 ⟨⟨S2, rfl, s2, u2⟩, g⟩
    exact ⟨⟨S2, rfl, ⟨wr, s2⟩, u2⟩, g⟩
  · have e : keyV f n L lv sl = 0 := by unfold keyV; rw [if_neg r]
    rw [e]
    obtain ⟨va, vb, h1, h2, h3, h4, h5, h6, h7⟩ := h.blk
    obtain ⟨c0, c1, c2, c3, c4, c5⟩ := slv_cells h1
    have f3 := slv_fz h1 3
    have pl : p < w.heap.size := (Array.getElem?_eq_some_iff.1 h1).1
    obtain ⟨ii, hii, hz, hs', hby⟩ := info_parts info_p2
    have A2 : Aside ((w.alloc (.cells #[.int .i64 lv, .int .i64 sl] 54)).ownsRow 0 54 2 va A.length (A.flatMap pr2)) := World.ownsRow.alloc h2 _
    have NW : Aside (∀ j u, (pr2 (lv, sl))[j]? = some u → (w.alloc (.cells #[.int .i64 lv, .int .i64 sl] 54)).cell? ((⟨w.heap.size, 0, none⟩ : Addr).add j) = some u) := World.news_of_block (heap_alloc_new w _)
    have H1 : Aside (w.heap[p]? = some (slV ko n kc eps lo ln lc va vb wr)) := h1
    have H3 : Aside (AR w vb B) := h3
    have H4 : Aside (va.ownBlock ≠ some p) := h4
    have H5 : Aside (vb.ownBlock ≠ some p) := h5
    have H6 : Aside (∀ q, va.ownBlock = some q → vb.ownBlock ≠ some q) := h6
    have H7 : Aside (∀ q, S q ↔ q = p ∨ va.ownBlock = some q ∨ vb.ownBlock = some q) := h7
    have HV : Aside (VS w0 lo L) := hv
    have HS : Aside (∀ q, S q → w0.heap.size ≤ q) := hS
    have G0 : Aside (Gw w0 w) := g0
    have LN : Aside (L.length = ln) := hl
    have LA : Aside (A.length ≤ 2000000000) := la
    have HR : Aside (∀ i, i < L.length → (L.getD i []).length ≤ 2000000) := hr
    have RR : Aside (¬ ((0 ≤ lv ∧ lv ≤ (L.length : Int)) ∧ 0 ≤ sl ∧ sl < (rowN n L lv.toNat : Int))) := r
    clear h1 h2 h3 h4 h5 h6 h7 hk hv hS g0 hl la h e r hr
    go_enter Try.func17, Try.ntmps17
    go_wp2_with (at_builtin; refine wpList_append_own_at _ rfl _ _ 46 rfl 0 54 ii (.agg #[.int .i64 0, .int .i64 0]) 2 16 Try.underlying46 hii hz hs' hby rfl (by decide) _ A.length _ rfl A2.out ⟨w.heap.size, 0, none⟩ 1 1 (pr2 (lv, sl)) rfl rfl NW.out (pr2_one _) (by have := LA.out; simp only [maxLen]; omega) (by have := LA.out; omega) (by simp) ?_)
    intro v' w7 r1 r2 r3 r4
    obtain ⟨b8, cap8, ev, _, _, _⟩ := own_slice r1 (by simpa using r3)
    obtain ⟨p7, SL8, SU8, GS8⟩ := SL.asked H1.out H3.out H4.out H5.out H6.out H7.out r1 r2 (by simpa using r4)
    have d3 := (slv_cells p7).2.2.2.1
    have g3 := slv_fz p7 3
    have pl7 : p < w7.heap.size := (Array.getElem?_eq_some_iff.1 p7).1
    have b8p := slv_set3 p7 v'
    obtain ⟨w8, hw8⟩ : ∃ w8, w7.setCell ⟨p, 3, none⟩ v' = w8 := ⟨_, rfl⟩
    rw [hw8] at SL8 GS8 b8p
    obtain ⟨k0, _, k2, _, _, k5⟩ := slv_cells b8p
    have f5 := slv_fz b8p 5
    have pl8 : p < w8.heap.size := (Array.getElem?_eq_some_iff.1 b8p).1
    have G8 : Aside (Gw w0 w8) := gs_gwd G0.out GS8 HS.out
    have RES : Aside ((∃ S', SLw (w8.setCell ⟨p, 5, none⟩ (.bool true)) p S' ko n kc eps lo ln lc (A ++ [(lv, sl)]) B ∧ ∀ q, S' q → S q ∨ w.heap.size ≤ q) ∧ Gs S w (w8.setCell ⟨p, 5, none⟩ (.bool true))) := ⟨⟨_, ⟨true, SL8.blame⟩, SU8⟩, GS8.set ((H7.out p).2 (.inl rfl)) 5 _⟩
    clear r1 r2 r3 r4 SL8 SU8 GS8 p7 A2 NW b8p c0 c1 c2 c3 c4 c5
    subst ev
    by_cases x1 : lv < 0
    · have n1 : decide (lv < 0) = true := by simpa using x1
      clear RR
      go_wp2_with fail
      go_ret
      obtain ⟨⟨S', e1, e2⟩, e3⟩ := RES.out
      first | exact ⟨⟨S', rfl, e1, e2⟩, e3⟩ | exact ⟨⟨rfl, S', e1, e2⟩, e3⟩
    · have n1 : decide (lv < 0) = false := by simpa using x1
      by_cases x2 : (ln : Int) < lv
      · have n2 : decide ((ln : Int) < lv) = true := by simpa using x2
        clear RR
        go_wp2_with fail
        go_ret
        obtain ⟨⟨S', e1, e2⟩, e3⟩ := RES.out
        first | exact ⟨⟨S', rfl, e1, e2⟩, e3⟩ | exact ⟨⟨rfl, S', e1, e2⟩, e3⟩
      · have n2 : decide ((ln : Int) < lv) = false := by simpa using x2
        by_cases x3 : sl < 0
        · have n3 : decide (sl < 0) = true := by simpa using x3
          clear RR
          go_wp2_with fail
          go_ret
          obtain ⟨⟨S', e1, e2⟩, e3⟩ := RES.out
          first | exact ⟨⟨S', rfl, e1, e2⟩, e3⟩ | exact ⟨⟨rfl, S', e1, e2⟩, e3⟩
        · have n3 : decide (sl < 0) = false := by simpa using x3
          by_cases az : lv = 0
          · have m1 : (lv == 0) = true := by simpa using az
            have n4 : decide ((n : Int) ≤ sl) = true := by
              refine decide_eq_true ?_
              have rr := RR.out
              rw [az] at rr
              by_cases c : (n : Int) ≤ sl
              · exact c
              · exact absurd ⟨⟨Int.le_refl _, by omega⟩, by omega, by show sl < ((n : Nat) : Int); omega⟩ rr
            clear RR az
            go_wp2_with fail
            go_ret
            obtain ⟨⟨S', e1, e2⟩, e3⟩ := RES.out
            first | exact ⟨⟨S', rfl, e1, e2⟩, e3⟩ | exact ⟨⟨rfl, S', e1, e2⟩, e3⟩
          · have m1 : (lv == 0) = false := by simpa using az
            have m2 : decide ((0 : Int) < lv) = true := by simp; omega
            obtain ⟨a', ea⟩ : ∃ a' : Nat, lv = (a' : Int) + 1 := ⟨(lv - 1).toNat, by omega⟩
            have aw : IntKind.i64.wrap (lv - 1) = (a' : Int) := by rw [IntKind.wrap_i64]; omega
            obtain ⟨lb, lf, rfl, hlb, hlc⟩ := (HV.out.gw G8.out).cells (by rw [LN.out]; omega)
            obtain ⟨so, sc, q1, _, _, _⟩ := hlc a' (by rw [LN.out]; omega)
            have sz := HR.out a' (by rw [LN.out]; omega)
            obtain ⟨sn, hsn⟩ : ∃ sn, (L.getD a' []).length = sn := ⟨_, rfl⟩
            have n4 : decide ((sn : Int) ≤ sl) = true := by
              refine decide_eq_true ?_
              have rr := RR.out
              rw [show lv.toNat = a' + 1 by omega] at rr
              by_cases c : (sn : Int) ≤ sl
              · exact c
              · exact absurd ⟨⟨by omega, by rw [LN.out]; omega⟩, by omega, by show sl < ((L.getD a' []).length : Int); rw [hsn]; omega⟩ rr
            rw [hsn] at q1 sz
            have a'l : a' < ln := by omega
            have a'i : (a' : Int) < (ln : Int) := by omega
            clear hlc ea hsn RR
            go_wp2_with fail
            go_ret
            obtain ⟨⟨S', e1, e2⟩, e3⟩ := RES.out
            first | exact ⟨⟨S', rfl, e1, e2⟩, e3⟩ | exact ⟨⟨rfl, S', e1, e2⟩, e3⟩

set_option maxRecDepth 10000 in
set_option maxHeartbeats 4000000 in
theorem sl_seg_any {w0 w : World} {p : Nat} {S : Nat → Prop} {ko : Option Addr} {n kc : Nat} {eps : Int} {lo : Option Addr} {lc : Nat} {L : List (List Sg)} {ln : Nat} {A B : List (Int × Int)} {wr : Bool} (hv : VS w0 lo L) (hl : L.length = ln) (hln : ln ≤ 2000000) (hr : ∀ i, i < L.length → (L.getD i []).length ≤ 2000000) (g0 : Gw w0 w) (hS : ∀ q, S q → w0.heap.size ≤ q) (h : SL w p S ko n kc eps lo ln lc A B wr) (lb : B.length ≤ 2000000000) (lv sl : Int) (l0 : -9223372036854775808 ≤ lv) (l1 : lv < 9223372036854775808) (s0 : -9223372036854775808 ≤ sl) (s1 : sl < 9223372036854775808) :
    Calls Try.prog 19 #[.pointer (some ⟨p, 0, none⟩), .int .i64 lv, .int .i64 sl] w fun ex w' => (∃ S', ex = .returned (sgV (segW L lv sl)) ∧ SLw w' p S' ko n kc eps lo ln lc A (B ++ [(lv, sl)]) ∧ ∀ q, S' q → S q ∨ w.heap.size ≤ q) ∧ Gs S w w' := by
  by_cases r : (1 ≤ lv ∧ lv ≤ (L.length : Int)) ∧ 0 ≤ sl ∧ sl < ((L.getD (lv.toNat - 1) []).length : Int)
  · obtain ⟨a, ha⟩ : ∃ a : Nat, lv = (a : Int) + 1 := ⟨(lv - 1).toNat, by omega⟩
    obtain ⟨b, hb⟩ : ∃ b : Nat, sl = (b : Int) := ⟨sl.toNat, by omega⟩
    have ea : lv.toNat - 1 = a := by omega
    have e : segW L lv sl = (L.getD a []).getD b sg0 := by
      unfold segW
      rw [if_pos r, ea, hb]
      rfl
    rw [e]
    rw [ea] at r
    subst ha hb
    refine (sl_seg hv hl hln g0 hS h lb a b (by omega) (by omega)).mono ?_
    rintro ex w2 ⟨⟨S2, rfl, s2, u2⟩, g⟩
    exact ⟨⟨S2, rfl, ⟨wr, s2⟩, u2⟩, g⟩
  · have e : segW L lv sl = sg0 := by unfold segW; rw [if_neg r]
    rw [e]
    show Calls _ _ _ _ fun ex w' => (∃ S', ex = .returned (.agg #[.int .u64 0, .float .f64 0, .float .f64 0, .int .i64 0, .int .i64 0]) ∧ SLw w' p S' ko n kc eps lo ln lc A (B ++ [(lv, sl)]) ∧ ∀ q, S' q → S q ∨ w.heap.size ≤ q) ∧ Gs S w w'
    obtain ⟨wz, hwz⟩ : ∃ wz, w.alloc (.cells #[.int .u64 0, .float .f64 0, .float .f64 0, .int .i64 0, .int .i64 0] 44) = wz := ⟨_, rfl⟩
    have gz : Gw w wz := by rw [← hwz]; exact (Gw.refl w).alloc _ _
    have bz : wz.heap[w.heap.size]? = some (.cells #[.int .u64 0, .float .f64 0, .float .f64 0, .int .i64 0, .int .i64 0] 44 (0, 0)) := by rw [← hwz]; exact heap_alloc_new w _
    have zz : wz.heap.size = w.heap.size + 1 := by rw [← hwz]; simp
    have hlt : ∀ q, S q → q < w.heap.size := h.lt
    obtain ⟨va, vb, h1, h2, h3, h4, h5, h6, h7⟩ := (h.gw gz).blk
    obtain ⟨c0, c1, c2, c3, c4, c5⟩ := slv_cells h1
    have f4 := slv_fz h1 4
    have pl : p < wz.heap.size := (Array.getElem?_eq_some_iff.1 h1).1
    have prb : p ≠ w.heap.size := by have := hlt p h.self; omega
    obtain ⟨ii, hii, hz, hs', hby⟩ := info_parts info_p2
    have A2 : Aside ((wz.alloc (.cells #[.int .i64 lv, .int .i64 sl] 54)).ownsRow 0 54 2 vb B.length (B.flatMap pr2)) := World.ownsRow.alloc h3 _
    have NW : Aside (∀ j u, (pr2 (lv, sl))[j]? = some u → (wz.alloc (.cells #[.int .i64 lv, .int .i64 sl] 54)).cell? ((⟨wz.heap.size, 0, none⟩ : Addr).add j) = some u) := World.news_of_block (heap_alloc_new wz _)
    have H1 : Aside (wz.heap[p]? = some (slV ko n kc eps lo ln lc va vb wr)) := h1
    have H2 : Aside (AR wz va A) := h2
    have H4 : Aside (va.ownBlock ≠ some p) := h4
    have H5 : Aside (vb.ownBlock ≠ some p) := h5
    have H6 : Aside (∀ q, va.ownBlock = some q → vb.ownBlock ≠ some q) := h6
    have H7 : Aside (∀ q, S q ↔ q = p ∨ va.ownBlock = some q ∨ vb.ownBlock = some q) := h7
    have HV : Aside (VS w0 lo L) := hv
    have HS : Aside (∀ q, S q → w0.heap.size ≤ q) := hS
    have HT : Aside (∀ q, S q → q < w.heap.size) := hlt
    have G0 : Aside (Gw w0 wz) := g0.trans gz
    have GZ : Aside (Gw w wz) := gz
    have BZ : Aside (wz.heap[w.heap.size]? = some (.cells #[.int .u64 0, .float .f64 0, .float .f64 0, .int .i64 0, .int .i64 0] 44 (0, 0))) := bz
    have ZZ : Aside (wz.heap.size = w.heap.size + 1) := zz
    have LN : Aside (L.length = ln) := hl
    have LB : Aside (B.length ≤ 2000000000) := lb
    have HR : Aside (∀ i, i < L.length → (L.getD i []).length ≤ 2000000) := hr
    have RR : Aside (¬ ((1 ≤ lv ∧ lv ≤ (L.length : Int)) ∧ 0 ≤ sl ∧ sl < ((L.getD (lv.toNat - 1) []).length : Int))) := r
    obtain ⟨rb, hrb⟩ : ∃ rb, w.heap.size = rb := ⟨_, rfl⟩
    have RBE : Aside (w.heap.size = rb) := hrb
    rw [hrb] at prb
    clear h1 h2 h3 h4 h5 h6 h7 hv hS g0 hl lb h e r gz bz zz hlt hr
    go_enter Try.func19, Try.ntmps19
    go_wp2_with (at_builtin; refine wpList_append_own_at _ rfl _ _ 46 rfl 0 54 ii (.agg #[.int .i64 0, .int .i64 0]) 2 16 Try.underlying46 hii hz hs' hby rfl (by decide) _ B.length _ rfl A2.out ⟨wz.heap.size, 0, none⟩ 1 1 (pr2 (lv, sl)) rfl rfl NW.out (pr2_one _) (by have := LB.out; simp only [maxLen]; omega) (by have := LB.out; omega) (by simp) ?_)
    intro v' w7 r1 r2 r3 r4
    obtain ⟨b8, cap8, ev, _, _, _⟩ := own_slice r1 (by simpa using r3)
    obtain ⟨p7, SL8, SU8, GS8⟩ := SL.segged H1.out H2.out H4.out H5.out H6.out H7.out r1 r2 (by simpa using r4)
    have d4 := (slv_cells p7).2.2.2.2.1
    have g4 := slv_fz p7 4
    have pl7 : p < w7.heap.size := (Array.getElem?_eq_some_iff.1 p7).1
    have b8p := slv_set4 p7 v'
    obtain ⟨w8, hw8⟩ : ∃ w8, w7.setCell ⟨p, 4, none⟩ v' = w8 := ⟨_, rfl⟩
    rw [hw8] at SL8 GS8 b8p
    obtain ⟨S8, hS8⟩ : ∃ S8 : Nat → Prop, S8 = (fun q => q = p ∨ va.ownBlock = some q ∨ v'.ownBlock = some q) := ⟨_, rfl⟩
    have SU8' : ∀ q, S8 q → S q ∨ wz.heap.size ≤ q := by rw [hS8]; exact SU8
    rw [← hS8] at SL8
    clear hS8 SU8
    obtain ⟨_, _, c2', _, _, c5'⟩ := slv_cells b8p
    have f5' := slv_fz b8p 5
    have pl8 : p < w8.heap.size := (Array.getElem?_eq_some_iff.1 b8p).1
    have G8 : Aside (Gw w0 w8) := gs_gwd G0.out GS8 HS.out
    have Z8 : w8.heap[rb]? = some (.cells #[.int .u64 0, .float .f64 0, .float .f64 0, .int .i64 0, .int .i64 0] 44 (0, 0)) := by
      have e := GS8.block rb (by rw [ZZ.out, RBE.out]; omega) (fun e => by have := HT.out rb e; rw [RBE.out] at this; omega)
      have z := BZ.out
      rw [RBE.out] at z
      exact e.trans z
    obtain ⟨wx, hwx⟩ : ∃ wx, w8.setCell ⟨p, 5, none⟩ (.bool true) = wx := ⟨_, rfl⟩
    have SLX : SLw wx p S8 ko n kc eps lo ln lc A (B ++ [(lv, sl)]) := by rw [← hwx]; exact ⟨true, SL8.blame⟩
    have GSX : Gs S wz wx := by rw [← hwx]; exact GS8.set ((H7.out p).2 (.inl rfl)) 5 _
    have Zx : wx.heap[rb]? = some (.cells #[.int .u64 0, .float .f64 0, .float .f64 0, .int .i64 0, .int .i64 0] 44 (0, 0)) := by rw [← hwx]; exact (Go.Deep.blk_setCell_other _ _ _ _ (fun e => prb e.symm)).trans Z8
    have rlx : rb < wx.heap.size := (Array.getElem?_eq_some_iff.1 Zx).1
    have y0 : wx.cell? ⟨rb, 0, none⟩ = some (.int .u64 0) := by simp [World.cell?, Zx]
    have y1 : wx.cell? ⟨rb, 1, none⟩ = some (.float .f64 0) := by simp [World.cell?, Zx]
    have y2 : wx.cell? ⟨rb, 2, none⟩ = some (.float .f64 0) := by simp [World.cell?, Zx]
    have y3 : wx.cell? ⟨rb, 3, none⟩ = some (.int .i64 0) := by simp [World.cell?, Zx]
    have y4 : wx.cell? ⟨rb, 4, none⟩ = some (.int .i64 0) := by simp [World.cell?, Zx]
    have fz : ∀ o, wx.frozen? ⟨rb, o, none⟩ = false := fun o => by simp [World.frozen?, Zx]
    have fz0 := fz 0
    have fz1 := fz 1
    have fz2 := fz 2
    have fz3 := fz 3
    have fz4 := fz 4
    obtain ⟨w9, hw9⟩ : ∃ w9, ((((wx.setCell ⟨rb, 0, none⟩ (.int .u64 0)).setCell ⟨rb, 1, none⟩ (.float .f64 0)).setCell ⟨rb, 2, none⟩ (.float .f64 0)).setCell ⟨rb, 3, none⟩ (.int .i64 0)).setCell ⟨rb, 4, none⟩ (.int .i64 0) = w9 := ⟨_, rfl⟩
    have sb : ∀ {W : World} {cs : Array Value} {t : TypeId}, W.heap[rb]? = some (.cells cs t (0, 0)) → ∀ (o : Nat) (u : Value), (W.setCell ⟨rb, o, none⟩ u).heap[rb]? = some (.cells (cs.setIfInBounds o u) t (0, 0)) := fun h o u => by simp [World.setCell, Array.getElem?_modify, h]
    have Z9 : w9.heap[rb]? = some (.cells #[.int .u64 0, .float .f64 0, .float .f64 0, .int .i64 0, .int .i64 0] 44 (0, 0)) := by
      rw [← hw9]
      exact sb (sb (sb (sb (sb Zx 0 (.int .u64 0)) 1 (.float .f64 0)) 2 (.float .f64 0)) 3 (.int .i64 0)) 4 (.int .i64 0)
    have N9 : ∀ q, q ≠ rb → w9.heap[q]? = wx.heap[q]? := fun q hq => by
      rw [← hw9, Go.Deep.blk_setCell_other _ _ _ _ hq, Go.Deep.blk_setCell_other _ _ _ _ hq, Go.Deep.blk_setCell_other _ _ _ _ hq, Go.Deep.blk_setCell_other _ _ _ _ hq, Go.Deep.blk_setCell_other _ _ _ _ hq]
    have M9 : w9.os = wx.os ∧ w9.tape = wx.tape ∧ w9.output = wx.output ∧ w9.heap.size = wx.heap.size := by rw [← hw9]; exact ⟨rfl, rfl, rfl, by simp⟩
    have RES : Aside ((∃ S', SLw w9 p S' ko n kc eps lo ln lc A (B ++ [(lv, sl)]) ∧ ∀ q, S' q → S q ∨ w.heap.size ≤ q) ∧ Gs S w w9) := by
      refine ⟨⟨S8, ?_, fun q hq => ?_⟩, ?_⟩
      · obtain ⟨wr9, h9⟩ := SLX
        exact ⟨wr9, h9.keep fun q hq => N9 q (by
          rcases SU8' q hq with e | e
          · have := HT.out q e; rw [RBE.out] at this; omega
          · rw [ZZ.out, RBE.out] at e; omega)⟩
      · rcases SU8' q hq with e | e
        · exact .inl e
        · rw [ZZ.out] at e; exact .inr (by omega)
      · refine ⟨M9.1.trans (GSX.os.trans GZ.out.below.os), M9.2.1.trans (GSX.tape.trans GZ.out.below.tape), M9.2.2.1.trans (GSX.output.trans GZ.out.below.output), by rw [M9.2.2.2]; exact Nat.le_trans GZ.out.size GSX.size, fun q hq hs => ?_⟩
        rw [RBE.out] at hq
        exact (N9 q (by omega)).trans ((GSX.block q (by rw [ZZ.out, RBE.out]; omega) hs).trans (GZ.out.below.block q (by rw [RBE.out]; exact hq)))
    have x0 : w9.cell? ⟨rb, 0, none⟩ = some (.int .u64 0) := by simp [World.cell?, Z9]
    have x1 : w9.cell? ⟨rb, 1, none⟩ = some (.float .f64 0) := by simp [World.cell?, Z9]
    have x2 : w9.cell? ⟨rb, 2, none⟩ = some (.float .f64 0) := by simp [World.cell?, Z9]
    have x3 : w9.cell? ⟨rb, 3, none⟩ = some (.int .i64 0) := by simp [World.cell?, Z9]
    have x4 : w9.cell? ⟨rb, 4, none⟩ = some (.int .i64 0) := by simp [World.cell?, Z9]
    clear r1 r2 r3 r4 SL8 SU8' GS8 p7 A2 NW b8p sb Z9 Zx Z8 N9 M9 fz c0 c1 c2 c3 c4 c5 SLX GSX
    subst ev
    have W1 : decide (lv < 1) = true ∨ (decide (lv < 1) = false ∧ decide ((ln : Int) < lv) = true) ∨ (decide (lv < 1) = false ∧ decide ((ln : Int) < lv) = false ∧ decide (sl < 0) = true) ∨ (decide (lv < 1) = false ∧ decide ((ln : Int) < lv) = false ∧ decide (sl < 0) = false ∧ 1 ≤ lv ∧ lv ≤ (ln : Int) ∧ 0 ≤ sl) := by
      by_cases q1 : lv < 1
      · exact .inl (by simpa using q1)
      · by_cases q2 : (ln : Int) < lv
        · exact .inr (.inl ⟨by simpa using q1, by simpa using q2⟩)
        · by_cases q3 : sl < 0
          · exact .inr (.inr (.inl ⟨by simpa using q1, by simpa using q2, by simpa using q3⟩))
          · exact .inr (.inr (.inr ⟨by simpa using q1, by simpa using q2, by simpa using q3, by omega, by omega, by omega⟩))
    rcases W1 with n1 | ⟨n1, n2⟩ | ⟨n1, n2, n3⟩ | ⟨n1, n2, n3, z1, z2, z3⟩
    rotate_left 3
    · obtain ⟨a', ea⟩ : ∃ a' : Nat, lv = (a' : Int) + 1 := ⟨(lv - 1).toNat, by omega⟩
      have aw : IntKind.i64.wrap (lv - 1) = (a' : Int) := by rw [IntKind.wrap_i64]; omega
      obtain ⟨lb, lf, rfl, hlb, hlc⟩ := (HV.out.gw G8.out).cells (by rw [LN.out]; omega)
      obtain ⟨so, sc, q1, _, _, _⟩ := hlc a' (by rw [LN.out]; omega)
      have sz := HR.out a' (by rw [LN.out]; omega)
      obtain ⟨sn, hsn⟩ : ∃ sn, (L.getD a' []).length = sn := ⟨_, rfl⟩
      have n4 : decide ((sn : Int) ≤ sl) = true := by
        refine decide_eq_true ?_
        have rr := RR.out
        rw [show lv.toNat - 1 = a' by omega] at rr
        by_cases c : (sn : Int) ≤ sl
        · exact c
        · exact absurd ⟨⟨z1, by rw [LN.out]; exact z2⟩, z3, by rw [hsn]; omega⟩ rr
      rw [hsn] at q1 sz
      have a'l : a' < ln := by omega
      have a'i : (a' : Int) < (ln : Int) := by omega
      clear hlc ea hsn RR z1 z2 z3
      go_wp2_with fail
      obtain ⟨⟨S', e1, e2⟩, e3⟩ := RES.out
      refine bodyPost_ret (v := .agg #[.int .u64 0, .float .f64 0, .float .f64 0, .int .i64 0, .int .i64 0]) (by simp [results, Try.results19, go_sem, x0, x1, x2, x3, x4]) rfl ?_
      first | exact ⟨⟨S', rfl, e1, e2⟩, e3⟩ | exact ⟨⟨rfl, S', e1, e2⟩, e3⟩
    all_goals clear RR
    all_goals go_wp2_with fail
    all_goals obtain ⟨⟨S', e1, e2⟩, e3⟩ := RES.out
    all_goals refine bodyPost_ret (v := .agg #[.int .u64 0, .float .f64 0, .float .f64 0, .int .i64 0, .int .i64 0]) (by simp [results, Try.results19, go_sem, x0, x1, x2, x3, x4]) rfl ?_
    all_goals first | exact ⟨⟨S', rfl, e1, e2⟩, e3⟩ | exact ⟨⟨rfl, S', e1, e2⟩, e3⟩

end Go.Proofs.Ytapjipinceoaoaa

/- ProbePiles' walk. -/
namespace Go.Proofs.Ytapjipinceoaoaa
open Go.RowKit
set_option linter.unusedVariables false
attribute [local go_sem] run_store_float f64bits

/-- A list of places, handed in. -/
structure PSo (w : World) (ao : Option Addr) (l : List (Int × Int)) : Prop where
  cells : 0 < l.length → ∃ b off, ao = some ⟨b, off, none⟩ ∧ b < w.heap.size ∧ ∀ i, i < l.length → w.cell? ⟨b, off + i * 2, none⟩ = some (.int .i64 (l.getD i (0, 0)).1) ∧ w.cell? ⟨b, off + i * 2 + 1, none⟩ = some (.int .i64 (l.getD i (0, 0)).2)
  bd : ∀ i, i < l.length → (-9223372036854775808 ≤ (l.getD i (0, 0)).1 ∧ (l.getD i (0, 0)).1 < 9223372036854775808) ∧ -9223372036854775808 ≤ (l.getD i (0, 0)).2 ∧ (l.getD i (0, 0)).2 < 9223372036854775808
theorem PSo.gw {w w' : World} {ao : Option Addr} {l : List (Int × Int)} (h : PSo w ao l) (g : Gw w w') : PSo w' ao l :=
  ⟨fun h0 => by
    obtain ⟨b, off, e, hb, hc⟩ := h.cells h0
    exact ⟨b, off, e, Nat.lt_of_lt_of_le hb g.size, fun i hi => ⟨(g.cell _ _ hb).trans (hc i hi).1, (g.cell _ _ hb).trans (hc i hi).2⟩⟩, h.bd⟩
abbrev mdC (ao : Option Addr) (n cp : Nat) (eps : Int) (own : Bool) (uo : Option Addr) (un uc : Nat) : Array Value := #[.slice ao n cp, .int .i64 eps, .bool own, .slice uo un uc]

/-- The first z keys written over. -/
def fives (f : Nat → Int) (n z : Nat) : List Value := (List.range n).map fun j => if j < z then Value.int .u64 5 else Value.int .u64 (f j)
theorem fives_len (f : Nat → Int) (n z : Nat) : (fives f n z).length = n := by simp [fives]
theorem fives_set (f : Nat → Int) {n z : Nat} (h : z < n) : (fives f n z).set z (.int .u64 5) = fives f n (z + 1) := by
  apply List.ext_getElem?
  intro j
  by_cases hj : j < n
  · by_cases e : z = j
    · subst e
      rw [List.getElem?_set_self (by rw [fives_len]; exact h)]
      simp [fives, h]
    · rw [List.getElem?_set_ne e]
      by_cases l : j < z
      · simp [fives, hj, l, show j < z + 1 by omega]
      · simp [fives, hj, l, show ¬ j < z + 1 by omega]
  · rw [List.getElem?_eq_none (by rw [List.length_set, fives_len]; omega), List.getElem?_eq_none (by rw [fives_len]; omega)]
theorem fives_zero (f : Nat → Int) (n : Nat) : fives f n 0 = (List.range n).map fun j => Value.int .u64 (f j) := by simp [fives]
theorem fives_at (f : Nat → Int) {n z : Nat} (h : z < n) : (fives f n z)[z]? = some (.int .u64 (f z)) := by simp [fives, h]
def s5 : Sg := ⟨5, 0, 0, 0, 0⟩
theorem SLw.gw {w w' : World} {p : Nat} {S : Nat → Prop} {ko : Option Addr} {n kc : Nat} {eps : Int} {lo : Option Addr} {ln lc : Nat} {A B : List (Int × Int)} (h : SLw w p S ko n kc eps lo ln lc A B) (g : Gw w w') : SLw w' p S ko n kc eps lo ln lc A B := by
  obtain ⟨wr, h'⟩ := h
  exact ⟨wr, h'.gw g⟩
theorem ownv_new (w : World) : OwnV (w.alloc (.cells #[] 41)) w.heap.size (.slice (some ⟨w.heap.size, 0, none⟩) 0 0) [] [] := ⟨World.ownsRow_made w #[] 0 (Nat.le_refl _) (Nat.zero_le _) rfl, fun i hi => by simp at hi, fun i hi => by simp at hi⟩
set_option maxRecDepth 10000 in
set_option maxHeartbeats 8000000 in
theorem piles9_walk {HP : World → Nat → (Nat → Prop) → Int → (Nat → Int) → Nat → List (List Sg) → Prop} (PC : ProbeC HP) (O5 : Of5C) (ao : Option Addr) (n cp : Nat) (f : Nat → Int) (eps : Int) (own : Bool) (uo : Option Addr) (uc : Nat) (U : List (List Sg)) (bo : Option Addr) (cb : Nat) (pl : List (Int × Int)) (e0 : -9223372036854775808 ≤ eps) (e1 : eps < 9223372036854775808) (hn : n ≤ 2000000) (hcp : n ≤ cp) (hz : ao = none → n = 0 ∧ cp = 0) (hU : Short U) (hm : pl.length ≤ 2000000) (w : World) (h : KS w ao n f) (hv : UV w uo U) (hg : PSo w bo pl) :
    Calls Try.prog 4 #[madeV ao n cp eps own uo U.length uc, .slice bo pl.length cb] w fun ex w' => ex = .returned (.bool true) ∧ Gw w w' := by
  have HK : Aside (KS w ao n f) := h
  have HG : Aside (PSo w bo pl) := hg
  have SH : Hid _ := fun W => shown9 PC W
  have MD : Hid (∀ W, Gw w W → Calls Try.prog 6 #[madeV ao n cp eps own uo U.length uc] W fun ex w' => (∃ lo lc L ok, ex = .returned (.tuple #[.slice lo (L : List (List Sg)).length lc, .bool ok]) ∧ MadeR eps f n own U L ok ∧ VSf w' W.heap.size lo L ∧ L.length ≤ lc) ∧ Gw W w') := fun W gW => made_any O5 eps ao n cp f own uo uc U e0 e1 hn hcp hU W (h.gw gW) (hv.gw gW)
  have BD : Hid (∀ W, Gw w W → Calls Try.prog 10 #[.slice ao n cp, .int .i64 eps] W fun ex w' => BuildOutF W.heap.size w' ex eps f n ∧ Gw W w') := fun W gW => rbuild_any O5 eps ao n cp f e0 e1 hn hcp W (h.gw gW)
  have PCC : Aside (ProbeC HP) := PC
  obtain ⟨un, hun⟩ : ∃ un, U.length = un := ⟨_, rfl⟩
  obtain ⟨pn, hpn⟩ : ∃ pn, pl.length = pn := ⟨_, rfl⟩
  have PN : Aside (pl.length = pn) := hpn
  rw [hun] at MD ⊢
  rw [hpn] at hm ⊢
  clear h hv hg O5 PC hU hun hpn
  have G0 : Aside (Gw w (w.alloc (.cells #[.slice ao n cp, .int .i64 eps, .bool own, .slice uo un uc] 25))) := (Gw.refl w).alloc _ _
  have BK : Aside ((w.alloc (.cells #[.slice ao n cp, .int .i64 eps, .bool own, .slice uo un uc] 25)).heap[w.heap.size]? = some (.cells #[.slice ao n cp, .int .i64 eps, .bool own, .slice uo un uc] 25 (0, 0))) := heap_alloc_new w _
  go_enter Try.func4, Try.ntmps4
  go_wp2_with fail
  generalize w.alloc (.cells #[.slice ao n cp, .int .i64 eps, .bool own, .slice uo un uc] 25) = w1 at G0 BK ⊢
  obtain ⟨mb, hmb⟩ : ∃ mb, w.heap.size = mb := ⟨_, rfl⟩
  have MB : Aside (w.heap.size = mb) := hmb
  rw [hmb] at BK ⊢
  clear hmb
  refine (SH.out _).mono ?_
  rintro e w2 ⟨rfl, g2⟩
  have G2 : Aside (Gw w w2) := G0.out.trans g2
  have B2 : Aside (w2.heap[mb]? = some (.cells #[.slice ao n cp, .int .i64 eps, .bool own, .slice uo un uc] 25 (0, 0))) := (g2.below.block mb (Array.getElem?_eq_some_iff.1 BK.out).1).trans BK.out
  clear g2 G0 BK SH
  have b0 : w2.cell? ⟨mb, 0, none⟩ = some (.slice ao n cp) := by have := B2.out; simp [World.cell?, this]
  have b1 : w2.cell? ⟨mb, 1, none⟩ = some (.int .i64 eps) := by have := B2.out; simp [World.cell?, this]
  have b2 : w2.cell? ⟨mb, 2, none⟩ = some (.bool own) := by have := B2.out; simp [World.cell?, this]
  have b3 : w2.cell? ⟨mb, 3, none⟩ = some (.slice uo un uc) := by have := B2.out; simp [World.cell?, this]
  have bl : mb < w2.heap.size := (Array.getElem?_eq_some_iff.1 B2.out).1
  go_upto_if 25 with fail
  have W3 : Aside (Gw w2 (w2.alloc (.cells #[] 41))) := (Gw.refl w2).alloc _ _
  go_cut [6] (fun s6 wc => ∃ (lo : Option Addr) (lc : Nat) (L : List (List Sg)), s6 = .slice lo L.length lc ∧ Aside (Short L) ∧ Aside (VSf wc w2.heap.size lo L) ∧ L.length ≤ lc ∧ Aside (Gw w2 wc))
  case first =>
    cases own with
    | true =>
      go_wp2_with fail
      refine (MD.out _ (G2.out.trans W3.out)).mono ?_
      rintro e w4 ⟨⟨lo, lc, L, ok, rfl, hM, hV, hl⟩, g4⟩
      have M4 : Aside (Short L) := hM.sh
      have V4 : Aside (VSf w4 w2.heap.size lo L) := vsf_base hV W3.out.size
      have G4 : Aside (Gw w2 w4) := W3.out.trans g4
      clear hM hV g4
      go_wp2_with fail
      go_meet
      case rel => exact ⟨lo, lc, L, rfl, M4, V4, hl, G4⟩
    | false =>
      go_wp2_with fail
      refine (BD.out _ (G2.out.trans W3.out)).mono ?_
      rintro e w4 ⟨⟨lo, lc, L, err, rfl, hB, hV, hl⟩, g4⟩
      have M4 : Aside (Short L) := (built_made (U := U) hn HK.out.bd hB).sh
      have V4 : Aside (VSf w4 w2.heap.size lo L) := vsf_base hV W3.out.size
      have G4 : Aside (Gw w2 w4) := W3.out.trans g4
      clear hB hV g4
      go_wp2_with fail
      go_meet
      case rel => exact ⟨lo, lc, L, rfl, M4, V4, hl, G4⟩
  case rest =>
    clear MD BD b0 b1 b2 b3 W3
    obtain ⟨lo, lc, L, rfl, SH, VF, hlc, GC⟩ := hcut
    obtain ⟨w4, hw4⟩ : ∃ wx, wx = wc := ⟨_, rfl⟩
    subst hw4
    obtain ⟨ln, hln⟩ : ∃ ln, L.length = ln := ⟨_, rfl⟩
    have LN : Aside (L.length = ln) := hln
    have ll : ln ≤ 2000000 := by have := SH.out.1; omega
    rw [hln] at hlc ⊢
    clear hln
    have B4 : Aside (w4.heap[mb]? = some (.cells #[.slice ao n cp, .int .i64 eps, .bool own, .slice uo un uc] 25 (0, 0))) := (GC.out.below.block mb bl).trans B2.out
    have G4 : Aside (Gw w w4) := G2.out.trans GC.out
    have b0 : w4.cell? ⟨mb, 0, none⟩ = some (.slice ao n cp) := by have := B4.out; simp [World.cell?, this]
    have bl4 : mb < w4.heap.size := Nat.lt_of_lt_of_le bl GC.out.size
    have K4 := HK.out.gw G4.out
    have OW : Hid (∀ x, ao = some x → ∀ j u, ((List.range n).map fun j => Value.int .u64 (f j))[j]? = some u → (w4.alloc (.cells #[] 36)).cell? (x.add j) = some u) := by
      intro x e j u hu
      have hj : j < n := by
        have := (List.getElem?_eq_some_iff.1 hu).1
        simpa using this
      obtain ⟨b, off, e', hb, hc⟩ := K4.cells (by omega)
      rw [e] at e'
      cases e'
      rw [Addr.add_lit]
      refine (((Gw.refl w4).alloc _ _).cell _ _ hb).trans ((hc j hj).trans ?_)
      simpa [hj] using hu
    have O0 : Hid ((w4.alloc (.cells #[] 36)).ownsRow w4.heap.size 36 1 (.slice (some ⟨w4.heap.size, 0, none⟩) 0 0) 0 []) := World.ownsRow_made w4 #[] 0 (Nat.le_refl _) (Nat.zero_le _) rfl
    obtain ⟨ii, hii, iz, is, iby⟩ := info_parts info_k
    obtain ⟨jj, hjj, jz, js, jby⟩ := info_parts info_sgs
    obtain ⟨gg, hgg, gz, gs, gby⟩ := info_parts info_sg
    have NL : Aside (((List.range n).map fun j => Value.int .u64 (f j)).length = n * 1) := by show _ = _; simp
    have N1 : Aside (∀ u ∈ ((List.range n).map fun j => Value.int .u64 (f j)), u.oneCell' = true) := by
      intro u hu
      obtain ⟨j, _, rfl⟩ := List.mem_map.1 hu
      rfl
    have HZ : Aside (ao = none → n = 0 ∧ cp = 0) := hz
    clear K4 hz
    go_wp2_with (at_builtin; refine wpList_append_src _ rfl _ _ 22 rfl w4.heap.size 36 ii (.int .u64 0) 1 8 Try.underlying22 hii iz is iby rfl (by decide) _ 0 [] rfl O0.out ao n cp ((List.range n).map fun j => Value.int .u64 (f j)) rfl HZ.out NL.out OW.out N1.out (by simp only [maxLen]; omega) (by omega) (by simp) ?_)
    intro v' w5 q1 q2 q3
    have G5 : Aside (Gw w4 w5) := ((Gw.refl w4).alloc _ _).grown q2 (fun k hk => by cases hk; exact Nat.le_refl _)
    have q1' : w5.ownsRow w4.heap.size 36 1 v' n ((List.range n).map fun j => Value.int .u64 (f j)) := by simpa using q1
    have FM : ∃ ko kc, v' = .slice ko n kc ∧ n ≤ kc := by
      rcases q1'.2 with ⟨e, z⟩ | ⟨g, cap, cur, e, hb, hh, hc, _⟩
      · subst z
        exact ⟨none, 0, e, Nat.le_refl _⟩
      · exact ⟨some ⟨g, 0, none⟩, cap, e, hc⟩
    obtain ⟨ko, kc, rfl, hkc⟩ := FM
    have KR : Aside (w5.ownsRow w4.heap.size 36 1 (.slice ko n kc) n ((List.range n).map fun j => Value.int .u64 (f j))) := q1'
    have B5 : Aside (w5.heap[mb]? = some (.cells #[.slice ao n cp, .int .i64 eps, .bool own, .slice uo un uc] 25 (0, 0))) := (G5.out.below.block mb bl4).trans B4.out
    clear q1 q1' q2 q3 OW O0 NL N1 HZ b0
    go_wp2_with fail
    have O6 : Aside (OwnV (w5.alloc (.cells #[] 41)) w5.heap.size (.slice (some ⟨w5.heap.size, 0, none⟩) 0 0) [] []) := ownv_new w5
    have G6 : Aside (Gw w5 (w5.alloc (.cells #[] 41))) := (Gw.refl w5).alloc _ _
    obtain ⟨rb, hrb⟩ : ∃ rb, w5.heap.size = rb := ⟨_, rfl⟩
    have RBE : Aside (w5.heap.size = rb) := hrb
    rw [hrb] at O6 ⊢
    clear hrb
    go_loopg [8, 9] ln (fun gg s8 s9 wr => ∃ (i : Nat) (vo : Option Addr) (vc : Nat) (vals : List Value), s8 = .slice vo i vc ∧ s9 = .int .i64 (i : Int) ∧ i ≤ ln ∧ ln - i ≤ gg ∧ Aside (OwnV wr rb (.slice vo i vc) (L.take i) vals) ∧ Aside (Gw w5 wr) ∧ i ≤ vc)
    case atStart => exact ⟨0, some ⟨rb, 0, none⟩, 0, [], rfl, rfl, Nat.zero_le _, by omega, O6, G6, Nat.le_refl _⟩
    case round =>
      clear O6 G6
      obtain ⟨i, vo, vc, vals, rfl, rfl, a1, a2, OV, GG, vcl⟩ := hrel
      obtain ⟨wS, hwS⟩ : ∃ wx, wx = wr := ⟨_, rfl⟩
      subst hwS
      by_cases hlt : i < ln
      · obtain ⟨ab, af, rfl, hab, hac⟩ := (((VF.out.vs).gw G5.out).gw GG.out).cells (by rw [LN.out]; omega)
        obtain ⟨so, sc, p1, _, p3, p4⟩ := hac i (by rw [LN.out]; exact hlt)
        obtain ⟨lv, hlv⟩ : ∃ lv, L.getD i [] = lv := ⟨_, rfl⟩
        have TK : Aside (L.take (i + 1) = L.take i ++ [lv]) := by have := take_next (L := L) (i := i) (by rw [LN.out]; exact hlt); rw [hlv] at this; exact this
        have TL : Aside ((L.take i).length = i) := by show _ = _; rw [List.length_take, LN.out]; omega
        rw [hlv] at p1 p3 p4
        have sn1 : lv.length ≤ 2000000 := by have := SH.out.2 i (by rw [LN.out]; exact hlt); rw [hlv] at this; exact this
        have OW : Hid (∀ x, so = some x → ∀ j u, (lv.flatMap sgc)[j]? = some u → (wS.alloc (.cells #[] 44)).cell? (x.add j) = some u) := by
          intro x e j u hu
          have hj : j < lv.length * 5 := by
            have := (List.getElem?_eq_some_iff.1 hu).1
            rw [flat_len] at this
            exact this
          obtain ⟨b, off, e', hb, hc⟩ := gs_flat p4 (by omega)
          rw [e] at e'
          cases e'
          rw [Addr.add_lit]
          refine (((Gw.refl wS).alloc _ _).cell _ _ hb).trans ((hc j hj).trans ?_)
          rw [← flc_get lv j hj]
          exact hu
        have O0 : Hid ((wS.alloc (.cells #[] 44)).ownsRow wS.heap.size 44 5 (.slice (some ⟨wS.heap.size, 0, none⟩) 0 0) 0 []) := World.ownsRow_made wS #[] 0 (Nat.le_refl _) (Nat.zero_le _) rfl
        have NL : Aside ((lv.flatMap sgc).length = lv.length * 5) := flat_len lv
        have N1 : Aside (∀ u ∈ lv.flatMap sgc, u.oneCell' = true) := by
          intro u hu
          obtain ⟨s, -, hs⟩ := List.mem_flatMap.1 hu
          exact sgc_one s u hs
        obtain ⟨sn, hsn⟩ : ∃ sn, lv.length = sn := ⟨_, rfl⟩
        have SN : Aside (lv.length = sn) := hsn
        rw [hsn] at p1 p3 NL sn1
        have P3 : Aside (so = none → sn = 0 ∧ sc = 0) := p3
        have bl := (Nat.le_trans (Nat.le_of_eq RBE.out.symm) GG.out.size)
        clear hac hlv hsn p4 p3
        go_wp2_with (at_builtin; refine wpList_append_src _ rfl _ _ 41 rfl wS.heap.size 44 gg (.agg #[.int .u64 0, .float .f64 0, .float .f64 0, .int .i64 0, .int .i64 0]) 5 40 Try.underlying41 hgg gz gs gby rfl (by decide) _ 0 [] rfl O0.out so sn sc (lv.flatMap sgc) rfl P3.out NL.out OW.out N1.out (by simp only [maxLen]; omega) (by omega) (by simp) ?_)
        intro vI w7 q1 q2 q3
        have G7 : Aside (Gw wS w7) := ((Gw.refl wS).alloc _ _).grown q2 (fun k hk => by cases hk; exact Nat.le_refl _)
        have q1' : w7.ownsRow wS.heap.size 44 5 vI sn (lv.flatMap sgc) := by simpa using q1
        have S7' : SR w7 wS.heap.size vI lv := by show World.ownsRow _ _ _ _ _ _ _; rw [SN.out]; exact q1'
        have FM : ∃ io ic, vI = .slice io sn ic := by
          rcases q1'.2 with ⟨e, z⟩ | ⟨g, cap, cur, e, hb, hh, hc, _⟩
          · subst z
            exact ⟨none, 0, e⟩
          · exact ⟨some ⟨g, 0, none⟩, cap, e⟩
        obtain ⟨io, ic, rfl⟩ := FM
        have S7 : Aside (SR w7 wS.heap.size (.slice io sn ic) lv) := S7'
        have A2 : Aside ((w7.alloc (.cells #[.slice io sn ic] 41)).ownsRow rb 41 1 (.slice vo i vc) i vals) := by
          have := (OV.out.gw G7.out).outer
          rw [TL.out] at this
          exact this.alloc _
        clear q1 q1' q2 q3 S7' OW O0 NL N1 P3
        go_wp2_with (at_builtin; refine wpList_append_own_at _ rfl _ _ 27 rfl rb 41 jj (.slice none 0 0) 1 24 Try.underlying27 hjj jz js jby rfl (by decide) _ i _ rfl A2.out ⟨w7.heap.size, 0, none⟩ 1 1 [.slice io sn ic] rfl rfl (new_val w7 (.slice io sn ic) 41) (fun u hu => by simp at hu; subst hu; rfl) (by simp only [maxLen]; omega) (by omega) (by have := G7.out.size; simp; omega) ?_)
        intro v8 w8 r1 r2 r3 r4
        obtain ⟨b8, cap8, ev, _, hc8, _⟩ := own_slice r1 (by simpa using r3)
        have O8' := OwnV.more (o := .cells #[.slice io sn ic] 41) OV.out G7.out S7.out (by omega) (by rw [TL.out]; exact r1) r2 (by simpa using r4)
        rw [← TK.out] at O8'
        have ow : ∀ q, (Value.slice vo i vc).ownBlock = some q → rb ≤ q := fun q e => (A2.out.lt q e).1
        have G8 : Aside (Gw w5 w8) := ((GG.out.trans G7.out).alloc _ _).grown r2 (fun q hq => by have := ow q hq; rw [RBE.out]; exact this)
        subst ev
        have O8 : Aside (OwnV w8 rb (.slice (some ⟨b8, 0, none⟩) (i + 1) cap8) (L.take (i + 1)) (vals ++ [Value.slice io sn ic])) := O8'
        clear r1 r2 r3 r4 O8' ow A2 S7 G7 OV GG
        go_wp2_with fail
        go_roundg (ln - (i + 1))
        case measure => omega
        case rel => exact ⟨i + 1, some ⟨b8, 0, none⟩, cap8, vals ++ [Value.slice io sn ic], rfl, by go_num, by omega, Nat.le_refl _, O8, G8, hc8⟩
      · have ei : i = ln := by omega
        subst ei
        have tk1 : L.take i = L := by rw [List.take_of_length_le (by rw [LN.out]; exact Nat.le_refl _)]
        have OV' : Aside (OwnV wS rb (.slice vo i vc) L vals) := by have := OV.out; rw [tk1] at this; exact this
        have KS6 : Aside (KS wS ko n f) := by
          have := KR.out
          have bd := HK.out.bd
          rcases this.2 with ⟨e, z⟩ | ⟨g, cap, cur, e, hb, hh, hc, _⟩
          · cases e
            exact ⟨fun h0 => by omega, bd⟩
          · cases e
            exact (ks_own this (Nat.le_refl _) (fun j hj => by simp [hj]) bd).gw GG.out
        have VS6 : Aside (VS wS vo L) := by
          have := OV'.out
          rw [← LN.out] at this
          exact (this.vsf (vs_ok8 VF.out.vs)).vs
        have VL6 : Aside (VS wS lo L) := (VF.out.vs.gw G5.out).gw GG.out
        have B6 : Aside (wS.heap[mb]? = some (.cells #[.slice ao n cp, .int .i64 eps, .bool own, .slice uo un uc] 25 (0, 0))) := (GG.out.below.block mb (Nat.lt_of_lt_of_le bl4 G5.out.size)).trans B5.out
        have G6 : Aside (Gw w wS) := (G4.out.trans G5.out).trans GG.out
        have b1 : wS.cell? ⟨mb, 1, none⟩ = some (.int .i64 eps) := by have := B6.out; simp [World.cell?, this]
        have bl6 : mb < wS.heap.size := (Array.getElem?_eq_some_iff.1 B6.out).1
        have OF : Hid (Calls Try.prog 7 #[.slice ko n kc, .int .i64 eps, .slice vo i vc] wS fun ex w' => PileOut HP wS w' ex eps f n L ∧ Gw wS w') := by
          have := PCC.out.of eps ko n kc f vo vc L e0 e1 hn hkc SH.out (by rw [LN.out]; exact vcl) wS KS6.out VS6.out
          rw [LN.out] at this
          exact this
        clear tk1 OV a2
        go_wp2_with fail
        refine Calls.mono OF.out ?_
        rintro ex w7 ⟨⟨E, hE, hO⟩, g7⟩
        have CE : Aside (CheckR eps f n L E) := hE
        have PO : ∃ po : Option Addr, ex = .returned (.tuple #[.pointer po, .int .i64 E]) ∧ ((E ≠ 0 ∧ po = none) ∨ (E = 0 ∧ ∃ p S, po = some ⟨p, 0, none⟩ ∧ (∀ q, S q → wS.heap.size ≤ q) ∧ HP w7 p S eps f n L)) := by
          rcases hO with ⟨a, b⟩ | ⟨a, p, S, b, c, d⟩
          · exact ⟨none, b, .inl ⟨a, rfl⟩⟩
          · exact ⟨some ⟨p, 0, none⟩, by rw [b, a], .inr ⟨a, p, S, rfl, c, d⟩⟩
        obtain ⟨po, rfl, hPO⟩ := PO
        have HPO : Aside ((E ≠ 0 ∧ po = none) ∨ (E = 0 ∧ ∃ p S, po = some ⟨p, 0, none⟩ ∧ (∀ q, S q → wS.heap.size ≤ q) ∧ HP w7 p S eps f n L)) := hPO
        obtain ⟨dn, hdn⟩ : ∃ dn, po.isNone = dn := ⟨_, rfl⟩
        have DN : Aside (po.isNone = dn) := hdn
        have hq : ∀ W : World, (binOp .eql 30 (.pointer po) (.pointer none)).run Try.prog W = .ok (.bool dn) W := fun W => by rw [← hdn]; cases po <;> kernel_rfl
        have ed : (E == 0) = !dn := by
          rw [← hdn]
          rcases hPO with ⟨a, rfl⟩ | ⟨a, p, S, rfl, _⟩
          · simpa using a
          · simpa using a
        have G7 : Aside (Gw wS w7) := g7
        have B7 : Aside (w7.heap[mb]? = some (.cells #[.slice ao n cp, .int .i64 eps, .bool own, .slice uo un uc] 25 (0, 0))) := (g7.below.block mb bl6).trans B6.out
        have b0 : w7.cell? ⟨mb, 0, none⟩ = some (.slice ao n cp) := by have := B7.out; simp [World.cell?, this]
        have b1' : w7.cell? ⟨mb, 1, none⟩ = some (.int .i64 eps) := by have := B7.out; simp [World.cell?, this]
        have bl7 : mb < w7.heap.size := (Array.getElem?_eq_some_iff.1 B7.out).1
        have RC : Hid (Calls Try.prog 11 #[.slice ao n cp, .int .i64 eps, .slice lo i lc] w7 fun e w' => e = .returned (.int .i64 E) ∧ Gw w7 w') := by
          have := rcheck8_any eps ao n cp f lo lc L e0 e1 (by omega) hcp (by have := SH.out.1; omega) (fun k hk => by have := SH.out.2 k hk; omega) w7 ((HK.out.gw G6.out).gw G7.out) (VL6.out.gw G7.out)
          rw [LN.out] at this
          refine this.mono ?_
          rintro e w' ⟨⟨E2, rfl, h2⟩, g⟩
          exact ⟨by rw [h2.one CE.out], g⟩
        clear hO hE g7 OF hdn hPO
        go_wp2_with fail
        refine Calls.mono RC.out ?_
        rintro ex w8 ⟨rfl, g8⟩
        have G8 : Aside (Gw wS w8) := G7.out.trans g8
        have B8 : Aside (w8.heap[mb]? = some (.cells #[.slice ao n cp, .int .i64 eps, .bool own, .slice uo un uc] 25 (0, 0))) := (g8.below.block mb bl7).trans B7.out
        have G78 : Aside (Gw w7 w8) := g8
        clear g8 RC b0 b1 b1'
        have ee : (E == E) = true := by simp
        go_upto_region 14 with fail
        go_cut [86] (fun s86 wc => s86 = .bool false ∧ Aside (wc = w8))
        case first =>
          cases dn with
          | true =>
            have e2 : (E == 0) = false := by rw [ed]; rfl
            have e3 : (E != 0) = true := by simp [bne, e2]
            clear ed
            go_wp2_with fail
            go_meet
            case rel => exact ⟨(by first | rfl | rw [e3] | (rw [e3]; rfl)), (show Aside _ from rfl)⟩
          | false =>
            have e2 : (E == 0) = true := by rw [ed]; rfl
            have e3 : (E != 0) = false := by simp [bne, e2]
            clear ed
            go_wp2_with fail
            go_meet
            case rel => exact ⟨(by first | rfl | rw [e3] | (rw [e3]; rfl)), (show Aside _ from rfl)⟩
        case rest =>
          obtain ⟨rfl, WC⟩ := hcut
          obtain rfl : w8 = wc := WC.out.symm
          clear WC ee hq
          have KR8 : Aside (w8.ownsRow w4.heap.size 36 1 (.slice ko n kc) n (fives f n 0)) := by
            rw [fives_zero]
            exact own_kept KR.out fun q hq => (G8.out.below.block q (Nat.lt_of_lt_of_le (KR.out.lt q hq).2 GG.out.size)).trans (GG.out.below.block q (KR.out.lt q hq).2)
          have O8 : Aside (OwnV w8 rb (.slice vo i vc) L vals) := OV'.out.gw G8.out
          have W45 : Aside (w4.heap.size ≤ rb ∧ rb ≤ wS.heap.size) := ⟨by have := G5.out.size; have := RBE.out; omega, by have := GG.out.size; have := RBE.out; omega⟩
          have KT : Aside (∀ q, (Value.slice ko n kc).ownBlock = some q → w4.heap.size ≤ q ∧ q < wS.heap.size) := fun q e => ⟨(KR.out.lt q e).1, Nat.lt_of_lt_of_le (KR.out.lt q e).2 GG.out.size⟩
          have OT : Aside ((∀ x, x < i → ∀ q, (vals.getD x nilS).ownBlock = some q → w4.heap.size ≤ q ∧ q < wS.heap.size)) := fun x hx q e => by
            have := sr_lt (OV'.out.rows x (by rw [LN.out]; exact hx)) q e
            have := W45.out
            omega
          have GW8 : Aside (Gw w w8) := G6.out.trans G8.out
          have G0K : Aside (w.heap.size ≤ w4.heap.size) := G4.out.size
          clear a1 bl6 B6 B7 VS6 KS6 bl7
          go_wp2_with fail
          go_loopg [13] n (fun gg s13 wr => ∃ z : Nat, s13 = .int .i64 (z : Int) ∧ z ≤ n ∧ n - z ≤ gg ∧ Aside (wr.ownsRow w4.heap.size 36 1 (.slice ko n kc) n (fives f n z)) ∧ Aside (Gs (fun q => (Value.slice ko n kc).ownBlock = some q) w8 wr))
          case atStart => exact ⟨0, rfl, Nat.zero_le _, by omega, KR8, (show Aside _ from (Gw.refl w8).gs _)⟩
          case round =>
            clear KR8
            obtain ⟨z, rfl, z1, z2, KZ, GZ⟩ := hrel
            obtain ⟨wT, hwT⟩ : ∃ wx, wx = wr := ⟨_, rfl⟩
            subst hwT
            have mbl : Aside (mb < w4.heap.size) := bl4
            have BT : Aside (wT.heap[mb]? = some (.cells #[.slice ao n cp, .int .i64 eps, .bool own, .slice uo un uc] 25 (0, 0))) := (GZ.out.block mb (Nat.lt_of_lt_of_le (Nat.lt_of_lt_of_le bl4 (G5.out.trans GG.out).size) G8.out.size) (fun e => by have := (KT.out mb e).1; have := mbl.out; omega)).trans B8.out
            have GT : Aside (Gw w wT) := gs_gwd GW8.out GZ.out (fun q e => by have := (KT.out q e).1; have := G0K.out; omega)
            by_cases zlt : z < n
            · obtain ⟨g, rfl⟩ : ∃ g, ko = some ⟨g, 0, none⟩ := by
                rcases KZ.out.2 with ⟨e, zz⟩ | ⟨g, cap, cur, e, _⟩
                · omega
                · cases e; exact ⟨g, rfl⟩
              have gl : g < wT.heap.size := (KZ.out.lt g rfl).2
              have x0 : wT.cell? ⟨g, z, none⟩ = some (.int .u64 (f z)) := by
                rw [KZ.out.cellAt z (by omega)]
                exact fives_at f zlt
              have y0 := World.ownsRow.frozenAt KZ.out z
              obtain ⟨bb, of, eo, hbb, hbc⟩ := (HK.out.gw GT.out).cells (by omega)
              have ck := hbc z zlt
              have b0 : wT.cell? ⟨mb, 0, none⟩ = some (.slice ao n cp) := by have := BT.out; simp [World.cell?, this]
              rw [eo] at b0
              have mbT : mb < wT.heap.size := (Array.getElem?_eq_some_iff.1 BT.out).1
              obtain ⟨y, hy⟩ : ∃ y, f z = y := ⟨_, rfl⟩
              rw [hy] at x0 ck
              have zi : (z : Int) < (n : Int) := by omega
              clear hbc hy
              go_wp2_with fail
              go_quiet (fail)
              have KU : Aside ((wT.drewN nq).ownsRow w4.heap.size 36 1 (.slice (some ⟨g, 0, none⟩) n kc) n (fives f n z)) := own_kept KZ.out fun _ _ => rfl
              have GU : Aside (Gs (fun q => (Value.slice (some ⟨g, 0, none⟩) n kc).ownBlock = some q) w8 (wT.drewN nq)) := gs_trans9 GZ.out (((Gw.refl wT).drewN nq).gs (fun _ => False)) (fun q hq => hq.elim)
              have x1 : (wT.drewN nq).cell? ⟨g, z, none⟩ = some (.int .u64 y) := x0
              have gl1 : g < (wT.drewN nq).heap.size := gl
              clear KZ GZ GT BT x0 y0 b0 ck mbT gl hbb
              generalize wT.drewN nq = wU at KU GU x1 gl1 ⊢
              have y1 := World.ownsRow.frozenAt KU.out z
              have KZ9 : Aside ((wU.setCell ⟨g, z, none⟩ (.int .u64 5)).ownsRow w4.heap.size 36 1 (.slice (some ⟨g, 0, none⟩) n kc) n (fives f n (z + 1))) := by
                have := (KU.out.stored z (.int .u64 5)).1
                rw [fives_set f zlt] at this
                exact this
              have GZ9 : Aside (Gs (fun q => (Value.slice (some ⟨g, 0, none⟩) n kc).ownBlock = some q) w8 (wU.setCell ⟨g, z, none⟩ (.int .u64 5))) := GU.out.set (q := g) rfl z _
              clear KU GU
              go_wp2_with fail
              go_roundg (n - (z + 1))
              case measure => omega
              case rel => exact ⟨z + 1, by go_num, by omega, Nat.le_refl _, KZ9, GZ9⟩
            · have ez : z = n := by omega
              subst ez
              have G9 : Aside (Gs (fun q => w4.heap.size ≤ q ∧ q < wS.heap.size) w8 wT) := ⟨GZ.out.os, GZ.out.tape, GZ.out.output, GZ.out.size, fun q hq hs => GZ.out.block q hq (fun e => hs (KT.out q e))⟩
              have R9 : Aside (wT.ownsRow rb 41 1 (.slice vo i vc) i vals) := by
                have := O8.out.outer
                rw [LN.out] at this
                exact own_kept this fun q hq => GZ.out.block q (this.lt q hq).2 (fun e => by
                  have h1 := (this.lt q hq).1
                  have h2 := (KR.out.lt q e).2
                  have := RBE.out
                  omega)
              have S9 : Aside (∀ x, 0 ≤ x → x < i → SR wT rb (vals.getD x nilS) (L.getD x [])) := fun x _ hx => sr_keep (O8.out.rows x (by rw [LN.out]; exact hx)) fun q hq => GZ.out.block q (sr_lt (O8.out.rows x (by rw [LN.out]; exact hx)) q hq).2 (fun e => by
                  have h1 := (sr_lt (O8.out.rows x (by rw [LN.out]; exact hx)) q hq).1
                  have h2 := (KR.out.lt q e).2
                  have := RBE.out
                  omega)
              have AP : Aside (∀ x, x < i → ∀ q, (vals.getD x nilS).ownBlock = some q → (Value.slice vo i vc).ownBlock ≠ some q ∧ ∀ j, j < i → (vals.getD j nilS).ownBlock = some q → j = x) := fun x hx => by
                have := OV'.out.apart x (by rw [LN.out]; exact hx)
                rw [LN.out] at this
                exact this
              clear KZ GZ GT BT mbl zlt z1 z2 O8
              go_wp2_with fail
              go_loopg [14] i (fun gg s14 wr => ∃ j : Nat, s14 = .int .i64 (j : Int) ∧ j ≤ i ∧ i - j ≤ gg ∧ Aside (wr.ownsRow rb 41 1 (.slice vo i vc) i vals) ∧ Aside (∀ x, j ≤ x → x < i → SR wr rb (vals.getD x nilS) (L.getD x [])) ∧ Aside (Gs (fun q => w4.heap.size ≤ q ∧ q < wS.heap.size) w8 wr))
              case atStart => exact ⟨0, rfl, Nat.zero_le _, by omega, R9, S9, G9⟩
              case round =>
                clear R9 S9 G9
                obtain ⟨j, rfl, j1, j2, RO, RS, GJ⟩ := hrel
                obtain ⟨wU, hwU⟩ : ∃ wx, wx = wr := ⟨_, rfl⟩
                subst hwU
                by_cases jlt : j < i
                · obtain ⟨gA, cA, eA, _, _, hAl⟩ := own_slice RO.out (fun q => by cases q; omega)
                  cases eA
                  have vl : vals.length = i := by have := RO.out.1; omega
                  have cj := RO.out.cellAt j (by omega)
                  have vj : vals[j]? = some (vals.getD j nilS) := by
                    rw [List.getD_eq_getElem?_getD, List.getElem?_eq_getElem (by omega)]
                    rfl
                  rw [vj] at cj
                  obtain ⟨bo', c, f1, f2, f3, f4⟩ := sr_form (RS.out j (Nat.le_refl _) jlt)
                  have SJ : Aside (SR wU rb (vals.getD j nilS) (L.getD j [])) := RS.out j (Nat.le_refl _) jlt
                  have nl := SH.out.2 j (by rw [LN.out]; exact jlt)
                  have APj := AP.out j jlt
                  have BKj := OT.out j jlt
                  rw [f1] at cj SJ APj BKj
                  obtain ⟨l, hlj⟩ : ∃ l, L.getD j [] = l := ⟨_, rfl⟩
                  rw [hlj] at cj SJ f1 f2 f3 nl APj BKj
                  obtain ⟨ni, hni⟩ : ∃ ni, l.length = ni := ⟨_, rfl⟩
                  have NI : Aside (l.length = ni) := hni
                  rw [hni] at cj SJ f1 f2 f3 nl APj BKj
                  have FJ : Aside (vals.getD j nilS = .slice bo' ni c) := f1
                  have AJ : Aside (∀ q, (Value.slice bo' ni c).ownBlock = some q → (Value.slice (some ⟨gA, 0, none⟩) i vc).ownBlock ≠ some q ∧ ∀ x, x < i → (vals.getD x nilS).ownBlock = some q → x = j) := APj
                  have BJ : Aside (∀ q, (Value.slice bo' ni c).ownBlock = some q → w4.heap.size ≤ q ∧ q < wS.heap.size) := BKj
                  have F4 : Aside ((bo' = none → ni = 0 ∧ c = 0) ∧ ∀ a, bo' = some a → a = ⟨a.block, 0, none⟩) := ⟨f3, fun a ea => (f4 a ea).1⟩
                  have CA : Aside (wU.cell? ⟨gA, j, none⟩ = some (.slice bo' ni c) ∧ gA < wU.heap.size) := ⟨cj, hAl⟩
                  have S0 : Aside (SR wU rb (.slice bo' ni c) (List.replicate 0 s5 ++ l.drop 0)) := by show SR _ _ _ _; simpa using SJ.out
                  clear vj vl APj BKj f1 f3 f4 hni hlj SJ
                  go_wp2_with fail
                  clear cj hAl
                  go_loopg [15] ni (fun gg s15 wk => ∃ k : Nat, s15 = .int .i64 (k : Int) ∧ k ≤ ni ∧ ni - k ≤ gg ∧ Aside (SR wk rb (.slice bo' ni c) (List.replicate k s5 ++ l.drop k)) ∧ Aside (Gs (fun q => (Value.slice bo' ni c).ownBlock = some q) wU wk))
                  case atStart => exact ⟨0, rfl, Nat.zero_le _, by omega, S0, (show Aside _ from (Gw.refl wU).gs _)⟩
                  case round =>
                    clear S0
                    obtain ⟨k, rfl, k1, k2, SK, KK⟩ := hrel
                    have nA : (Value.slice bo' ni c).ownBlock ≠ some gA := fun e => (AJ.out gA e).1 rfl
                    have cA : wr.cell? ⟨gA, j, none⟩ = some (.slice bo' ni c) := (World.cell?_of_block (a := ⟨gA, j, none⟩) (KK.out.block gA CA.out.2 nA)).trans CA.out.1
                    have lA : gA < wr.heap.size := Nat.lt_of_lt_of_le CA.out.2 KK.out.size
                    by_cases klt : k < ni
                    · obtain ⟨g, rfl⟩ : ∃ g, bo' = some ⟨g, 0, none⟩ := by
                        cases bo' with
                        | none => have := (F4.out.1 rfl).1; omega
                        | some a => exact ⟨a.block, by rw [← F4.out.2 a rfl]⟩
                      have gA' : ¬ gA = g := fun e => nA (by rw [e]; rfl)
                      have gA'' : ¬ g = gA := fun e => gA' e.symm
                      have XL : (List.replicate k s5 ++ l.drop k).length = ni := by simp [NI.out]; omega
                      have SK' : Aside (SR wr rb (.slice (some ⟨g, 0, none⟩) (List.replicate k s5 ++ l.drop k).length c) (List.replicate k s5 ++ l.drop k)) := by rw [XL]; exact SK
                      have cc : ∀ r, r < 5 → wr.cell? ⟨g, k * 5 + r, none⟩ = some (flc (List.replicate k s5 ++ l.drop k) (k * 5 + r)) := fun r hr => by
                        have h' : wr.ownsRow rb 44 5 (.slice (some ⟨g, 0, none⟩) (List.replicate k s5 ++ l.drop k).length c) (List.replicate k s5 ++ l.drop k).length ((List.replicate k s5 ++ l.drop k).flatMap sgc) := SK'.out
                        rw [h'.cellAt _ (by omega)]
                        exact flc_get _ _ (by omega)
                      have fz : ∀ r, wr.frozen? ⟨g, r, none⟩ = false := fun r => World.ownsRow.frozenAt SK'.out r
                      have x0 := cc 0 (by decide)
                      have x1 := cc 1 (by decide)
                      have x2 := cc 2 (by decide)
                      have x3 := cc 3 (by decide)
                      have x4 := cc 4 (by decide)
                      rw [Nat.add_zero] at x0
                      have y0 := fz (k * 5)
                      have y1 := fz (k * 5 + 1)
                      have y2 := fz (k * 5 + 2)
                      have y3 := fz (k * 5 + 3)
                      have y4 := fz (k * 5 + 4)
                      generalize flc (List.replicate k s5 ++ l.drop k) (k * 5) = z0 at x0
                      generalize flc (List.replicate k s5 ++ l.drop k) (k * 5 + 1) = z1 at x1
                      generalize flc (List.replicate k s5 ++ l.drop k) (k * 5 + 2) = z2 at x2
                      generalize flc (List.replicate k s5 ++ l.drop k) (k * 5 + 3) = z3 at x3
                      generalize flc (List.replicate k s5 ++ l.drop k) (k * 5 + 4) = z4 at x4
                      have gl : g < wr.heap.size := (sr_lt SK.out g rfl).2
                      have kc' : (k : Int) < (ni : Int) := by omega
                      have SK9 : Aside (SR (put5 wr g (k * 5) s5) rb (.slice (some ⟨g, 0, none⟩) ni c) (List.replicate (k + 1) s5 ++ l.drop (k + 1))) := by
                        have r := sr_put SK'.out (k := k) (by omega) s5
                        have e : (List.replicate k s5 ++ l.drop k).set k s5 = List.replicate (k + 1) s5 ++ l.drop (k + 1) := by
                          rw [List.set_append_right _ _ (by simp)]
                          have hd : l.drop k = l[k]'(by rw [NI.out]; exact klt) :: l.drop (k + 1) := List.drop_eq_getElem_cons _
                          rw [List.length_replicate, Nat.sub_self, hd, List.set_cons_zero, List.replicate_succ', List.append_assoc]
                          rfl
                        rw [e] at r
                        have el : (List.replicate (k + 1) s5 ++ l.drop (k + 1)).length = ni := by simp [NI.out]; omega
                        rw [el] at r
                        exact r
                      have KK9 : Aside (Gs (fun q => (Value.slice (some ⟨g, 0, none⟩) ni c).ownBlock = some q) wU (put5 wr g (k * 5) s5)) := ((((KK.out.set (q := g) rfl _ _).set (q := g) rfl _ _).set (q := g) rfl _ _).set (q := g) rfl _ _).set (q := g) rfl _ _
                      clear cc fz XL SK SK' KK nA
                      go_wp2_with fail
                      go_roundg (ni - (k + 1))
                      case measure => omega
                      case rel => exact ⟨k + 1, by go_num, by omega, Nat.le_refl _, SK9, KK9⟩
                    · have ek : k = ni := by omega
                      subst ek
                      have RO9 : Aside (wr.ownsRow rb 41 1 (.slice (some ⟨gA, 0, none⟩) i vc) i vals) := own_kept RO.out fun q hq => KK.out.block q (RO.out.lt q hq).2 (fun e => (AJ.out q e).1 hq)
                      have RS9 : Aside (∀ x, j + 1 ≤ x → x < i → SR wr rb (vals.getD x nilS) (L.getD x [])) := fun x hx hx2 => sr_keep (RS.out x (by omega) hx2) fun q hq => KK.out.block q (sr_lt (RS.out x (by omega) hx2) q hq).2 (fun e => by have := (AJ.out q e).2 x hx2 hq; omega)
                      have GJ9 : Aside (Gs (fun q => w4.heap.size ≤ q ∧ q < wS.heap.size) w8 wr) := gs_trans9 GJ.out KK.out (fun q e => .inl (BJ.out q e))
                      clear SK KK nA
                      go_wp2_with fail
                      go_roundg (i - (j + 1))
                      case measure => omega
                      case rel => exact ⟨j + 1, by go_num, by omega, Nat.le_refl _, RO9, RS9, GJ9⟩
                · have ej : j = i := by omega
                  subst ej
                  have GWU : Aside (Gw w wU) := gs_gwd GW8.out GJ.out (fun q e => by have := G0K.out; omega)
                  have BU : Aside (wU.heap[mb]? = some (.cells #[.slice ao z cp, .int .i64 eps, .bool own, .slice uo un uc] 25 (0, 0))) := (GJ.out.block mb (Nat.lt_of_lt_of_le (Nat.lt_of_lt_of_le bl4 (G5.out.trans GG.out).size) G8.out.size) (fun e => by have := e.1; have := bl4; omega)).trans B8.out
                  have VLU : Aside (VS wU lo L) := by
                    have := (VF.out.keep (w' := wU) (fun q h1 h2 => (GJ.out.block q (Nat.lt_of_lt_of_le h2 ((G5.out.trans GG.out).trans G8.out).size) (fun e => by have := e.1; omega)).trans (((G5.out.trans GG.out).trans G8.out).below.block q h2)) (Nat.le_trans ((G5.out.trans GG.out).trans G8.out).size GJ.out.size))
                    exact this.vs
                  rcases HPO.out with ⟨hE0, rfl⟩ | ⟨hE0, p, S, rfl, hSp, hp⟩
                  · clear AP OT RO RS KT KR
                    go_wp2_with fail
                    go_ret
                    exact ⟨rfl, GWU.out⟩
                  · subst hE0
                    have HPU : Aside (HP wU p S eps f z L) := PCC.out.keep (PCC.out.gw hp G78.out) fun q hq => GJ.out.block q (PCC.out.lt (PCC.out.gw hp G78.out) q hq) (fun e => by have := hSp q hq; have := e.2; omega)
                    have b0 : wU.cell? ⟨mb, 0, none⟩ = some (.slice ao z cp) := by have := BU.out; simp [World.cell?, this]
                    have b1 : wU.cell? ⟨mb, 1, none⟩ = some (.int .i64 eps) := by have := BU.out; simp [World.cell?, this]
                    have mbU : mb < wU.heap.size := (Array.getElem?_eq_some_iff.1 BU.out).1
                    clear AP OT RO RS KT KR GJ hp hSp HPO DN ed
                    have SLU : Aside (SL (wU.alloc (slV ao z cp eps lo j lc (.slice none 0 0) (.slice none 0 0) false)) wU.heap.size (fun q => q = wU.heap.size) ao z cp eps lo j lc [] [] false) := sl_new wU ao z cp eps lo j lc
                    have GAL : Aside (Gw wU (wU.alloc (slV ao z cp eps lo j lc (.slice none 0 0) (.slice none 0 0) false))) := (Gw.refl wU).alloc _ _
                    go_wp2_with fail
                    have e9 : wU.alloc (.cells #[.slice ao z cp, .int .i64 eps, .slice lo j lc, .slice none 0 0, .slice none 0 0, .bool false] 52) = wU.alloc (slV ao z cp eps lo j lc (.slice none 0 0) (.slice none 0 0) false) := rfl
                    rw [e9]
                    clear e9
                    generalize wU.alloc (slV ao z cp eps lo j lc (.slice none 0 0) (.slice none 0 0) false) = wA at SLU GAL ⊢
                    obtain ⟨sb, hsb⟩ : ∃ sb, wU.heap.size = sb := ⟨_, rfl⟩
                    have SBE : Aside (wU.heap.size = sb) := hsb
                    rw [hsb] at SLU ⊢
                    clear hsb
                    have PE : Hid (∀ gx : GX wA, Calls Try.prog 12 #[.pointer (some ⟨p, 0, none⟩)] gx.1 fun ex w' => ex = .returned (.int .i64 eps) ∧ Gw gx.1 w') := fun gx => PCC.out.peps (PCC.out.gw HPU.out (GAL.out.trans gx.2))
                    have PH : Hid (∀ gx : GX wA, Calls Try.prog 13 #[.pointer (some ⟨p, 0, none⟩)] gx.1 fun ex w' => ex = .returned (.int .i64 (j : Int)) ∧ Gw gx.1 w') := fun gx => by
                      have := PCC.out.pheight (PCC.out.gw HPU.out (GAL.out.trans gx.2))
                      rw [LN.out] at this
                      exact this
                    have x1 := GX.cell ((GAL.out.cell _ _ mbU).trans b1) (Nat.lt_of_lt_of_le mbU GAL.out.size)
                    have NN := GX.some wA
                    clear b0 b1
                    refine wp_region_growx (by kernel_rfl) (by kernel_rfl) ?_
                    repeat (go_big_quiet_step (fail))
                    go_big_quiet_want
                    go_big_quiet_op
                    go_big_quiet_call (exact growx_of (PE.out _))
                    repeat (go_big_quiet_step (fail))
                    go_big_quiet_want
                    go_big_quiet_op
                    go_big_quiet_call (exact growx_of (PH.out _))
                    repeat (go_big_quiet_step (fail))
                    refine wpQuiet_nil ?_
                    rintro _ ⟨gx, rfl⟩
                    have GB : Aside (Gw wU gx.1) := GAL.out.trans gx.2
                    have SB : Aside (SLw gx.1 sb (fun q => q = sb) ao z cp eps lo j lc [] []) := ⟨false, SLU.out.gw gx.2⟩
                    generalize gx.1 = wB at GB SB ⊢
                    clear x1 NN PE PH SLU GAL
                    go_wp2_with fail
                    go_loopg [17] pn (fun gg s17 wr => ∃ (t : Nat) (S' : Nat → Prop) (A B : List (Int × Int)), s17 = .int .i64 (t : Int) ∧ t ≤ pn ∧ pn - t ≤ gg ∧ Aside (A.length = t ∧ B.length = t) ∧ Aside (SLw wr sb S' ao z cp eps lo j lc A B) ∧ Aside (∀ q, S' q → wU.heap.size ≤ q) ∧ Aside (Gw wU wr))
                    case atStart => exact ⟨0, _, [], [], rfl, Nat.zero_le _, by omega, (show Aside _ from ⟨rfl, rfl⟩), SB, (show Aside _ from fun q e => by rw [SBE.out, e]; exact Nat.le_refl _), GB⟩
                    case round =>
                      clear SB GB
                      obtain ⟨t, S', A, B, rfl, t1, t2, AB, SX, SG, GT⟩ := hrel
                      obtain ⟨wT, hwT⟩ : ∃ wx, wx = wr := ⟨_, rfl⟩
                      subst hwT
                      by_cases tlt : t < pn
                      · obtain ⟨kb, kf, rfl, hkb, hkc'⟩ := (HG.out.gw (GWU.out.trans GT.out)).cells (by rw [PN.out]; omega)
                        have xc := hkc' t (by rw [PN.out]; exact tlt)
                        have bd := HG.out.bd t (by rw [PN.out]; exact tlt)
                        obtain ⟨⟨lv, sl⟩, hx⟩ : ∃ x, pl.getD t (0, 0) = x := ⟨_, rfl⟩
                        rw [hx] at xc bd
                        have xc0 : wT.cell? ⟨kb, kf + t * 2, none⟩ = some (.int .i64 lv) := xc.1
                        have xc1 : wT.cell? ⟨kb, kf + t * 2 + 1, none⟩ = some (.int .i64 sl) := xc.2
                        have bl0 : -9223372036854775808 ≤ lv := bd.1.1
                        have bl1 : lv < 9223372036854775808 := bd.1.2
                        have bs0 : -9223372036854775808 ≤ sl := bd.2.1
                        have bs1 : sl < 9223372036854775808 := bd.2.2
                        clear xc hx hkc' bd
                        go_wp2_with fail
                        first
                          | (go_quiet (fail)
                             have GT' : Aside (Gw wU (wT.drewN nq)) := GT.out.drewN _
                             have SX' : Aside (SLw (wT.drewN nq) sb S' ao z cp eps lo j lc A B) := by obtain ⟨wr', h'⟩ := SX.out; exact ⟨wr', h'.gw ((Gw.refl wT).drewN nq)⟩
                             clear GT SX xc0 xc1 hkb
                             generalize wT.drewN nq = wV at GT' SX' ⊢
                             go_wp2_with fail)
                          | skip
                        have KSU : Aside (KS wU ao z f) := HK.out.gw GWU.out
                        have lj : Aside (j ≤ 2000000 ∧ (∀ x, x < L.length → (L.getD x []).length ≤ 2000000)) := ⟨ll, SH.out.2⟩
                        obtain ⟨sz, hsz⟩ : ∃ sz, sizeV z L lv = sz := ⟨_, rfl⟩
                        obtain ⟨ky, hky⟩ : ∃ ky, keyV f z L lv sl = ky := ⟨_, rfl⟩
                        obtain ⟨⟨k, sp, ic, fr, te⟩, hsg⟩ : ∃ s, segW L lv sl = s := ⟨_, rfl⟩
                        have VAL : Aside (sizeV z L lv = sz ∧ keyV f z L lv sl = ky ∧ segW L lv sl = ⟨k, sp, ic, fr, te⟩) := ⟨hsz, hky, hsg⟩
                        clear hsz hky hsg
                        refine (PCC.out.psize (PCC.out.gw HPU.out GT'.out) lv bl0 bl1).mono ?_
                        rintro ex w10 ⟨rfl, g10⟩
                        rw [VAL.out.1]
                        have GA : Aside (Gw wU w10) := GT'.out.trans g10
                        have SA : Aside (SLw w10 sb S' ao z cp eps lo j lc A B) := by obtain ⟨wr', h'⟩ := SX'.out; exact ⟨wr', h'.gw g10⟩
                        clear g10 GT' SX'
                        go_wp2_with fail
                        obtain ⟨wrA, hA⟩ := SA.out
                        refine (sl_size_any (VLU.out.gw GA.out) LN.out lj.out.1 hA lv).mono ?_
                        rintro ex w11 ⟨rfl, s11, g11⟩
                        rw [VAL.out.1]
                        have GB : Aside (Gw wU w11) := gs_gwd GA.out g11 SG.out
                        have SB : Aside (SLw w11 sb S' ao z cp eps lo j lc A B) := s11
                        clear hA s11 g11 GA SA
                        go_wp2_with fail
                        refine (PCC.out.pkey (PCC.out.gw HPU.out GB.out) lv sl bl0 bl1 bs0 bs1).mono ?_
                        rintro ex w12 ⟨rfl, g12⟩
                        rw [VAL.out.2.1]
                        have GC2 : Aside (Gw wU w12) := GB.out.trans g12
                        have SC : Aside (SLw w12 sb S' ao z cp eps lo j lc A B) := by obtain ⟨wr', h'⟩ := SB.out; exact ⟨wr', h'.gw g12⟩
                        clear g12 GB SB
                        go_wp2_with fail
                        obtain ⟨wrC, hC⟩ := SC.out
                        refine (sl_key_any KSU.out hn VLU.out LN.out lj.out.1 lj.out.2 GC2.out SG.out hC (by have := AB.out.1; omega) lv sl bl0 bl1 bs0 bs1).mono ?_
                        rintro ex w13 ⟨⟨S13, rfl, s13, u13⟩, g13⟩
                        rw [VAL.out.2.1]
                        have GD : Aside (Gw wU w13) := gs_gwd GC2.out g13 SG.out
                        have SD : Aside (SLw w13 sb S13 ao z cp eps lo j lc (A ++ [(lv, sl)]) B) := s13
                        have SG13 : Aside (∀ q, S13 q → wU.heap.size ≤ q) := fun q hq => by
                          rcases u13 q hq with e | e
                          · exact SG.out q e
                          · exact Nat.le_trans GC2.out.size e
                        clear hC s13 u13 g13 GC2 SC SG
                        go_wp2_with fail
                        refine (PCC.out.pseg (PCC.out.gw HPU.out GD.out) lv sl bl0 bl1 bs0 bs1).mono ?_
                        rintro ex w14 ⟨rfl, g14⟩
                        rw [VAL.out.2.2]
                        have GE : Aside (Gw wU w14) := GD.out.trans g14
                        have SE : Aside (SLw w14 sb S13 ao z cp eps lo j lc (A ++ [(lv, sl)]) B) := by obtain ⟨wr', h'⟩ := SD.out; exact ⟨wr', h'.gw g14⟩
                        clear g14 GD SD
                        go_wp2_with fail
                        have BA : Aside ((w14.alloc (.cells #[.int .u64 k, .float .f64 sp, .float .f64 ic, .int .i64 fr, .int .i64 te] 44)).heap[w14.heap.size]? = some (.cells #[.int .u64 k, .float .f64 sp, .float .f64 ic, .int .i64 fr, .int .i64 te] 44 (0, 0))) := heap_alloc_new w14 _
                        have GF : Aside (Gw w14 (w14.alloc (.cells #[.int .u64 k, .float .f64 sp, .float .f64 ic, .int .i64 fr, .int .i64 te] 44))) := (Gw.refl w14).alloc _ _
                        generalize w14.alloc (.cells #[.int .u64 k, .float .f64 sp, .float .f64 ic, .int .i64 fr, .int .i64 te] 44) = w15 at BA GF ⊢
                        obtain ⟨ab, hab⟩ : ∃ ab, w14.heap.size = ab := ⟨_, rfl⟩
                        have ABE : Aside (w14.heap.size = ab) := hab
                        rw [hab] at BA ⊢
                        clear hab
                        obtain ⟨wrE, hE⟩ := SE.out
                        have nab : Aside (¬ S13 ab) := fun e => by have := hE.lt ab e; rw [ABE.out] at this; omega
                        refine (sl_seg_any VLU.out LN.out lj.out.1 lj.out.2 (GE.out.trans GF.out) SG13.out (hE.gw GF.out) (by have := AB.out.2; omega) lv sl bl0 bl1 bs0 bs1).mono ?_
                        rintro ex w16 ⟨⟨S16, rfl, s16, u16⟩, g16⟩
                        rw [VAL.out.2.2]
                        have GH : Aside (Gw wU w16) := gs_gwd (GE.out.trans GF.out) g16 SG13.out
                        have SH16 : Aside (SLw w16 sb S16 ao z cp eps lo j lc (A ++ [(lv, sl)]) (B ++ [(lv, sl)])) := s16
                        have SG16 : Aside (∀ q, S16 q → wU.heap.size ≤ q) := fun q hq => by
                          rcases u16 q hq with e | e
                          · exact SG13.out q e
                          · exact Nat.le_trans (GE.out.trans GF.out).size e
                        have B16 : Aside (w16.heap[ab]? = some (.cells #[.int .u64 k, .float .f64 sp, .float .f64 ic, .int .i64 fr, .int .i64 te] 44 (0, 0))) := (g16.block ab (Array.getElem?_eq_some_iff.1 BA.out).1 nab.out).trans BA.out
                        have ab16 : ab < w16.heap.size := (Array.getElem?_eq_some_iff.1 B16.out).1
                        have c0 : w16.cell? ⟨ab, 0, none⟩ = some (.int .u64 k) := by have := B16.out; simp [World.cell?, this]
                        have c1 : w16.cell? ⟨ab, 1, none⟩ = some (.float .f64 sp) := by have := B16.out; simp [World.cell?, this]
                        have c2 : w16.cell? ⟨ab, 2, none⟩ = some (.float .f64 ic) := by have := B16.out; simp [World.cell?, this]
                        have c3 : w16.cell? ⟨ab, 3, none⟩ = some (.int .i64 fr) := by have := B16.out; simp [World.cell?, this]
                        have c4 : w16.cell? ⟨ab, 4, none⟩ = some (.int .i64 te) := by have := B16.out; simp [World.cell?, this]
                        have A1 : Aside ((A ++ [(lv, sl)]).length = t + 1 ∧ (B ++ [(lv, sl)]).length = t + 1) := ⟨by rw [List.length_append, AB.out.1]; rfl, by rw [List.length_append, AB.out.2]; rfl⟩
                        clear hE s16 u16 g16 GE SE SG13 BA GF nab B16 AB VAL
                        go_wp2_with fail
                        first
                          | (go_quiet (fail)
                             go_wp2_with fail)
                          | skip
                        go_roundg (pn - (t + 1))
                        case measure => omega
                        case rel => exact ⟨t + 1, S16, A ++ [(lv, sl)], B ++ [(lv, sl)], by go_num, by omega, Nat.le_refl _, A1, (by first | exact (show Aside _ from SH16.out.gw (((Gw.refl w16).alloc _ _).drewN _)) | exact (show Aside _ from SH16.out.gw ((Gw.refl w16).alloc _ _))), SG16, (by first | exact (show Aside _ from (GH.out.alloc _ _).drewN _) | exact (show Aside _ from GH.out.alloc _ _))⟩
                      · have et : t = pn := by omega
                        subst et
                        go_wp2_with fail
                        go_ret
                        exact ⟨rfl, GWU.out.trans GT.out⟩

end Go.Proofs.Ytapjipinceoaoaa

/- What comes in, opened: a list of places. -/
namespace Go.Proofs.Ytapjipinceoaoaa
open Go.ChangeShapes Go.WideShapes Go.ChangeAt Go.RowKit Go.Joins
set_option linter.unusedVariables false

theorem cells_p2 : Try.prog.cellsOf 54 = 2 := by kernel_rfl
set_option maxRecDepth 10000 in
theorem open_pairs9 {H : Type} {enc : TypeId × Value → H} {W : World} {ao : Option Addr} {n c : Nat} {d : DataW H} {p : List MemPlace} (h : DataW.Trod enc Try.prog W 0 (fun _ => true) true 46 (.slice ao n c) d p) :
    ∃ l : List (Int × Int), l.length = n ∧ PSo W ao l ∧ (ao = none → n = 0 ∧ c = 0) ∧ n ≤ c ∧ ((d = .nil ∧ n = 0) ∨ ∃ es sp, d = .slice es sp ∧ es.length + sp.length = c) := by
  obtain ⟨fuel, hf⟩ := h
  rcases Go.Deep.open_slice Try.underlying46 hf with ⟨hcs, hx⟩ | ⟨a, len', cap', m, fu, D, Pl, hcs, _, hl, hmx, hm, hx, hel⟩
  · simp [Value.cells] at hcs
    obtain ⟨rfl, rfl, rfl⟩ := hcs
    simp only [Prod.mk.injEq] at hx
    exact ⟨[], rfl, ⟨fun h0 => by simp at h0, fun i hi => by simp at hi⟩, fun _ => ⟨rfl, rfl⟩, Nat.le_refl _, .inl ⟨hx.1, rfl⟩⟩
  · simp [Value.cells] at hcs
    obtain ⟨rfl, rfl, rfl⟩ := hcs
    simp only [Prod.mk.injEq] at hx
    simp only [if_true] at hm
    subst hm
    have each : ∀ i, i < n → ∃ s : Int × Int, (W.cell? (a.add (i * 2)) = some (.int .i64 s.1) ∧ W.cell? (a.add (i * 2 + 1)) = some (.int .i64 s.2)) ∧ (-9223372036854775808 ≤ s.1 ∧ s.1 < 9223372036854775808) ∧ -9223372036854775808 ≤ s.2 ∧ s.2 < 9223372036854775808 := by
      intro i hi
      obtain ⟨cs', h1, h2⟩ := hel i (by omega)
      rw [cells_p2] at h1
      obtain ⟨_, hlen, hcc⟩ := World.cells?_some h1
      obtain ⟨xs, fu', _, hx', hl', hxl, hh⟩ := DataW.trod_array Try.underlying54 h2
      match cs', hlen, xs, hxl with
      | [u0, u1], _, [y0, y1], _ =>
        have q0 := hh 0 (by decide)
        have q1 := hh 1 (by decide)
        rw [cells_i9] at q0 q1
        simp at q0 q1
        obtain ⟨x0, r0, _, w0⟩ := DataW.trod_int Try.underlying3 q0
        obtain ⟨x1, r1, _, w1⟩ := DataW.trod_int Try.underlying3 q1
        simp at r0 r1
        subst r0 r1
        have c0 := hcc 0 (by omega)
        have c1 := hcc 1 (by omega)
        rw [Go.Deep.add_add] at c0 c1
        exact ⟨(x0, x1), ⟨by simpa using c0, by simpa using c1⟩, i64_in9 w0, i64_in9 w1⟩
    obtain ⟨q, hq⟩ := Go.Deep.choose_lt each
    have ln : ((List.range n).map q).length = n := by simp
    have gt : ∀ i, i < n → ((List.range n).map q).getD i (0, 0) = q i := fun i hi => by simp [List.getD, hi]
    refine ⟨(List.range n).map q, ln, ⟨fun h0 => ?_, fun i hi => ?_⟩, (fun e => by cases e), hl, .inr ⟨_, _, hx.1, by simp; omega⟩⟩
    · rw [ln] at h0
      have c0 := (hq 0 h0).1.1
      have e0 : a.add (0 * 2) = a := by simp [Addr.add]
      rw [e0] at c0
      have ea := spot_none9 c0
      refine ⟨a.block, a.off, by rw [← ea], World.block_lt_of_cell? _ _ c0, fun i hi => ?_⟩
      rw [ln] at hi
      rw [gt i hi]
      obtain ⟨⟨a1, a2⟩, _⟩ := hq i hi
      rw [ea, Addr.add_lit] at a1 a2
      exact ⟨a1, by rw [Nat.add_assoc]; exact a2⟩
    · rw [ln] at hi
      rw [gt i hi]
      exact (hq i hi).2

end Go.Proofs.Ytapjipinceoaoaa
