/- Whether levels that Check takes predict a rank: the helper 'near' of layer 8's statements. -/
import Derived.Test.YtmmkmakajolfhabVShown
import Derived.Deep.RegionHeld3
import Derived.Deep.DeepCutAuto
namespace Go.Proofs.Ytmmkmakajolfhab
open Go.RowKit
set_option linter.unusedVariables false
attribute [local go_sem] run_store_float

theorem blk_set {w : World} {b o : Nat} {c : Array Value} {t : TypeId} {fz : Nat × Nat} {v : Value} (h : w.heap[b]? = some (.cells c t fz)) : (w.setCell ⟨b, o, none⟩ v).heap[b]? = some (.cells (c.setIfInBounds o v) t fz) := by
  simp [World.setCell, Array.getElem?_modify, h]
theorem sb_put {w : World} {b : Nat} {k : Int} {s ic : Nat} {F T : Int} (h : Sb w b k s ic F T) (k' : Int) (s' ic' : Nat) (F' T' : Int) : Sb (((((w.setCell ⟨b, 0, none⟩ (.int .u64 k')).setCell ⟨b, 1, none⟩ (.float .f64 s')).setCell ⟨b, 2, none⟩ (.float .f64 ic')).setCell ⟨b, 3, none⟩ (.int .i64 F')).setCell ⟨b, 4, none⟩ (.int .i64 T')) b k' s' ic' F' T' :=
  blk_set (blk_set (blk_set (blk_set (blk_set h))))

theorem sb_grown {w w5 : World} {o : Obj} {b nb : Nat} {k : Int} {s ic : Nat} {F T : Int} (h : Sb w b k s ic F T) (r2 : (w.alloc o).grownBy w5 (some nb)) (ne : b ≠ nb) : Sb w5 b k s ic F T :=
  (r2.block b (by have := h.lt; simp; omega) (by simpa using ne)).trans ((heap_alloc_old w o h.lt).trans h)

/-- Whether q is among the keys so far. -/
def Thr (th : Bool) (g : Nat → Int) (q : Int) (j : Nat) : Prop := th = true ↔ ∃ x, x < j ∧ g x = q
/-- What is known of the piece so far. -/
def Pick (l : List Sg) (q : Int) (k t : Nat) : Prop := t < l.length ∧ (t = 0 ∨ fst8 l t ≤ q) ∧ (∀ t', t < t' → t' < k → q < fst8 l t') ∧ (t = 0 ∨ t < k)
theorem Pick.yes {l : List Sg} {q : Int} {k t : Nat} (h : Pick l q k t) (hk : k < l.length) (c : fst8 l k ≤ q) : Pick l q (k + 1) k := ⟨hk, .inr c, fun t' h1 h2 => by omega, .inr (by omega)⟩
theorem Pick.no {l : List Sg} {q : Int} {k t : Nat} (h : Pick l q k t) (c : ¬ fst8 l k ≤ q) : Pick l q (k + 1) t := by
  obtain ⟨a, b, d, e⟩ := h
  refine ⟨a, b, fun t' h1 h2 => ?_, by omega⟩
  by_cases x : t' = k
  · subst x; omega
  · exact d t' h1 (by omega)

theorem chk_parts {eps : Int} {g : Nat → Int} {m : Nat} {l : List Sg} {r : List (List Sg)} (h : chkE eps g m (l :: r) = 0) : tileB m 0 l = true ∧ l ≠ [] ∧ (∀ s ∈ l, segE eps g s = 0) ∧ (r ≠ [] → chkE eps (fst8 l) l.length r = 0) := by
  rw [chkE_cons] at h
  by_cases a : (tileB m 0 l && !l.isEmpty) = false
  · rw [if_pos a] at h; cases h
  · rw [if_neg a] at h
    have a' : tileB m 0 l = true ∧ l.isEmpty = false := by simpa using a
    by_cases b : lvlE eps g l = 0
    · rw [if_neg (fun q => q b)] at h
      refine ⟨a'.1, fun q => by rw [q] at a'; simp at a', lvlE_ok.1 b, fun q => ?_⟩
      unfold restE at h
      rwa [if_neg q] at h
    · rw [if_pos b] at h
      exact absurd h b

set_option maxRecDepth 10000 in
set_option maxHeartbeats 8000000 in
theorem near_any (GM : ∀ (s : Sg) (q : Int), s.ok → 0 ≤ q → q < 18446744073709551616 → ∀ w : World, Calls Try.prog 29 #[sgV s, .int .u64 q] w fun e w' => e = .returned (.int .i64 (guessV s.k s.sl s.ic s.fr s.te q)) ∧ Gw w w') (eps q : Int) (ao : Option Addr) (n cp : Nat) (f : Nat → Int) (lo : Option Addr) (lc : Nat) (L : List (List Sg)) (e1 : 2 ≤ eps) (e2 : eps ≤ 64) (q0 : 0 ≤ q) (q1 : q < 18446744073709551616) (hn : n ≤ 2000000) (hL : L.length ≤ 2000000) (hl : ∀ i, i < L.length → (L.getD i []).length ≤ 2000000) (w : World) (h : KS w ao n f) (hv : VS w lo L) (u : Up f n) (ck : chkE eps f n L = 0) :
    Calls Try.prog 11 #[.slice ao n cp, .int .i64 eps, .slice lo L.length lc, .int .u64 q] w fun e w' => e = .returned (.bool true) ∧ Gw w w' := by
  have HG : Aside (∀ (s : Sg) (q : Int), s.ok → 0 ≤ q → q < 18446744073709551616 → ∀ w : World, Calls Try.prog 29 #[sgV s, .int .u64 q] w fun e w' => e = .returned (.int .i64 (guessV s.k s.sl s.ic s.fr s.te q)) ∧ Gw w w') := GM
  have HK : Aside (KS w ao n f) := h
  have HV : Aside (VS w lo L) := hv
  have HL : Aside (∀ i, i < L.length → (L.getD i []).length ≤ 2000000) := hl
  have UP : Aside (Up f n) := u
  have CK : Aside (chkE eps f n L = 0) := ck
  clear GM h hv hl u ck
  obtain ⟨ln, hln⟩ : ∃ ln, L.length = ln := ⟨_, rfl⟩
  have LN : Aside (L.length = ln) := hln
  rw [hln] at hL ⊢
  clear hln
  obtain ⟨ii, hii, hz, hs, hby⟩ := info_parts info_k
  have w1 : IntKind.i64.wrap (eps + 1) = eps + 1 := by rw [IntKind.wrap_i64]; omega
  go_enter Try.func11, Try.ntmps11
  go_wp2_with fail
  go_loopg [0, 9] ln (fun gg s0 s9 wr => ∃ (i m c : Nat) (bo : Option Addr) (g : Nat → Int), s0 = .slice bo m c ∧ s9 = .int .i64 i ∧ i ≤ ln ∧ ln - i ≤ gg ∧ m ≤ 2000000 ∧ Aside (KS wr bo m g) ∧ Aside (Up g m) ∧ Aside (i < ln → chkE eps g m (L.drop i) = 0) ∧ Aside (Gw w wr))
  case atStart => exact ⟨0, n, cp, ao, f, rfl, rfl, Nat.zero_le _, by omega, hn, HK, UP, (show Aside _ from fun _ => CK.out), (show Aside _ from Gw.refl w)⟩
  case round =>
    clear HK UP CK
    obtain ⟨i, m, c, bo, g, rfl, rfl, h1, h2, h3, K, U, EC, G⟩ := hrel
    by_cases hlt : i < ln
    · obtain ⟨lb, lf, rfl, hlb, hc⟩ := (HV.out.gw G.out).cells (by rw [LN.out]; omega)
      obtain ⟨so, sc, p1, p2, p3, p4⟩ := hc i (by rw [LN.out]; exact hlt)
      have sl := HL.out i (by rw [LN.out]; exact hlt)
      have EP := chk_parts (show chkE eps g m (L.getD i [] :: L.drop (i + 1)) = 0 by rw [← dropL_at (by rw [LN.out]; exact hlt)]; exact EC.out hlt)
      have EG : Aside (i + 1 < ln → L.drop (i + 1) ≠ []) := fun q e => by have := congrArg List.length e; rw [List.length_drop, LN.out] at this; simp at this; omega
      clear hc EC
      generalize L.getD i [] = l at p1 p2 p3 p4 sl EP
      obtain ⟨TI, NE, SE, RE⟩ := EP
      have TI' : Aside (tileB m 0 l = true) := TI
      have SE' : Aside (∀ s ∈ l, segE eps g s = 0) := SE
      have RE' : Aside (i + 1 < ln → chkE eps (fst8 l) l.length (L.drop (i + 1)) = 0) := fun q => RE (EG.out q)
      have GL : Aside (GS wr so l) := p4
      have l0 : 0 < l.length := List.length_pos_iff.2 NE
      clear TI SE RE NE EG p4 p3 p2
      obtain ⟨sn, hsn⟩ : ∃ sn, l.length = sn := ⟨_, rfl⟩
      have SN : Aside (l.length = sn) := hsn
      rw [hsn] at p1 sl l0
      clear hsn
      obtain ⟨sb, sf, rfl, hsb, hsc⟩ := GL.out.cells (by rw [SN.out]; exact l0)
      have C0 := hsc 0 (by rw [SN.out]; exact l0)
      rw [Nat.zero_mul, Nat.add_zero] at C0
      clear hsc
      obtain ⟨s, hs0⟩ : ∃ s, l.getD 0 sg0 = s := ⟨_, rfl⟩
      have S0 : Aside (l.getD 0 sg0 = s) := hs0
      rw [hs0] at C0
      obtain ⟨sk, ssl, sic, sfr, ste⟩ := s
      have c0 : wr.cell? ⟨sb, sf, none⟩ = some (.int .u64 sk) := C0.c0
      have c1 : wr.cell? ⟨sb, sf + 1, none⟩ = some (.float .f64 ssl) := C0.c1
      have c2 : wr.cell? ⟨sb, sf + 2, none⟩ = some (.float .f64 sic) := C0.c2
      have c3 : wr.cell? ⟨sb, sf + 3, none⟩ = some (.int .i64 sfr) := C0.c3
      have c4 : wr.cell? ⟨sb, sf + 4, none⟩ = some (.int .i64 ste) := C0.c4
      clear C0 hs0
      have SB4 : Aside (Sb ((wr.alloc (.cells #[.int .u64 sk, .float .f64 ssl, .float .f64 sic, .int .i64 sfr, .int .i64 ste] 38)).alloc (.cells #[] 31)) wr.heap.size sk ssl sic sfr ste) := Sb.gw (heap_alloc_new wr _) ((Gw.refl _).alloc _ _)
      have G4 : Aside (Gw w ((wr.alloc (.cells #[.int .u64 sk, .float .f64 ssl, .float .f64 sic, .int .i64 sfr, .int .i64 ste] 38)).alloc (.cells #[] 31))) := (G.out.alloc _ _).alloc _ _
      have GW4 : Aside (Gw wr ((wr.alloc (.cells #[.int .u64 sk, .float .f64 ssl, .float .f64 sic, .int .i64 sfr, .int .i64 ste] 38)).alloc (.cells #[] 31))) := ((Gw.refl wr).alloc _ _).alloc _ _
      have R4' : ((wr.alloc (.cells #[.int .u64 sk, .float .f64 ssl, .float .f64 sic, .int .i64 sfr, .int .i64 ste] 38)).alloc (.cells #[] 31)).ownsRow (wr.heap.size + 1) 31 1 (.slice (some ⟨wr.heap.size + 1, 0, none⟩) 0 0) 0 ((List.range 0).map fun j => Value.int .u64 (fst8 l j)) := by
        have := World.ownsRow_made (wr.alloc (.cells #[.int .u64 sk, .float .f64 ssl, .float .f64 sic, .int .i64 sfr, .int .i64 ste] 38)) (base := wr.heap.size + 1) (e := 31) (size := 1) #[] 0 (by simp) (Nat.zero_le _) rfl
        simpa using this
      have R4 : Aside (((wr.alloc (.cells #[.int .u64 sk, .float .f64 ssl, .float .f64 sic, .int .i64 sfr, .int .i64 ste] 38)).alloc (.cells #[] 31)).ownsRow (wr.heap.size + 1) 31 1 (.slice (some ⟨wr.heap.size + 1, 0, none⟩) 0 0) 0 ((List.range 0).map fun j => Value.int .u64 (fst8 l j))) := R4'
      clear R4'
      have WX : Aside (w.heap.size ≤ wr.heap.size) := G.out.size
      have PK : Aside (Pick l q 0 0) := ⟨by rw [SN.out]; exact l0, .inl rfl, fun t' h1 h2 => by omega, .inl rfl⟩
      have SB4' : Aside (Sb ((wr.alloc (.cells #[.int .u64 sk, .float .f64 ssl, .float .f64 sic, .int .i64 sfr, .int .i64 ste] 38)).alloc (.cells #[] 31)) wr.heap.size (l.getD 0 sg0).k (l.getD 0 sg0).sl (l.getD 0 sg0).ic (l.getD 0 sg0).fr (l.getD 0 sg0).te) := by rw [S0.out]; exact SB4.out
      have L4 : Aside (wr.cell? ⟨lb, lf + i, none⟩ = some (.slice (some ⟨sb, sf, none⟩) sn sc) ∧ lb < wr.heap.size) := ⟨p1, hlb⟩
      clear SB4 S0
      go_wp2_with fail
      clear c0 c1 c2 c3 c4 p1 hsb hlb
      generalize (wr.alloc (.cells #[.int .u64 sk, .float .f64 ssl, .float .f64 sic, .int .i64 sfr, .int .i64 ste] 38)).alloc (.cells #[] 31) = w4 at SB4' G4 GW4 R4 ⊢
      obtain ⟨wx, hwx⟩ : ∃ wx, wr = wx := ⟨_, rfl⟩
      rw [hwx] at K G GL GW4 L4
      obtain ⟨xb, hxb⟩ : ∃ xb, wr.heap.size = xb := ⟨_, rfl⟩
      have WXE : Aside (wx.heap.size = xb) := by rw [← hwx]; exact hxb
      rw [hxb] at SB4' R4 WX ⊢
      clear hxb hwx
      go_loopg [11, 12] sn (fun gg s11 s12 wr => ∃ k t nb nc : Nat, s11 = .slice (some ⟨nb, 0, none⟩) k nc ∧ s12 = .int .i64 k ∧ k ≤ sn ∧ sn - k ≤ gg ∧ Aside (Pick l q k t) ∧ Aside (Sb wr xb (l.getD t sg0).k (l.getD t sg0).sl (l.getD t sg0).ic (l.getD t sg0).fr (l.getD t sg0).te) ∧ Aside (wr.ownsRow (xb + 1) 31 1 (.slice (some ⟨nb, 0, none⟩) k nc) k ((List.range k).map fun j => Value.int .u64 (fst8 l j))) ∧ Aside (Gw w wr) ∧ Aside (Gw wx wr))
      case atStart => exact ⟨0, 0, xb + 1, 0, rfl, rfl, Nat.zero_le _, by omega, PK, SB4', R4, G4, GW4⟩
      case round =>
        clear PK SB4' R4 G4 GW4 G
        obtain ⟨k, t, nb, nc, rfl, rfl, j1, j2, PK, SB, R, G, GW⟩ := hrel
        have p1 : wr.cell? ⟨lb, lf + i, none⟩ = some (.slice (some ⟨sb, sf, none⟩) sn sc) := (GW.out.cell _ _ L4.out.2).trans L4.out.1
        have hlb : lb < wr.heap.size := Nat.lt_of_lt_of_le L4.out.2 GW.out.size
        by_cases klt : k < sn
        · obtain ⟨sb', sf', eb, hsb, hsc⟩ := (GL.out.gw GW.out).cells (by rw [SN.out]; exact l0)
          cases eb
          have C := hsc k (by rw [SN.out]; exact klt)
          clear hsc
          have FK : Aside (fst8 l k = (l.getD k sg0).k) := rfl
          have sbx : sb ≠ xb := by
            intro e
            obtain ⟨sb', sf', eb, hsb', _⟩ := GL.out.cells (by rw [SN.out]; exact l0)
            cases eb
            have := WXE.out
            omega
          have lbx : lb ≠ xb := by
            intro e
            have := L4.out.2
            have := WXE.out
            omega
          obtain ⟨s, hsk⟩ : ∃ s, l.getD k sg0 = s := ⟨_, rfl⟩
          have SK : Aside (l.getD k sg0 = s) := hsk
          rw [hsk] at C FK
          clear hsk
          obtain ⟨sk', ssl', sic', sfr', ste'⟩ := s
          have c0 : wr.cell? ⟨sb, sf + k * 5, none⟩ = some (.int .u64 sk') := C.c0
          have c1 : wr.cell? ⟨sb, sf + k * 5 + 1, none⟩ = some (.float .f64 ssl') := C.c1
          have c2 : wr.cell? ⟨sb, sf + k * 5 + 2, none⟩ = some (.float .f64 sic') := C.c2
          have c3 : wr.cell? ⟨sb, sf + k * 5 + 3, none⟩ = some (.int .i64 sfr') := C.c3
          have c4 : wr.cell? ⟨sb, sf + k * 5 + 4, none⟩ = some (.int .i64 ste') := C.c4
          have FK' : Aside (fst8 l k = sk') := FK.out
          clear C FK
          obtain ⟨z0, z1, z2, z3, z4⟩ := SB.out.cells
          have zl := SB.out.lt
          have y0 := SB.out.fz 0
          have y1 := SB.out.fz 1
          have y2 := SB.out.fz 2
          have y3 := SB.out.fz 3
          have y4 := SB.out.fz 4
          by_cases cq : sk' ≤ q
          · have tq : decide (sk' ≤ q) = true := by simpa using cq
            have PK' : Aside (Pick l q (k + 1) k) := PK.out.yes (by rw [SN.out]; exact klt) (by rw [FK'.out]; exact cq)
            obtain ⟨W5, hW5⟩ : ∃ W5, ((((wr.setCell ⟨xb, 0, none⟩ (.int .u64 sk')).setCell ⟨xb, 1, none⟩ (.float .f64 ssl')).setCell ⟨xb, 2, none⟩ (.float .f64 sic')).setCell ⟨xb, 3, none⟩ (.int .i64 sfr')).setCell ⟨xb, 4, none⟩ (.int .i64 ste') = W5 := ⟨_, rfl⟩
            have SB5 : Aside (Sb W5 xb (l.getD k sg0).k (l.getD k sg0).sl (l.getD k sg0).ic (l.getD k sg0).fr (l.getD k sg0).te) := by
              rw [SK.out, ← hW5]
              exact sb_put SB.out sk' ssl' sic' sfr' ste'
            have SZ : W5.heap.size = wr.heap.size := by rw [← hW5]; simp
            have OB : ∀ b', b' ≠ xb → W5.heap[b']? = wr.heap[b']? := fun b' hb' => by
              rw [← hW5]
              simp [World.setCell, Array.getElem?_modify, Ne.symm hb']
            have OC : ∀ b' o, b' ≠ xb → W5.cell? ⟨b', o, none⟩ = wr.cell? ⟨b', o, none⟩ := fun b' o hb' => by
              unfold World.cell?
              rw [OB b' hb']
            have R7 : Aside (W5.ownsRow (xb + 1) 31 1 (.slice (some ⟨nb, 0, none⟩) k nc) k ((List.range k).map fun j => Value.int .u64 (fst8 l j))) := by
              refine ⟨R.out.1, ?_⟩
              rcases R.out.2 with q | ⟨g', cap', cur, ev, hb', hh, rr⟩
              · exact .inl q
              · exact .inr ⟨g', cap', cur, ev, hb', (OB g' (by omega)).trans hh, rr⟩
            have G7 : Aside (Gw w W5) := by
              rw [← hW5]
              exact ((((G.out.setCell WX.out _).setCell WX.out _).setCell WX.out _).setCell WX.out _).setCell WX.out _
            have WX' : wx.heap.size ≤ xb := Nat.le_of_eq WXE.out
            have GW7 : Aside (Gw wx W5) := by
              rw [← hW5]
              exact ((((GW.out.setCell WX' _).setCell WX' _).setCell WX' _).setCell WX' _).setCell WX' _
            have p1' : W5.cell? ⟨lb, lf + i, none⟩ = some (.slice (some ⟨sb, sf, none⟩) sn sc) := (OC lb _ lbx).trans p1
            have c0' : W5.cell? ⟨sb, sf + k * 5, none⟩ = some (.int .u64 sk') := (OC sb _ sbx).trans c0
            have hlb' : lb < W5.heap.size := by rw [SZ]; exact hlb
            have hsb' : sb < W5.heap.size := by rw [SZ]; exact hsb
            have SZ' : Aside (W5.heap.size = wr.heap.size) := SZ
            clear OB OC PK cq SZ
            have z9 : xb + 1 ≤ W5.heap.size := by have := SB5.out.lt; omega
            have nx : xb ≠ nb := by have := (R7.out.lt nb rfl).1; omega
            clear SB R G GW
            go_wp2_with (at_builtin; refine wpList_append_own _ rfl _ _ 22 rfl (xb + 1) 31 ii (.int .u64 0) 1 8 Try.underlying22 hii hz hs hby rfl (by decide) _ k _ rfl (R7.out.alloc _) ⟨W5.heap.size, 0, none⟩ 1 1 [.int .u64 sk'] rfl rfl (new_one W5 sk') (ints_oneCell .u64 [sk']) (by simp only [maxLen]; omega) (by omega) (by simp; omega) ?_)
            intro v' w5 r1 r2 r3
            obtain ⟨b5, cap5, rfl, hb5, _, _⟩ := own_slice r1 (by simpa using r3)
            have R5 : Aside (w5.ownsRow (xb + 1) 31 1 (.slice (some ⟨b5, 0, none⟩) (k + 1) cap5) (k + 1) ((List.range (k + 1)).map fun j => Value.int .u64 (fst8 l j))) := by
              have := r1
              rw [← FK'.out] at this
              rw [List.range_succ, List.map_append]
              exact this
            have G6 : Aside (Gw w w5) := (G7.out.alloc _ _).grown r2 (fun k' hk => by have e : nb = k' := (by simpa [Value.ownBlock] using hk); have := (R7.out.lt nb rfl).1; have := WX.out; omega)
            have GW6 : Aside (Gw wx w5) := (GW7.out.alloc _ _).grown r2 (fun k' hk => by have e : nb = k' := (by simpa [Value.ownBlock] using hk); have := (R7.out.lt nb rfl).1; have := WXE.out; omega)
            have SB6 : Aside (Sb w5 xb (l.getD k sg0).k (l.getD k sg0).sl (l.getD k sg0).ic (l.getD k sg0).fr (l.getD k sg0).te) := sb_grown SB5.out r2 nx
            clear r1 r2 r3 hb5
            go_wp2_with fail
            go_roundg (sn - (k + 1))
            case measure => omega
            case rel => exact ⟨k + 1, k, b5, cap5, rfl, by go_num, by omega, Nat.le_refl _, PK', SB6, R5, G6, GW6⟩
          · have tq : decide (sk' ≤ q) = false := by simpa using cq
            have PK' : Aside (Pick l q (k + 1) t) := PK.out.no (by rw [FK'.out]; exact cq)
            clear cq PK z0 z1 z2 z3 z4 y0 y1 y2 y3 y4
            have z9 : xb + 1 ≤ wr.heap.size := by have := SB.out.lt; omega
            have nx : xb ≠ nb := by have := (R.out.lt nb rfl).1; omega
            go_wp2_with (at_builtin; refine wpList_append_own _ rfl _ _ 22 rfl (xb + 1) 31 ii (.int .u64 0) 1 8 Try.underlying22 hii hz hs hby rfl (by decide) _ k _ rfl (R.out.alloc _) ⟨wr.heap.size, 0, none⟩ 1 1 [.int .u64 sk'] rfl rfl (new_one wr sk') (ints_oneCell .u64 [sk']) (by simp only [maxLen]; omega) (by omega) (by simp; omega) ?_)
            intro v' w5 r1 r2 r3
            obtain ⟨b5, cap5, rfl, hb5, _, _⟩ := own_slice r1 (by simpa using r3)
            have R5 : Aside (w5.ownsRow (xb + 1) 31 1 (.slice (some ⟨b5, 0, none⟩) (k + 1) cap5) (k + 1) ((List.range (k + 1)).map fun j => Value.int .u64 (fst8 l j))) := by
              have := r1
              rw [← FK'.out] at this
              rw [List.range_succ, List.map_append]
              exact this
            have G6 : Aside (Gw w w5) := (G.out.alloc _ _).grown r2 (fun k' hk => by have e : nb = k' := (by simpa [Value.ownBlock] using hk); have := (R.out.lt nb rfl).1; have := WX.out; omega)
            have GW6 : Aside (Gw wx w5) := (GW.out.alloc _ _).grown r2 (fun k' hk => by have e : nb = k' := (by simpa [Value.ownBlock] using hk); have := (R.out.lt nb rfl).1; have := WXE.out; omega)
            have SB6 : Aside (Sb w5 xb (l.getD t sg0).k (l.getD t sg0).sl (l.getD t sg0).ic (l.getD t sg0).fr (l.getD t sg0).te) := sb_grown SB.out r2 nx
            clear r1 r2 r3 hb5
            go_wp2_with fail
            go_roundg (sn - (k + 1))
            case measure => omega
            case rel => exact ⟨k + 1, t, b5, cap5, rfl, by go_num, by omega, Nat.le_refl _, PK', SB6, R5, G6, GW6⟩
        · have ek : k = sn := by omega
          subst ek
          have KN : Aside (KS wr (some ⟨nb, 0, none⟩) k (fst8 l)) := ks_own R.out (Nat.le_refl _) (fun j hj => by simp [hj]) (fun j hj => fst8_ok GL.out j (by rw [SN.out]; exact hj))
          have KG : Aside (KS wr bo m g) := K.out.gw GW.out
          clear R K GW L4
          obtain ⟨w7, hw7⟩ : ∃ wx, wx = wr := ⟨_, rfl⟩
          subst hw7
          go_wp2_with fail
          clear p1 hlb
          go_loopg [13, 14, 15] m (fun gg s13 s14 s15 wq => ∃ (j : Nat) (th : Bool), s13 = .int .i64 ((cntb g q j : Nat) : Int) ∧ s14 = .bool th ∧ s15 = .int .i64 j ∧ j ≤ m ∧ m - j ≤ gg ∧ Aside (Thr th g q j) ∧ Aside (Gw w7 wq))
          case atStart => exact ⟨0, false, rfl, rfl, rfl, Nat.zero_le _, by omega, (show Aside _ from ⟨(fun x => by cases x), (fun hx => by obtain ⟨x, hx, _⟩ := hx; omega)⟩), (show Aside _ from Gw.refl w7)⟩
          case round =>
            obtain ⟨j, th, rfl, rfl, rfl, j3, j4, TH, GQ⟩ := hrel
            by_cases jlt : j < m
            · obtain ⟨kb, kf, rfl, hkb, hkc⟩ := (KG.out.gw GQ.out).cells (by omega)
              have kc := hkc j jlt
              clear hkc
              have c1 := cntb_le g q j
              have NX : Aside (cntb g q (j + 1) = cntb g q j + (if g j < q then 1 else 0)) := rfl
              have TX : Aside ((th = true ∨ g j = q) ↔ ∃ x, x < j + 1 ∧ g x = q) := by
                refine ⟨fun h => ?_, fun h => ?_⟩
                · rcases h with h | h
                  · obtain ⟨x, h1, h2⟩ := TH.out.1 h; exact ⟨x, by omega, h2⟩
                  · exact ⟨j, by omega, h⟩
                · obtain ⟨x, h1, h2⟩ := h
                  by_cases e : x = j
                  · subst e; exact .inr h2
                  · exact .inl (TH.out.2 ⟨x, by omega, h2⟩)
              obtain ⟨cc, hcc⟩ : ∃ cc, cntb g q j = cc := ⟨_, rfl⟩
              rw [hcc] at NX c1
              rw [hcc]
              clear hcc TH
              obtain ⟨gj, hgj⟩ : ∃ y, g j = y := ⟨_, rfl⟩
              rw [hgj] at kc NX TX
              clear hgj
              by_cases hq : gj < q
              · have N2 : Aside (cntb g q (j + 1) = cc + 1) := by show _ = _; rw [NX.out, if_pos hq]
                have T2 : Aside (Thr th g q (j + 1)) := by
                  refine ⟨fun h => TX.out.1 (.inl h), fun h => ?_⟩
                  rcases TX.out.2 h with h | h
                  · exact h
                  · omega
                have t1 : decide (gj < q) = true := by simpa using hq
                have t2 : (gj == q) = false := by simp; omega
                clear NX TX hq
                cases th
                all_goals
                  go_wp2_with fail
                  go_roundg (m - (j + 1))
                  case measure => omega
                  case rel => exact ⟨j + 1, _, by rw [N2.out]; go_num, rfl, by go_num, by omega, Nat.le_refl _, T2, GQ⟩
              · have N2 : Aside (cntb g q (j + 1) = cc) := by show _ = _; rw [NX.out, if_neg hq]; rfl
                have t1 : decide (gj < q) = false := by simpa using hq
                by_cases he : gj = q
                · have T2 : Aside (Thr true g q (j + 1)) := ⟨fun _ => TX.out.1 (.inr he), fun _ => rfl⟩
                  have t2 : (gj == q) = true := by simpa using he
                  clear NX TX hq he
                  cases th
                  all_goals
                    go_wp2_with fail
                    go_roundg (m - (j + 1))
                    case measure => omega
                    case rel => exact ⟨j + 1, true, by rw [N2.out], rfl, by go_num, by omega, Nat.le_refl _, T2, GQ⟩
                · have T2 : Aside (Thr th g q (j + 1)) := by
                    refine ⟨fun h => TX.out.1 (.inl h), fun h => ?_⟩
                    rcases TX.out.2 h with h | h
                    · exact h
                    · exact absurd h he
                  have t2 : (gj == q) = false := by simpa using he
                  clear NX TX hq he
                  cases th
                  all_goals
                    go_wp2_with fail
                    go_roundg (m - (j + 1))
                    case measure => omega
                    case rel => exact ⟨j + 1, _, by rw [N2.out], rfl, by go_num, by omega, Nat.le_refl _, T2, GQ⟩
            · have ej : j = m := by omega
              subst ej
              have SBq : Aside (Sb wr xb (l.getD t sg0).k (l.getD t sg0).sl (l.getD t sg0).ic (l.getD t sg0).fr (l.getD t sg0).te) := SB.out.gw GQ.out
              have Gq : Aside (Gw w wr) := G.out.trans GQ.out
              have KNq : Aside (KS wr (some ⟨nb, 0, none⟩) k (fst8 l)) := KN.out.gw GQ.out
              have tl : t < l.length := PK.out.1
              have NL := near_lvl U.out KG.out.bd TI'.out SE'.out q q1 t tl PK.out.2.1 (fun t' a b => PK.out.2.2.1 t' a (by rw [← SN.out]; exact b)) (l.getD t sg0) rfl
              have OKt := GL.out.ok t tl
              have GI := fun W => HG.out (l.getD t sg0) q OKt q0 q1 W
              have TA := tile_at TI'.out t tl
              have mem : l.getD t sg0 ∈ l := by
                rw [List.getD_eq_getElem?_getD, List.getElem?_eq_getElem tl]
                exact List.getElem_mem tl
              have AI := guessV_in (q := q) (segE_ok.1 (SE'.out _ mem)).1 OKt.k0 q1
              have cle := cntb_le g q j
              obtain ⟨A, hA⟩ : ∃ A, guessV (l.getD t sg0).k (l.getD t sg0).sl (l.getD t sg0).ic (l.getD t sg0).fr (l.getD t sg0).te q = A := ⟨_, rfl⟩
              rw [hA] at NL GI AI
              clear mem hA SB KN G
              generalize l.getD t sg0 = sx at SBq OKt GI TA AI
              obtain ⟨xk, xs, xi, xf, xt⟩ := sx
              have GI' : Hid (∀ W, Calls Try.prog 29 #[segV xk xs xi xf xt, .int .u64 q] W fun e w' => e = .returned (.int .i64 A) ∧ Gw W w') := GI
              have SBx : Aside (Sb wr xb xk xs xi xf xt) := SBq.out
              obtain ⟨z0, z1, z2, z3, z4⟩ := SBx.out.cells
              have zl := SBx.out.lt
              have a0 : (0 : Int) ≤ xf := TA.1
              have a1 : xt ≤ (j : Int) := TA.2.2.1
              have a2 : xf ≤ A := AI.1
              have a3 : A ≤ xt := AI.2
              obtain ⟨cc, hcc⟩ : ∃ cc, cntb g q j = cc := ⟨_, rfl⟩
              rw [hcc] at NL cle
              rw [hcc]
              obtain ⟨D, hD⟩ : ∃ D, A - (cc : Int) = D := ⟨_, rfl⟩
              rw [hD] at NL
              have v1 : IntKind.i64.wrap (A - (cc : Int)) = D := by rw [IntKind.wrap_i64]; omega
              obtain ⟨M, hM⟩ : ∃ M, -D = M := ⟨_, rfl⟩
              have v2 : IntKind.i64.wrap (-D) = M := by rw [IntKind.wrap_i64]; omega
              have NT : Aside (th = true → -eps ≤ D ∧ D ≤ eps) := fun h => NL.2 (TH.out.1 h)
              have NO : Aside (-(eps + 1) ≤ D ∧ D ≤ eps + 1) := NL.1
              have DM : Aside (-D = M) := hM
              clear NL GI AI TA OKt SBq hcc hD hM cle a0 a1 a2 a3 TH
              obtain ⟨u1, _, _⟩ := fst8_up U.out TI'.out (fun s hs => (segE_ok.1 (SE'.out s hs)).2.1)
              have UN : Aside (Up (fst8 l) k) := by have := u1; rw [SN.out] at this; exact this
              have REn : Aside (i + 1 < ln → chkE eps (fst8 l) k (L.drop (i + 1)) = 0) := fun h => by have := RE'.out h; rw [SN.out] at this; exact this
              clear u1
              go_wp2_with fail
              refine (GI'.out _).mono ?_
              rintro e w8 ⟨rfl, g8⟩
              have G8 : Aside (Gw w w8) := Gq.out.trans g8
              have K8 : Aside (KS w8 (some ⟨nb, 0, none⟩) k (fst8 l)) := KNq.out.gw g8
              clear g8 z0 z1 z2 z3 z4 zl SBx GI' Gq KNq
              have no := NO.out
              have dm := DM.out
              by_cases dn : D < 0
              · have b0 : decide (D < 0) = true := by simpa using dn
                have b1 : decide (eps + 1 < M) = false := by simp; omega
                cases th with
                | true =>
                  have nt := NT.out rfl
                  have b2 : decide (eps < M) = false := by simp; omega
                  clear NT NO DM no dm nt dn
                  go_wp2_with fail
                  go_roundg (ln - (i + 1))
                  case measure => omega
                  case rel => exact ⟨i + 1, k, nc, some ⟨nb, 0, none⟩, fst8 l, rfl, by go_num, by omega, Nat.le_refl _, sl, K8, UN, REn, G8⟩
                | false =>
                  clear NT NO DM no dm dn
                  go_wp2_with fail
                  go_roundg (ln - (i + 1))
                  case measure => omega
                  case rel => exact ⟨i + 1, k, nc, some ⟨nb, 0, none⟩, fst8 l, rfl, by go_num, by omega, Nat.le_refl _, sl, K8, UN, REn, G8⟩
              · have b0 : decide (D < 0) = false := by simpa using dn
                have b1 : decide (eps + 1 < D) = false := by simp; omega
                cases th with
                | true =>
                  have nt := NT.out rfl
                  have b2 : decide (eps < D) = false := by simp; omega
                  clear NT NO DM no dm nt dn
                  go_wp2_with fail
                  go_roundg (ln - (i + 1))
                  case measure => omega
                  case rel => exact ⟨i + 1, k, nc, some ⟨nb, 0, none⟩, fst8 l, rfl, by go_num, by omega, Nat.le_refl _, sl, K8, UN, REn, G8⟩
                | false =>
                  clear NT NO DM no dm dn
                  go_wp2_with fail
                  go_roundg (ln - (i + 1))
                  case measure => omega
                  case rel => exact ⟨i + 1, k, nc, some ⟨nb, 0, none⟩, fst8 l, rfl, by go_num, by omega, Nat.le_refl _, sl, K8, UN, REn, G8⟩
    · go_wp2_with fail
      go_ret
      exact ⟨rfl, G.out⟩

end Go.Proofs.Ytmmkmakajolfhab
