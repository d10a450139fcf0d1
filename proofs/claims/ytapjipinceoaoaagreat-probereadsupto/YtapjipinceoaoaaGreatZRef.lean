/- The document's Path and Find of layer 9. -/
import Derived.Test.YtapjipinceoaoaaGreatZMem
import Derived.Lib.MinMax
namespace Go.Proofs.YtapjipinceoaoaaGreat
open Go.RowKit
set_option linter.unusedVariables false
attribute [local go_sem] run_store_float

theorem pathL_take (eps q : Int) (f : Nat → Int) (n : Nat) (L : List (List Sg)) (j : Nat) (hj : j < L.length) : (pathL eps q f n L).take (j + 1) = (pathL eps q f n L).take j ++ [visAt eps q f n L (L.length - 1 - j)] := by
  rw [List.take_add_one, List.getElem?_eq_getElem (by rw [pathL_len]; exact hj)]
  simp [pathL]

/-- A block of a visit. -/
def Vb (w : World) (b : Nat) (v : Vis) : Prop := w.heap[b]? = some (.cells #[.int .i64 v.lv, .int .i64 v.sl, .int .i64 v.gu, .int .i64 v.lo, .int .i64 v.hi, .int .i64 v.rk] 55 (0, 0))
theorem Vb.lt {w : World} {b : Nat} {v : Vis} (h : Vb w b v) : b < w.heap.size := (Array.getElem?_eq_some_iff.1 h).1
theorem Vb.cells {w : World} {b : Nat} {v : Vis} (h : Vb w b v) : w.cell? ⟨b, 0, none⟩ = some (.int .i64 v.lv) ∧ w.cell? ⟨b, 1, none⟩ = some (.int .i64 v.sl) ∧ w.cell? ⟨b, 2, none⟩ = some (.int .i64 v.gu) ∧ w.cell? ⟨b, 3, none⟩ = some (.int .i64 v.lo) ∧ w.cell? ⟨b, 4, none⟩ = some (.int .i64 v.hi) ∧ w.cell? ⟨b, 5, none⟩ = some (.int .i64 v.rk) := by
  unfold Vb at h; simp [World.cell?, h]
theorem Vb.fz {w : World} {b : Nat} {v : Vis} (h : Vb w b v) (o : Nat) : w.frozen? ⟨b, o, none⟩ = false := by unfold Vb at h; simp [World.frozen?, h]
theorem Vb.rank {w : World} {b : Nat} {v : Vis} (h : Vb w b v) (r : Int) : Vb (w.setCell ⟨b, 5, none⟩ (.int .i64 r)) b ⟨v.lv, v.sl, v.gu, v.lo, v.hi, r⟩ := by
  unfold Vb at h ⊢
  simp [World.setCell, Array.getElem?_modify, h]
theorem Vb.keep {w w' : World} {b : Nat} {v : Vis} (h : Vb w b v) (e : w'.heap[b]? = w.heap[b]?) : Vb w' b v := e.trans h

theorem orow_gw9 {w w' : World} {base e size n : Nat} {v : Value} {xs : List Value} (h : w.ownsRow base e size v n xs) (g : Gw w w') : w'.ownsRow base e size v n xs := by
  refine ⟨h.1, ?_⟩
  rcases h.2 with q | ⟨b, cap, cur, rfl, hb, hh, r⟩
  · exact .inl q
  · exact .inr ⟨b, cap, cur, rfl, hb, (g.below.block b (Array.getElem?_eq_some_iff.1 hh).1).trans hh, r⟩

set_option maxRecDepth 10000 in
set_option maxHeartbeats 8000000 in
theorem rpath_any (ao : Option Addr) (n cp : Nat) (f : Nat → Int) (eps : Int) (lo : Option Addr) (lc : Nat) (L : List (List Sg)) (q : Int) (e0 : 2 ≤ eps) (e1 : eps ≤ 64) (q0 : 0 ≤ q) (q1 : q < 18446744073709551616) (hcp : n ≤ cp) (hL : L.length ≤ 2000000) (hl : ∀ i, i < L.length → (L.getD i []).length ≤ 2000000) (R : Lvs eps f n L) (w : World) (h : KS w ao n f) (hv : VS w lo L) :
    Calls Tryz.prog 9 #[.slice ao n cp, .int .i64 eps, .slice lo L.length lc, .int .u64 q] w fun e w' => (∃ bo c, e = .returned (.slice bo L.length c) ∧ PV w' bo (pathL eps q f n L)) ∧ Gw w w' := by
  have HK : Aside (KS w ao n f) := h
  have HV : Aside (VS w lo L) := hv
  have LR : Aside (Lvs eps f n L) := R
  have KO : Hid _ := fun i (hi : i ≤ L.length) W h v => rkeysof_any ao n cp f lo lc L i hcp (by omega) (fun i hi => by have := hl i hi; omega) hi W h v
  clear h hv R hl
  obtain ⟨hh, hhl⟩ : ∃ hh, L.length = hh := ⟨_, rfl⟩
  have LN : Aside (L.length = hh) := hhl
  rw [hhl] at hL KO ⊢
  clear hhl
  obtain ⟨ii, hii, hz, hs, hby⟩ := info_parts info_vis
  have R3 : Aside (VR w w.heap.size (.slice none 0 0) ((pathL eps q f n L).take 0)) := World.ownsRow_nil w _ _ _
  have wh : IntKind.i64.wrap ((hh : Int) - 1) = (hh : Int) - 1 := by rw [IntKind.wrap_i64]; omega
  have S3 : Aside (0 < hh → (0 : Int) = slotA q L (hh - 1 - 0)) := fun h0 => by
    have := LR.out.slot_top (q := q) (by rw [LN.out]; exact h0)
    rw [LN.out] at this
    rw [Nat.sub_zero, this]
    rfl
  go_enter Tryz.func9, Tryz.ntmps9
  go_wp2_with fail
  go_loopg [9, 10, 11] hh (fun gg s9 s10 s11 wr => ∃ (j cap : Nat) (bo : Option Addr) (sl : Int), s9 = .slice bo j cap ∧ s10 = .int .i64 sl ∧ s11 = .int .i64 ((hh : Int) - 1 - j) ∧ j ≤ hh ∧ hh - j ≤ gg ∧ Aside (j < hh → sl = slotA q L (hh - 1 - j)) ∧ Aside (VR wr w.heap.size (.slice bo j cap) ((pathL eps q f n L).take j)) ∧ Aside (Gw w wr))
  case atStart => exact ⟨0, 0, none, 0, rfl, rfl, by simp, Nat.zero_le _, by omega, S3, R3, (show Aside _ from Gw.refl w)⟩
  case round =>
    clear R3 S3 wh
    obtain ⟨j, cap, bo, sl, rfl, rfl, rfl, h1, h2, SL, RV, G⟩ := hrel
    by_cases jlt : j < hh
    · obtain ⟨i, hi⟩ : ∃ i, hh - 1 - j = i := ⟨_, rfl⟩
      have IJ : Aside (hh - 1 - j = i) := hi
      have ei : (hh : Int) - 1 - j = (i : Int) := by omega
      have ilt : i < hh := by omega
      have sle := SL.out jlt
      rw [hi] at sle
      obtain ⟨t, ht⟩ : ∃ t, slotA q L i = t := ⟨_, rfl⟩
      rw [ht] at sle
      rw [ei, sle]
      have TT : Aside (slotA q L i = t) := ht
      have tl := LR.out.slot (q := q) (i := i) (by rw [LN.out]; exact ilt)
      rw [ht] at tl
      obtain ⟨lb, lf, rfl, hlb, hlc⟩ := (HV.out.gw G.out).cells (by rw [LN.out]; omega)
      obtain ⟨so, sc, p1, p2, _, p4⟩ := hlc i (by rw [LN.out]; exact ilt)
      have C0 := p4.cells (by omega)
      obtain ⟨sb, sf, rfl, hsb, hsc⟩ := C0
      have C := hsc t tl
      have eg : (L.getD i []).getD t sg0 = segA q L i := by unfold segA; rw [ht]
      rw [eg] at C
      have SO : Aside (segA q L i).ok := by rw [← eg]; exact p4.ok t tl
      have V : Aside (VisR eps (rowF f L i) (rowN n L i) (segA q L i) q) := LR.out.vis q1 (by rw [LN.out]; exact ilt)
      have VB := LR.out.bounds (q := q) q1 (i := i) (by rw [LN.out]; exact ilt)
      have WI := LR.out.window (q := q) q1 (i := i) (by rw [LN.out]; exact ilt)
      have VA : Aside (visAt eps q f n L i = ⟨i, t, guessA q L i, max (segA q L i).fr (guessA q L i - eps - 1), min (segA q L i).te (guessA q L i + eps + 1), cntb (rowF f L i) q (rowN n L i)⟩) := by unfold visAt; rw [ht]; exact rfl
      have GA : Aside (guessA q L i = guessV (segA q L i).k (segA q L i).sl (segA q L i).ic (segA q L i).fr (segA q L i).te q) := rfl
      generalize (L.getD i []).length = sn at p1 p2 tl
      clear hsc hlc p4 eg ht hi ei sle SL
      obtain ⟨s, hseg⟩ : ∃ s, segA q L i = s := ⟨_, rfl⟩
      rw [hseg] at C SO V VB VA GA
      obtain ⟨sk, ssl, sic, sfr, ste⟩ := s
      have c0 : wr.cell? ⟨sb, sf + t * 5, none⟩ = some (.int .u64 sk) := C.c0
      have c1 : wr.cell? ⟨sb, sf + t * 5 + 1, none⟩ = some (.float .f64 ssl) := C.c1
      have c2 : wr.cell? ⟨sb, sf + t * 5 + 2, none⟩ = some (.float .f64 sic) := C.c2
      have c3 : wr.cell? ⟨sb, sf + t * 5 + 3, none⟩ = some (.int .i64 sfr) := C.c3
      have c4 : wr.cell? ⟨sb, sf + t * 5 + 4, none⟩ = some (.int .i64 ste) := C.c4
      obtain ⟨w8, hw8⟩ : ∃ wx, wx = wr := ⟨_, rfl⟩
      subst hw8
      clear C
      go_wp2_with fail
      have G1 : Aside (Gw w (w8.alloc (.cells #[.int .u64 sk, .float .f64 ssl, .float .f64 sic, .int .i64 sfr, .int .i64 ste] 52))) := G.out.alloc _ _
      refine (KO.out i (by omega) _ (HK.out.gw G1.out) (HV.out.gw G1.out)).mono ?_
      rintro e' w2 ⟨⟨bo2, cp2, rfl, hcp2, K2, kb⟩, g2⟩
      have KB : Aside (∀ a, bo2 = some a → 0 < rowN n L i → a.block < w.heap.size ∨ w8.heap.size ≤ a.block) := fun a ea h0 => by
        rcases kb with ⟨z, e⟩ | e
        · left
          have n0 : 0 < n := by
            unfold rowN at h0
            rwa [if_pos z] at h0
          obtain ⟨b', o', eb, hb', _⟩ := HK.out.cells n0
          rw [← e, ea] at eb
          cases eb
          exact hb'
        · right
          have := e a ea
          simp at this
          omega
      clear kb
      have kr0 : 0 < rowN n L i := by
        have := VB.2.2.2.1
        have := VB.1
        have := VB.2.1
        omega
      have KR : Aside (KS w2 bo2 (rowN n L i) (rowF f L i)) := K2
      have G2 : Aside (Gw w w2) := G1.out.trans g2
      have gz : w8.heap.size < w2.heap.size := by have := g2.size; simp at this; omega
      have x0 : w2.cell? ⟨w8.heap.size, 0, none⟩ = some (.int .u64 sk) := (g2.cell _ _ (by simp)).trans (by simp [go_sem])
      have x1 : w2.cell? ⟨w8.heap.size, 1, none⟩ = some (.float .f64 ssl) := (g2.cell _ _ (by simp)).trans (by simp [go_sem])
      have x2 : w2.cell? ⟨w8.heap.size, 2, none⟩ = some (.float .f64 sic) := (g2.cell _ _ (by simp)).trans (by simp [go_sem])
      have x3 : w2.cell? ⟨w8.heap.size, 3, none⟩ = some (.int .i64 sfr) := (g2.cell _ _ (by simp)).trans (by simp [go_sem])
      have x4 : w2.cell? ⟨w8.heap.size, 4, none⟩ = some (.int .i64 ste) := (g2.cell _ _ (by simp)).trans (by simp [go_sem])
      have NB8 : Aside (∀ k, (Value.slice bo j cap).ownBlock = some k → w.heap.size ≤ k ∧ k < w8.heap.size) := fun k hk => World.ownsRow.lt RV.out k hk
      have RV2 : Aside (VR w2 w.heap.size (.slice bo j cap) ((pathL eps q f n L).take j)) := orow_gw9 RV.out (((Gw.refl w8).alloc _ _).trans g2)
      have ok := SO.out
      have GU : Hid _ := fun W => rguess_any sk ssl sic sfr ste q ok.k0 ok.k1 q0 q1 ok.f0 ok.f1 ok.t0 ok.t1 W
      have GA' : guessA q L i = guessV sk ssl sic sfr ste q := GA.out
      rw [← GA'] at GU
      obtain ⟨v1, v2, v3, v4, v5, v6, v7⟩ := VB
      have v1' : 0 ≤ sfr := v1
      have v2' : sfr < ste := v2
      have v3' : ste ≤ 4294967296 := v3
      have v4' : ste ≤ rowN n L i := v4
      have v5' : sfr ≤ guessA q L i := v5
      have v6' : guessA q L i ≤ ste := v6
      have wl := WI.1
      have wu := WI.2
      rw [VA.out] at wl wu
      have wl' : max sfr (guessA q L i - eps - 1) ≤ (cntb (rowF f L i) q (rowN n L i) : Int) := wl
      have wu' : (cntb (rowF f L i) q (rowN n L i) : Int) ≤ min ste (guessA q L i + eps + 1) := wu
      generalize guessA q L i = gv at GU v5' v6' wl' wu' VA
      clear c0 c1 c2 c3 c4 g2 K2 G1 ok GA' GA v1 v2 v3 v4 v5 v6 v7 wl wu WI RV G p1 p2 hlb hsb KO
      have wz1 : IntKind.i64.wrap (gv - eps) = gv - eps := by rw [IntKind.wrap_i64]; omega
      have wz2 : IntKind.i64.wrap (gv - eps - 1) = gv - eps - 1 := by rw [IntKind.wrap_i64]; omega
      have wz3 : IntKind.i64.wrap (gv + eps) = gv + eps := by rw [IntKind.wrap_i64]; omega
      have wz4 : IntKind.i64.wrap (gv + eps + 1) = gv + eps + 1 := by rw [IntKind.wrap_i64]; omega
      obtain ⟨Lo, hLo⟩ : ∃ Lo, max sfr (gv - eps - 1) = Lo := ⟨_, rfl⟩
      obtain ⟨Hi, hHi⟩ : ∃ Hi, min ste (gv + eps + 1) = Hi := ⟨_, rfl⟩
      have lob : 0 ≤ Lo := by omega
      have hib : Hi ≤ ste := by omega
      have lfr : sfr ≤ Lo := by omega
      rw [hLo, hHi] at VA
      rw [hLo] at wl'
      rw [hHi] at wu'
      go_wp2_with fail
      refine (GU.out _).mono ?_
      rintro e' w3 ⟨rfl, g3⟩
      have y3 : w3.cell? ⟨w8.heap.size, 3, none⟩ = some (.int .i64 sfr) := (g3.cell _ _ gz).trans x3
      have y4 : w3.cell? ⟨w8.heap.size, 4, none⟩ = some (.int .i64 ste) := (g3.cell _ _ gz).trans x4
      have gz3 : w8.heap.size < w3.heap.size := Nat.lt_of_lt_of_le gz g3.size
      have G3 : Aside (Gw w w3) := G2.out.trans g3
      have RV3 : Aside (VR w3 w.heap.size (.slice bo j cap) ((pathL eps q f n L).take j)) := orow_gw9 RV2.out g3
      have KR3 : Aside (KS w3 bo2 (rowN n L i) (rowF f L i)) := KR.out.gw g3
      have ne1 : ¬ w8.heap.size = w3.heap.size := by omega
      have ne2 : ¬ w3.heap.size = w8.heap.size := by omega
      clear x0 x1 x2 x3 x4 g3 GU KR RV2 G2 gz
      go_wp2_with fail
      obtain ⟨c, hc⟩ : ∃ c, cntb (rowF f L i) q (rowN n L i) = c := ⟨_, rfl⟩
      have CC : Aside (cntb (rowF f L i) q (rowN n L i) = c) := hc
      rw [hc] at wl' wu' VA
      obtain ⟨B1, B2⟩ := LR.out.below (q := q) (i := i) (by rw [LN.out]; exact ilt)
      rw [hc] at B1 B2
      have BL : Aside (∀ r, r < c → rowF f L i r < q) := B1
      have BU : Aside (∀ r, c ≤ r → r < rowN n L i → q ≤ rowF f L i r) := B2
      obtain ⟨l0, hl0⟩ : ∃ l0 : Nat, Lo = l0 := ⟨Lo.toNat, by omega⟩
      subst hl0
      obtain ⟨rn, hrn⟩ : ∃ rn, rowN n L i = rn := ⟨_, rfl⟩
      have RN : Aside (rowN n L i = rn) := hrn
      rw [hrn] at KR3 v4' BU hcp2 ⊢
      obtain ⟨rf, hrf⟩ : ∃ rf, rowF f L i = rf := ⟨_, rfl⟩
      have RF : Aside (rowF f L i = rf) := hrf
      rw [hrf] at KR3 BL BU
      clear hrf
      have W0 : Aside (Vb (w3.alloc (.cells #[.int .i64 (i : Int), .int .i64 (t : Int), .int .i64 gv, .int .i64 (l0 : Int), .int .i64 Hi, .int .i64 (l0 : Int)] 55)) w3.heap.size ⟨i, t, gv, l0, Hi, (l0 : Int)⟩ ∧ Gw w3 (w3.alloc (.cells #[.int .i64 (i : Int), .int .i64 (t : Int), .int .i64 gv, .int .i64 (l0 : Int), .int .i64 Hi, .int .i64 (l0 : Int)] 55))) := by
        refine ⟨?_, (Gw.refl w3).alloc _ _⟩
        exact heap_alloc_new w3 _
      have lc0 : l0 ≤ c := by omega
      clear hc B1 B2 hrn
      go_loopg [] c (fun gg wk => ∃ r : Nat, l0 ≤ r ∧ r ≤ c ∧ c - r ≤ gg ∧ Aside (Vb wk w3.heap.size ⟨i, t, gv, l0, Hi, (r : Int)⟩ ∧ Gw w3 wk))
      case atStart => exact ⟨l0, Nat.le_refl _, lc0, by omega, W0⟩
      case round =>
        obtain ⟨r, r1, r2, r3, VK⟩ := hrel
        obtain ⟨d0, d1, d2, d3, d4, d5⟩ := VK.out.1.cells
        have dz := VK.out.1.fz 5
        have dl := VK.out.1.lt
        obtain ⟨bb, bf, rfl, hbb, hbc⟩ := (KR3.out.gw VK.out.2).cells (by omega)
        by_cases rc : r < c
        · have kc := hbc r (by omega)
          have kl := BL.out r rc
          obtain ⟨y, hy⟩ : ∃ y, rf r = y := ⟨_, rfl⟩
          rw [hy] at kc kl
          have rh : (r : Int) < Hi := by omega
          have rr : (r : Int) < (rn : Int) := by omega
          have rr' : r < rn := by omega
          have wi : IntKind.i64.wrap ((r : Int) + 1) = (r : Int) + 1 := by rw [IntKind.wrap_i64]; omega
          have VK' : Aside (Vb (wr.setCell ⟨w3.heap.size, 5, none⟩ (.int .i64 ((r : Int) + 1))) w3.heap.size ⟨i, t, gv, l0, Hi, (r : Int) + 1⟩ ∧ Gw w3 (wr.setCell ⟨w3.heap.size, 5, none⟩ (.int .i64 ((r : Int) + 1)))) := ⟨VK.out.1.rank _, VK.out.2.setCell (Nat.le_refl _) _⟩
          clear hbc hy VK
          go_wp2_with fail
          go_roundg (c - (r + 1))
          case measure => omega
          case rel => exact ⟨r + 1, by omega, by omega, Nat.le_refl _, VK'⟩
        · have er : r = c := by omega
          subst er
          have NS : Hid _ := new_vis wr ⟨i, t, gv, l0, Hi, (r : Int)⟩
          have RVk : Aside (wr.ownsRow w.heap.size 55 6 (.slice bo j cap) j (((pathL eps q f n L).take j).flatMap visc)) := by
            have h' : wr.ownsRow w.heap.size 55 6 (.slice bo j cap) ((pathL eps q f n L).take j).length (((pathL eps q f n L).take j).flatMap visc) := orow_gw9 RV3.out VK.out.2
            rwa [show ((pathL eps q f n L).take j).length = j by rw [List.length_take, pathL_len, LN.out]; omega] at h'
          have sz3 := VK.out.2.size
          have szw := G3.out.size
          by_cases rh : (r : Int) < Hi
          · have kc := hbc r (by omega)
            have kl := BU.out r (Nat.le_refl _) (by omega)
            have nlt : ¬ rf r < q := by omega
            have rr0 : (r : Int) < (rn : Int) := by omega
            have rr0' : r < rn := by omega
            go_wp2_with (at_builtin; refine wpList_append_own _ rfl _ _ 34 rfl w.heap.size 55 ii (.agg #[.int .i64 0, .int .i64 0, .int .i64 0, .int .i64 0, .int .i64 0, .int .i64 0]) 6 48 Tryz.underlying34 hii hz hs hby rfl (by decide) _ j _ rfl (RVk.out.alloc _) ⟨wr.heap.size, 0, none⟩ 1 1 (visc ⟨i, t, gv, l0, Hi, (r : Int)⟩) rfl rfl NS.out (visc_one _) (by simp only [maxLen]; omega) (by omega) (by simp; omega) ?_)
            intro v' w10 t1 t2 t3
            obtain ⟨b10, cap10, rfl, hb10, _, hl10⟩ := own_slice t1 (by simpa using t3)
            have K10 : ∀ k, k < wr.heap.size → (Value.slice bo j cap).ownBlock ≠ some k → w10.heap[k]? = wr.heap[k]? := fun k hk hne => (t2.block k (by simp; omega) (fun e => hne e.symm)).trans (heap_alloc_old wr _ hk)
            have cl10 : ∀ k o, k < wr.heap.size → (Value.slice bo j cap).ownBlock ≠ some k → w10.cell? ⟨k, o, none⟩ = wr.cell? ⟨k, o, none⟩ := fun k o hk hne => by unfold World.cell?; rw [K10 k hk hne]
            have sz10 : wr.heap.size < w10.heap.size := by have := t2.size; simp at this; omega
            have n1 : (Value.slice bo j cap).ownBlock ≠ some w3.heap.size := fun e => by have := (NB8.out _ e).2; omega
            have n2 : (Value.slice bo j cap).ownBlock ≠ some w8.heap.size := fun e => by have := (NB8.out _ e).2; omega
            have n3 : (Value.slice bo j cap).ownBlock ≠ some bb := fun e => by
              have := NB8.out _ e
              rcases KB.out ⟨bb, bf, none⟩ rfl kr0 with h5 | h5
              · have h6 : bb < w.heap.size := h5; omega
              · have h6 : w8.heap.size ≤ bb := h5; omega
            obtain ⟨_, _, _, _, _, f5⟩ := (VK.out.1.keep (K10 _ dl n1)).cells
            have dl10 : w3.heap.size < w10.heap.size := by omega
            have g3' : w10.cell? ⟨w8.heap.size, 3, none⟩ = some (.int .i64 sfr) := (cl10 _ _ (by omega) n2).trans ((VK.out.2.cell _ _ gz3).trans y3)
            have g4' : w10.cell? ⟨w8.heap.size, 4, none⟩ = some (.int .i64 ste) := (cl10 _ _ (by omega) n2).trans ((VK.out.2.cell _ _ gz3).trans y4)
            have gl10 : w8.heap.size < w10.heap.size := by omega
            have bl10 : bb < w10.heap.size := by omega
            have G10 : Aside (Gw w w10) := ((G3.out.trans VK.out.2).alloc _ _).grown t2 (fun k hk => (NB8.out k hk).1)
            have R10 : Aside (VR w10 w.heap.size (.slice (some ⟨b10, 0, none⟩) (j + 1) cap10) ((pathL eps q f n L).take (j + 1))) := by
              show World.ownsRow _ _ _ _ _ _ _
              rw [pathL_take eps q f n L j (by rw [LN.out]; exact jlt), vflat_one, List.length_append, LN.out, IJ.out, VA.out, show ((pathL eps q f n L).take j).length = j by rw [List.length_take, pathL_len, LN.out]; omega]
              exact t1
            have wz5 : IntKind.i64.wrap ((r : Int) - 1) = (r : Int) - 1 := by rw [IntKind.wrap_i64]; omega
            have wz6 : IntKind.i64.wrap ((i : Int) - 1) = (hh : Int) - 1 - ((j + 1 : Nat) : Int) := by have := IJ.out; rw [IntKind.wrap_i64]; omega
            have SLn : j + 1 < hh → (slotA q L (hh - 1 - (j + 1)) : Int) = rs (rowF f L i) (rowN n L i) q := fun h5 => by
              have e5 : i = (hh - 1 - (j + 1)) + 1 := by have := IJ.out; omega
              rw [e5]
              exact congrArg _ (slot_row (f := f) (n := n) (hh - 1 - (j + 1)))
            have TH := V.out.there
            have NX := V.out.next
            rw [CC.out] at TH NX
            have TH' : ((r : Int) < ste ∧ rowF f L i r = q) ↔ (r < rowN n L i ∧ rowF f L i r = q) := TH
            have NX' : ¬ ((r : Int) < ste ∧ rowF f L i r = q) → max ((r : Int) - 1) sfr = rs (rowF f L i) (rowN n L i) q := NX
            by_cases te : (r : Int) < ste
            · have rr : (r : Int) < (rn : Int) := by omega
              have rr' : r < rn := by omega
              have kc10 : w10.cell? ⟨bb, bf + r, none⟩ = some (.int .u64 (rf r)) := (cl10 _ _ hbb n3).trans (hbc r rr')
              by_cases yq : rf r = q
              · have S10 : Aside (j + 1 < hh → (r : Int) = slotA q L (hh - 1 - (j + 1))) := fun h5 => by
                  rw [SLn h5]
                  unfold rs
                  have th := TH'.1 ⟨te, by rw [← RF.out] at yq; exact yq⟩
                  rw [CC.out, if_pos th]
                rw [yq] at kc10
                clear K10 cl10 t1 t2 t3 TH NX TH' NX' SLn hbc n1 n2 n3 d0 d1 d2 d3 d4 d5 dz dl
                go_wp2_with fail
                go_roundg (hh - (j + 1))
                case measure => omega
                case rel => exact ⟨j + 1, cap10, some ⟨b10, 0, none⟩, (r : Int), rfl, rfl, (by first | rfl | (congr 1; omega)), by omega, Nat.le_refl _, S10, R10, G10⟩
              · have S10 : Aside (j + 1 < hh → max ((r : Int) - 1) sfr = slotA q L (hh - 1 - (j + 1))) := fun h5 => by
                  rw [SLn h5]
                  exact NX' (fun h6 => yq (by rw [← RF.out]; exact h6.2))
                have tq : (rf r == q) = false := by simpa using yq
                obtain ⟨yy, hyy⟩ : ∃ yy, rf r = yy := ⟨_, rfl⟩
                rw [hyy] at kc10 tq yq
                clear K10 cl10 t1 t2 t3 TH NX TH' NX' SLn hbc n1 n2 n3 d0 d1 d2 d3 d4 d5 dz dl hyy
                go_wp2_with fail
                go_roundg (hh - (j + 1))
                case measure => omega
                case rel => exact ⟨j + 1, cap10, some ⟨b10, 0, none⟩, max ((r : Int) - 1) sfr, rfl, rfl, (by first | rfl | (congr 1; omega)), by omega, Nat.le_refl _, S10, R10, G10⟩
            · exact absurd (by omega) te
          · have rh' : ¬ (r : Int) < Hi := rh
            go_wp2_with (at_builtin; refine wpList_append_own _ rfl _ _ 34 rfl w.heap.size 55 ii (.agg #[.int .i64 0, .int .i64 0, .int .i64 0, .int .i64 0, .int .i64 0, .int .i64 0]) 6 48 Tryz.underlying34 hii hz hs hby rfl (by decide) _ j _ rfl (RVk.out.alloc _) ⟨wr.heap.size, 0, none⟩ 1 1 (visc ⟨i, t, gv, l0, Hi, (r : Int)⟩) rfl rfl NS.out (visc_one _) (by simp only [maxLen]; omega) (by omega) (by simp; omega) ?_)
            intro v' w10 t1 t2 t3
            obtain ⟨b10, cap10, rfl, hb10, _, hl10⟩ := own_slice t1 (by simpa using t3)
            have K10 : ∀ k, k < wr.heap.size → (Value.slice bo j cap).ownBlock ≠ some k → w10.heap[k]? = wr.heap[k]? := fun k hk hne => (t2.block k (by simp; omega) (fun e => hne e.symm)).trans (heap_alloc_old wr _ hk)
            have cl10 : ∀ k o, k < wr.heap.size → (Value.slice bo j cap).ownBlock ≠ some k → w10.cell? ⟨k, o, none⟩ = wr.cell? ⟨k, o, none⟩ := fun k o hk hne => by unfold World.cell?; rw [K10 k hk hne]
            have sz10 : wr.heap.size < w10.heap.size := by have := t2.size; simp at this; omega
            have n1 : (Value.slice bo j cap).ownBlock ≠ some w3.heap.size := fun e => by have := (NB8.out _ e).2; omega
            have n2 : (Value.slice bo j cap).ownBlock ≠ some w8.heap.size := fun e => by have := (NB8.out _ e).2; omega
            have n3 : (Value.slice bo j cap).ownBlock ≠ some bb := fun e => by
              have := NB8.out _ e
              rcases KB.out ⟨bb, bf, none⟩ rfl kr0 with h5 | h5
              · have h6 : bb < w.heap.size := h5; omega
              · have h6 : w8.heap.size ≤ bb := h5; omega
            obtain ⟨_, _, _, _, _, f5⟩ := (VK.out.1.keep (K10 _ dl n1)).cells
            have dl10 : w3.heap.size < w10.heap.size := by omega
            have g3' : w10.cell? ⟨w8.heap.size, 3, none⟩ = some (.int .i64 sfr) := (cl10 _ _ (by omega) n2).trans ((VK.out.2.cell _ _ gz3).trans y3)
            have g4' : w10.cell? ⟨w8.heap.size, 4, none⟩ = some (.int .i64 ste) := (cl10 _ _ (by omega) n2).trans ((VK.out.2.cell _ _ gz3).trans y4)
            have gl10 : w8.heap.size < w10.heap.size := by omega
            have bl10 : bb < w10.heap.size := by omega
            have G10 : Aside (Gw w w10) := ((G3.out.trans VK.out.2).alloc _ _).grown t2 (fun k hk => (NB8.out k hk).1)
            have R10 : Aside (VR w10 w.heap.size (.slice (some ⟨b10, 0, none⟩) (j + 1) cap10) ((pathL eps q f n L).take (j + 1))) := by
              show World.ownsRow _ _ _ _ _ _ _
              rw [pathL_take eps q f n L j (by rw [LN.out]; exact jlt), vflat_one, List.length_append, LN.out, IJ.out, VA.out, show ((pathL eps q f n L).take j).length = j by rw [List.length_take, pathL_len, LN.out]; omega]
              exact t1
            have wz5 : IntKind.i64.wrap ((r : Int) - 1) = (r : Int) - 1 := by rw [IntKind.wrap_i64]; omega
            have wz6 : IntKind.i64.wrap ((i : Int) - 1) = (hh : Int) - 1 - ((j + 1 : Nat) : Int) := by have := IJ.out; rw [IntKind.wrap_i64]; omega
            have SLn : j + 1 < hh → (slotA q L (hh - 1 - (j + 1)) : Int) = rs (rowF f L i) (rowN n L i) q := fun h5 => by
              have e5 : i = (hh - 1 - (j + 1)) + 1 := by have := IJ.out; omega
              rw [e5]
              exact congrArg _ (slot_row (f := f) (n := n) (hh - 1 - (j + 1)))
            have TH := V.out.there
            have NX := V.out.next
            rw [CC.out] at TH NX
            have TH' : ((r : Int) < ste ∧ rowF f L i r = q) ↔ (r < rowN n L i ∧ rowF f L i r = q) := TH
            have NX' : ¬ ((r : Int) < ste ∧ rowF f L i r = q) → max ((r : Int) - 1) sfr = rs (rowF f L i) (rowN n L i) q := NX
            by_cases te : (r : Int) < ste
            · have rr : (r : Int) < (rn : Int) := by omega
              have rr' : r < rn := by omega
              have kc10 : w10.cell? ⟨bb, bf + r, none⟩ = some (.int .u64 (rf r)) := (cl10 _ _ hbb n3).trans (hbc r rr')
              by_cases yq : rf r = q
              · have S10 : Aside (j + 1 < hh → (r : Int) = slotA q L (hh - 1 - (j + 1))) := fun h5 => by
                  rw [SLn h5]
                  unfold rs
                  have th := TH'.1 ⟨te, by rw [← RF.out] at yq; exact yq⟩
                  rw [CC.out, if_pos th]
                rw [yq] at kc10
                clear K10 cl10 t1 t2 t3 TH NX TH' NX' SLn hbc n1 n2 n3 d0 d1 d2 d3 d4 d5 dz dl
                go_wp2_with fail
                go_roundg (hh - (j + 1))
                case measure => omega
                case rel => exact ⟨j + 1, cap10, some ⟨b10, 0, none⟩, (r : Int), rfl, rfl, (by first | rfl | (congr 1; omega)), by omega, Nat.le_refl _, S10, R10, G10⟩
              · have S10 : Aside (j + 1 < hh → max ((r : Int) - 1) sfr = slotA q L (hh - 1 - (j + 1))) := fun h5 => by
                  rw [SLn h5]
                  exact NX' (fun h6 => yq (by rw [← RF.out]; exact h6.2))
                have tq : (rf r == q) = false := by simpa using yq
                obtain ⟨yy, hyy⟩ : ∃ yy, rf r = yy := ⟨_, rfl⟩
                rw [hyy] at kc10 tq yq
                clear K10 cl10 t1 t2 t3 TH NX TH' NX' SLn hbc n1 n2 n3 d0 d1 d2 d3 d4 d5 dz dl hyy
                go_wp2_with fail
                go_roundg (hh - (j + 1))
                case measure => omega
                case rel => exact ⟨j + 1, cap10, some ⟨b10, 0, none⟩, max ((r : Int) - 1) sfr, rfl, rfl, (by first | rfl | (congr 1; omega)), by omega, Nat.le_refl _, S10, R10, G10⟩
            · have S10 : Aside (j + 1 < hh → max ((r : Int) - 1) sfr = slotA q L (hh - 1 - (j + 1))) := fun h5 => by
                rw [SLn h5]
                exact NX' (fun h6 => te h6.1)
              clear K10 cl10 t1 t2 t3 TH NX TH' NX' SLn hbc n1 n2 n3 d0 d1 d2 d3 d4 d5 dz dl
              go_wp2_with fail
              go_roundg (hh - (j + 1))
              case measure => omega
              case rel => exact ⟨j + 1, cap10, some ⟨b10, 0, none⟩, max ((r : Int) - 1) sfr, rfl, rfl, (by first | rfl | (congr 1; omega)), by omega, Nat.le_refl _, S10, R10, G10⟩
    · have ej : j = hh := by omega
      subst ej
      have tl : decide ((0 : Int) ≤ (j : Int) - 1 - j) = false := by simp; omega
      have tl' : ¬ (0 : Int) ≤ (j : Int) - 1 - j := by omega
      have P : Aside (PV wr bo (pathL eps q f n L)) := by
        have h' := RV.out
        have e : (pathL eps q f n L).take j = pathL eps q f n L := List.take_of_length_le (by rw [pathL_len, LN.out]; exact Nat.le_refl _)
        rw [e] at h'
        have e2 : (pathL eps q f n L).length = j := by rw [pathL_len, LN.out]
        refine vr_pv (base := w.heap.size) (cap := cap) ?_
        rw [e2]
        exact h'
      clear RV SL
      go_wp2_with fail
      go_ret
      first
        | exact ⟨⟨bo, cap, rfl, P.out⟩, G.out⟩
        | exact ⟨⟨bo, ⟨cap, rfl⟩, P.out⟩, G.out⟩

end Go.Proofs.YtapjipinceoaoaaGreat
