/- ProbeFinds' walk. -/
import Derived.Test.YtapjipinceoaoaaZCom
import Derived.Deep.DeepCutAuto
namespace Go.Proofs.Ytapjipinceoaoaa
open Go.RowKit
set_option linter.unusedVariables false

theorem made_k9 (n : Nat) (hn : n * 8 ≤ 140737488351232) (w : World) :
    (Instr.makeSlice 22 (.int .i64 (n : Int)) (.int .i64 (n : Int))).run Try.prog w = .ok (.slice (some ⟨w.heap.size, 0, none⟩) n n) (w.alloc (.cells (madeCells #[.int .u64 0] n) 36)) := by
  obtain ⟨i, hi, hz, hs, hb⟩ := info_parts info_k
  have hr := run_make (P := Try.prog) w 22 36 i _ Try.underlying22 hi hz .i64 .i64 (n : Int) (n : Int) (by omega) (Int.le_refl _) (by rw [hb]; omega) (by omega)
  rw [hr, hs]
  have e1 : ((n : Int)).toNat = n := by omega
  rw [e1, Nat.mul_one]
  rfl
theorem made_krow9 (w : World) (m : Nat) : ∃ f, (w.alloc (.cells (madeCells #[.int .u64 0] m) 36)).rowIs w.heap.size 36 m f := by
  refine ⟨fun i => (madeCells #[.int .u64 0] m)[i]!, ?_⟩
  have := World.rowIs_alloc w (madeCells #[.int .u64 0] m) 36 (fun i => (madeCells #[.int .u64 0] m)[i]!) (fun i hi => by simp [hi])
  rw [size_madeCells] at this
  exact this
theorem ks_row9 {w : World} {b n : Nat} {f : Nat → Int} (h : w.rowIs b 36 n (fun i => .int .u64 (f i))) (bd : ∀ i, i < n → 0 ≤ f i ∧ f i < 18446744073709551616) : KS w (some ⟨b, 0, none⟩) n f :=
  ⟨fun h0 => ⟨b, 0, rfl, h.lt, fun i hi => by rw [Nat.zero_add, h.cell hi]⟩, bd⟩
theorem path_at {eps q : Int} {f : Nat → Int} {n : Nat} {L : List (List Sg)} {j : Nat} (h : j < L.length) : (pathL eps q f n L).getD j vis0 = visAt eps q f n L (L.length - 1 - j) := by
  unfold pathL
  rw [List.getD_eq_getElem?_getD, List.getElem?_map, List.getElem?_range h]
  rfl
/-- What a visit's numbers keep. -/
structure VisN (eps : Int) (f : Nat → Int) (n : Nat) (q : Int) (R : Nat) (gu lo hi : Int) : Prop where
  up : (∀ r, r < R → f r < q) ∧ ∀ r, R ≤ r → r < n → q ≤ f r
  le : R ≤ n
  g0 : 0 ≤ gu
  g1 : gu ≤ 4294967296
  far : gu - R ≤ eps + 1 ∧ R - gu ≤ eps + 1
  near : (R < n ∧ f R = q) → gu - R ≤ eps ∧ R - gu ≤ eps
  w0 : lo ≤ R
  w1 : (R : Int) ≤ hi
  l0 : 0 ≤ lo
  h1 : hi ≤ 4294967296
  wd : hi - lo ≤ 2 * eps + 2
  bd : ∀ t, t < n → 0 ≤ f t ∧ f t < 18446744073709551616
def VisW (eps q : Int) (f : Nat → Int) (n : Nat) (L : List (List Sg)) (a : Nat) : Prop := VisN eps (rowF f L a) (rowN n L a) q (cntb (rowF f L a) q (rowN n L a)) (visAt eps q f n L a).gu (visAt eps q f n L a).lo (visAt eps q f n L a).hi
theorem visw {eps q : Int} {f : Nat → Int} {n : Nat} {L : List (List Sg)} {a : Nat} (rd : Ready eps f n L) (q1 : q < 18446744073709551616) (ha : a < L.length) : VisW eps q f n L a := by
  have K := rd.lv.lvl a ha
  have V := rd.lv.vis (q := q) q1 ha
  have W := rd.lv.window (q := q) q1 ha
  have B := rd.lv.bounds (q := q) q1 ha
  have e0 := rd.e0
  have fa := V.far
  refine ⟨cntb_up K.up q _ (Nat.le_refl _), cntb_le _ _ _, ?_, ?_, ?_, fun h => ?_, W.1, W.2, ?_, ?_, ?_, K.bd⟩
  · show 0 ≤ guessA q L a
    omega
  · show guessA q L a ≤ 4294967296
    omega
  · show guessA q L a - _ ≤ eps + 1 ∧ _ - guessA q L a ≤ eps + 1
    unfold guessA
    omega
  · have := V.near h
    show guessA q L a - _ ≤ eps ∧ _ - guessA q L a ≤ eps
    unfold guessA
    omega
  · show 0 ≤ max (segA q L a).fr (guessA q L a - eps - 1)
    omega
  · show min (segA q L a).te (guessA q L a + eps + 1) ≤ 4294967296
    omega
  · show min (segA q L a).te (guessA q L a + eps + 1) - max (segA q L a).fr (guessA q L a - eps - 1) ≤ 2 * eps + 2
    omega

set_option maxRecDepth 10000 in
set_option maxHeartbeats 8000000 in
theorem finds9_walk {HP : World → Nat → (Nat → Prop) → Int → (Nat → Int) → Nat → List (List Sg) → Prop} (PC : ProbeC HP) (O5 : Of5C) (ao : Option Addr) (n cp : Nat) (f : Nat → Int) (eps : Int) (own : Bool) (uo : Option Addr) (uc : Nat) (U : List (List Sg)) (bo : Option Addr) (m cb : Nat) (g : Nat → Int) (e0 : -9223372036854775808 ≤ eps) (e1 : eps < 9223372036854775808) (hn : n ≤ 2000000) (hcp : n ≤ cp) (hU : Short U) (hm : m ≤ 2000000) (w : World) (h : KS w ao n f) (hv : UV w uo U) (hg : KS w bo m g) :
    Calls Try.prog 3 #[madeV ao n cp eps own uo U.length uc, .slice bo m cb] w fun ex w' => ex = .returned (.bool true) ∧ Gw w w' := by
  have HK : Aside (KS w ao n f) := h
  have HG : Aside (KS w bo m g) := hg
  have SH : Hid _ := fun W => shown9 PC W
  have MD : Hid (∀ W, Gw w W → Calls Try.prog 6 #[madeV ao n cp eps own uo U.length uc] W fun ex w' => (∃ lo lc L ok, ex = .returned (.tuple #[.slice lo (L : List (List Sg)).length lc, .bool ok]) ∧ MadeR eps f n own U L ok ∧ VSf w' W.heap.size lo L ∧ L.length ≤ lc) ∧ Gw W w') := fun W gW => made_any O5 eps ao n cp f own uo uc U e0 e1 hn hcp hU W (h.gw gW) (hv.gw gW)
  have PCC : Aside (ProbeC HP) := PC
  obtain ⟨un, hun⟩ : ∃ un, U.length = un := ⟨_, rfl⟩
  rw [hun] at MD ⊢
  clear h hv hg O5 PC hU hun
  have G0 : Aside (Gw w (w.alloc (.cells #[.slice ao n cp, .int .i64 eps, .bool own, .slice uo un uc] 25))) := (Gw.refl w).alloc _ _
  have BK : Aside ((w.alloc (.cells #[.slice ao n cp, .int .i64 eps, .bool own, .slice uo un uc] 25)).heap[w.heap.size]? = some (.cells #[.slice ao n cp, .int .i64 eps, .bool own, .slice uo un uc] 25 (0, 0))) := heap_alloc_new w _
  go_enter Try.func3, Try.ntmps3
  go_wp2_with fail
  generalize w.alloc (.cells #[.slice ao n cp, .int .i64 eps, .bool own, .slice uo un uc] 25) = w1 at G0 BK ⊢
  obtain ⟨mb, hmb⟩ : ∃ mb, w.heap.size = mb := ⟨_, rfl⟩
  rw [hmb] at BK ⊢
  clear hmb
  refine (SH.out _).mono ?_
  rintro e w2 ⟨rfl, g2⟩
  have G2 : Aside (Gw w w2) := G0.out.trans g2
  have B2 : Aside (w2.heap[mb]? = some (.cells #[.slice ao n cp, .int .i64 eps, .bool own, .slice uo un uc] 25 (0, 0))) := (g2.below.block mb (Array.getElem?_eq_some_iff.1 BK.out).1).trans BK.out
  clear g2 G0 BK SH
  have b0 : w2.cell? ⟨mb, 0, none⟩ = some (.slice ao n cp) := by have := B2.out; simp [World.cell?, this]
  have b1 : w2.cell? ⟨mb, 1, none⟩ = some (.int .i64 eps) := by have := B2.out; simp [World.cell?, this]
  have b2 : w2.cell? ⟨mb, 2, none⟩ = some (.bool own) := by have := B2.out; simp [World.cell?, this]
  have b3 : w2.cell? ⟨mb, 3, none⟩ = some (.slice uo un uc) := by have := B2.out; simp [World.cell?, this]
  have bl : mb < w2.heap.size := (Array.getElem?_eq_some_iff.1 B2.out).1
  go_wp2_with fail
  refine (MD.out _ G2.out).mono ?_
  rintro e w3 ⟨⟨lo, lc, L, ok, rfl, hM, hV, hl⟩, g3⟩
  have G3 : Aside (Gw w w3) := G2.out.trans g3
  have B3 : Aside (w3.heap[mb]? = some (.cells #[.slice ao n cp, .int .i64 eps, .bool own, .slice uo un uc] 25 (0, 0))) := (g3.below.block mb bl).trans B2.out
  have V3 : Aside (VS w3 lo L) := hV.vs
  have MR : Aside (MadeR eps f n own U L ok) := hM
  clear hM hV g3 G2 B2 b0 b1 b2 b3 bl MD
  cases ok with
  | false =>
    go_wp2_with fail
    go_ret
    exact ⟨rfl, G3.out⟩
  | true =>
    have RD : Aside (Ready eps f n L) := Ready.of (MR.out.chk rfl) hn MR.out.sh HK.out.bd
    obtain ⟨ln, hln⟩ : ∃ ln, L.length = ln := ⟨_, rfl⟩
    have LN : Aside (L.length = ln) := hln
    rw [hln] at hl ⊢
    have CH : Aside (CheckR eps f n L 0) := MR.out.chk rfl
    clear hln MR
    have ST : Aside (Sit w3 ao n cp f eps lo lc L ln) := ⟨HK.out.gw G3.out, hcp, V3.out, LN.out, hl, RD.out⟩
    have OF : Hid (∀ W, Gw w3 W → Calls Try.prog 7 #[.slice ao n cp, .int .i64 eps, .slice lo ln lc] W fun ex w' => (∃ p S, ex = .returned (.tuple #[.pointer (some ⟨p, 0, none⟩), .int .i64 0]) ∧ HP w' p S eps f n L) ∧ Gw W w') := fun W gW => by
      have := PCC.out.of eps ao n cp f lo lc L e0 e1 hn hcp RD.out.sh (by rw [LN.out]; exact hl) W (ST.out.gw gW).ks (ST.out.gw gW).vs
      rw [LN.out] at this
      refine this.mono ?_
      rintro ex w' ⟨⟨E, hE, q⟩, g⟩
      obtain rfl := hE.one CH.out
      rcases q with ⟨q, _⟩ | ⟨_, p, S, rfl, _, hp⟩
      · exact absurd rfl q
      · exact ⟨⟨p, S, rfl, hp⟩, g⟩
    have b0 : w3.cell? ⟨mb, 0, none⟩ = some (.slice ao n cp) := by have := B3.out; simp [World.cell?, this]
    have b1 : w3.cell? ⟨mb, 1, none⟩ = some (.int .i64 eps) := by have := B3.out; simp [World.cell?, this]
    have bl : mb < w3.heap.size := (Array.getElem?_eq_some_iff.1 B3.out).1
    go_wp2_with fail
    refine (OF.out _ (Gw.refl w3)).mono ?_
    rintro ex w4 ⟨⟨p, S, rfl, hp⟩, g4⟩
    have G4 : Aside (Gw w w4) := G3.out.trans g4
    have H4 : Aside (HP w4 p S eps f n L) := hp
    have ST4 : Aside (Sit w4 ao n cp f eps lo lc L ln) := ST.out.gw g4
    have B4 : Aside (w4.heap[mb]? = some (.cells #[.slice ao n cp, .int .i64 eps, .bool own, .slice uo un uc] 25 (0, 0))) := (g4.below.block mb bl).trans B3.out
    clear hp g4 OF ST B3 V3 b0 b1 bl
    have UPF : Aside (Up f n) := by
      rcases CH.out with ⟨_, q⟩ | ⟨_, _, q⟩ | ⟨_, _, _, q⟩ | ⟨_, u, _⟩
      · cases q
      · cases q
      · cases q
      · exact u
    have FD : Hid (∀ W, Gw w4 W → ∀ q : Int, 0 ≤ q → q < 18446744073709551616 → Calls Try.prog 8 #[.pointer (some ⟨p, 0, none⟩), .int .u64 q] W fun ex w' => ex = .returned (.tuple #[.int .i64 (cntb f q n : Nat), .bool (decide (cntb f q n < n ∧ f (cntb f q n) = q))]) ∧ Gw W w') := fun W gW q q0 q1 => PCC.out.pfind (PCC.out.gw H4.out gW) RD.out q q0 q1
    have PD : Hid (∀ W, Gw w4 W → ∀ q : Int, 0 ≤ q → q < 18446744073709551616 → Calls Try.prog 9 #[.pointer (some ⟨p, 0, none⟩), .int .u64 q] W fun ex w' => (∃ bo c, ex = .returned (.slice bo ln c) ∧ PV w' bo (pathL eps q f n L) ∧ ∀ a, bo = some a → W.heap.size ≤ a.block) ∧ Gw W w') := fun W gW q q0 q1 => by
      have := PCC.out.ppath (PCC.out.gw H4.out gW) RD.out q q0 q1
      rw [LN.out] at this
      exact this
    go_wp2_with fail
    go_loopg [10] m (fun gg s10 wr => ∃ i : Nat, s10 = .int .i64 i ∧ i ≤ m ∧ m - i ≤ gg ∧ Aside (Gw w4 wr))
    case atStart => exact ⟨0, rfl, Nat.zero_le _, by omega, (show Aside _ from Gw.refl w4)⟩
    case round =>
      obtain ⟨i, rfl, h1, h2, G⟩ := hrel
      by_cases ilt : i < m
      · obtain ⟨bk, off, rfl, hbk, hc⟩ := ((HG.out.gw G4.out).gw G.out).cells (by omega)
        have CL : Aside (∀ W, Gw wr W → ∀ j, j < m → W.cell? ⟨bk, off + j, none⟩ = some (.int .u64 (g j)) ∧ bk < W.heap.size) := fun W gW j hj => ⟨(gW.cell _ _ hbk).trans (hc j hj), Nat.lt_of_lt_of_le hbk gW.size⟩
        have q1 := hc i ilt
        have qb := HG.out.bd i ilt
        obtain ⟨q, hq⟩ : ∃ q, g i = q := ⟨_, rfl⟩
        have GQ : Aside (g i = q) := hq
        rw [hq] at q1 qb
        clear hc hq
        have BR : Aside (wr.heap[mb]? = some (.cells #[.slice ao n cp, .int .i64 eps, .bool own, .slice uo un uc] 25 (0, 0))) := (G.out.below.block mb (Array.getElem?_eq_some_iff.1 B4.out).1).trans B4.out
        obtain ⟨wS, hwS⟩ : ∃ wx, wx = wr := ⟨_, rfl⟩
        subst hwS
        obtain ⟨N, hN⟩ : ∃ N : Nat, cntb f q n = N := ⟨_, rfl⟩
        obtain ⟨T, hT⟩ : ∃ T, decide (N < n ∧ f N = q) = T := ⟨_, rfl⟩
        have CN : Aside (cntb f q n = N) := hN
        have CT : Aside (T = true ↔ N < n ∧ f N = q) := by show _ ↔ _; rw [← hT]; exact decide_eq_true_iff
        have Nn : N ≤ n := by rw [← hN]; exact cntb_le _ _ _
        have F1 : Hid (∀ W, Gw w4 W → Calls Try.prog 8 #[.pointer (some ⟨p, 0, none⟩), .int .u64 q] W fun ex w' => ex = .returned (.tuple #[.int .i64 (N : Int), .bool T]) ∧ Gw W w') := fun W gW => by
          have := FD.out W gW q qb.1 qb.2
          rw [hN, hT] at this
          exact this
        have FV : Aside (foundV f n q = .tuple #[.int .i64 (N : Int), .bool T]) := by
          show foundV f n q = _
          unfold foundV
          rw [hN, hT]
        clear hN hT
        go_wp2_with fail
        refine (F1.out _ G.out).mono ?_
        rintro ex w5 ⟨rfl, g5⟩
        have G5 : Aside (Gw wS w5) := g5
        have il : (i : Int) < (m : Int) := by omega
        clear q1 F1
        go_wp2_with fail
        go_loopg [13] N (fun gg s13 wr => ∃ k : Nat, s13 = .int .i64 k ∧ k ≤ N ∧ N - k ≤ gg ∧ Aside (Gw wS wr))
        case atStart => exact ⟨0, rfl, Nat.zero_le _, by omega, G5⟩
        case round =>
          obtain ⟨k, rfl, k1, k2, GK⟩ := hrel
          by_cases klt : k < N
          · have kn : k < n := by omega
            have ki : (k : Int) < (n : Int) := by omega
            obtain ⟨kb, kf, rfl, hkb, hkc⟩ := (ST4.out.gw G.out).ks.cells (by omega)
            have KC : Aside (∀ W, Gw wS W → ∀ j, j < n → W.cell? ⟨kb, kf + j, none⟩ = some (.int .u64 (f j)) ∧ kb < W.heap.size) := fun W gW j hj => ⟨(gW.cell _ _ hkb).trans (hkc j hj), Nat.lt_of_lt_of_le hkb gW.size⟩
            clear hkc hkb
            obtain ⟨ck, lk⟩ := KC.out _ GK.out k kn
            have fk := (cntb_up UPF.out q n (Nat.le_refl _)).1 k (by rw [CN.out]; exact klt)
            obtain ⟨x, hx⟩ : ∃ x, f k = x := ⟨_, rfl⟩
            rw [hx] at ck fk
            clear hx
            have t1 : decide (x < q) = true := by simpa using fk
            have BX : Aside (wr.heap[mb]? = some (.cells #[.slice (some ⟨kb, kf, none⟩) n cp, .int .i64 eps, .bool own, .slice uo un uc] 25 (0, 0))) := (GK.out.below.block mb (Array.getElem?_eq_some_iff.1 BR.out).1).trans BR.out
            have b0 : wr.cell? ⟨mb, 0, none⟩ = some (.slice (some ⟨kb, kf, none⟩) n cp) := by have := BX.out; simp [World.cell?, this]
            have b1 : wr.cell? ⟨mb, 1, none⟩ = some (.int .i64 eps) := by have := BX.out; simp [World.cell?, this]
            have bl : mb < wr.heap.size := (Array.getElem?_eq_some_iff.1 BX.out).1
            obtain ⟨ci, li⟩ := CL.out wr GK.out i ilt
            rw [GQ.out] at ci
            go_wp2_with fail
            go_quiet (fail)
            go_wp2_with fail
            go_roundg (N - (k + 1))
            case measure => omega
            case rel => exact ⟨k + 1, by go_num, by omega, Nat.le_refl _, (show Aside _ from GK.out.drewN _)⟩
          · have ek : k = N := by omega
            subst ek
            have BX : Aside (wr.heap[mb]? = some (.cells #[.slice ao n cp, .int .i64 eps, .bool own, .slice uo un uc] 25 (0, 0))) := (GK.out.below.block mb (Array.getElem?_eq_some_iff.1 BR.out).1).trans BR.out
            have b0 : wr.cell? ⟨mb, 0, none⟩ = some (.slice ao n cp) := by have := BX.out; simp [World.cell?, this]
            have b1 : wr.cell? ⟨mb, 1, none⟩ = some (.int .i64 eps) := by have := BX.out; simp [World.cell?, this]
            have bl : mb < wr.heap.size := (Array.getElem?_eq_some_iff.1 BX.out).1
            obtain ⟨ci, li⟩ := CL.out wr GK.out i ilt
            rw [GQ.out] at ci
            go_wp2_with fail
            go_cut [80] (fun s80 wc => s80 = .bool false ∧ Aside (Gw wS wc))
            case first =>
              by_cases NL : k < n
              · have ki : (k : Int) < (n : Int) := by omega
                obtain ⟨kb, kf, rfl, hkb, hkc⟩ := (ST4.out.gw G.out).ks.cells (by omega)
                have KC : Aside (∀ W, Gw wS W → ∀ j, j < n → W.cell? ⟨kb, kf + j, none⟩ = some (.int .u64 (f j)) ∧ kb < W.heap.size) := fun W gW j hj => ⟨(gW.cell _ _ hkb).trans (hkc j hj), Nat.lt_of_lt_of_le hkb gW.size⟩
                clear hkc hkb
                obtain ⟨ck, lk⟩ := KC.out _ GK.out k NL
                have fk := (cntb_up UPF.out q n (Nat.le_refl _)).2 k (by rw [CN.out]; exact Nat.le_refl _) NL
                obtain ⟨x, hx⟩ : ∃ x, f k = x := ⟨_, rfl⟩
                rw [hx] at ck fk
                clear hx
                have t1 : decide (x < q) = false := by simp; omega
                go_quiet (fail)
                go_wp2_with fail
                go_meet
                case rel => exact ⟨rfl, (show Aside _ from GK.out.drewN _)⟩
              · have gj : decide ((k : Int) < (n : Int)) = false := by simp; omega
                go_quiet (fail)
                go_wp2_with fail
                go_meet
                case rel => exact ⟨rfl, (show Aside _ from GK.out.drewN _)⟩
            case rest =>
              obtain ⟨wY, hwy⟩ : ∃ wx, wx = wc := ⟨_, rfl⟩
              subst hwy
              obtain ⟨rfl, GY⟩ := hcut
              clear BX b0 b1 bl ci li GK
              have BX : Aside (wY.heap[mb]? = some (.cells #[.slice ao n cp, .int .i64 eps, .bool own, .slice uo un uc] 25 (0, 0))) := (GY.out.below.block mb (Array.getElem?_eq_some_iff.1 BR.out).1).trans BR.out
              have b0 : wY.cell? ⟨mb, 0, none⟩ = some (.slice ao n cp) := by have := BX.out; simp [World.cell?, this]
              have b1 : wY.cell? ⟨mb, 1, none⟩ = some (.int .i64 eps) := by have := BX.out; simp [World.cell?, this]
              have bl : mb < wY.heap.size := (Array.getElem?_eq_some_iff.1 BX.out).1
              obtain ⟨ci, li⟩ := CL.out wY GY.out i ilt
              rw [GQ.out] at ci
              go_wp2_with fail
              go_cut [106] (fun s106 wc => s106 = .bool false ∧ Aside (Gw wS wc))
              case first =>
                by_cases NL : k < n
                · have ki : (k : Int) < (n : Int) := by omega
                  obtain ⟨kb, kf, rfl, hkb, hkc⟩ := (ST4.out.gw G.out).ks.cells (by omega)
                  have KC : Aside (∀ W, Gw wS W → ∀ j, j < n → W.cell? ⟨kb, kf + j, none⟩ = some (.int .u64 (f j)) ∧ kb < W.heap.size) := fun W gW j hj => ⟨(gW.cell _ _ hkb).trans (hkc j hj), Nat.lt_of_lt_of_le hkb gW.size⟩
                  clear hkc hkb
                  obtain ⟨ck, lk⟩ := KC.out _ GY.out k NL
                  by_cases FE : f k = q
                  · obtain rfl : T = true := CT.out.2 ⟨NL, FE⟩
                    obtain ⟨x, hx⟩ : ∃ x, f k = x := ⟨_, rfl⟩
                    rw [hx] at ck FE
                    have t2 : (x == q) = true := by simpa using FE
                    clear hx FE
                    go_quiet (fail)
                    go_wp2_with fail
                    go_meet
                    case rel => exact ⟨rfl, (show Aside _ from GY.out.drewN _)⟩
                  · obtain rfl : T = false := by
                      cases T with
                      | false => rfl
                      | true => exact absurd (CT.out.1 rfl).2 FE
                    obtain ⟨x, hx⟩ : ∃ x, f k = x := ⟨_, rfl⟩
                    rw [hx] at ck FE
                    have t2 : (x == q) = false := by simpa using FE
                    clear hx FE
                    go_quiet (fail)
                    go_wp2_with fail
                    go_meet
                    case rel => exact ⟨rfl, (show Aside _ from GY.out.drewN _)⟩
                · obtain rfl : T = false := by
                    cases T with
                    | false => rfl
                    | true => exact absurd (CT.out.1 rfl).1 NL
                  have gj : decide ((k : Int) < (n : Int)) = false := by simp; omega
                  go_quiet (fail)
                  go_wp2_with fail
                  go_meet
                  case rel => exact ⟨rfl, (show Aside _ from GY.out.drewN _)⟩
              case rest =>
                obtain ⟨wr, hwz⟩ : ∃ wx, wx = wc := ⟨_, rfl⟩
                subst hwz
                obtain ⟨rfl, GK⟩ := hcut
                clear BX b0 b1 bl ci li GY
                obtain ⟨ci, li⟩ := CL.out wr GK.out i ilt
                rw [GQ.out] at ci
                go_wp2_with fail
                refine (PD.out _ (G.out.trans GK.out) q qb.1 qb.2).mono ?_
                rintro ex w7 ⟨⟨po, pc, rfl, hp7, _⟩, g7⟩
                have P7 : Aside (PV w7 po (pathL eps q f n L)) := hp7
                have G7 : Aside (Gw wS w7) := GK.out.trans g7
                have lnb0 : ln ≤ 2000000 := by have := RD.out.sh.1; rw [LN.out] at this; exact this
                clear hp7 g7 ci li GK
                go_wp2_with fail
                go_loopg [15] ln (fun gg s15 wr => ∃ j : Nat, s15 = .int .i64 j ∧ j ≤ ln ∧ ln - j ≤ gg ∧ Aside (Gw w7 wr))
                case atStart => exact ⟨0, rfl, Nat.zero_le _, by omega, (show Aside _ from Gw.refl w7)⟩
                case round =>
                  obtain ⟨j, rfl, j1, j2, GJ⟩ := hrel
                  by_cases jlt : j < ln
                  · obtain ⟨a, ha⟩ : ∃ a, ln - 1 - j = a := ⟨_, rfl⟩
                    have VW : Aside (VisW eps q f n L a) := visw RD.out qb.2 (by rw [LN.out]; omega)
                    obtain ⟨vb, vf, rfl, hvb, hvc⟩ := (P7.out.gw GJ.out).cells (by rw [pathL_len, LN.out]; omega)
                    have V0 := hvc j (by rw [pathL_len, LN.out]; exact jlt)
                    have VE : (pathL eps q f n L).getD j vis0 = visAt eps q f n L a := by
                      rw [path_at (by rw [LN.out]; exact jlt), LN.out, ha]
                    rw [VE] at V0
                    obtain ⟨R, hR⟩ : ∃ R : Nat, cntb (rowF f L a) q (rowN n L a) = R := ⟨_, rfl⟩
                    obtain ⟨v1, v2, v3, v4, hv⟩ : ∃ v1 v2 v3 v4, visAt eps q f n L a = ⟨(a : Int), v1, v2, v3, v4, (R : Int)⟩ := ⟨_, _, _, _, by rw [← hR]; rfl⟩
                    have VV : Aside (VisN eps (rowF f L a) (rowN n L a) q R v2 v3 v4) := by
                      have := VW.out
                      unfold VisW at this
                      rw [hv, hR] at this
                      exact this
                    rw [hv] at V0
                    have x0 : wr.cell? ⟨vb, vf + j * 6, none⟩ = some (.int .i64 (a : Int)) := V0.c0
                    have x1 : wr.cell? ⟨vb, vf + j * 6 + 1, none⟩ = some (.int .i64 v1) := V0.c1
                    have x2 : wr.cell? ⟨vb, vf + j * 6 + 2, none⟩ = some (.int .i64 v2) := V0.c2
                    have x3 : wr.cell? ⟨vb, vf + j * 6 + 3, none⟩ = some (.int .i64 v3) := V0.c3
                    have x4 : wr.cell? ⟨vb, vf + j * 6 + 4, none⟩ = some (.int .i64 v4) := V0.c4
                    have x5 : wr.cell? ⟨vb, vf + j * 6 + 5, none⟩ = some (.int .i64 (R : Int)) := V0.c5
                    have RC : Aside (cntb (rowF f L a) q (rowN n L a) = R) := hR
                    have aln : a < ln := by omega
                    have aj : ((a : Int) != (ln : Int) - 1 - (j : Int)) = false := by simp; omega
                    have w1 : IntKind.i64.wrap ((ln : Int) - 1) = (ln : Int) - 1 := by rw [IntKind.wrap_i64]; omega
                    have w2 : IntKind.i64.wrap ((ln : Int) - 1 - (j : Int)) = (ln : Int) - 1 - (j : Int) := by rw [IntKind.wrap_i64]; omega
                    have XB : Aside (Vb (wr.alloc (.cells #[.int .i64 (a : Int), .int .i64 v1, .int .i64 v2, .int .i64 v3, .int .i64 v4, .int .i64 (R : Int)] 40)) wr.heap.size ⟨(a : Int), v1, v2, v3, v4, (R : Int)⟩) := heap_alloc_new wr _
                    have GA0 : Aside (Gw w7 wr) := GJ
                    have GA : Aside (Gw w7 (wr.alloc (.cells #[.int .i64 (a : Int), .int .i64 v1, .int .i64 v2, .int .i64 v3, .int .i64 v4, .int .i64 (R : Int)] 40))) := GJ.out.alloc _ _
                    clear hvc V0 VE hv hR VW GJ
                    have lnb : ln ≤ 2000000 := lnb0
                    have BA : Aside ((wr.alloc (.cells #[.int .i64 (a : Int), .int .i64 v1, .int .i64 v2, .int .i64 v3, .int .i64 v4, .int .i64 (R : Int)] 40)).heap[mb]? = some (.cells #[.slice ao n cp, .int .i64 eps, .bool own, .slice uo un uc] 25 (0, 0))) := ((G7.out.trans GA.out).below.block mb (Array.getElem?_eq_some_iff.1 BR.out).1).trans BR.out
                    have b0 : (wr.alloc (.cells #[.int .i64 (a : Int), .int .i64 v1, .int .i64 v2, .int .i64 v3, .int .i64 v4, .int .i64 (R : Int)] 40)).cell? ⟨mb, 0, none⟩ = some (.slice ao n cp) := by have := BA.out; simp [World.cell?, this]
                    have bl : mb < wr.heap.size := by
                      have h1 := (Array.getElem?_eq_some_iff.1 BR.out).1
                      have h2 := G7.out.size
                      have h3 := GA0.out.size
                      omega
                    have VR : Aside (vb < wr.heap.size) := hvb
                    clear hvb
                    have ROWS : Aside (a = 0 ∨ ∃ a', a = a' + 1) := by
                      cases a with
                      | zero => exact .inl rfl
                      | succ a' => exact .inr ⟨a', rfl⟩
                    rcases ROWS.out with a0 | ⟨a', ea⟩
                    · as_aux_lemma =>
                      have e1 : rowN n L a = n := by rw [a0]; rfl
                      have e2 : rowF f L a = f := by rw [a0]; rfl
                      have a0' : ¬ 0 < a := by omega
                      have a0i : decide ((0 : Int) < (a : Int)) = false := by simp; omega
                      rw [e1, e2] at VV RC
                      clear e1 e2 ROWS a0
                      go_wp2_with fail
                      generalize wr.alloc (.cells #[.int .i64 (a : Int), .int .i64 v1, .int .i64 v2, .int .i64 v3, .int .i64 v4, .int .i64 (R : Int)] 40) = wA at XB GA BA b0 ⊢
                      obtain ⟨xb, hxb⟩ : ∃ xb, wr.heap.size = xb := ⟨_, rfl⟩
                      rw [hxb] at XB ⊢
                      clear hxb x0 x1 x2 x3 x4 x5 VR bl
                      have KROW : Aside (KS wA ao n f) := ((ST4.out.gw G.out).gw (G7.out.trans GA.out)).ks
                      go_loopg [19] R (fun gg s19 wr => ∃ r : Nat, s19 = .int .i64 r ∧ r ≤ R ∧ R - r ≤ gg ∧ Aside (Gw wA wr))
                      case atStart => exact ⟨0, rfl, Nat.zero_le _, by omega, (show Aside _ from Gw.refl wA)⟩
                      case round =>
                        obtain ⟨r, rfl, r1, r2, GR⟩ := hrel
                        obtain ⟨ci, li⟩ := CL.out wr ((G7.out.trans GA.out).trans GR.out) i ilt
                        rw [GQ.out] at ci
                        by_cases rlt : r < R
                        · have rnn : r < n := by have := VV.out.le; omega
                          have rni : (r : Int) < (n : Int) := by omega
                          obtain ⟨qb1, qf, qe, hqb, hqc⟩ := (KROW.out.gw GR.out).cells (by omega)
                          have cr := hqc r rnn
                          have fr := VV.out.up.1 r rlt
                          obtain ⟨y, hy⟩ : ∃ y, f r = y := ⟨_, rfl⟩
                          rw [hy] at cr fr
                          clear hy hqc
                          have t1 : decide (y < q) = true := by simpa using fr
                          cases qe
                          (try simp only [Nat.zero_add] at cr)
                          go_wp2_with fail
                          go_quiet (fail)
                          go_wp2_with fail
                          go_roundg (R - (r + 1))
                          case measure => omega
                          case rel => exact ⟨r + 1, by go_num, by omega, Nat.le_refl _, (show Aside _ from GR.out.drewN _)⟩
                        · have er : r = R := by omega
                          subst er
                          as_aux_lemma =>
                          have zl := XB.out.lt
                          have XR : Vb wr xb ⟨(a : Int), v1, v2, v3, v4, (r : Int)⟩ := XB.out.keep (GR.out.below.block xb zl)
                          obtain ⟨z0, z1, z2, z3, z4, z5⟩ := XR.cells
                          have zl' := XR.lt
                          have BW : wr.heap[mb]? = some (.cells #[.slice ao n cp, .int .i64 eps, .bool own, .slice uo un uc] 25 (0, 0)) := (((G7.out.trans GA.out).trans GR.out).below.block mb (Array.getElem?_eq_some_iff.1 BR.out).1).trans BR.out
                          have b1 : wr.cell? ⟨mb, 1, none⟩ = some (.int .i64 eps) := by simp [World.cell?, BW]
                          have bl : mb < wr.heap.size := (Array.getElem?_eq_some_iff.1 BW).1
                          have e2 := RD.out.e0
                          have e3 := RD.out.e1
                          have y1 := VV.out.far
                          have y2 := VV.out.w0
                          have y3 := VV.out.w1
                          have y4 := VV.out.wd
                          have y5 := VV.out.g0
                          have y6 := VV.out.g1
                          have y7 := VV.out.l0
                          have y8 := VV.out.h1
                          have u1 : IntKind.i64.wrap (eps + 1) = eps + 1 := by rw [IntKind.wrap_i64]; omega
                          have u2 : IntKind.i64.wrap (v2 - (r : Int)) = v2 - (r : Int) := by rw [IntKind.wrap_i64]; omega
                          have u3 : IntKind.i64.wrap ((r : Int) - v2) = (r : Int) - v2 := by rw [IntKind.wrap_i64]; omega
                          have u4 : IntKind.i64.wrap (v4 - v3) = v4 - v3 := by rw [IntKind.wrap_i64]; omega
                          have u5 : IntKind.i64.wrap (2 * eps) = 2 * eps := by rw [IntKind.wrap_i64]; omega
                          have u6 : IntKind.i64.wrap (2 * eps + 2) = 2 * eps + 2 := by rw [IntKind.wrap_i64]; omega
                          have s3 : decide ((r : Int) < v3) = false := by simp; omega
                          have s4 : decide (v4 < (r : Int)) = false := by simp; omega
                          have s5 : decide (2 * eps + 2 < v4 - v3) = false := by simp; omega
                          have FIN : Aside (Gw w7 wr) := GA.out.trans GR.out
                          clear BW XR z1 y5 y6 y7 y8 y2 y3 y4
                          by_cases rn1 : r < n
                          · have rni : (r : Int) < (n : Int) := by omega
                            obtain ⟨qb1, qf, qe, hqb, hqc⟩ := (KROW.out.gw GR.out).cells (by omega)
                            have cr := hqc r rn1
                            have fr := VV.out.up.2 r (Nat.le_refl _) rn1
                            have nr := VV.out.near
                            obtain ⟨y, hy⟩ : ∃ y, f r = y := ⟨_, rfl⟩
                            rw [hy] at cr fr nr
                            clear hy hqc
                            have t1 : decide (y < q) = false := by simp; omega
                            cases qe
                            (try simp only [Nat.zero_add] at cr)
                            by_cases yq : y = q
                            · have t2 : (y == q) = true := by simpa using yq
                              have ny := nr ⟨rn1, yq⟩
                              have s1 : decide (eps < v2 - (r : Int)) = false := by simp; omega
                              have s2 : decide (eps < (r : Int) - v2) = false := by simp; omega
                              clear nr fr ny y1 yq
                              go_wp2_with fail
                              go_quiet (fail)
                              go_wp2_with fail
                              go_quiet (fail)
                              go_wp2_with fail
                              go_roundg (ln - (j + 1))
                              case measure => omega
                              case rel => exact ⟨j + 1, by go_num, by omega, Nat.le_refl _, (show Aside _ from by repeat (first | exact FIN.out | refine Gw.drewN ?_ _))⟩
                            · have t2 : (y == q) = false := by simpa using yq
                              have s1 : decide (eps + 1 < v2 - (r : Int)) = false := by simp; omega
                              have s2 : decide (eps + 1 < (r : Int) - v2) = false := by simp; omega
                              clear nr fr y1 yq
                              go_wp2_with fail
                              go_quiet (fail)
                              go_wp2_with fail
                              go_quiet (fail)
                              go_wp2_with fail
                              go_roundg (ln - (j + 1))
                              case measure => omega
                              case rel => exact ⟨j + 1, by go_num, by omega, Nat.le_refl _, (show Aside _ from by repeat (first | exact FIN.out | refine Gw.drewN ?_ _))⟩
                          · have rni : decide ((r : Int) < (n : Int)) = false := by simp; omega
                            have s1 : decide (eps + 1 < v2 - (r : Int)) = false := by simp; omega
                            have s2 : decide (eps + 1 < (r : Int) - v2) = false := by simp; omega
                            clear y1
                            go_wp2_with fail
                            go_quiet (fail)
                            go_wp2_with fail
                            go_quiet (fail)
                            go_wp2_with fail
                            go_roundg (ln - (j + 1))
                            case measure => omega
                            case rel => exact ⟨j + 1, by go_num, by omega, Nat.le_refl _, (show Aside _ from by repeat (first | exact FIN.out | refine Gw.drewN ?_ _))⟩
                    · as_aux_lemma =>
                      have A1 : Aside (a = a' + 1) := ea
                      have e1 : rowN n L a = (L.getD a' []).length := by rw [ea]; rfl
                      have e2 : rowF f L a = fst8 (L.getD a' []) := by rw [ea]; rfl
                      rw [e1, e2] at VV RC
                      have apos : 0 < a := by omega
                      have aposi : decide ((0 : Int) < (a : Int)) = true := by simp; omega
                      have aw : IntKind.i64.wrap ((a : Int) - 1) = (a' : Int) := by rw [IntKind.wrap_i64]; omega
                      have a'l : a' < ln := by omega
                      have a'i : (a' : Int) < (ln : Int) := by omega
                      obtain ⟨lb, lf, rfl, hlb, hlc⟩ := ((ST4.out.gw G.out).gw (G7.out.trans GA0.out)).vs.cells (by rw [LN.out]; omega)
                      obtain ⟨so, sc, p1, p2, p3, p4⟩ := hlc a' (by rw [LN.out]; exact a'l)
                      have sl := RD.out.sh.2 a' (by rw [LN.out]; exact a'l)
                      obtain ⟨l, hl'⟩ : ∃ l, L.getD a' [] = l := ⟨_, rfl⟩
                      rw [hl'] at p1 p2 p3 p4 sl VV RC
                      obtain ⟨sn, hsn⟩ : ∃ sn, l.length = sn := ⟨_, rfl⟩
                      have SN : Aside (l.length = sn) := hsn
                      rw [hsn] at p1 p2 p3 sl VV RC
                      have GL : Aside (GS wr so l) := p4
                      have hmk := made_k9 sn (by omega)
                      have p1A : (wr.alloc (.cells #[.int .i64 (a : Int), .int .i64 v1, .int .i64 v2, .int .i64 v3, .int .i64 v4, .int .i64 (R : Int)] 40)).cell? ⟨lb, lf + a', none⟩ = some (.slice so sn sc) := (((Gw.refl wr).alloc _ _).cell _ _ hlb).trans p1
                      clear hlc p4 hsn hl' e1 e2 ROWS ea
                      go_wp2_with fail
                      obtain ⟨wJ, hwJ⟩ : ∃ wx, wx = wr := ⟨_, rfl⟩
                      subst hwJ
                      obtain ⟨g0, hR0⟩ := made_krow9 (wJ.alloc (.cells #[.int .i64 (a : Int), .int .i64 v1, .int .i64 v2, .int .i64 v3, .int .i64 v4, .int .i64 (R : Int)] 40)) sn
                      have RW : Aside (((wJ.alloc (.cells #[.int .i64 (a : Int), .int .i64 v1, .int .i64 v2, .int .i64 v3, .int .i64 v4, .int .i64 (R : Int)] 40)).alloc (.cells (madeCells #[.int .u64 0] sn) 36)).rowIs (wJ.heap.size + 1) 36 sn g0) := by
                        have := hR0
                        simp at this
                        exact this
                      have GM : Aside (Gw w7 ((wJ.alloc (.cells #[.int .i64 (a : Int), .int .i64 v1, .int .i64 v2, .int .i64 v3, .int .i64 v4, .int .i64 (R : Int)] 40)).alloc (.cells (madeCells #[.int .u64 0] sn) 36))) := GA.out.alloc _ _
                      have XM : Aside (Vb ((wJ.alloc (.cells #[.int .i64 (a : Int), .int .i64 v1, .int .i64 v2, .int .i64 v3, .int .i64 v4, .int .i64 (R : Int)] 40)).alloc (.cells (madeCells #[.int .u64 0] sn) 36)) wJ.heap.size ⟨(a : Int), v1, v2, v3, v4, (R : Int)⟩) := XB.out.keep (heap_alloc_old _ _ XB.out.lt)
                      have GJM : Aside (Gw wJ ((wJ.alloc (.cells #[.int .i64 (a : Int), .int .i64 v1, .int .i64 v2, .int .i64 v3, .int .i64 v4, .int .i64 (R : Int)] 40)).alloc (.cells (madeCells #[.int .u64 0] sn) 36))) := ((Gw.refl wJ).alloc _ _).alloc _ _
                      clear hR0 XB GA BA b0 x0 x1 x2 x3 x4 x5 VR bl p1A
                      generalize (wJ.alloc (.cells #[.int .i64 (a : Int), .int .i64 v1, .int .i64 v2, .int .i64 v3, .int .i64 v4, .int .i64 (R : Int)] 40)).alloc (.cells (madeCells #[.int .u64 0] sn) 36) = wM at RW GM XM GJM ⊢
                      obtain ⟨xb, hxb⟩ : ∃ xb, wJ.heap.size = xb := ⟨_, rfl⟩
                      have XBE : Aside (wJ.heap.size = xb ∧ w7.heap.size ≤ xb) := ⟨hxb, by rw [← hxb]; exact GA0.out.size⟩
                      rw [hxb] at RW XM ⊢
                      clear hxb
                      go_loopg [18] sn (fun gg s18 wz => ∃ t : Nat, s18 = .int .i64 t ∧ t ≤ sn ∧ sn - t ≤ gg ∧ Aside (wz.rowIs (xb + 1) 36 sn (fun u => if u < t then .int .u64 (fst8 l u) else g0 u)) ∧ Aside (Gw w7 wz) ∧ Aside (Vb wz xb ⟨(a : Int), v1, v2, v3, v4, (R : Int)⟩) ∧ Aside (Gw wJ wz))
                      case atStart => exact ⟨0, rfl, Nat.zero_le _, by omega, (show Aside _ from RW.out.congr fun u hu => by simp), GM, XM, GJM⟩
                      case round =>
                        clear RW GM XM GJM
                        obtain ⟨t, rfl, t1, t2, RT, GZ, XZ, GJZ⟩ := hrel
                        by_cases tlt : t < sn
                        · have p1' : wr.cell? ⟨lb, lf + a', none⟩ = some (.slice so sn sc) := (GJZ.out.cell _ _ hlb).trans p1
                          have hlb' : lb < wr.heap.size := Nat.lt_of_lt_of_le hlb GJZ.out.size
                          obtain ⟨gb, gf, rfl, hgb, hgc⟩ := (GL.out.gw GJZ.out).cells (by rw [SN.out]; omega)
                          have cg := (hgc t (by rw [SN.out]; exact tlt)).c0
                          obtain ⟨fy, hfy⟩ : ∃ y, fst8 l t = y := ⟨_, rfl⟩
                          have FY : Aside (fst8 l t = fy) := hfy
                          have cg' : wr.cell? ⟨gb, gf + t * 5, none⟩ = some (.int .u64 fy) := by rw [← hfy]; exact cg
                          obtain ⟨z0, _, _, _, _, _⟩ := XZ.out.cells
                          have zl := XZ.out.lt
                          have r0 := RT.out.cell (i := t) tlt
                          have f0 := RT.out.frozen t
                          have rl := RT.out.lt
                          clear hgc cg hfy
                          go_wp2_with fail
                          go_roundg (sn - (t + 1))
                          case measure => omega
                          case rel => exact ⟨t + 1, by go_num, by omega, Nat.le_refl _, (show Aside _ from (RT.out.set t (.int .u64 fy)).congr fun u hu => by
                            by_cases e : u = t
                            · subst e; rw [if_pos rfl, if_pos (by omega), FY.out]
                            · rw [if_neg e]
                              by_cases q2 : u < t
                              · rw [if_pos q2, if_pos (by omega)]
                              · rw [if_neg q2, if_neg (by omega)]), (show Aside _ from GZ.out.setCell (by have := XBE.out; show _ ≤ xb + 1; omega) _), (show Aside _ from XZ.out.keep (Go.Deep.blk_setCell_other _ _ _ _ (by show xb ≠ xb + 1; omega))), (show Aside _ from GJZ.out.setCell (by have := XBE.out; show _ ≤ xb + 1; omega) _)⟩
                        · have et : t = sn := by omega
                          subst et
                          obtain ⟨wA, hwA⟩ : ∃ wx, wx = wr := ⟨_, rfl⟩
                          subst hwA
                          have KROW : Aside (KS wA (some ⟨xb + 1, 0, none⟩) t (fst8 l)) := ks_row9 (RT.out.congr fun u hu => by simp [hu]) (fun u hu => fst8_ok GL.out u (by rw [SN.out]; exact hu))
                          have GA : Aside (Gw w7 wA) := GZ
                          have XB : Aside (Vb wA xb ⟨(a : Int), v1, v2, v3, v4, (R : Int)⟩) := XZ
                          clear RT GZ XZ GJZ
                          go_wp2_with fail
                          go_loopg [19] R (fun gg s19 wr => ∃ r : Nat, s19 = .int .i64 r ∧ r ≤ R ∧ R - r ≤ gg ∧ Aside (Gw wA wr))
                          case atStart => exact ⟨0, rfl, Nat.zero_le _, by omega, (show Aside _ from Gw.refl wA)⟩
                          case round =>
                            obtain ⟨r, rfl, r1, r2, GR⟩ := hrel
                            obtain ⟨ci, li⟩ := CL.out wr ((G7.out.trans GA.out).trans GR.out) i ilt
                            rw [GQ.out] at ci
                            by_cases rlt : r < R
                            · have rnn : r < t := by have := VV.out.le; omega
                              have rni : (r : Int) < (t : Int) := by omega
                              obtain ⟨qb1, qf, qe, hqb, hqc⟩ := (KROW.out.gw GR.out).cells (by omega)
                              have cr := hqc r rnn
                              have fr := VV.out.up.1 r rlt
                              obtain ⟨y, hy⟩ : ∃ y, (fst8 l) r = y := ⟨_, rfl⟩
                              rw [hy] at cr fr
                              clear hy hqc
                              have t1 : decide (y < q) = true := by simpa using fr
                              cases qe
                              (try simp only [Nat.zero_add] at cr)
                              go_wp2_with fail
                              go_quiet (fail)
                              go_wp2_with fail
                              go_roundg (R - (r + 1))
                              case measure => omega
                              case rel => exact ⟨r + 1, by go_num, by omega, Nat.le_refl _, (show Aside _ from GR.out.drewN _)⟩
                            · have er : r = R := by omega
                              subst er
                              as_aux_lemma =>
                              have zl := XB.out.lt
                              have XR : Vb wr xb ⟨(a : Int), v1, v2, v3, v4, (r : Int)⟩ := XB.out.keep (GR.out.below.block xb zl)
                              obtain ⟨z0, z1, z2, z3, z4, z5⟩ := XR.cells
                              have zl' := XR.lt
                              have BW : wr.heap[mb]? = some (.cells #[.slice ao n cp, .int .i64 eps, .bool own, .slice uo un uc] 25 (0, 0)) := (((G7.out.trans GA.out).trans GR.out).below.block mb (Array.getElem?_eq_some_iff.1 BR.out).1).trans BR.out
                              have b1 : wr.cell? ⟨mb, 1, none⟩ = some (.int .i64 eps) := by simp [World.cell?, BW]
                              have bl : mb < wr.heap.size := (Array.getElem?_eq_some_iff.1 BW).1
                              have e2 := RD.out.e0
                              have e3 := RD.out.e1
                              have y1 := VV.out.far
                              have y2 := VV.out.w0
                              have y3 := VV.out.w1
                              have y4 := VV.out.wd
                              have y5 := VV.out.g0
                              have y6 := VV.out.g1
                              have y7 := VV.out.l0
                              have y8 := VV.out.h1
                              have u1 : IntKind.i64.wrap (eps + 1) = eps + 1 := by rw [IntKind.wrap_i64]; omega
                              have u2 : IntKind.i64.wrap (v2 - (r : Int)) = v2 - (r : Int) := by rw [IntKind.wrap_i64]; omega
                              have u3 : IntKind.i64.wrap ((r : Int) - v2) = (r : Int) - v2 := by rw [IntKind.wrap_i64]; omega
                              have u4 : IntKind.i64.wrap (v4 - v3) = v4 - v3 := by rw [IntKind.wrap_i64]; omega
                              have u5 : IntKind.i64.wrap (2 * eps) = 2 * eps := by rw [IntKind.wrap_i64]; omega
                              have u6 : IntKind.i64.wrap (2 * eps + 2) = 2 * eps + 2 := by rw [IntKind.wrap_i64]; omega
                              have s3 : decide ((r : Int) < v3) = false := by simp; omega
                              have s4 : decide (v4 < (r : Int)) = false := by simp; omega
                              have s5 : decide (2 * eps + 2 < v4 - v3) = false := by simp; omega
                              have FIN : Aside (Gw w7 wr) := GA.out.trans GR.out
                              clear BW XR z1 y5 y6 y7 y8 y2 y3 y4
                              by_cases rn1 : r < t
                              · have rni : (r : Int) < (t : Int) := by omega
                                obtain ⟨qb1, qf, qe, hqb, hqc⟩ := (KROW.out.gw GR.out).cells (by omega)
                                have cr := hqc r rn1
                                have fr := VV.out.up.2 r (Nat.le_refl _) rn1
                                have nr := VV.out.near
                                obtain ⟨y, hy⟩ : ∃ y, (fst8 l) r = y := ⟨_, rfl⟩
                                rw [hy] at cr fr nr
                                clear hy hqc
                                have t1 : decide (y < q) = false := by simp; omega
                                cases qe
                                (try simp only [Nat.zero_add] at cr)
                                by_cases yq : y = q
                                · have t2 : (y == q) = true := by simpa using yq
                                  have ny := nr ⟨rn1, yq⟩
                                  have s1 : decide (eps < v2 - (r : Int)) = false := by simp; omega
                                  have s2 : decide (eps < (r : Int) - v2) = false := by simp; omega
                                  clear nr fr ny y1 yq
                                  go_wp2_with fail
                                  go_quiet (fail)
                                  go_wp2_with fail
                                  go_quiet (fail)
                                  go_wp2_with fail
                                  go_roundg (ln - (j + 1))
                                  case measure => omega
                                  case rel => exact ⟨j + 1, by go_num, by omega, Nat.le_refl _, (show Aside _ from by repeat (first | exact FIN.out | refine Gw.drewN ?_ _))⟩
                                · have t2 : (y == q) = false := by simpa using yq
                                  have s1 : decide (eps + 1 < v2 - (r : Int)) = false := by simp; omega
                                  have s2 : decide (eps + 1 < (r : Int) - v2) = false := by simp; omega
                                  clear nr fr y1 yq
                                  go_wp2_with fail
                                  go_quiet (fail)
                                  go_wp2_with fail
                                  go_quiet (fail)
                                  go_wp2_with fail
                                  go_roundg (ln - (j + 1))
                                  case measure => omega
                                  case rel => exact ⟨j + 1, by go_num, by omega, Nat.le_refl _, (show Aside _ from by repeat (first | exact FIN.out | refine Gw.drewN ?_ _))⟩
                              · have rni : decide ((r : Int) < (t : Int)) = false := by simp; omega
                                have s1 : decide (eps + 1 < v2 - (r : Int)) = false := by simp; omega
                                have s2 : decide (eps + 1 < (r : Int) - v2) = false := by simp; omega
                                clear y1
                                go_wp2_with fail
                                go_quiet (fail)
                                go_wp2_with fail
                                go_quiet (fail)
                                go_wp2_with fail
                                go_roundg (ln - (j + 1))
                                case measure => omega
                                case rel => exact ⟨j + 1, by go_num, by omega, Nat.le_refl _, (show Aside _ from by repeat (first | exact FIN.out | refine Gw.drewN ?_ _))⟩
                  · go_wp2_with fail
                    go_roundg (m - (i + 1))
                    case measure => omega
                    case rel => exact ⟨i + 1, by go_num, by omega, Nat.le_refl _, (show Aside _ from (G.out.trans G7.out).trans GJ.out)⟩
      · have ei : i = m := by omega
        subst ei
        go_wp2_with fail
        go_ret
        exact ⟨rfl, G4.out.trans G.out⟩

end Go.Proofs.Ytapjipinceoaoaa
