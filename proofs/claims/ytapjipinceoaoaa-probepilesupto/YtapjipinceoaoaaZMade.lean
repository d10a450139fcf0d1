/- What the statements of layer 9 are handed: keys, an eps, and levels told by bits or built. -/
import Derived.Test.YtapjipinceoaoaaZC
import Derived.Test.YtapjipinceoaoaaVBuild
import Derived.Test.YtapjipinceoaoaaPFg
import Derived.Test.YtapjipinceoaoaaHStep
import Derived.Deep.RegionHeld3
import Derived.Deep.DeepCutAuto
namespace Go.Proofs.Ytapjipinceoaoaa
open Go.RowKit
set_option linter.unusedVariables false
attribute [local go_sem] run_store_float

/-- A segment told by bits, in memory. -/
structure UgAt (w : World) (b off : Nat) (s : Sg) : Prop where
  c0 : w.cell? ⟨b, off, none⟩ = some (.int .u64 s.k)
  c1 : w.cell? ⟨b, off + 1, none⟩ = some (.int .u64 (s.sl : Int))
  c2 : w.cell? ⟨b, off + 2, none⟩ = some (.int .u64 (s.ic : Int))
  c3 : w.cell? ⟨b, off + 3, none⟩ = some (.int .i64 s.fr)
  c4 : w.cell? ⟨b, off + 4, none⟩ = some (.int .i64 s.te)
theorem UgAt.gw {w w' : World} {b off : Nat} {s : Sg} (h : UgAt w b off s) (hb : b < w.heap.size) (g : Gw w w') : UgAt w' b off s :=
  ⟨(g.cell _ _ hb).trans h.c0, (g.cell _ _ hb).trans h.c1, (g.cell _ _ hb).trans h.c2, (g.cell _ _ hb).trans h.c3, (g.cell _ _ hb).trans h.c4⟩
structure UG (w : World) (ao : Option Addr) (l : List Sg) : Prop where
  cells : 0 < l.length → ∃ b off, ao = some ⟨b, off, none⟩ ∧ b < w.heap.size ∧ ∀ i, i < l.length → UgAt w b (off + i * 5) (l.getD i sg0)
  ok : ∀ i, i < l.length → (l.getD i sg0).ok
theorem UG.gw {w w' : World} {ao : Option Addr} {l : List Sg} (h : UG w ao l) (g : Gw w w') : UG w' ao l :=
  ⟨fun h0 => by
    obtain ⟨b, off, e, hb, hc⟩ := h.cells h0
    exact ⟨b, off, e, Nat.lt_of_lt_of_le hb g.size, fun i hi => (hc i hi).gw hb g⟩, h.ok⟩
/-- Levels told by bits, in memory. -/
structure UV (w : World) (ao : Option Addr) (L : List (List Sg)) : Prop where
  cells : 0 < L.length → ∃ b off, ao = some ⟨b, off, none⟩ ∧ b < w.heap.size ∧ ∀ i, i < L.length → ∃ bo c, w.cell? ⟨b, off + i, none⟩ = some (.slice bo (L.getD i []).length c) ∧ (L.getD i []).length ≤ c ∧ UG w bo (L.getD i [])
theorem UV.gw {w w' : World} {ao : Option Addr} {L : List (List Sg)} (h : UV w ao L) (g : Gw w w') : UV w' ao L :=
  ⟨fun h0 => by
    obtain ⟨b, off, e, hb, hc⟩ := h.cells h0
    refine ⟨b, off, e, Nat.lt_of_lt_of_le hb g.size, fun i hi => ?_⟩
    obtain ⟨bo, c, h1, h2, h4⟩ := hc i hi
    exact ⟨bo, c, (g.cell _ _ hb).trans h1, h2, h4.gw g⟩⟩
/-- What is handed in, as a value. -/
abbrev madeV (ao : Option Addr) (n cp : Nat) (eps : Int) (own : Bool) (uo : Option Addr) (un uc : Nat) : Value := .agg #[.slice ao n cp, .int .i64 eps, .bool own, .slice uo un uc]
/-- Its levels. -/
structure MadeR (eps : Int) (f : Nat → Int) (n : Nat) (own : Bool) (U : List (List Sg)) (L : List (List Sg)) (ok : Bool) : Prop where
  chk : ok = true → CheckR eps f n L 0
  no : ok = false → own = true → ∃ E, E ≠ 0 ∧ CheckR eps f n L E
  sh : Short L
  it : own = true → L = U
  bl : own = false → ∃ err, BuildE eps f n L err
theorem built_ok {eps : Int} {f : Nat → Int} {n : Nat} {L : List (List Sg)} (e : 2 ≤ eps ∧ eps ≤ 64) (u : Up f n) (n1 : n ≤ 2000000) (bd : ∀ t, t < n → 0 ≤ f t ∧ f t < 18446744073709551616) (h : BuildR eps f n L) : CheckR eps f n L 0 := by
  refine .inr (.inr (.inr ⟨e, u, ⟨?_, ?_⟩, (h.chk n1 bd u).symm⟩))
  · have lo := h.low e.1 n1 bd u
    have mo := hgt_mono (e := eps.toNat) (by omega) 4294967296 n (by omega)
    unfold mxh
    rw [if_pos ⟨e.1, e.2, by decide⟩]
    have : Int.toNat 4294967296 = 4294967296 := rfl
    rw [this]
    omega
  · rw [List.length_eq_zero_iff]; exact h.none

theorem vsf_base {w : World} {b b' : Nat} {ao : Option Addr} {L : List (List Sg)} (h : VSf w b ao L) (hb : b' ≤ b) : VSf w b' ao L :=
  ⟨fun h0 => by
    obtain ⟨g, off, e, l, hc⟩ := h.cells h0
    refine ⟨g, off, e, ⟨Nat.le_trans hb l.1, l.2⟩, fun i hi => ?_⟩
    obtain ⟨bo, c, h1, h2, h3, h4, h5⟩ := hc i hi
    exact ⟨bo, c, h1, h2, h3, h4, fun a ha => ⟨Nat.le_trans hb (h5 a ha).1, (h5 a ha).2⟩⟩⟩
theorem built_made {eps : Int} {f : Nat → Int} {n : Nat} {U L : List (List Sg)} {err : Int} (n1 : n ≤ 2000000) (bd : ∀ t, t < n → 0 ≤ f t ∧ f t < 18446744073709551616) (h : BuildE eps f n L err) : MadeR eps f n false U L (err == 0) := by
  refine ⟨fun q => ?_, (fun _ q => by cases q), ?_, (fun q => by cases q), fun _ => ⟨err, h⟩⟩
  · have q' : err = 0 := by simpa using q
    subst q'
    rcases h with ⟨_, _, z⟩ | ⟨_, _, _, z⟩ | ⟨a, b, c, _⟩
    · cases z
    · cases z
    · exact built_ok a b n1 bd c
  · rcases h with ⟨_, rfl, _⟩ | ⟨_, _, rfl, _⟩ | ⟨a, b, c, _⟩
    · exact ⟨by simp, fun i hi => by simp at hi⟩
    · exact ⟨by simp, fun i hi => by simp at hi⟩
    · have lo := c.low a.1 n1 bd b
      have hl := hgt_le (e := eps.toNat) (by omega) n
      exact ⟨by omega, fun i hi => by have := BuildR.short n1 bd b c i hi; omega⟩

set_option maxRecDepth 10000 in
set_option maxHeartbeats 8000000 in
theorem made_any (O5 : Of5C) (eps : Int) (ao : Option Addr) (n cp : Nat) (f : Nat → Int) (own : Bool) (uo : Option Addr) (uc : Nat) (U : List (List Sg)) (e0 : -9223372036854775808 ≤ eps) (e1 : eps < 9223372036854775808) (hn : n ≤ 2000000) (hcp : n ≤ cp) (hU : Short U) (w : World) (h : KS w ao n f) (hv : UV w uo U) :
    Calls Try.prog 6 #[madeV ao n cp eps own uo U.length uc] w fun ex w' => (∃ lo lc L ok, ex = .returned (.tuple #[.slice lo (L : List (List Sg)).length lc, .bool ok]) ∧ MadeR eps f n own U L ok ∧ VSf w' w.heap.size lo L ∧ L.length ≤ lc) ∧ Gw w w' := by
  have HK : Aside (KS w ao n f) := h
  have HV : Aside (UV w uo U) := hv
  have HU : Aside (Short U) := hU
  have us := hU.1
  obtain ⟨un, hun⟩ : ∃ un, U.length = un := ⟨_, rfl⟩
  have UN : Aside (U.length = un) := hun
  rw [hun] at us ⊢
  clear h hv hU hun
  have G0 : Aside (Gw w (w.alloc (.cells #[.slice ao n cp, .int .i64 eps, .bool own, .slice uo un uc] 25))) := (Gw.refl w).alloc _ _
  have BK : Aside ((w.alloc (.cells #[.slice ao n cp, .int .i64 eps, .bool own, .slice uo un uc] 25)).heap[w.heap.size]? = some (.cells #[.slice ao n cp, .int .i64 eps, .bool own, .slice uo un uc] 25 (0, 0))) := heap_alloc_new w _
  cases own with
  | false =>
    have BD : Hid (∀ W, KS W ao n f → Calls Try.prog 10 #[.slice ao n cp, .int .i64 eps] W fun ex w' => BuildOutF W.heap.size w' ex eps f n ∧ Gw W w') := fun W h => rbuild_any O5 eps ao n cp f e0 e1 hn hcp W h
    clear O5
    go_enter Try.func6, Try.ntmps6
    go_wp2_with fail
    generalize w.alloc (.cells #[.slice ao n cp, .int .i64 eps, .bool false, .slice uo un uc] 25) = w1 at G0 BK ⊢
    refine (BD.out _ (HK.out.gw G0.out)).mono ?_
    rintro ex w2 ⟨⟨lo, lc, L, err, rfl, hB, hV, hl⟩, g2⟩
    have R : Aside (MadeR eps f n false U L (err == 0)) := built_made hn HK.out.bd hB
    have V2 : Aside (VSf w2 w.heap.size lo L) := vsf_base hV G0.out.size
    have G2 : Aside (Gw w w2) := G0.out.trans g2
    clear hB hV g2 BK
    go_wp2_with fail
    exact bodyPost_ret (v := .tuple #[.slice lo L.length lc, .bool (err == 0)]) (by simp [results, Try.results6, go_sem]) rfl ⟨⟨lo, lc, L, _, rfl, R.out, V2.out, hl⟩, G2.out⟩
  | true =>
    clear O5
    have RC : Hid _ := fun (lo : Option Addr) (lc : Nat) (W : World) (h : KS W ao n f) (hv : VS W lo U) => rcheck8_any eps ao n cp f lo lc U e0 e1 (by omega) hcp (by have := HU.out.1; omega) (fun i hi => by have := HU.out.2 i hi; omega) W h hv
    have G1 : Aside (Gw w ((w.alloc (.cells #[.slice ao n cp, .int .i64 eps, .bool true, .slice uo un uc] 25)).alloc (.cells #[] 41))) := G0.out.alloc _ _
    have B1 : Aside (((w.alloc (.cells #[.slice ao n cp, .int .i64 eps, .bool true, .slice uo un uc] 25)).alloc (.cells #[] 41)).heap[w.heap.size]? = some (.cells #[.slice ao n cp, .int .i64 eps, .bool true, .slice uo un uc] 25 (0, 0))) := (heap_alloc_old _ _ (by simp)).trans BK.out
    have R1 : Aside (((w.alloc (.cells #[.slice ao n cp, .int .i64 eps, .bool true, .slice uo un uc] 25)).alloc (.cells #[] 41)).ownsRow (w.heap.size + 1) 41 1 (.slice (some ⟨w.heap.size + 1, 0, none⟩) 0 0) 0 []) := by
      have := World.ownsRow_made (base := w.heap.size + 1) (e := 41) (size := 1) (w.alloc (.cells #[.slice ao n cp, .int .i64 eps, .bool true, .slice uo un uc] 25)) #[] 0 (by simp) (Nat.zero_le _) rfl
      simp at this
      exact this
    have V1 : Aside (VI ((w.alloc (.cells #[.slice ao n cp, .int .i64 eps, .bool true, .slice uo un uc] 25)).alloc (.cells #[] 41)) (w.heap.size + 1) (w.heap.size + 1) [] (U.take 0)) := ⟨by simp, fun i hi => by simp at hi⟩
    obtain ⟨jj, hjj, jz, js, jby⟩ := info_parts info_sgs
    obtain ⟨ii, hii, hz, hs, hby⟩ := info_parts info_sg
    clear G0 BK
    go_enter Try.func6, Try.ntmps6
    go_wp2_with fail
    generalize (w.alloc (.cells #[.slice ao n cp, .int .i64 eps, .bool true, .slice uo un uc] 25)).alloc (.cells #[] 41) = w1 at G1 B1 R1 V1 ⊢
    obtain ⟨mb, hmb⟩ : ∃ mb, w.heap.size = mb := ⟨_, rfl⟩
    have MB : Aside (w.heap.size = mb) := hmb
    rw [hmb] at B1 R1 V1 ⊢
    clear hmb
    go_loopg [6, 7] un (fun gg s6 s7 wr => ∃ (i ob oc : Nat) (vals : List Value), s6 = .slice (some ⟨ob, 0, none⟩) i oc ∧ s7 = .int .i64 i ∧ i ≤ un ∧ un - i ≤ gg ∧ Aside (wr.heap[mb]? = some (.cells #[.slice ao n cp, .int .i64 eps, .bool true, .slice uo un uc] 25 (0, 0))) ∧ Aside (wr.ownsRow (mb + 1) 41 1 (.slice (some ⟨ob, 0, none⟩) i oc) i vals) ∧ Aside (VI wr (mb + 1) ob vals (U.take i)) ∧ Aside (Gw w wr))
    case atStart => exact ⟨0, mb + 1, 0, [], rfl, rfl, Nat.zero_le _, by omega, B1, R1, V1, G1⟩
    case round =>
      clear B1 R1 V1 G1
      obtain ⟨i, ob, oc, vals, rfl, rfl, j1, j2, BB, R, V, G⟩ := hrel
      have mc0 : wr.cell? ⟨mb, 0, none⟩ = some (.slice ao n cp) := by have := BB.out; simp [World.cell?, this]
      have mc1 : wr.cell? ⟨mb, 1, none⟩ = some (.int .i64 eps) := by have := BB.out; simp [World.cell?, this]
      have mc3 : wr.cell? ⟨mb, 3, none⟩ = some (.slice uo un uc) := by have := BB.out; simp [World.cell?, this]
      have mlt : mb < wr.heap.size := (Array.getElem?_eq_some_iff.1 BB.out).1
      by_cases ilt : i < un
      · have ili : (i : Int) < (un : Int) := by omega
        obtain ⟨ub, uf, rfl, hub, huc⟩ := (HV.out.gw G.out).cells (by rw [UN.out]; omega)
        obtain ⟨so, sc, q1, q2, q4⟩ := huc i (by rw [UN.out]; exact ilt)
        have sl := HU.out.2 i (by rw [UN.out]; exact ilt)
        have TK : Aside (U.take (i + 1) = U.take i ++ [U.getD i []]) := by
          show _ = _
          rw [List.take_add_one, List.getElem?_eq_getElem (by rw [UN.out]; exact ilt), List.getD_eq_getElem?_getD, List.getElem?_eq_getElem (by rw [UN.out]; exact ilt)]; rfl
        obtain ⟨l, hl⟩ : ∃ l, U.getD i [] = l := ⟨_, rfl⟩
        rw [hl] at q1 q2 q4 sl TK
        obtain ⟨sn, hsn⟩ : ∃ sn, l.length = sn := ⟨_, rfl⟩
        have SN : Aside (l.length = sn) := hsn
        rw [hsn] at q1 q2 sl
        have UL : Aside (UG wr so l) := q4
        clear huc hl hsn q4
        have S4 : Aside (SR (wr.alloc (.cells #[] 44)) wr.heap.size (.slice (some ⟨wr.heap.size, 0, none⟩) 0 0) (l.take 0)) := sr_new wr wr.heap.size (Nat.le_refl _)
        have G4 : Aside (Gw wr (wr.alloc (.cells #[] 44))) := (Gw.refl wr).alloc _ _
        obtain ⟨wS, hwS⟩ : ∃ wx, wx = wr := ⟨_, rfl⟩
        subst hwS
        go_wp2_with fail
        generalize wS.alloc (.cells #[] 44) = w4 at S4 G4 ⊢
        obtain ⟨lb0, hlb0⟩ : ∃ lb0, wS.heap.size = lb0 := ⟨_, rfl⟩
        have L0 : Aside (wS.heap.size = lb0) := hlb0
        rw [hlb0] at S4 ⊢
        clear hlb0
        go_loopg [8, 9] sn (fun gg s8 s9 wr => ∃ (k lb lc : Nat), s8 = .slice (some ⟨lb, 0, none⟩) k lc ∧ s9 = .int .i64 k ∧ k ≤ sn ∧ sn - k ≤ gg ∧ Aside (SR wr lb0 (.slice (some ⟨lb, 0, none⟩) k lc) (l.take k)) ∧ Aside (Gw wS wr))
        case atStart => exact ⟨0, lb0, 0, rfl, rfl, Nat.zero_le _, by omega, S4, G4⟩
        case round =>
          clear S4 G4
          obtain ⟨k, lb, lc, rfl, rfl, k1, k2, SRr, GT⟩ := hrel
          have mc3' : wr.cell? ⟨mb, 3, none⟩ = some (.slice (some ⟨ub, uf, none⟩) un uc) := (GT.out.cell _ _ mlt).trans mc3
          have mlt' : mb < wr.heap.size := Nat.lt_of_lt_of_le mlt GT.out.size
          have q1' : wr.cell? ⟨ub, uf + i, none⟩ = some (.slice so sn sc) := (GT.out.cell _ _ hub).trans q1
          have hub' : ub < wr.heap.size := Nat.lt_of_lt_of_le hub GT.out.size
          have LT : (l.take k).length = k := by rw [List.length_take, SN.out]; omega
          by_cases klt : k < sn
          · obtain ⟨bk, off, rfl, hbk, hc⟩ := (UL.out.gw GT.out).cells (by rw [SN.out]; omega)
            have C := hc k (by rw [SN.out]; exact klt)
            have TL : Aside (l.take (k + 1) = l.take k ++ [l.getD k sg0]) := by
              show _ = _
              rw [List.take_add_one, List.getElem?_eq_getElem (by rw [SN.out]; exact klt), List.getD_eq_getElem?_getD, List.getElem?_eq_getElem (by rw [SN.out]; exact klt)]; rfl
            obtain ⟨s, hs'⟩ : ∃ s, l.getD k sg0 = s := ⟨_, rfl⟩
            rw [hs'] at C TL
            clear hc hs'
            obtain ⟨sk, ssl, sic, sfr, ste⟩ := s
            have c0 : wr.cell? ⟨bk, off + k * 5, none⟩ = some (.int .u64 sk) := C.c0
            have c1 : wr.cell? ⟨bk, off + k * 5 + 1, none⟩ = some (.int .u64 (ssl : Int)) := C.c1
            have c2 : wr.cell? ⟨bk, off + k * 5 + 2, none⟩ = some (.int .u64 (sic : Int)) := C.c2
            have c3 : wr.cell? ⟨bk, off + k * 5 + 3, none⟩ = some (.int .i64 sfr) := C.c3
            have c4 : wr.cell? ⟨bk, off + k * 5 + 4, none⟩ = some (.int .i64 ste) := C.c4
            clear C
            have ff := f64from
            have G5 : Aside (Gw wS (wr.alloc (.cells #[.int .u64 sk, .int .u64 (ssl : Int), .int .u64 (sic : Int), .int .i64 sfr, .int .i64 ste] 62))) := GT.out.alloc _ _
            have S5 : Aside (SR (wr.alloc (.cells #[.int .u64 sk, .int .u64 (ssl : Int), .int .u64 (sic : Int), .int .i64 sfr, .int .i64 ste] 62)) lb0 (.slice (some ⟨lb, 0, none⟩) k lc) (l.take k)) := sr_gw SRr.out ((Gw.refl wr).alloc _ _)
            have X5 : Aside ((wr.alloc (.cells #[.int .u64 sk, .int .u64 (ssl : Int), .int .u64 (sic : Int), .int .i64 sfr, .int .i64 ste] 62)).heap[wr.heap.size]? = some (.cells #[.int .u64 sk, .int .u64 (ssl : Int), .int .u64 (sic : Int), .int .i64 sfr, .int .i64 ste] 62 (0, 0))) := heap_alloc_new wr _
            have mlt5 : wr.heap.size ≤ (wr.alloc (.cells #[.int .u64 sk, .int .u64 (ssl : Int), .int .u64 (sic : Int), .int .i64 sfr, .int .i64 ste] 62)).heap.size := by simp
            have SRr0 : Aside (SR wr lb0 (.slice (some ⟨lb, 0, none⟩) k lc) (l.take k)) := SRr
            clear SRr GT ff
            go_wp2_with fail
            generalize wr.alloc (.cells #[.int .u64 sk, .int .u64 (ssl : Int), .int .u64 (sic : Int), .int .i64 sfr, .int .i64 ste] 62) = w5 at G5 S5 X5 mlt5 ⊢
            obtain ⟨xb, hxb⟩ : ∃ xb, wr.heap.size = xb := ⟨_, rfl⟩
            rw [hxb] at X5 mlt5 ⊢
            have xbe : wr.heap.size = xb := hxb
            clear hxb mc3' mlt' q1' hub' hbk c0 c1 c2 c3 c4
            have x0 : w5.drew.cell? ⟨xb, 0, none⟩ = some (.int .u64 sk) := show w5.cell? ⟨xb, 0, none⟩ = some (.int .u64 sk) by have := X5.out; simp [World.cell?, this]
            have x1 : w5.drew.cell? ⟨xb, 1, none⟩ = some (.int .u64 (ssl : Int)) := show w5.cell? ⟨xb, 1, none⟩ = some (.int .u64 (ssl : Int)) by have := X5.out; simp [World.cell?, this]
            have x2 : w5.drew.cell? ⟨xb, 2, none⟩ = some (.int .u64 (sic : Int)) := show w5.cell? ⟨xb, 2, none⟩ = some (.int .u64 (sic : Int)) by have := X5.out; simp [World.cell?, this]
            have x3 : w5.drew.cell? ⟨xb, 3, none⟩ = some (.int .i64 sfr) := show w5.cell? ⟨xb, 3, none⟩ = some (.int .i64 sfr) by have := X5.out; simp [World.cell?, this]
            have x4 : w5.drew.cell? ⟨xb, 4, none⟩ = some (.int .i64 ste) := show w5.cell? ⟨xb, 4, none⟩ = some (.int .i64 ste) by have := X5.out; simp [World.cell?, this]
            have ff := f64from
            have SRi : Aside (w5.drew.ownsRow lb0 44 5 (.slice (some ⟨lb, 0, none⟩) k lc) k ((l.take k).flatMap sgc)) := by
              have := S5.out
              unfold SR at this
              rw [LT] at this
              exact this
            have NS : Aside (∀ j u, (sgc (Sg.mk sk ssl sic sfr ste))[j]? = some u → (w5.drew.alloc (.cells #[.int .u64 sk, .float .f64 ssl, .float .f64 sic, .int .i64 sfr, .int .i64 ste] 44)).cell? ((⟨w5.heap.size, 0, none⟩ : Addr).add j) = some u) := new_sg w5.drew (Sg.mk sk ssl sic sfr ste)
            have lz : lb0 ≤ w5.heap.size := by have := sr_lt S5.out lb rfl; omega
            have lbb : lb0 ≤ lb := (sr_lt S5.out lb rfl).1
            have SGV : Aside (Gw wS w5) := G5
            have xlt : xb < w5.heap.size := (Array.getElem?_eq_some_iff.1 X5.out).1
            have nxb : lb ≠ xb := fun e => by
              have h1 := (sr_lt SRr0.out lb rfl).2
              omega
            have HX : Hid (∀ w' : World, w'.heap[xb]? = some (.cells #[.int .u64 sk, .int .u64 (ssl : Int), .int .u64 (sic : Int), .int .i64 sfr, .int .i64 ste] 62 (0, 0)) → w'.heap[xb]? = some (.cells #[.int .u64 sk, .int .u64 (ssl : Int), .int .u64 (sic : Int), .int .i64 sfr, .int .i64 ste] 62 (0, 0)) ∧ w'.cell? ⟨xb, 0, none⟩ = some (.int .u64 sk) ∧ w'.cell? ⟨xb, 1, none⟩ = some (.int .u64 (ssl : Int)) ∧ w'.cell? ⟨xb, 2, none⟩ = some (.int .u64 (sic : Int)) ∧ w'.cell? ⟨xb, 3, none⟩ = some (.int .i64 sfr) ∧ w'.cell? ⟨xb, 4, none⟩ = some (.int .i64 ste)) := fun w' h => ⟨h, by simp [World.cell?, h], by simp [World.cell?, h], by simp [World.cell?, h], by simp [World.cell?, h], by simp [World.cell?, h]⟩
            clear x0 x1 x2 x3 x4
            go_region_held3 (fun w' => w'.heap[xb]? = some (.cells #[.int .u64 sk, .int .u64 (ssl : Int), .int .u64 (sic : Int), .int .i64 sfr, .int .i64 ste] 62 (0, 0)) ∧ w'.cell? ⟨xb, 0, none⟩ = some (.int .u64 sk) ∧ w'.cell? ⟨xb, 1, none⟩ = some (.int .u64 (ssl : Int)) ∧ w'.cell? ⟨xb, 2, none⟩ = some (.int .u64 (sic : Int)) ∧ w'.cell? ⟨xb, 3, none⟩ = some (.int .i64 sfr) ∧ w'.cell? ⟨xb, 4, none⟩ = some (.int .i64 ste))
              ((refine HX.out _ ?_; (first | exact X5.out | exact Hid.out (by assumption) | exact And.left (by assumption) | exact (heap_alloc_old _ _ xlt).trans X5.out); done))
              (first | (refine step_append_any _ rfl (.tmp 53) (.tmp 67) 41 rfl lb0 44 ii _ 5 40 Try.underlying41 hii hz hs hby rfl (by decide) lb k lc ((l.take k).flatMap sgc) (by simp [Act.eval]) (SRi.out.alloc _) (some ⟨w5.heap.size, 0, none⟩) 1 1 (sgc (Sg.mk sk ssl sic sfr ste)) (by simp [Act.eval]) (fun q => by cases q) rfl (fun ad e' => (by cases e'; exact NS.out)) (sgc_one _) (by simp only [maxLen]; omega) (by omega) (by simp <;> omega) ?_; intro b7 cap7 w7 r1 r2 r3 r4; have X7 : Hid (w7.heap[xb]? = some (.cells #[.int .u64 sk, .int .u64 (ssl : Int), .int .u64 (sic : Int), .int .i64 sfr, .int .i64 ste] 62 (0, 0))) := ((r2.block xb (by simp; omega) (fun e => nxb (by cases e; rfl))).trans ((heap_alloc_old _ _ xlt).trans X5.out)); have Q7 : Hid (Gw wS w7 ∧ SR w7 lb0 (.slice (some ⟨b7, 0, none⟩) (k + 1) cap7) (l.take (k + 1))) := ⟨(SGV.out.drew.alloc _ _).grown r2 (fun k' hk => by have e : lb = k' := (by simpa using hk); have := L0.out; omega), (by show World.ownsRow _ _ _ _ _ _ _; rw [TL.out, List.length_append, LT, flat_one]; exact r1)⟩; clear r1 r2 r3))
            all_goals go_wp2_with fail
            all_goals go_roundg (sn - (k + 1))
            all_goals first
              | (case measure => omega)
              | (case rel => exact ⟨k + 1, b7, cap7, rfl, by go_num, by omega, Nat.le_refl _, (show Aside _ from Q7.out.2), (show Aside _ from Q7.out.1)⟩)
          · have ek : k = sn := by omega
            subst ek
            have TT : l.take k = l := List.take_of_length_le (by rw [SN.out]; exact Nat.le_refl _)
            have S6 : Aside (SR wr lb0 (.slice (some ⟨lb, 0, none⟩) l.length lc) l) := by
              have := SRr.out
              rw [TT] at this
              rw [SN.out]
              exact this
            have GL6 : Aside (GS wr (some ⟨lb, 0, none⟩) l) := sr_gs S6.out UL.out.ok
            have lbb : lb0 ≤ lb ∧ lb < wr.heap.size := sr_lt S6.out lb rfl
            have klc : k ≤ lc := by
              have := SRr.out
              unfold SR at this
              rw [LT] at this
              exact (own_slice this (by simp)).elim fun _ ⟨_, ev, _, h, _⟩ => by cases ev; exact h
            have obw : mb + 1 ≤ ob ∧ ob < wS.heap.size := R.out.lt ob rfl
            have lob : lb ≠ ob := by have := L0.out; omega
            have R6 : Aside (wr.ownsRow (mb + 1) 41 1 (.slice (some ⟨ob, 0, none⟩) i oc) i vals) := orow_gw R.out GT.out
            have V6 : Aside (VI wr (mb + 1) ob vals (U.take i)) := V.out.gw GT.out
            have G6 : Aside (Gw w wr) := G.out.trans GT.out
            have z6 := GT.out.size
            clear SRr R V G S6
            go_wp2_with (at_builtin; refine wpList_append_own_at _ rfl _ _ 27 rfl (mb + 1) 41 jj (.slice none 0 0) 1 24 Try.underlying27 hjj jz js jby rfl (by decide) _ i _ rfl (R6.out.alloc _) ⟨wr.heap.size, 0, none⟩ 1 1 [(.slice (some ⟨lb, 0, none⟩) k lc)] rfl rfl (new_val wr (.slice (some ⟨lb, 0, none⟩) k lc) 41) (fun u hu => by simp at hu; subst hu; rfl) (by simp only [maxLen]; omega) (by omega) (by simp; omega) ?_)
            intro v' w8 r1 r2 r3 r4
            obtain ⟨b8, cap8, rfl, hb8, _, _⟩ := own_slice r1 (by simpa using r3)
            have ob8 : b8 = ob ∨ wr.heap.size ≤ b8 := by
              rcases r4 with q | q
              · have q' : b8 = ob := by simpa [Value.ownBlock] using q
                exact .inl q'
              · have q' : b8 = wr.heap.size + 1 := by simpa [Value.ownBlock] using q
                exact .inr (by omega)
            have r2' : (wr.alloc (.cells #[(.slice (some ⟨lb, 0, none⟩) k lc)] 41)).grownBy w8 (some ob) := r2
            have V8 : Aside (VI w8 (mb + 1) b8 (vals ++ [(.slice (some ⟨lb, 0, none⟩) k lc)]) (U.take (i + 1))) := by
              have := V6.out.more r2' ob8 GL6.out (by rw [SN.out]; exact klc) lob (by have := L0.out; omega) lbb.2
              rw [SN.out] at this
              rw [TK.out]
              exact this
            have G8 : Aside (Gw w w8) := (G6.out.alloc _ _).grown r2 (fun k' hk => by have e : ob = k' := (by simpa [Value.ownBlock] using hk); have := MB.out; omega)
            have BB8 : Aside (w8.heap[mb]? = some (.cells #[.slice ao n cp, .int .i64 eps, .bool true, .slice (some ⟨ub, uf, none⟩) un uc] 25 (0, 0))) := (r2'.block mb (by simp; omega) (fun e => by cases e; omega)).trans ((heap_alloc_old wr _ mlt').trans ((GT.out.below.block mb mlt).trans BB.out))
            have R8 : Aside (w8.ownsRow (mb + 1) 41 1 (.slice (some ⟨b8, 0, none⟩) (i + 1) cap8) (i + 1) (vals ++ [(.slice (some ⟨lb, 0, none⟩) k lc)])) := r1
            clear r1 r2 r3 r4 r2' hb8 R6 V6 G6 GL6 GT
            go_wp2_with fail
            go_roundg (un - (i + 1))
            case measure => omega
            case rel => exact ⟨i + 1, b8, cap8, _, rfl, by go_num, by omega, Nat.le_refl _, BB8, R8, V8, G8⟩
      · have ei : i = un := by omega
        subst ei
        have TU : U.take i = U := List.take_of_length_le (by rw [UN.out]; exact Nat.le_refl _)
        have VV : Aside (VSf wr w.heap.size (some ⟨ob, 0, none⟩) U) := by
          have V' := V.out
          rw [TU] at V'
          refine vsf_base (b := mb + 1) ⟨fun _ => ⟨ob, 0, rfl, (R.out.lt ob rfl), fun t ht => ?_⟩⟩ (by rw [MB.out]; omega)
          obtain ⟨g', cap', v1, v2, _, v4, v5⟩ := V'.2 t ht
          refine ⟨some ⟨g', 0, none⟩, cap', ?_, v2, (fun e => by cases e), v5, fun a e => by cases e; exact v4⟩
          rw [Nat.zero_add, R.out.cellAt t (by rw [← UN.out]; omega)]
          exact v1
        have oc1 : i ≤ oc := (own_slice R.out (by simp)).elim fun _ ⟨_, ev, _, h, _⟩ => by cases ev; exact h
        have RCH : Hid (∀ W, KS W ao n f → VS W (some ⟨ob, 0, none⟩) U → Calls Try.prog 11 #[.slice ao n cp, .int .i64 eps, .slice (some ⟨ob, 0, none⟩) i oc] W fun e w' => (∃ E, e = .returned (.int .i64 E) ∧ CheckR eps f n U E) ∧ Gw W w') := fun W h hv => by
          have := RC.out (some ⟨ob, 0, none⟩) oc W h hv
          rw [UN.out] at this
          exact this
        clear RC V R
        go_wp2_with fail
        refine (RCH.out _ (HK.out.gw G.out) VV.out.vs).mono ?_
        rintro ex w9 ⟨⟨E, rfl, hE⟩, g9⟩
        have RR : Aside (MadeR eps f n true U U (E == 0)) := by
          refine ⟨fun q => ?_, fun q _ => ⟨E, by simpa using q, hE⟩, HU.out, fun _ => rfl, fun q => by cases q⟩
          have q' : E = 0 := by simpa using q
          rw [← q']; exact hE
        have V9 : Aside (VSf w9 w.heap.size (some ⟨ob, 0, none⟩) U) := VV.out.gw g9
        have G9 : Aside (Gw w w9) := G.out.trans g9
        clear hE g9 VV G RCH
        go_wp2_with fail
        exact bodyPost_ret (v := .tuple #[.slice (some ⟨ob, 0, none⟩) i oc, .bool (E == 0)]) (by simp [results, Try.results6, go_sem]) rfl ⟨⟨some ⟨ob, 0, none⟩, oc, U, _, by rw [UN.out], RR.out, V9.out, by rw [UN.out]; exact oc1⟩, G9.out⟩

end Go.Proofs.Ytapjipinceoaoaa
