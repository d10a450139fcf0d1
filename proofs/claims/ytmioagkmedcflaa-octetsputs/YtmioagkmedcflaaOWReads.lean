/- OctetsReads, walked. -/
import Derived.Test.YtmioagkmedcflaaOShown
namespace Go.Proofs.Ytmioagkmedcflaa
open Go.RowKit
set_option linter.unusedVariables false
attribute [local go_sem] f64from f64bits

/-- A list of calls, in memory. -/
structure OPS (w : World) (ao : Option Addr) (n : Nat) (k a : Nat → Int) (s : Nat → ByteArray) : Prop where
  cells : 0 < n → ∃ b off, ao = some ⟨b, off, none⟩ ∧ b < w.heap.size ∧ ∀ i, i < n → w.cell? ⟨b, off + i * 3, none⟩ = some (.int .i64 (k i)) ∧ w.cell? ⟨b, off + i * 3 + 1, none⟩ = some (.int .i64 (a i)) ∧ w.cell? ⟨b, off + i * 3 + 2, none⟩ = some (.string (s i))
  bd : ∀ i, i < n → (-9223372036854775808 ≤ k i ∧ k i < 9223372036854775808) ∧ -9223372036854775808 ≤ a i ∧ a i < 9223372036854775808

/-- Two readers of the program's and one of the document's, apart from one another. -/
structure Trio (T U : TypeId) (w : World) (s2 s3 s4 px pz py n : Nat) (fz : Nat → Int) (fx : Nat → Int) (mx : Nat) (fy : Nat → Int) (my : Nat) (W : World) : Prop where
  x : ∃ S, RRd T W px S fx mx ∧ ∀ q, S q → s2 ≤ q ∧ q < s3
  z : ∃ S, RRd T W pz S fz n ∧ ∀ q, S q → s3 ≤ q ∧ q < s4
  y : ∃ S, RRd U W py S fy my ∧ ∀ q, S q → s4 ≤ q
  gw : Gw w W
  lo : w.heap.size ≤ s2
  mid : s2 ≤ s3 ∧ s3 ≤ s4
section
variable {T U : TypeId} {w W : World} {s2 s3 s4 px pz py n : Nat} {fz fx fy : Nat → Int} {mx my : Nat}
theorem Trio.upx (h : Trio T U w s2 s3 s4 px pz py n fz fx mx fy my W) {W' : World} {k : Nat} {S : Nat → Prop} (hS : ∀ q, S q → s2 ≤ q ∧ q < s3) (hp : S px) (r : Rds T px S fx mx k W W') : Trio T U w s2 s3 s4 px pz py n fz (fun i => fx (k + i)) (mx - k) fy my W' := by
  obtain ⟨u, S', r1, r2⟩ := r
  obtain ⟨Sz, z1, z2⟩ := h.z
  obtain ⟨Sy, y1, y2⟩ := h.y
  have hp' := hS px hp
  have := h.mid
  exact ⟨⟨S', r1, fun q hq => hS q (r2 q hq)⟩, ⟨Sz, z1.upd u (fun c => by have := z2 _ c; omega), z2⟩, ⟨Sy, y1.upd u (fun c => by have := y2 _ c; omega), y2⟩, u.gw w (Nat.le_trans h.lo hp'.1) h.gw, h.lo, h.mid⟩
theorem Trio.upy (h : Trio T U w s2 s3 s4 px pz py n fz fx mx fy my W) {W' : World} {k : Nat} {S : Nat → Prop} (hS : ∀ q, S q → s4 ≤ q) (hp : S py) (r : Rds U py S fy my k W W') : Trio T U w s2 s3 s4 px pz py n fz fx mx (fun i => fy (k + i)) (my - k) W' := by
  obtain ⟨u, S', r1, r2⟩ := r
  obtain ⟨Sz, z1, z2⟩ := h.z
  obtain ⟨Sx, x1, x2⟩ := h.x
  have hp' := hS py hp
  have := h.mid
  have := h.lo
  exact ⟨⟨Sx, x1.upd u (fun c => by have := x2 _ c; omega), x2⟩, ⟨Sz, z1.upd u (fun c => by have := z2 _ c; omega), z2⟩, ⟨S', r1, fun q hq => hS q (r2 q hq)⟩, u.gw w (by omega) h.gw, h.lo, h.mid⟩
/-- A call of the first reader. -/
theorem Trio.onx (h : Trio T U w s2 s3 s4 px pz py n fz fx mx fy my W) {F : Nat} {args : Array Value} {E : Ending} {k : Nat} (c : ∀ S, RRd T W px S fx mx → Calls Try.prog F args W fun e w' => e = E ∧ Rds T px S fx mx k W w') :
    Calls Try.prog F args W fun e w' => e = E ∧ Trio T U w s2 s3 s4 px pz py n fz (fun i => fx (k + i)) (mx - k) fy my w' := by
  obtain ⟨S, x1, x2⟩ := h.x
  exact (c S x1).mono fun e w' ⟨e1, r⟩ => ⟨e1, h.upx x2 x1.own r⟩
/-- A call of the document's. -/
theorem Trio.ony (h : Trio T U w s2 s3 s4 px pz py n fz fx mx fy my W) {F : Nat} {args : Array Value} {E : Ending} {k : Nat} (c : ∀ S, RRd U W py S fy my → Calls Try.prog F args W fun e w' => e = E ∧ Rds U py S fy my k W w') :
    Calls Try.prog F args W fun e w' => e = E ∧ Trio T U w s2 s3 s4 px pz py n fz fx mx (fun i => fy (k + i)) (my - k) w' := by
  obtain ⟨S, y1, y2⟩ := h.y
  exact (c S y1).mono fun e w' ⟨e1, r⟩ => ⟨e1, h.upy y2 y1.own r⟩
theorem Trio.onx2 (h : Trio T U w s2 s3 s4 px pz py n fz fx mx fy my W) {F : Nat} {args : Array Value} {E : Ending} {k : Nat} (c : ∀ S, RRd T W px S fx mx → Calls Try.prog F args W fun e w' => e = E ∧ Rds T px S fx mx k W w') :
    Calls Try.prog F args W fun e w' => e = E ∧ Trio T U w s2 s3 s4 px pz py n fz (fun i => fx (k + i)) (mx - k) fy my w' ∧ ∀ q, q ≠ px → q < W.heap.size → w'.heap[q]? = W.heap[q]? := by
  obtain ⟨S, x1, x2⟩ := h.x
  exact (c S x1).mono fun e w' ⟨e1, r⟩ => ⟨e1, h.upx x2 x1.own r, r.1.blk⟩
theorem Trio.ony2 (h : Trio T U w s2 s3 s4 px pz py n fz fx mx fy my W) {F : Nat} {args : Array Value} {E : Ending} {k : Nat} (c : ∀ S, RRd U W py S fy my → Calls Try.prog F args W fun e w' => e = E ∧ Rds U py S fy my k W w') :
    Calls Try.prog F args W fun e w' => e = E ∧ Trio T U w s2 s3 s4 px pz py n fz fx mx (fun i => fy (k + i)) (my - k) w' ∧ ∀ q, q ≠ py → q < W.heap.size → w'.heap[q]? = W.heap[q]? := by
  obtain ⟨S, y1, y2⟩ := h.y
  exact (c S y1).mono fun e w' ⟨e1, r⟩ => ⟨e1, h.upy y2 y1.own r, r.1.blk⟩
theorem Trio.px_lt (h : Trio T U w s2 s3 s4 px pz py n fz fx mx fy my W) : px < W.heap.size := by
  obtain ⟨S, x1, _⟩ := h.x
  exact x1.lt _ x1.own
theorem Trio.py_lt (h : Trio T U w s2 s3 s4 px pz py n fz fx mx fy my W) : py < W.heap.size := by
  obtain ⟨S, x1, _⟩ := h.y
  exact x1.lt _ x1.own
theorem Trio.to (h : Trio T U w s2 s3 s4 px pz py n fz fx mx fy my W) {W' : World} (g : Gw W W') : Trio T U w s2 s3 s4 px pz py n fz fx mx fy my W' := by
  obtain ⟨Sx, x1, x2⟩ := h.x
  obtain ⟨Sz, z1, z2⟩ := h.z
  obtain ⟨Sy, y1, y2⟩ := h.y
  exact ⟨⟨Sx, x1.gw g, x2⟩, ⟨Sz, z1.gw g, z2⟩, ⟨Sy, y1.gw g, y2⟩, h.gw.trans g, h.lo, h.mid⟩
/-- What one call of the list lays into a box. -/
def opc (k a : Int) (s : ByteArray) (i : Nat) : Value := if i = 0 then .int .i64 k else if i = 1 then .int .i64 a else .string s
theorem opc_new (w : World) (t : TypeId) (k a : Int) (s : ByteArray) : (w.alloc (.cells #[.int .i64 k, .int .i64 a, .string s] t)).rowIs w.heap.size t 3 (opc k a s) :=
  World.rowIs_alloc w #[.int .i64 k, .int .i64 a, .string s] t (opc k a s) (fun i hi => by
    have : i = 0 ∨ i = 1 ∨ i = 2 := by simp at hi; omega
    rcases this with rfl | rfl | rfl <;> rfl)
/-- A store below the readers. -/
theorem Trio.set (h : Trio T U w s2 s3 s4 px pz py n fz fx mx fy my W) {b : Nat} (b0 : w.heap.size ≤ b) (b1 : b < s2) (i : Nat) (v : Value) : Trio T U w s2 s3 s4 px pz py n fz fx mx fy my (W.setCell ⟨b, i, none⟩ v) := by
  obtain ⟨Sx, x1, x2⟩ := h.x
  obtain ⟨Sz, z1, z2⟩ := h.z
  obtain ⟨Sy, y1, y2⟩ := h.y
  have := h.mid
  have sz : W.heap.size ≤ (W.setCell ⟨b, i, none⟩ v).heap.size := Nat.le_of_eq (by simp)
  exact ⟨⟨Sx, x1.blks sz (fun q hq => Go.Deep.blk_setCell_other _ _ _ _ (by have := x2 q hq; show q ≠ b; omega)), x2⟩, ⟨Sz, z1.blks sz (fun q hq => Go.Deep.blk_setCell_other _ _ _ _ (by have := z2 q hq; show q ≠ b; omega)), z2⟩, ⟨Sy, y1.blks sz (fun q hq => Go.Deep.blk_setCell_other _ _ _ _ (by have := y2 q hq; show q ≠ b; omega)), y2⟩, h.gw.setCell b0 v, h.lo, h.mid⟩
end

set_option maxRecDepth 10000 in
set_option maxHeartbeats 8000000 in
theorem reads10_walk (ao : Option Addr) (n c : Nat) (f : Nat → Int) (so : Option Addr) (ns sc : Nat) (kd nm : Nat → Int) (ws : Nat → ByteArray) (hn : n ≤ 140737488351232) (hz : ao = none → n = 0 ∧ c = 0) (hns : ns ≤ 140737488351232) (w : World) (h : BS w ao n f) (hs : OPS w so ns kd nm ws) :
    Calls Try.prog 4 #[.slice ao n c, .slice so ns sc] w fun e w' => e = .returned (.bool true) ∧ Gw w w' := by
  have HK : Aside (BS w ao n f) := h
  have HZ : Aside (ao = none → n = 0 ∧ c = 0) := hz
  have HS : Aside (OPS w so ns kd nm ws) := hs
  clear h hz hs
  go_enter Try.func4, Try.ntmps4
  go_wp2_with fail
  refine Calls.mono (shown10 w) ?_
  rintro e w1 ⟨rfl, g1⟩
  have G1 : Aside (Gw w w1) := g1
  clear g1
  go_wp2_with fail
  refine Calls.mono (lent10_any ao n c f hn w1 (HK.out.gw G1.out)) ?_
  rintro e w2 ⟨⟨ba, rfl, hba, Ra⟩, g2⟩
  have G2 : Aside (Gw w w2) := G1.out.trans g2
  have RA2 : Aside (w2.rowIs ba 5 (n + 9) (fun i => .int .u8 (mk10 n f i))) := Ra
  have L2 : Aside (w.heap.size ≤ ba) := Nat.le_trans G1.out.size hba
  clear hba Ra g2 G1
  go_wp2_with fail
  have BA2 : Aside (BS w2 (some ⟨ba, 0, none⟩) n f) := (bs_of_row RA2.out (by omega) (fun i hi => by unfold mk10; rw [if_pos hi]; exact HK.out.bd i hi)).congr fun i hi => by unfold mk10; rw [if_pos hi]
  refine Calls.mono (xnew_any _ n (n + 9) f (by omega) w2 BA2.out) ?_
  rintro e w3 ⟨⟨px, Sx, rfl, X3, hSx⟩, g3⟩
  have X3' : Aside (RRd 61 w3 px Sx f n ∧ (∀ q, Sx q → w2.heap.size ≤ q ∧ q < w3.heap.size) ∧ Gw w2 w3) := ⟨X3, fun q hq => ⟨hSx q hq, X3.lt q hq⟩, g3⟩
  clear X3 hSx g3
  go_wp2_with fail
  refine Calls.mono (xnew_any _ n (n + 9) f (by omega) w3 (BA2.out.gw X3'.out.2.2)) ?_
  rintro e w4 ⟨⟨pz, Sz, rfl, Z4, hSz⟩, g4⟩
  have Z4' : Aside (RRd 61 w4 pz Sz f n ∧ (∀ q, Sz q → w3.heap.size ≤ q ∧ q < w4.heap.size) ∧ Gw w3 w4) := ⟨Z4, fun q hq => ⟨hSz q hq, Z4.lt q hq⟩, g4⟩
  clear Z4 hSz g4
  go_wp2_with fail
  have G4 : Aside (Gw w w4) := G2.out.trans (X3'.out.2.2.trans Z4'.out.2.2)
  refine Calls.mono (rnew10_any ao n c f (by omega) HZ.out w4 (HK.out.gw G4.out)) ?_
  rintro e w5 ⟨⟨py, Sy, rfl, Y5, hSy⟩, g5⟩
  have TR : Aside (Trio 61 63 w w2.heap.size w3.heap.size w4.heap.size px pz py n f f n f n w5) :=
    ⟨⟨Sx, X3'.out.1.gw (Z4'.out.2.2.trans g5), X3'.out.2.1⟩, ⟨Sz, Z4'.out.1.gw g5, Z4'.out.2.1⟩, ⟨Sy, Y5, hSy⟩, G4.out.trans g5, G2.out.size, X3'.out.2.2.size, Z4'.out.2.2.size⟩
  have RA5 : Aside (w5.rowIs ba 5 (n + 9) (fun i => .int .u8 (mk10 n f i))) := rowIs_gb RA2.out (X3'.out.2.2.trans (Z4'.out.2.2.trans g5))
  have L3 : Aside (ba < w2.heap.size) := RA2.out.lt
  obtain ⟨s2, hs2⟩ : ∃ s, w2.heap.size = s := ⟨_, rfl⟩
  obtain ⟨s3, hs3⟩ : ∃ s, w3.heap.size = s := ⟨_, rfl⟩
  obtain ⟨s4, hs4⟩ : ∃ s, w4.heap.size = s := ⟨_, rfl⟩
  rw [hs2, hs3, hs4] at TR
  rw [hs2] at L3
  clear Y5 hSy g5 X3' Z4' G4 G2 RA2 BA2 hs2 hs3 hs4
  go_wp2_with fail
  go_loopg [10] n (fun gg s10 wr => ∃ (i : Nat) (g : Nat → Value), s10 = .int .i64 (i : Int) ∧ i ≤ n ∧ n - i ≤ gg ∧ Aside (wr.rowIs ba 5 (n + 9) g) ∧ Aside (Trio 61 63 w s2 s3 s4 px pz py n f f n f n wr))
  case atStart => exact ⟨0, _, rfl, Nat.zero_le _, by omega, RA5, TR⟩
  case round =>
    clear RA5 TR
    obtain ⟨i, gx, rfl, a1, a2, RA, TR⟩ := hrel
    obtain ⟨wS, hwS⟩ : ∃ wx, wx = wr := ⟨_, rfl⟩
    subst hwS
    by_cases hlt : i < n
    · have r0 := RA.out.cell (i := i) (by omega)
      have f0 := RA.out.frozen i
      have hlt' : (i : Int) < (n : Int) := by omega
      go_wp2_with fail
      go_roundg (n - (i + 1))
      case measure => omega
      case rel => exact ⟨i + 1, _, by go_num, by omega, Nat.le_refl _, (show Aside _ from RA.out.set i (.int .u8 99)), (show Aside _ from TR.out.set L2.out L3.out _ _)⟩
    · have ei : i = n := by omega
      subst ei
      clear RA
      go_wp2_with fail
      go_loopg [11] ns (fun gg s11 wr => ∃ (t m : Nat) (fx : Nat → Int), s11 = .int .i64 (t : Int) ∧ t ≤ ns ∧ ns - t ≤ gg ∧ m ≤ i ∧ Aside (Trio 61 63 w s2 s3 s4 px pz py i f fx m fx m wr))
      case atStart => exact ⟨0, i, f, rfl, Nat.zero_le _, by omega, Nat.le_refl _, TR⟩
      case round =>
        clear TR
        obtain ⟨t, m, fx, rfl, b1, b2, b3, TR⟩ := hrel
        obtain ⟨wT, hwT⟩ : ∃ wx, wx = wr := ⟨_, rfl⟩
        subst hwT
        by_cases hlt2 : t < ns
        · obtain ⟨kb, ko, rfl, hkb, hkc⟩ := HS.out.cells (by omega)
          obtain ⟨c1, c2, c3⟩ := hkc t hlt2
          have d1 := (TR.out.gw.cell _ _ hkb).trans c1
          have d2 := (TR.out.gw.cell _ _ hkb).trans c2
          have d3 := (TR.out.gw.cell _ _ hkb).trans c3
          obtain ⟨⟨k0, k1⟩, ⟨n0, n1⟩⟩ := HS.out.bd t hlt2
          have hlt' : (t : Int) < (ns : Int) := by omega
          generalize kd t = k at d1 k0 k1
          generalize nm t = nn at d2 n0 n1
          generalize ws t = s at d3
          clear c1 c2 c3 hkc
          go_wp2_with fail
          refine Calls.mono (kind10 k k0 k1 _) ?_
          rintro e wk ⟨⟨kk, hkk, rfl⟩, hw⟩
          have TK : Aside (Trio 61 63 w s2 s3 s4 px pz py i f fx m fx m wk) := by rw [hw]; exact TR.out.to ((Gw.refl wT).alloc _ _)
          have BK : Aside (wk.rowIs wT.heap.size 38 3 (opc k nn s)) := by rw [hw]; exact opc_new wT _ k nn s
          have NE : Aside (wT.heap.size ≠ px ∧ wT.heap.size ≠ py) := by
            have := TR.out.px_lt
            have := TR.out.py_lt
            exact ⟨by omega, by omega⟩
          clear hw d1 d2 d3 TR
          generalize wT.heap.size = ob at BK NE ⊢
          have cs : kk = 0 ∨ kk = 1 ∨ kk = 2 ∨ kk = 3 ∨ kk = 4 ∨ kk = 5 := by omega
          clear hkk
          rcases cs with rfl | rfl | rfl | rfl | rfl | rfl
          · obtain ⟨qa, qe, qk, hq⟩ : ∃ qa qe qk, numA fx m = (qa, qe, qk) := ⟨_, _, _, rfl⟩
            have CX : Hid (∀ W, Trio 61 63 w s2 s3 s4 px pz py i f fx m fx m W → Calls Try.prog 19 #[.pointer (some ⟨px, 0, none⟩)] W fun e w' => e = .returned (.tuple #[.int .u64 qa, .int .i64 qe]) ∧ Trio 61 63 w s2 s3 s4 px pz py i f (fun j => fx (qk + j)) (m - qk) fx m w' ∧ ∀ q, q ≠ px → q < W.heap.size → w'.heap[q]? = W.heap[q]?) := fun W h => h.onx2 (k := qk) fun S r => by
              have := octr.number (by omega) r
              rw [hq] at this
              exact this
            have CY : Hid (∀ W, Trio 61 63 w s2 s3 s4 px pz py i f (fun j => fx (qk + j)) (m - qk) fx m W → Calls Try.prog 20 #[.pointer (some ⟨py, 0, none⟩)] W fun e w' => e = .returned (.tuple #[.int .u64 qa, .int .i64 qe]) ∧ Trio 61 63 w s2 s3 s4 px pz py i f (fun j => fx (qk + j)) (m - qk) (fun j => fx (qk + j)) (m - qk) w' ∧ ∀ q, q ≠ py → q < W.heap.size → w'.heap[q]? = W.heap[q]?) := fun W h => h.ony2 (k := qk) fun S r => by
              have := docr.number (by omega) r
              rw [hq] at this
              exact this
            have hm9 : m - qk ≤ i := by omega
            have LX : Hid (∀ W, Trio 61 63 w s2 s3 s4 px pz py i f (fun j => fx (qk + j)) (m - qk) (fun j => fx (qk + j)) (m - qk) W → Calls Try.prog 30 #[.pointer (some ⟨px, 0, none⟩)] W fun e w' => e = .returned (.int .i64 (((m - qk) : Nat) : Int)) ∧ w' = W) := fun W h => by
              obtain ⟨S, x1, _⟩ := h.x
              exact octr.left x1
            have LY : Hid (∀ W, Trio 61 63 w s2 s3 s4 px pz py i f (fun j => fx (qk + j)) (m - qk) (fun j => fx (qk + j)) (m - qk) W → Calls Try.prog 31 #[.pointer (some ⟨py, 0, none⟩)] W fun e w' => e = .returned (.int .i64 (((m - qk) : Nat) : Int)) ∧ w' = W) := fun W h => by
              obtain ⟨S, x1, _⟩ := h.y
              exact docr.left x1
            have LZ : Hid (∀ W, Trio 61 63 w s2 s3 s4 px pz py i f (fun j => fx (qk + j)) (m - qk) (fun j => fx (qk + j)) (m - qk) W → Calls Try.prog 30 #[.pointer (some ⟨pz, 0, none⟩)] W fun e w' => e = .returned (.int .i64 (i : Int)) ∧ w' = W) := fun W h => by
              obtain ⟨S, x1, _⟩ := h.z
              exact octr.left x1
            clear hq
            go_wp2_with fail
            refine Calls.mono (CX.out _ TK.out) ?_
            rintro e wX ⟨rfl, tx, bk⟩
            have TX : Aside (Trio 61 63 w s2 s3 s4 px pz py i f (fun j => fx (qk + j)) (m - qk) fx m wX) := tx
            have BX : Aside (wX.rowIs ob 38 3 (opc k nn s)) := BK.out.of_block (bk ob NE.out.1 BK.out.lt)
            clear tx bk CX BK TK
            go_wp2_with fail
            refine Calls.mono (CY.out _ TX.out) ?_
            rintro e wY ⟨rfl, ty, bk⟩
            have TY : Aside (Trio 61 63 w s2 s3 s4 px pz py i f (fun j => fx (qk + j)) (m - qk) (fun j => fx (qk + j)) (m - qk) wY) := ty
            clear ty bk CY BX TX
            go_wp2_with fail
            refine Calls.mono (LX.out _ TY.out) ?_
            rintro e wl ⟨rfl, rfl⟩
            go_wp2_with fail
            refine Calls.mono (LY.out _ TY.out) ?_
            rintro e wl2 ⟨rfl, rfl⟩
            go_wp2_with fail
            refine Calls.mono (LZ.out _ TY.out) ?_
            rintro e wl3 ⟨rfl, rfl⟩
            clear LX LY LZ
            go_wp2_with fail
            go_roundg (ns - (t + 1))
            case measure => omega
            case rel => exact ⟨t + 1, _, _, by go_num, by omega, Nat.le_refl _, hm9, TY⟩
          · obtain ⟨qa, qe, qk, hq⟩ : ∃ qa qe qk, countA fx m nn = (qa, qe, qk) := ⟨_, _, _, rfl⟩
            have CX : Hid (∀ W, Trio 61 63 w s2 s3 s4 px pz py i f fx m fx m W → Calls Try.prog 21 #[.pointer (some ⟨px, 0, none⟩), .int .i64 nn] W fun e w' => e = .returned (.tuple #[.int .i64 qa, .int .i64 qe]) ∧ Trio 61 63 w s2 s3 s4 px pz py i f (fun j => fx (qk + j)) (m - qk) fx m w' ∧ ∀ q, q ≠ px → q < W.heap.size → w'.heap[q]? = W.heap[q]?) := fun W h => h.onx2 (k := qk) fun S r => by
              have := octr.count nn n0 n1 (by omega) r
              rw [hq] at this
              exact this
            have CY : Hid (∀ W, Trio 61 63 w s2 s3 s4 px pz py i f (fun j => fx (qk + j)) (m - qk) fx m W → Calls Try.prog 22 #[.pointer (some ⟨py, 0, none⟩), .int .i64 nn] W fun e w' => e = .returned (.tuple #[.int .i64 qa, .int .i64 qe]) ∧ Trio 61 63 w s2 s3 s4 px pz py i f (fun j => fx (qk + j)) (m - qk) (fun j => fx (qk + j)) (m - qk) w' ∧ ∀ q, q ≠ py → q < W.heap.size → w'.heap[q]? = W.heap[q]?) := fun W h => h.ony2 (k := qk) fun S r => by
              have := docr.count nn n0 n1 (by omega) r
              rw [hq] at this
              exact this
            have hm9 : m - qk ≤ i := by omega
            have LX : Hid (∀ W, Trio 61 63 w s2 s3 s4 px pz py i f (fun j => fx (qk + j)) (m - qk) (fun j => fx (qk + j)) (m - qk) W → Calls Try.prog 30 #[.pointer (some ⟨px, 0, none⟩)] W fun e w' => e = .returned (.int .i64 (((m - qk) : Nat) : Int)) ∧ w' = W) := fun W h => by
              obtain ⟨S, x1, _⟩ := h.x
              exact octr.left x1
            have LY : Hid (∀ W, Trio 61 63 w s2 s3 s4 px pz py i f (fun j => fx (qk + j)) (m - qk) (fun j => fx (qk + j)) (m - qk) W → Calls Try.prog 31 #[.pointer (some ⟨py, 0, none⟩)] W fun e w' => e = .returned (.int .i64 (((m - qk) : Nat) : Int)) ∧ w' = W) := fun W h => by
              obtain ⟨S, x1, _⟩ := h.y
              exact docr.left x1
            have LZ : Hid (∀ W, Trio 61 63 w s2 s3 s4 px pz py i f (fun j => fx (qk + j)) (m - qk) (fun j => fx (qk + j)) (m - qk) W → Calls Try.prog 30 #[.pointer (some ⟨pz, 0, none⟩)] W fun e w' => e = .returned (.int .i64 (i : Int)) ∧ w' = W) := fun W h => by
              obtain ⟨S, x1, _⟩ := h.z
              exact octr.left x1
            clear hq
            have o1 := BK.out.cell (i := 1) (by decide)
            simp only [opc] at o1
            go_wp2_with fail
            refine Calls.mono (CX.out _ TK.out) ?_
            rintro e wX ⟨rfl, tx, bk⟩
            have TX : Aside (Trio 61 63 w s2 s3 s4 px pz py i f (fun j => fx (qk + j)) (m - qk) fx m wX) := tx
            have BX : Aside (wX.rowIs ob 38 3 (opc k nn s)) := BK.out.of_block (bk ob NE.out.1 BK.out.lt)
            clear o1
            clear tx bk CX BK TK
            have o1 := BX.out.cell (i := 1) (by decide)
            simp only [opc] at o1
            go_wp2_with fail
            refine Calls.mono (CY.out _ TX.out) ?_
            rintro e wY ⟨rfl, ty, bk⟩
            have TY : Aside (Trio 61 63 w s2 s3 s4 px pz py i f (fun j => fx (qk + j)) (m - qk) (fun j => fx (qk + j)) (m - qk) wY) := ty
            clear ty bk CY BX TX
            go_wp2_with fail
            refine Calls.mono (LX.out _ TY.out) ?_
            rintro e wl ⟨rfl, rfl⟩
            go_wp2_with fail
            refine Calls.mono (LY.out _ TY.out) ?_
            rintro e wl2 ⟨rfl, rfl⟩
            go_wp2_with fail
            refine Calls.mono (LZ.out _ TY.out) ?_
            rintro e wl3 ⟨rfl, rfl⟩
            clear LX LY LZ
            go_wp2_with fail
            go_roundg (ns - (t + 1))
            case measure => omega
            case rel => exact ⟨t + 1, _, _, by go_num, by omega, Nat.le_refl _, hm9, TY⟩
          · obtain ⟨qa, qe, qk, hq⟩ : ∃ qa qe qk, floatA fx m = (qa, qe, qk) := ⟨_, _, _, rfl⟩
            have CX : Hid (∀ W, Trio 61 63 w s2 s3 s4 px pz py i f fx m fx m W → Calls Try.prog 23 #[.pointer (some ⟨px, 0, none⟩)] W fun e w' => e = .returned (.tuple #[.float .f64 qa.toNat, .int .i64 qe]) ∧ Trio 61 63 w s2 s3 s4 px pz py i f (fun j => fx (qk + j)) (m - qk) fx m w' ∧ ∀ q, q ≠ px → q < W.heap.size → w'.heap[q]? = W.heap[q]?) := fun W h => h.onx2 (k := qk) fun S r => by
              have := octr.float (by omega) r
              rw [hq] at this
              exact this
            have CY : Hid (∀ W, Trio 61 63 w s2 s3 s4 px pz py i f (fun j => fx (qk + j)) (m - qk) fx m W → Calls Try.prog 24 #[.pointer (some ⟨py, 0, none⟩)] W fun e w' => e = .returned (.tuple #[.float .f64 qa.toNat, .int .i64 qe]) ∧ Trio 61 63 w s2 s3 s4 px pz py i f (fun j => fx (qk + j)) (m - qk) (fun j => fx (qk + j)) (m - qk) w' ∧ ∀ q, q ≠ py → q < W.heap.size → w'.heap[q]? = W.heap[q]?) := fun W h => h.ony2 (k := qk) fun S r => by
              have := docr.float (by omega) r
              rw [hq] at this
              exact this
            have hm9 : m - qk ≤ i := by omega
            have LX : Hid (∀ W, Trio 61 63 w s2 s3 s4 px pz py i f (fun j => fx (qk + j)) (m - qk) (fun j => fx (qk + j)) (m - qk) W → Calls Try.prog 30 #[.pointer (some ⟨px, 0, none⟩)] W fun e w' => e = .returned (.int .i64 (((m - qk) : Nat) : Int)) ∧ w' = W) := fun W h => by
              obtain ⟨S, x1, _⟩ := h.x
              exact octr.left x1
            have LY : Hid (∀ W, Trio 61 63 w s2 s3 s4 px pz py i f (fun j => fx (qk + j)) (m - qk) (fun j => fx (qk + j)) (m - qk) W → Calls Try.prog 31 #[.pointer (some ⟨py, 0, none⟩)] W fun e w' => e = .returned (.int .i64 (((m - qk) : Nat) : Int)) ∧ w' = W) := fun W h => by
              obtain ⟨S, x1, _⟩ := h.y
              exact docr.left x1
            have LZ : Hid (∀ W, Trio 61 63 w s2 s3 s4 px pz py i f (fun j => fx (qk + j)) (m - qk) (fun j => fx (qk + j)) (m - qk) W → Calls Try.prog 30 #[.pointer (some ⟨pz, 0, none⟩)] W fun e w' => e = .returned (.int .i64 (i : Int)) ∧ w' = W) := fun W h => by
              obtain ⟨S, x1, _⟩ := h.z
              exact octr.left x1
            clear hq
            go_wp2_with fail
            refine Calls.mono (CX.out _ TK.out) ?_
            rintro e wX ⟨rfl, tx, bk⟩
            have TX : Aside (Trio 61 63 w s2 s3 s4 px pz py i f (fun j => fx (qk + j)) (m - qk) fx m wX) := tx
            have BX : Aside (wX.rowIs ob 38 3 (opc k nn s)) := BK.out.of_block (bk ob NE.out.1 BK.out.lt)
            clear tx bk CX BK TK
            go_wp2_with fail
            refine Calls.mono (CY.out _ TX.out) ?_
            rintro e wY ⟨rfl, ty, bk⟩
            have TY : Aside (Trio 61 63 w s2 s3 s4 px pz py i f (fun j => fx (qk + j)) (m - qk) (fun j => fx (qk + j)) (m - qk) wY) := ty
            clear ty bk CY BX TX
            go_wp2_with fail
            refine Calls.mono (LX.out _ TY.out) ?_
            rintro e wl ⟨rfl, rfl⟩
            go_wp2_with fail
            refine Calls.mono (LY.out _ TY.out) ?_
            rintro e wl2 ⟨rfl, rfl⟩
            go_wp2_with fail
            refine Calls.mono (LZ.out _ TY.out) ?_
            rintro e wl3 ⟨rfl, rfl⟩
            clear LX LY LZ
            go_wp2_with fail
            go_roundg (ns - (t + 1))
            case measure => omega
            case rel => exact ⟨t + 1, _, _, by go_num, by omega, Nat.le_refl _, hm9, TY⟩
          · obtain ⟨qa, qe, qk, hq⟩ : ∃ qa qe qk, byteA fx m (nn % 256) = (qa, qe, qk) := ⟨_, _, _, rfl⟩
            have CX : Hid (∀ W, Trio 61 63 w s2 s3 s4 px pz py i f fx m fx m W → Calls Try.prog 26 #[.pointer (some ⟨px, 0, none⟩), .int .u8 (nn % 256)] W fun e w' => e = .returned (.tuple #[.int .u8 qa, .int .i64 qe]) ∧ Trio 61 63 w s2 s3 s4 px pz py i f (fun j => fx (qk + j)) (m - qk) fx m w' ∧ ∀ q, q ≠ px → q < W.heap.size → w'.heap[q]? = W.heap[q]?) := fun W h => h.onx2 (k := qk) fun S r => by
              have := octr.byte (nn % 256) (Int.emod_nonneg _ (by decide)) (Int.emod_lt_of_pos _ (by decide)) (by omega) r
              rw [hq] at this
              exact this
            have CY : Hid (∀ W, Trio 61 63 w s2 s3 s4 px pz py i f (fun j => fx (qk + j)) (m - qk) fx m W → Calls Try.prog 27 #[.pointer (some ⟨py, 0, none⟩), .int .u8 (nn % 256)] W fun e w' => e = .returned (.tuple #[.int .u8 qa, .int .i64 qe]) ∧ Trio 61 63 w s2 s3 s4 px pz py i f (fun j => fx (qk + j)) (m - qk) (fun j => fx (qk + j)) (m - qk) w' ∧ ∀ q, q ≠ py → q < W.heap.size → w'.heap[q]? = W.heap[q]?) := fun W h => h.ony2 (k := qk) fun S r => by
              have := docr.byte (nn % 256) (Int.emod_nonneg _ (by decide)) (Int.emod_lt_of_pos _ (by decide)) (by omega) r
              rw [hq] at this
              exact this
            have hm9 : m - qk ≤ i := by omega
            have LX : Hid (∀ W, Trio 61 63 w s2 s3 s4 px pz py i f (fun j => fx (qk + j)) (m - qk) (fun j => fx (qk + j)) (m - qk) W → Calls Try.prog 30 #[.pointer (some ⟨px, 0, none⟩)] W fun e w' => e = .returned (.int .i64 (((m - qk) : Nat) : Int)) ∧ w' = W) := fun W h => by
              obtain ⟨S, x1, _⟩ := h.x
              exact octr.left x1
            have LY : Hid (∀ W, Trio 61 63 w s2 s3 s4 px pz py i f (fun j => fx (qk + j)) (m - qk) (fun j => fx (qk + j)) (m - qk) W → Calls Try.prog 31 #[.pointer (some ⟨py, 0, none⟩)] W fun e w' => e = .returned (.int .i64 (((m - qk) : Nat) : Int)) ∧ w' = W) := fun W h => by
              obtain ⟨S, x1, _⟩ := h.y
              exact docr.left x1
            have LZ : Hid (∀ W, Trio 61 63 w s2 s3 s4 px pz py i f (fun j => fx (qk + j)) (m - qk) (fun j => fx (qk + j)) (m - qk) W → Calls Try.prog 30 #[.pointer (some ⟨pz, 0, none⟩)] W fun e w' => e = .returned (.int .i64 (i : Int)) ∧ w' = W) := fun W h => by
              obtain ⟨S, x1, _⟩ := h.z
              exact octr.left x1
            clear hq
            have o1 := BK.out.cell (i := 1) (by decide)
            simp only [opc] at o1
            go_wp2_with fail
            refine Calls.mono (CX.out _ TK.out) ?_
            rintro e wX ⟨rfl, tx, bk⟩
            have TX : Aside (Trio 61 63 w s2 s3 s4 px pz py i f (fun j => fx (qk + j)) (m - qk) fx m wX) := tx
            have BX : Aside (wX.rowIs ob 38 3 (opc k nn s)) := BK.out.of_block (bk ob NE.out.1 BK.out.lt)
            clear o1
            clear tx bk CX BK TK
            have o1 := BX.out.cell (i := 1) (by decide)
            simp only [opc] at o1
            go_wp2_with fail
            refine Calls.mono (CY.out _ TX.out) ?_
            rintro e wY ⟨rfl, ty, bk⟩
            have TY : Aside (Trio 61 63 w s2 s3 s4 px pz py i f (fun j => fx (qk + j)) (m - qk) (fun j => fx (qk + j)) (m - qk) wY) := ty
            clear ty bk CY BX TX
            go_wp2_with fail
            refine Calls.mono (LX.out _ TY.out) ?_
            rintro e wl ⟨rfl, rfl⟩
            go_wp2_with fail
            refine Calls.mono (LY.out _ TY.out) ?_
            rintro e wl2 ⟨rfl, rfl⟩
            go_wp2_with fail
            refine Calls.mono (LZ.out _ TY.out) ?_
            rintro e wl3 ⟨rfl, rfl⟩
            clear LX LY LZ
            go_wp2_with fail
            go_roundg (ns - (t + 1))
            case measure => omega
            case rel => exact ⟨t + 1, _, _, by go_num, by omega, Nat.le_refl _, hm9, TY⟩
          · obtain ⟨qe, qk, hq⟩ : ∃ qe qk, wordA fx m s = (qe, qk) := ⟨_, _, rfl⟩
            have CX : Hid (∀ W, Trio 61 63 w s2 s3 s4 px pz py i f fx m fx m W → Calls Try.prog 28 #[.pointer (some ⟨px, 0, none⟩), .string s] W fun e w' => e = .returned (.int .i64 qe) ∧ Trio 61 63 w s2 s3 s4 px pz py i f (fun j => fx (qk + j)) (m - qk) fx m w' ∧ ∀ q, q ≠ px → q < W.heap.size → w'.heap[q]? = W.heap[q]?) := fun W h => h.onx2 (k := qk) fun S r => by
              have := octr.word s (by omega) r
              rw [hq] at this
              exact this
            have CY : Hid (∀ W, Trio 61 63 w s2 s3 s4 px pz py i f (fun j => fx (qk + j)) (m - qk) fx m W → Calls Try.prog 29 #[.pointer (some ⟨py, 0, none⟩), .string s] W fun e w' => e = .returned (.int .i64 qe) ∧ Trio 61 63 w s2 s3 s4 px pz py i f (fun j => fx (qk + j)) (m - qk) (fun j => fx (qk + j)) (m - qk) w' ∧ ∀ q, q ≠ py → q < W.heap.size → w'.heap[q]? = W.heap[q]?) := fun W h => h.ony2 (k := qk) fun S r => by
              have := docr.word s (by omega) r
              rw [hq] at this
              exact this
            have hm9 : m - qk ≤ i := by omega
            have LX : Hid (∀ W, Trio 61 63 w s2 s3 s4 px pz py i f (fun j => fx (qk + j)) (m - qk) (fun j => fx (qk + j)) (m - qk) W → Calls Try.prog 30 #[.pointer (some ⟨px, 0, none⟩)] W fun e w' => e = .returned (.int .i64 (((m - qk) : Nat) : Int)) ∧ w' = W) := fun W h => by
              obtain ⟨S, x1, _⟩ := h.x
              exact octr.left x1
            have LY : Hid (∀ W, Trio 61 63 w s2 s3 s4 px pz py i f (fun j => fx (qk + j)) (m - qk) (fun j => fx (qk + j)) (m - qk) W → Calls Try.prog 31 #[.pointer (some ⟨py, 0, none⟩)] W fun e w' => e = .returned (.int .i64 (((m - qk) : Nat) : Int)) ∧ w' = W) := fun W h => by
              obtain ⟨S, x1, _⟩ := h.y
              exact docr.left x1
            have LZ : Hid (∀ W, Trio 61 63 w s2 s3 s4 px pz py i f (fun j => fx (qk + j)) (m - qk) (fun j => fx (qk + j)) (m - qk) W → Calls Try.prog 30 #[.pointer (some ⟨pz, 0, none⟩)] W fun e w' => e = .returned (.int .i64 (i : Int)) ∧ w' = W) := fun W h => by
              obtain ⟨S, x1, _⟩ := h.z
              exact octr.left x1
            clear hq
            have o1 := BK.out.cell (i := 2) (by decide)
            simp only [opc] at o1
            go_wp2_with fail
            refine Calls.mono (CX.out _ TK.out) ?_
            rintro e wX ⟨rfl, tx, bk⟩
            have TX : Aside (Trio 61 63 w s2 s3 s4 px pz py i f (fun j => fx (qk + j)) (m - qk) fx m wX) := tx
            have BX : Aside (wX.rowIs ob 38 3 (opc k nn s)) := BK.out.of_block (bk ob NE.out.1 BK.out.lt)
            clear o1
            clear tx bk CX BK TK
            have o1 := BX.out.cell (i := 2) (by decide)
            simp only [opc] at o1
            go_wp2_with fail
            refine Calls.mono (CY.out _ TX.out) ?_
            rintro e wY ⟨rfl, ty, bk⟩
            have TY : Aside (Trio 61 63 w s2 s3 s4 px pz py i f (fun j => fx (qk + j)) (m - qk) (fun j => fx (qk + j)) (m - qk) wY) := ty
            clear ty bk CY BX TX
            go_wp2_with fail
            refine Calls.mono (LX.out _ TY.out) ?_
            rintro e wl ⟨rfl, rfl⟩
            go_wp2_with fail
            refine Calls.mono (LY.out _ TY.out) ?_
            rintro e wl2 ⟨rfl, rfl⟩
            go_wp2_with fail
            refine Calls.mono (LZ.out _ TY.out) ?_
            rintro e wl3 ⟨rfl, rfl⟩
            clear LX LY LZ
            go_wp2_with fail
            go_roundg (ns - (t + 1))
            case measure => omega
            case rel => exact ⟨t + 1, _, _, by go_num, by omega, Nat.le_refl _, hm9, TY⟩
          · have LX : Hid (∀ W, Trio 61 63 w s2 s3 s4 px pz py i f fx m fx m W → Calls Try.prog 30 #[.pointer (some ⟨px, 0, none⟩)] W fun e w' => e = .returned (.int .i64 ((m : Nat) : Int)) ∧ w' = W) := fun W h => by
              obtain ⟨S, x1, _⟩ := h.x
              exact octr.left x1
            have LY : Hid (∀ W, Trio 61 63 w s2 s3 s4 px pz py i f fx m fx m W → Calls Try.prog 31 #[.pointer (some ⟨py, 0, none⟩)] W fun e w' => e = .returned (.int .i64 ((m : Nat) : Int)) ∧ w' = W) := fun W h => by
              obtain ⟨S, x1, _⟩ := h.y
              exact docr.left x1
            have LZ : Hid (∀ W, Trio 61 63 w s2 s3 s4 px pz py i f fx m fx m W → Calls Try.prog 30 #[.pointer (some ⟨pz, 0, none⟩)] W fun e w' => e = .returned (.int .i64 (i : Int)) ∧ w' = W) := fun W h => by
              obtain ⟨S, x1, _⟩ := h.z
              exact octr.left x1
            have hm9 : m ≤ i := b3
            have TY := TK
            clear TK BK
            go_wp2_with fail
            refine Calls.mono (LX.out _ TY.out) ?_
            rintro e wl ⟨rfl, rfl⟩
            go_wp2_with fail
            refine Calls.mono (LY.out _ TY.out) ?_
            rintro e wl2 ⟨rfl, rfl⟩
            go_wp2_with fail
            refine Calls.mono (LZ.out _ TY.out) ?_
            rintro e wl3 ⟨rfl, rfl⟩
            clear LX LY LZ
            go_wp2_with fail
            go_roundg (ns - (t + 1))
            case measure => omega
            case rel => exact ⟨t + 1, _, _, by go_num, by omega, Nat.le_refl _, hm9, TY⟩
        · go_wp2_with fail
          go_ret
          exact ⟨rfl, TR.out.gw⟩

end Go.Proofs.Ytmioagkmedcflaa
