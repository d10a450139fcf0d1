/- LineMoved's walk. -/
import Derived.Test.YtncnoaofdflbmaaLC
import Derived.Test.YtncnoaofdflbmaaL5Lent
import Derived.Test.YtncnoaofdflbmaaTold
namespace Go.Proofs.Ytncnoaofdflbmaa
open Go.RowKit
set_option linter.unusedVariables false

theorem made_n (n : Nat) (hn : n * 8 ≤ 140737488351232) (w : World) :
    (Instr.makeSlice 22 (.int .i64 (n : Int)) (.int .i64 (n : Int))).run Try.prog w = .ok (.slice (some ⟨w.heap.size, 0, none⟩) n n) (w.alloc (.cells (madeCells #[.int .u64 0] n) 25)) := by
  obtain ⟨i, hi, hz, hs, hb⟩ := info_parts info_k
  have hr := run_make (P := Try.prog) w 22 25 i _ Try.underlying22 hi hz .i64 .i64 (n : Int) (n : Int) (by omega) (Int.le_refl _) (by rw [hb]; omega) (by omega)
  rw [hr, hs]
  have e1 : ((n : Int)).toNat = n := by omega
  rw [e1, Nat.mul_one]
  rfl

theorem ks_row {w : World} {b n : Nat} {f : Nat → Int} (h : w.rowIs b 25 n (fun i => .int .u64 (f i))) (bd : ∀ i, i < n → 0 ≤ f i ∧ f i < 18446744073709551616) : KS w (some ⟨b, 0, none⟩) n f :=
  ⟨fun h0 => ⟨b, 0, rfl, h.lt, fun i hi => by rw [Nat.zero_add, h.cell hi]⟩, bd⟩

set_option maxRecDepth 10000 in
set_option maxHeartbeats 4000000 in
theorem linemoved_walk (LL : LineC) (DD : DocC) (ao : Option Addr) (n cp : Nat) (f : Nat → Int) (eps by_ : Int) (p0 : -9223372036854775808 ≤ eps) (p1 : eps < 9223372036854775808) (s0 : 0 ≤ by_) (s1 : by_ < 18446744073709551616) (hn : n ≤ 1048576) (w : World) (h : KS w ao n f) :
    Calls Try.prog 7 #[.slice ao n cp, .int .i64 eps, .int .u64 by_] w fun e w' => e = .returned (.bool true) ∧ Gw w w' := by
  have HK : Aside (KS w ao n f) := h
  clear h
  have SH : Hid (∀ W, Calls Try.prog 9 #[] W fun e w' => e = .returned (.bool true) ∧ Gw W w') := fun W => xshown LL W
  have OL : Hid _ := fun W h => LL.of eps ao n cp f p0 p1 (by omega) W h
  have OD : Hid _ := fun W h => DD.of eps ao n cp f p0 p1 (by omega) W h
  have OM : Hid _ := fun b g W h => LL.of eps (some ⟨b, 0, none⟩) n n g p0 p1 (by omega) W h
  have hmk := made_n n (by omega)
  clear LL DD
  go_enter Try.func7, Try.ntmps7
  go_wp2_with fail
  refine (SH.out _).mono ?_
  rintro e w1 ⟨rfl, g1⟩
  have G1 : Aside (Gw w w1) := g1
  clear g1
  go_wp2_with fail
  refine (OL.out _ (HK.out.gw G1.out)).mono ?_
  rintro e w3 ⟨⟨x, y, z, err, rfl, hO, xb, yb, zb⟩, g3⟩
  have O3 : Aside (OfR eps f n x y z err) := hO
  have G3 : Aside (Gw w (w3.alloc (.cells #[.int .u64 x, .int .u64 y, .int .i64 z] 27))) := (G1.out.trans g3).alloc _ _
  have L3 : Aside (Ln (w3.alloc (.cells #[.int .u64 x, .int .u64 y, .int .i64 z] 27)) w3.heap.size x y z) := heap_alloc_new w3 _
  clear hO g3 G1
  go_wp2_with fail
  generalize w3.alloc (.cells #[.int .u64 x, .int .u64 y, .int .i64 z] 27) = w4 at G3 L3 ⊢
  obtain ⟨q3, hq3⟩ : ∃ q, w3.heap.size = q := ⟨_, rfl⟩
  rw [hq3] at L3 ⊢
  clear hq3
  refine (OD.out _ (HK.out.gw G3.out)).mono ?_
  rintro e w5 ⟨⟨x', y', z', err', rfl, hO, _⟩, g5⟩
  obtain ⟨⟨rfl, rfl, rfl⟩, rfl⟩ := hO.one O3.out
  have G5 : Aside (Gw w (w5.alloc (.cells #[.int .u64 x', .int .u64 y', .int .i64 z'] 27))) := (G3.out.trans g5).alloc _ _
  have L5 : Aside (Ln (w5.alloc (.cells #[.int .u64 x', .int .u64 y', .int .i64 z'] 27)) q3 x' y' z') := (L3.out.gw g5).gw ((Gw.refl _).alloc _ _)
  clear hO g5 G3 L3
  rcases O3.out.cases with ⟨k0, rfl, rfl, rfl⟩ | ⟨rfl, hT⟩
  · have t0 : (err' != 0) = true := by simpa using k0
    clear O3 k0
    go_wp2_with fail
    go_ret
    exact ⟨rfl, G5.out⟩
  · have T : Aside (Told eps f n x' y' z') := hT
    have n0 := hT.n0
    clear hT
    obtain ⟨bk, off, rfl, hbk, hc⟩ := (HK.out.gw G5.out).cells n0
    have ln := hc (n - 1) (by omega)
    obtain ⟨l0, l1⟩ := HK.out.bd (n - 1) (by omega)
    have LM : Aside (∀ i, i < n → 0 ≤ f i ∧ f i ≤ f (n - 1)) := fun i hi => ⟨(HK.out.bd i hi).1, T.out.up.le (by omega) (by omega)⟩
    obtain ⟨v, hv⟩ : ∃ v, f (n - 1) = v := ⟨_, rfl⟩
    rw [hv] at ln l0 l1 LM
    clear hv hc
    have nn : ((n : Int) - 1) = ((n - 1 : Nat) : Int) := by omega
    have wn : IntKind.i64.wrap ((n : Int) - 1) = ((n - 1 : Nat) : Int) := by rw [IntKind.wrap_i64]; omega
    have wv : IntKind.u64.wrap (18446744073709551615 - v) = 18446744073709551615 - v := by rw [IntKind.wrap_u64]; omega
    have lt1 : n - 1 < n := by omega
    have nat1 : (((n - 1 : Nat) : Int)).toNat = n - 1 := by omega
    obtain ⟨n1, hn1⟩ : ∃ n1, n - 1 = n1 := ⟨_, rfl⟩
    rw [hn1] at ln wn nn lt1 nat1
    clear nn nat1
    by_cases hz : 0 < v
    · have tz : decide (18446744073709551615 - v < 18446744073709551615) = true := by simp; omega
      have wr1 : IntKind.u64.wrap (18446744073709551615 - v + 1) = 18446744073709551616 - v := by rw [IntKind.wrap_u64]; omega
      have r0 : (18446744073709551616 - v == 0) = false := by simp; omega
      have r1 : ¬ 18446744073709551616 - v = 0 := by omega
      obtain ⟨B, hB⟩ : ∃ B, by_ % (18446744073709551616 - v) = B := ⟨_, rfl⟩
      have tB : by_.tmod (18446744073709551616 - v) = B := by rw [Int.tmod_eq_emod_of_nonneg s0]; exact hB
      have B0 : 0 ≤ B := by rw [← hB]; exact Int.emod_nonneg _ r1
      have B1 : B < 18446744073709551616 - v := by rw [← hB]; exact Int.emod_lt_of_pos _ (by omega)
      have MB : Aside (∀ i, i < n → 0 ≤ f i + B ∧ f i + B < 18446744073709551616) := fun i hi => by have := LM.out i hi; omega
      have NO : Aside (OfR eps (fun j => f j + B) n x' y' z' 0) := of_moved O3.out (fun i j _ _ => by show _ = f j + B - (f i + B); omega)
      clear hB
      go_wp2_with fail
      obtain ⟨g, hR⟩ := made_krow (w5.alloc (.cells #[.int .u64 x', .int .u64 y', .int .i64 z'] 27)) n
      have G6 : Aside (Gw w ((w5.alloc (.cells #[.int .u64 x', .int .u64 y', .int .i64 z'] 27)).alloc (.cells (madeCells #[.int .u64 0] n) 25))) := G5.out.alloc _ _
      have L6 : Aside (Ln ((w5.alloc (.cells #[.int .u64 x', .int .u64 y', .int .i64 z'] 27)).alloc (.cells (madeCells #[.int .u64 0] n) 25)) q3 x' y' z') := L5.out.gw ((Gw.refl _).alloc _ _)
      have q6 : q3 < (w5.alloc (.cells #[.int .u64 x', .int .u64 y', .int .i64 z'] 27)).heap.size := L5.out.lt
      have n6 : w.heap.size ≤ (w5.alloc (.cells #[.int .u64 x', .int .u64 y', .int .i64 z'] 27)).heap.size := G5.out.size
      generalize hW : w5.alloc (.cells #[.int .u64 x', .int .u64 y', .int .i64 z'] 27) = w6 at *
      have R6 : Aside ((w6.alloc (.cells (madeCells #[.int .u64 0] n) 25)).rowIs w6.heap.size 25 n g) := hR
      clear hR ln hbk
      (try simp only [World.size_alloc])
      (try rw [show w5.heap.size + 1 = w6.heap.size by rw [← hW]; simp])
      clear hW
      generalize w6.alloc (.cells (madeCells #[.int .u64 0] n) 25) = w7 at G6 L6 R6 ⊢
      obtain ⟨b, hb⟩ : ∃ b, w6.heap.size = b := ⟨_, rfl⟩
      rw [hb] at R6 q6 n6 ⊢
      clear hb
      have QB : Aside (q3 < b ∧ w.heap.size ≤ b) := ⟨q6, n6⟩
      clear q6 n6 G5 L5
      go_loopg [14] n (fun gg s14 wr => ∃ i : Nat, s14 = .int .i64 i ∧ i ≤ n ∧ n - i ≤ gg ∧ Aside (wr.rowIs b 25 n (fun j => if j < i then .int .u64 (f j + B) else g j)) ∧ Aside (Ln wr q3 x' y' z') ∧ Aside (Gw w wr))
      case atStart => exact ⟨0, rfl, Nat.zero_le _, by omega, (show Aside _ from R6.out.congr fun j hj => by simp), L6, G6⟩
      case round =>
        clear R6 L6 G6
        obtain ⟨i, rfl, h1, h2, R, L, G⟩ := hrel
        by_cases hlt : i < n
        · obtain ⟨bk, off, e, hbk, hc⟩ := (HK.out.gw G.out).cells n0
          cases e
          have q1 := hc i hlt
          have mb := MB.out i hlt
          obtain ⟨fi, hfi⟩ : ∃ y, f i = y := ⟨_, rfl⟩
          have FI : Aside (f i = fi) := hfi
          rw [hfi] at q1 mb
          clear hc hfi
          have wb : IntKind.u64.wrap (fi + B) = fi + B := by rw [IntKind.wrap_u64]; omega
          have r0 := R.out.cell (i := i) hlt
          have f0 := R.out.frozen i
          go_wp2_with fail
          go_roundg (n - (i + 1))
          case measure => omega
          case rel => exact ⟨i + 1, by go_num, by omega, Nat.le_refl _, (show Aside _ from (R.out.set i (.int .u64 (fi + B))).congr fun j hj => by
            by_cases e : j = i
            · subst e; rw [if_pos rfl, if_pos (by omega), FI.out]
            · rw [if_neg e]
              by_cases q2 : j < i
              · rw [if_pos q2, if_pos (by omega)]
              · rw [if_neg q2, if_neg (by omega)]), (show Aside _ from L.out.far _ (by have := QB.out.1; omega)), (show Aside _ from G.out.setCell (by have := QB.out.2; simpa using this) _)⟩
        · have e : i = n := by omega
          subst e
          have K8 : Aside (KS wr (some ⟨b, 0, none⟩) i (fun j => f j + B)) := ks_row (R.out.congr fun j hj => by simp [hj]) MB.out
          clear R
          go_wp2_with fail
          refine (OM.out b _ _ K8.out).mono ?_
          rintro e w9 ⟨⟨xx, yy, zz, er, rfl, hM, _⟩, g9⟩
          obtain ⟨⟨rfl, rfl, rfl⟩, rfl⟩ := hM.one NO.out
          have G9 : Aside (Gw w (w9.alloc (.cells #[.int .u64 xx, .int .u64 yy, .int .i64 zz] 27))) := (G.out.trans g9).alloc _ _
          have L9 : Aside (Ln (w9.alloc (.cells #[.int .u64 xx, .int .u64 yy, .int .i64 zz] 27)) q3 xx yy zz) := (L.out.gw g9).gw ((Gw.refl _).alloc _ _)
          have M9 : Aside (Ln (w9.alloc (.cells #[.int .u64 xx, .int .u64 yy, .int .i64 zz] 27)) w9.heap.size xx yy zz) := heap_alloc_new w9 _
          have a0 := L9.out.c0
          have a1 := L9.out.c1
          have a2 := L9.out.c2
          have b0 := M9.out.c0
          have b1 := M9.out.c1
          have b2 := M9.out.c2
          clear hM g9 L9 M9 L G K8
          go_wp2_with fail
          go_ret
          exact ⟨rfl, G9.out⟩
    · have ev : v = 0 := by omega
      subst ev
      obtain ⟨B, hB⟩ : ∃ B, by_ = B := ⟨_, rfl⟩
      have B0 : 0 ≤ B := by omega
      have B1 : B < 18446744073709551616 - 0 := by omega
      rw [hB] at *
      have MB : Aside (∀ i, i < n → 0 ≤ f i + B ∧ f i + B < 18446744073709551616) := fun i hi => by have := LM.out i hi; omega
      have NO : Aside (OfR eps (fun j => f j + B) n x' y' z' 0) := of_moved O3.out (fun i j _ _ => by show _ = f j + B - (f i + B); omega)
      clear hB
      go_wp2_with fail
      obtain ⟨g, hR⟩ := made_krow (w5.alloc (.cells #[.int .u64 x', .int .u64 y', .int .i64 z'] 27)) n
      have G6 : Aside (Gw w ((w5.alloc (.cells #[.int .u64 x', .int .u64 y', .int .i64 z'] 27)).alloc (.cells (madeCells #[.int .u64 0] n) 25))) := G5.out.alloc _ _
      have L6 : Aside (Ln ((w5.alloc (.cells #[.int .u64 x', .int .u64 y', .int .i64 z'] 27)).alloc (.cells (madeCells #[.int .u64 0] n) 25)) q3 x' y' z') := L5.out.gw ((Gw.refl _).alloc _ _)
      have q6 : q3 < (w5.alloc (.cells #[.int .u64 x', .int .u64 y', .int .i64 z'] 27)).heap.size := L5.out.lt
      have n6 : w.heap.size ≤ (w5.alloc (.cells #[.int .u64 x', .int .u64 y', .int .i64 z'] 27)).heap.size := G5.out.size
      generalize hW : w5.alloc (.cells #[.int .u64 x', .int .u64 y', .int .i64 z'] 27) = w6 at *
      have R6 : Aside ((w6.alloc (.cells (madeCells #[.int .u64 0] n) 25)).rowIs w6.heap.size 25 n g) := hR
      clear hR ln hbk
      (try simp only [World.size_alloc])
      (try rw [show w5.heap.size + 1 = w6.heap.size by rw [← hW]; simp])
      clear hW
      generalize w6.alloc (.cells (madeCells #[.int .u64 0] n) 25) = w7 at G6 L6 R6 ⊢
      obtain ⟨b, hb⟩ : ∃ b, w6.heap.size = b := ⟨_, rfl⟩
      rw [hb] at R6 q6 n6 ⊢
      clear hb
      have QB : Aside (q3 < b ∧ w.heap.size ≤ b) := ⟨q6, n6⟩
      clear q6 n6 G5 L5
      go_loopg [14] n (fun gg s14 wr => ∃ i : Nat, s14 = .int .i64 i ∧ i ≤ n ∧ n - i ≤ gg ∧ Aside (wr.rowIs b 25 n (fun j => if j < i then .int .u64 (f j + B) else g j)) ∧ Aside (Ln wr q3 x' y' z') ∧ Aside (Gw w wr))
      case atStart => exact ⟨0, rfl, Nat.zero_le _, by omega, (show Aside _ from R6.out.congr fun j hj => by simp), L6, G6⟩
      case round =>
        clear R6 L6 G6
        obtain ⟨i, rfl, h1, h2, R, L, G⟩ := hrel
        by_cases hlt : i < n
        · obtain ⟨bk, off, e, hbk, hc⟩ := (HK.out.gw G.out).cells n0
          cases e
          have q1 := hc i hlt
          have mb := MB.out i hlt
          obtain ⟨fi, hfi⟩ : ∃ y, f i = y := ⟨_, rfl⟩
          have FI : Aside (f i = fi) := hfi
          rw [hfi] at q1 mb
          clear hc hfi
          have wb : IntKind.u64.wrap (fi + B) = fi + B := by rw [IntKind.wrap_u64]; omega
          have r0 := R.out.cell (i := i) hlt
          have f0 := R.out.frozen i
          go_wp2_with fail
          go_roundg (n - (i + 1))
          case measure => omega
          case rel => exact ⟨i + 1, by go_num, by omega, Nat.le_refl _, (show Aside _ from (R.out.set i (.int .u64 (fi + B))).congr fun j hj => by
            by_cases e : j = i
            · subst e; rw [if_pos rfl, if_pos (by omega), FI.out]
            · rw [if_neg e]
              by_cases q2 : j < i
              · rw [if_pos q2, if_pos (by omega)]
              · rw [if_neg q2, if_neg (by omega)]), (show Aside _ from L.out.far _ (by have := QB.out.1; omega)), (show Aside _ from G.out.setCell (by have := QB.out.2; simpa using this) _)⟩
        · have e : i = n := by omega
          subst e
          have K8 : Aside (KS wr (some ⟨b, 0, none⟩) i (fun j => f j + B)) := ks_row (R.out.congr fun j hj => by simp [hj]) MB.out
          clear R
          go_wp2_with fail
          refine (OM.out b _ _ K8.out).mono ?_
          rintro e w9 ⟨⟨xx, yy, zz, er, rfl, hM, _⟩, g9⟩
          obtain ⟨⟨rfl, rfl, rfl⟩, rfl⟩ := hM.one NO.out
          have G9 : Aside (Gw w (w9.alloc (.cells #[.int .u64 xx, .int .u64 yy, .int .i64 zz] 27))) := (G.out.trans g9).alloc _ _
          have L9 : Aside (Ln (w9.alloc (.cells #[.int .u64 xx, .int .u64 yy, .int .i64 zz] 27)) q3 xx yy zz) := (L.out.gw g9).gw ((Gw.refl _).alloc _ _)
          have M9 : Aside (Ln (w9.alloc (.cells #[.int .u64 xx, .int .u64 yy, .int .i64 zz] 27)) w9.heap.size xx yy zz) := heap_alloc_new w9 _
          have a0 := L9.out.c0
          have a1 := L9.out.c1
          have a2 := L9.out.c2
          have b0 := M9.out.c0
          have b1 := M9.out.c1
          have b2 := M9.out.c2
          clear hM g9 L9 M9 L G K8
          go_wp2_with fail
          go_ret
          exact ⟨rfl, G9.out⟩
end Go.Proofs.Ytncnoaofdflbmaa
