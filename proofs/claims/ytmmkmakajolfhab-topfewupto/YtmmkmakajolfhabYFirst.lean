/- Package levels: firsts, needTiles. -/
import Derived.Test.YtmmkmakajolfhabYNeed
import Derived.Test.YtmmkmakajolfhabPVp
import Derived.Test.YtmmkmakajolfhabPVo
namespace Go.Proofs.Ytmmkmakajolfhab
open Go.RowKit
set_option linter.unusedVariables false
attribute [local go_sem] run_store_float

theorem made_k8 (n : Nat) (hn : n * 8 ≤ 140737488351232) (w : World) :
    (Instr.makeSlice 22 (.int .i64 (n : Int)) (.int .i64 (n : Int))).run Try.prog w = .ok (.slice (some ⟨w.heap.size, 0, none⟩) n n) (w.alloc (.cells (madeCells #[.int .u64 0] n) 31)) := by
  obtain ⟨i, hi, hz, hs, hb⟩ := info_parts info_k
  have hr := run_make (P := Try.prog) w 22 31 i _ Try.underlying22 hi hz .i64 .i64 (n : Int) (n : Int) (by omega) (Int.le_refl _) (by rw [hb]; omega) (by omega)
  rw [hr, hs]
  have e1 : ((n : Int)).toNat = n := by omega
  rw [e1, Nat.mul_one]
  rfl
theorem made_krow8 (w : World) (m : Nat) : ∃ f, (w.alloc (.cells (madeCells #[.int .u64 0] m) 31)).rowIs w.heap.size 31 m f := by
  refine ⟨fun i => (madeCells #[.int .u64 0] m)[i]!, ?_⟩
  have := World.rowIs_alloc w (madeCells #[.int .u64 0] m) 31 (fun i => (madeCells #[.int .u64 0] m)[i]!) (fun i hi => by simp [hi])
  rw [size_madeCells] at this
  exact this
theorem ks_row8 {w : World} {b n : Nat} {f : Nat → Int} (h : w.rowIs b 31 n (fun i => .int .u64 (f i))) (bd : ∀ i, i < n → 0 ≤ f i ∧ f i < 18446744073709551616) : KS w (some ⟨b, 0, none⟩) n f :=
  ⟨fun h0 => ⟨b, 0, rfl, h.lt, fun i hi => by rw [Nat.zero_add, h.cell hi]⟩, bd⟩

set_option maxHeartbeats 2000000 in
theorem firsts_any (ao : Option Addr) (c : Nat) (l : List Sg) (hl : l.length ≤ 4000000) (w : World) (h : GS w ao l) :
    Calls Try.prog 37 #[.slice ao l.length c] w fun e w' => (∃ b, e = .returned (.slice (some ⟨b, 0, none⟩) l.length l.length) ∧ w.heap.size ≤ b ∧ KS w' (some ⟨b, 0, none⟩) l.length (fst8 l)) ∧ Gw w w' := by
  have HG : Aside (GS w ao l) := h
  clear h
  obtain ⟨n, hn⟩ : ∃ n, l.length = n := ⟨_, rfl⟩
  have LN : Aside (l.length = n) := hn
  rw [hn] at hl
  rw [hn]
  clear hn
  have hmk := made_k8 n (by omega)
  obtain ⟨g, hR⟩ := made_krow8 w n
  have R3 : Aside ((w.alloc (.cells (madeCells #[.int .u64 0] n) 31)).rowIs w.heap.size 31 n g) := hR
  have G3 : Aside (Gw w (w.alloc (.cells (madeCells #[.int .u64 0] n) 31))) := (Gw.refl w).alloc _ _
  clear hR
  go_enter Try.func37, Try.ntmps37
  go_wp2_with fail
  generalize w.alloc (.cells (madeCells #[.int .u64 0] n) 31) = w3 at R3 G3 ⊢
  obtain ⟨b, hb⟩ : ∃ b, w.heap.size = b := ⟨_, rfl⟩
  have B3 : Aside (w.heap.size ≤ b) := by rw [← hb]; exact Nat.le_refl _
  rw [hb] at R3 ⊢
  clear hb
  go_loopg [11] n (fun gg s11 wr => ∃ i : Nat, s11 = .int .i64 i ∧ i ≤ n ∧ n - i ≤ gg ∧ Aside (wr.rowIs b 31 n (fun j => if j < i then .int .u64 (fst8 l j) else g j)) ∧ Aside (Gw w wr))
  case atStart => exact ⟨0, rfl, Nat.zero_le _, by omega, (show Aside _ from R3.out.congr fun j hj => by simp), G3⟩
  case round =>
    clear R3 G3
    obtain ⟨i, rfl, h1, h2, R, G⟩ := hrel
    by_cases hlt : i < n
    · obtain ⟨bk, off, rfl, hbk, hc⟩ := (HG.out.gw G.out).cells (by rw [LN.out]; omega)
      have q := hc i (by rw [LN.out]; exact hlt)
      have FI : Aside (fst8 l i = (l.getD i sg0).k) := rfl
      obtain ⟨s, hs⟩ : ∃ s, l.getD i sg0 = s := ⟨_, rfl⟩
      rw [hs] at q FI
      clear hs hc
      obtain ⟨sk, ssl, sic, sfr, ste⟩ := s
      have c0 : wr.cell? ⟨bk, off + i * 5, none⟩ = some (.int .u64 sk) := q.c0
      have c1 : wr.cell? ⟨bk, off + i * 5 + 1, none⟩ = some (.float .f64 ssl) := q.c1
      have c2 : wr.cell? ⟨bk, off + i * 5 + 2, none⟩ = some (.float .f64 sic) := q.c2
      have c3 : wr.cell? ⟨bk, off + i * 5 + 3, none⟩ = some (.int .i64 sfr) := q.c3
      have c4 : wr.cell? ⟨bk, off + i * 5 + 4, none⟩ = some (.int .i64 ste) := q.c4
      clear q
      have R5 : Aside ((wr.alloc (.cells #[.int .u64 sk, .float .f64 ssl, .float .f64 sic, .int .i64 sfr, .int .i64 ste] 38)).rowIs b 31 n (fun j => if j < i then .int .u64 (fst8 l j) else g j)) := rowIs_gb R.out ((Gw.refl wr).alloc _ _)
      have G5 : Aside (Gw w (wr.alloc (.cells #[.int .u64 sk, .float .f64 ssl, .float .f64 sic, .int .i64 sfr, .int .i64 ste] 38))) := G.out.alloc _ _
      have r0 := R5.out.cell (i := i) hlt
      have f0 := R5.out.frozen i
      clear R G
      go_wp2_with fail
      go_roundg (n - (i + 1))
      case measure => omega
      case rel => exact ⟨i + 1, by go_num, by omega, Nat.le_refl _, (show Aside _ from (R5.out.set i (.int .u64 sk)).congr fun j hj => by
          by_cases e : j = i
          · subst e; rw [if_pos rfl, if_pos (by omega), FI.out]
          · rw [if_neg e]
            by_cases q2 : j < i
            · rw [if_pos q2, if_pos (by omega)]
            · rw [if_neg q2, if_neg (by omega)]), (show Aside _ from G5.out.setCell B3.out _)⟩
    · have e : i = n := by omega
      subst e
      have K8 : Aside (KS wr (some ⟨b, 0, none⟩) i (fst8 l)) := ks_row8 (R.out.congr fun j hj => by simp [hj]) (fun j hj => fst8_ok HG.out j (by rw [LN.out]; exact hj))
      clear R
      go_wp2_with fail
      go_ret
      exact ⟨⟨b, rfl, B3.out, K8.out⟩, G.out⟩

/-- How what needs something ends. -/
def EndOf (e : Ending) (E : Int) : Prop := (E = 0 ∧ e = .returned (.tuple #[])) ∨ (E ≠ 0 ∧ e = .panicked (thrown E))
set_option maxHeartbeats 2000000 in
theorem needtiles_any (ao : Option Addr) (c : Nat) (l : List Sg) (m : Nat) (hl : l.length ≤ 4000000) (hm : m ≤ 4000000) (w : World) (h : GS w ao l) :
    Calls Try.prog 43 #[.int .i64 (m : Int), .slice ao l.length c] w fun e w' => EndOf e (if tileB m 0 l then 0 else 82) ∧ Gw w w' := by
  have HG : Aside (GS w ao l) := h
  clear h
  obtain ⟨r, hr⟩ : ∃ r, tileB m 0 l = r := ⟨_, rfl⟩
  have HR : Aside (tileC m 0 l = r) := (tileC_eq l 0).trans hr
  rw [hr]
  clear hr
  have YES : Aside (r = true → EndOf (.returned (.tuple #[])) (if r then 0 else 82)) := fun q => by rw [q]; exact .inl ⟨rfl, rfl⟩
  have NO : Aside (r = false → EndOf (.panicked (thrown 82)) (if r then 0 else 82)) := fun q => by rw [q]; exact .inr ⟨by decide, rfl⟩
  generalize (if r then (0 : Int) else 82) = E at YES NO ⊢
  have N1 : Hid _ := fun w => need_ok 82 w
  have N2 : Hid _ := fun w => need_bad 82 w
  obtain ⟨n, hn⟩ : ∃ n, l.length = n := ⟨_, rfl⟩
  have LN : Aside (l.length = n) := hn
  rw [hn] at hl
  rw [hn]
  clear hn
  go_enter Try.func43, Try.ntmps43
  go_wp2_with fail
  go_loopg [4, 9] n (fun gg s4 s9 wr => ∃ (i : Nat) (a : Int), s4 = .int .i64 a ∧ s9 = .int .i64 i ∧ i ≤ n ∧ n - i ≤ gg ∧ Aside (r = tileC m a (l.drop i)) ∧ Aside (Gw w wr))
  case atStart => exact ⟨0, 0, rfl, rfl, Nat.zero_le _, by omega, (show Aside _ from HR.out.symm), (show Aside _ from Gw.refl w)⟩
  case round =>
    obtain ⟨i, a, rfl, rfl, h1, h2, T, G⟩ := hrel
    by_cases hlt : i < n
    · obtain ⟨bk, off, rfl, hbk, hc⟩ := (HG.out.gw G.out).cells (by rw [LN.out]; omega)
      have q := hc i (by rw [LN.out]; exact hlt)
      have TT : Aside (r = tileC m a (l.getD i sg0 :: l.drop (i + 1))) := by rw [← drop_at (by rw [LN.out]; exact hlt)]; exact T.out
      obtain ⟨s, hs⟩ : ∃ s, l.getD i sg0 = s := ⟨_, rfl⟩
      rw [hs] at q TT
      clear hs hc T
      obtain ⟨sk, ssl, sic, sfr, ste⟩ := s
      have c0 : wr.cell? ⟨bk, off + i * 5, none⟩ = some (.int .u64 sk) := q.c0
      have c1 : wr.cell? ⟨bk, off + i * 5 + 1, none⟩ = some (.float .f64 ssl) := q.c1
      have c2 : wr.cell? ⟨bk, off + i * 5 + 2, none⟩ = some (.float .f64 sic) := q.c2
      have c3 : wr.cell? ⟨bk, off + i * 5 + 3, none⟩ = some (.int .i64 sfr) := q.c3
      have c4 : wr.cell? ⟨bk, off + i * 5 + 4, none⟩ = some (.int .i64 ste) := q.c4
      clear q
      have G5 : Aside (Gw w (wr.alloc (.cells #[.int .u64 sk, .float .f64 ssl, .float .f64 sic, .int .i64 sfr, .int .i64 ste] 38))) := G.out.alloc _ _
      clear G
      by_cases d1 : sfr = a
      · by_cases d2 : a < ste
        · have T5 : Aside (r = tileC m ste (l.drop (i + 1))) := by
            show r = _
            rw [TT.out, tileC_cons]
            show (decide (sfr = a) && decide (a < ste) && _) = _
            rw [decide_eq_true d1, decide_eq_true d2]; rfl
          have b1 : (sfr == a) = true := by simpa using d1
          have b2 : decide (a < ste) = true := by simpa using d2
          clear TT d1 d2
          go_wp2_with fail
          refine (N1.out _).mono ?_
          rintro e w6 ⟨rfl, rfl⟩
          go_wp2_with fail
          go_roundg (n - (i + 1))
          case measure => omega
          case rel => exact ⟨i + 1, ste, rfl, by go_num, by omega, Nat.le_refl _, T5, G5⟩
        · have rn : r = false := by
            rw [TT.out, tileC_cons]
            show (decide (sfr = a) && decide (a < ste) && _) = _
            rw [decide_eq_false d2]; simp
          have R5 := NO.out rn
          have b1 : (sfr == a) = true := by simpa using d1
          have b2 : decide (a < ste) = false := by simpa using d2
          have E5 : Aside (EndOf (.panicked (thrown 82)) E) := R5
          clear TT d1 d2 R5 rn
          go_wp2_with fail
          refine (N2.out _).mono ?_
          rintro e w6 ⟨rfl, rfl⟩
          go_wp2_with fail
          exact ⟨rfl, E5.out, G5.out⟩
      · have rn : r = false := by
          rw [TT.out, tileC_cons]
          show (decide (sfr = a) && decide (a < ste) && _) = _
          rw [decide_eq_false d1]; simp
        have E5 : Aside (EndOf (.panicked (thrown 82)) E) := NO.out rn
        have b1 : (sfr == a) = false := by simpa using d1
        clear TT d1 rn
        go_wp2_with fail
        refine (N2.out _).mono ?_
        rintro e w6 ⟨rfl, rfl⟩
        go_wp2_with fail
        exact ⟨rfl, E5.out, G5.out⟩
    · have e : i = n := by omega
      subst e
      have T' : Aside (r = decide (a = m)) := by
        show r = decide (a = m)
        rw [T.out, List.drop_eq_nil_of_le (by rw [LN.out]; exact Nat.le_refl _)]; rfl
      by_cases am : a = m
      · have tb : (a == (m : Int)) = true := by simpa using am
        have E5 : Aside (EndOf (.returned (.tuple #[])) E) := YES.out (by rw [T'.out]; simpa using am)
        clear am
        go_wp2_with fail
        refine (N1.out _).mono ?_
        rintro e w6 ⟨rfl, rfl⟩
        go_wp2_with fail
        go_end0
        exact ⟨E5.out, G.out⟩
      · have tb : (a == (m : Int)) = false := by simpa using am
        have E5 : Aside (EndOf (.panicked (thrown 82)) E) := NO.out (by rw [T'.out]; simpa using am)
        clear am
        go_wp2_with fail
        refine (N2.out _).mono ?_
        rintro e w6 ⟨rfl, rfl⟩
        go_wp2_with fail
        exact ⟨rfl, E5.out, G.out⟩

end Go.Proofs.Ytmmkmakajolfhab
