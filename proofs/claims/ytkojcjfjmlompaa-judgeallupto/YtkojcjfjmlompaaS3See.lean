/- Layer 23, the document's: See. -/
import Derived.Test.YtkojcjfjmlompaaS3DoA
import Derived.Deep.DeepCutAuto
namespace Go.Proofs.Ytkojcjfjmlompaa
open Go.RowKit
set_option linter.unusedVariables false

def nis (l : List Int) : List Value := l.map (Value.int .i64)
theorem nis_one (l : List Int) : ∀ u ∈ nis l, u.oneCell' = true := by
  intro u hu
  obtain ⟨x, _, rfl⟩ := List.mem_map.1 hu
  rfl
theorem info_int : (Try.prog.info? 3).map (fun i => (i.zero, i.size, i.bytes)) = some (some (.int .i64 0), 1, 8) := by kernel_rfl
/-- A row of numbers of a call's own, not nil. -/
structure NR (w : World) (base : Nat) (v : Value) (L : List Int) : Prop where
  sh : ∃ g cap, v = .slice (some ⟨g, 0, none⟩) L.length cap
  row : w.ownsRow base 3 1 v L.length (nis L)
theorem NR.gw {w w' : World} {base : Nat} {v : Value} {L : List Int} (h : NR w base v L) (g : Gw w w') : NR w' base v L :=
  ⟨h.sh, own_keep3 h.row (Nat.le_refl _) (fun q hq => g.below.block q (World.ownsRow.lt h.row q hq).2)⟩
/-- What See answers and leaves. -/
def SeeO (w w' : World) (e : Ending) (p : Nat) (S : Nat → Prop) (most : Int) (l : Ps) (L : List Int) : Prop :=
  ∃ (v : Value) (S' : Nat → Prop), e = .returned v ∧ NR w' w.heap.size v L ∧ HPl w' p S' most l ∧ Gx S w w' ∧ (∀ q, S' q → S q ∨ w.heap.size ≤ q) ∧ ∀ q, v.ownBlock = some q → ¬ S' q
theorem new_int (w : World) (k : Int) : ∀ j u, (nis [k])[j]? = some u → (w.alloc (.cells #[.int .i64 k] 3)).cell? ((⟨w.heap.size, 0, none⟩ : Addr).add j) = some u := by
  intro j u hu
  match j, hu with
  | 0, hu => simp [nis] at hu; subst hu; simp [Addr.add, go_sem]
  | j + 1, hu => simp [nis] at hu
set_option maxRecDepth 100000 in
set_option maxHeartbeats 8000000 in
theorem see23 (p : Nat) (S : Nat → Prop) (most : Int) (l : Ps) (kd x y : Int) (hx : 0 ≤ x ∧ x < 18446744073709551616) (hy : 0 ≤ y ∧ y < 18446744073709551616) (hn : l.length ≤ 3999999) (A : Aw) (ao : Option Addr) (ca : Nat) (hA : A.L.length ≤ 4000000) (w : World) (h : HPl w p S most l) (ha : PLr w ao A.L) (hs : ∀ a, ao = some a → 0 < A.L.length → ¬ S a.block) :
    Calls Try.prog 11 #[.pointer (some ⟨p, 0, none⟩), .agg #[.int .i64 kd, .int .u64 x, .int .u64 y], awV A ao ca] w fun e w' => SeeO w w' e p S most (nxtP most l kd x y) (seeP (ansP most l kd x y) A) := by
  obtain ⟨B, hB⟩ : ∃ B, ansP most l kd x y = B := ⟨_, rfl⟩
  have BL : Hid (B.L.length ≤ 4000000) := by
    show _ ≤ _
    rw [← hB]
    exact Nat.le_trans (ans_len most l kd x y) (by omega)
  rw [hB]
  have DH : Hid (∀ W, Gw w W → Calls Try.prog 18 #[.pointer (some ⟨p, 0, none⟩), .agg #[.int .i64 kd, .int .u64 x, .int .u64 y]] W fun e w' => DoO W w' e p (fun q => S q ∧ q < w.heap.size) most (nxtP most l kd x y) B) := fun W g => by
    have := do23 p (fun q => S q ∧ q < w.heap.size) most l kd x y hx hy (by omega) W (h.trim.gw g)
    rw [hB] at this
    exact this
  have PA : Hid (PLr w ao A.L) := ha
  have SA : Hid (∀ a, ao = some a → 0 < A.L.length → ¬ S a.block) := hs
  obtain ⟨l', hl'⟩ : ∃ l', nxtP most l kd x y = l' := ⟨_, rfl⟩
  rw [hl'] at DH ⊢
  obtain ⟨ii, hii, hz, hsz, hby⟩ := info_parts info_int
  obtain ⟨b0, hb0⟩ : ∃ b0, w.heap.size = b0 := ⟨_, rfl⟩
  have W0 : Hid (w.heap.size = b0) := hb0
  have SAM : Hid (∀ (W : World) (bo : Option Addr) (cb : Nat), PLr W ao A.L → PLr W bo B.L → Calls Try.prog 22 #[.slice ao A.L.length ca, .slice bo B.L.length cb] W fun e w' => ∃ bb : Bool, e = .returned (.bool bb) ∧ (bb = true ↔ A.L = B.L) ∧ Gw W w') := fun W bo cb h1 h2 => (rsame23 ao bo ca cb A.L B.L hA BL.out W h1 h2).mono (fun e w' z => ⟨_, z.1, decide_eq_true_iff, z.2⟩)
  clear hn hx hy hB hl' h ha hs hb0
  obtain ⟨c, is, k, v, n, L⟩ := A
  dsimp only [awV] at *
  obtain ⟨m, hm⟩ : ∃ m, L.length = m := ⟨_, rfl⟩
  have ML : Hid (L.length = m) := hm
  rw [hm] at hA SAM ⊢
  clear hm
  go_enter Try.func11, Try.ntmps11
  go_wp2_with fail
  rw [W0.out]
  have GB : Hid (Gw w ((w.alloc (.cells #[.int .i64 kd, .int .u64 x, .int .u64 y] 33)).alloc (.cells #[.int .i64 c, .bool is, .int .u64 k, .int .u64 v, .int .i64 n, .slice ao m ca] 36))) := ((Gw.refl w).alloc _ _).alloc _ _
  refine (DH.out _ GB.out).mono ?_
  rintro e w2 ⟨bo, cb, S', rfl, HP, GX, SS, PB, BS, _⟩
  have zA : ((w.alloc (.cells #[.int .i64 kd, .int .u64 x, .int .u64 y] 33)).alloc (.cells #[.int .i64 c, .bool is, .int .u64 k, .int .u64 v, .int .i64 n, .slice ao m ca] 36)).heap.size = b0 + 2 := by have := W0.out; simp; omega
  have n1 : ∀ q, b0 ≤ q → ¬ (S q ∧ q < w.heap.size) := fun q hq k => by have := W0.out; omega
  have X1 : w2.heap[b0 + 1]? = some (.cells #[.int .i64 c, .bool is, .int .u64 k, .int .u64 v, .int .i64 n, .slice ao m ca] 36 (0, 0)) := (GX.block _ (by omega) (n1 _ (by omega))).trans (by have := heap_alloc_new (w.alloc (.cells #[.int .i64 kd, .int .u64 x, .int .u64 y] 33)) (.cells #[.int .i64 c, .bool is, .int .u64 k, .int .u64 v, .int .i64 n, .slice ao m ca] 36); have z : (w.alloc (.cells #[.int .i64 kd, .int .u64 x, .int .u64 y] 33)).heap.size = b0 + 1 := (by have := W0.out; simp; omega); rw [z] at this; exact this)
  have PA2 : PLr w2 ao L := PA.out.keep (Nat.le_trans GB.out.size GX.size) (fun a e h0 => by
    obtain ⟨b, off, e', hb, _⟩ := PA.out.cells h0
    rw [e] at e'
    cases e'
    exact (GX.block b (Nat.lt_of_lt_of_le hb GB.out.size) (fun q => SA.out _ e h0 q.1)).trans (GB.out.below.block b hb))
  have G2 : Hid (HPl w2 p S' most l' ∧ Gx S w w2 ∧ (∀ q, S' q → S q ∧ q < b0 ∨ b0 + 2 ≤ q) ∧ (∀ a, bo = some a → ¬ S' a.block) ∧ PLr w2 bo B.L ∧ PLr w2 ao L ∧ w2.heap[b0 + 1]? = some (.cells #[.int .i64 c, .bool is, .int .u64 k, .int .u64 v, .int .i64 n, .slice ao m ca] 36 (0, 0))) := ⟨HP, (GB.out.gx S).trans GX (fun q hq => .inl hq.1), fun q hq => (SS q hq).imp (fun k => ⟨k.1, by have := W0.out; have := k.2; omega⟩) (fun k => by omega), (fun a e => (BS a e).1), PB, PA2, X1⟩
  clear HP GX SS PB BS zA n1 X1 PA2 GB DH PA SA
  obtain ⟨C, iS, K, V, N, M⟩ := B
  dsimp only [awV] at *
  obtain ⟨mb, hmb⟩ : ∃ mb, M.length = mb := ⟨_, rfl⟩
  have MB : Hid (M.length = mb) := hmb
  rw [hmb] at SAM ⊢
  clear hmb
  obtain ⟨w3, hw3⟩ : ∃ w3, w2.alloc (.cells #[.int .i64 C, .bool iS, .int .u64 K, .int .u64 V, .int .i64 N, .slice bo mb cb] 36) = w3 := ⟨_, rfl⟩
  have Z2 : Hid (b0 + 2 ≤ w2.heap.size ∧ w3.heap.size = w2.heap.size + 1) := ⟨by have := blkl G2.out.2.2.2.2.2.2; have := G2.out.2.1.size; have := W0.out; omega, by rw [← hw3]; simp⟩
  have G3 : Hid (Gw w2 w3) := by rw [← hw3]; exact (Gw.refl _).alloc _ _
  obtain ⟨b2, hb2⟩ : ∃ b2, w2.heap.size = b2 := ⟨_, rfl⟩
  have B2 : Hid (w2.heap.size = b2) := hb2
  have X3 : Hid (w3.heap[b2]? = some (.cells #[.int .i64 C, .bool iS, .int .u64 K, .int .u64 V, .int .i64 N, .slice bo mb cb] 36 (0, 0)) ∧ w3.heap[b0 + 1]? = some (.cells #[.int .i64 c, .bool is, .int .u64 k, .int .u64 v, .int .i64 n, .slice ao m ca] 36 (0, 0))) := by
    refine ⟨?_, (G3.out.below.block _ (blkl G2.out.2.2.2.2.2.2)).trans G2.out.2.2.2.2.2.2⟩
    rw [← hw3, ← hb2]
    exact heap_alloc_new w2 _
  have cl : ∀ W : World, Gw w3 W → (W.cell? ⟨b0 + 1, 0, none⟩ = some (.int .i64 c) ∧ W.cell? ⟨b0 + 1, 1, none⟩ = some (.bool is) ∧ W.cell? ⟨b0 + 1, 2, none⟩ = some (.int .u64 k) ∧ W.cell? ⟨b0 + 1, 3, none⟩ = some (.int .u64 v) ∧ W.cell? ⟨b0 + 1, 4, none⟩ = some (.int .i64 n) ∧ W.cell? ⟨b0 + 1, 5, none⟩ = some (.slice ao m ca)) ∧ W.cell? ⟨b2, 0, none⟩ = some (.int .i64 C) ∧ W.cell? ⟨b2, 1, none⟩ = some (.bool iS) ∧ W.cell? ⟨b2, 2, none⟩ = some (.int .u64 K) ∧ W.cell? ⟨b2, 3, none⟩ = some (.int .u64 V) ∧ W.cell? ⟨b2, 4, none⟩ = some (.int .i64 N) ∧ W.cell? ⟨b2, 5, none⟩ = some (.slice bo mb cb) := fun W g => by
    have e1 := (g.below.block _ (blkl X3.out.1)).trans X3.out.1
    have e2 := (g.below.block _ (blkl X3.out.2)).trans X3.out.2
    exact ⟨⟨blkc e2 rfl, blkc e2 rfl, blkc e2 rfl, blkc e2 rfl, blkc e2 rfl, blkc e2 rfl⟩, blkc e1 rfl, blkc e1 rfl, blkc e1 rfl, blkc e1 rfl, blkc e1 rfl, blkc e1 rfl⟩
  have CL : Hid _ := cl
  clear cl
  have zz : w3.heap.size = b2 + 1 := by have := Z2.out.2; rw [hb2] at this; exact this
  have N0 : Hid (NR (w3.alloc (.cells #[] 3)) (b2 + 1) (.slice (some ⟨b2 + 1, 0, none⟩) 0 0) []) := ⟨⟨_, _, rfl⟩, by have := World.ownsRow_made (base := b2 + 1) (e := 3) (size := 1) w3 #[] 0 (by omega) (Nat.zero_le _) rfl; rw [zz] at this; exact this⟩
  have G4 : Hid (Gw w3 (w3.alloc (.cells #[] 3))) := (Gw.refl _).alloc _ _
  have ZZ : Hid (w3.heap.size = b2 + 1) := zz
  go_upto_region 2 with fail
  go_cut [8] (fun s8 wx => ∃ (g m8 cap : Nat) (Lp : List Int), s8 = .slice (some ⟨g, 0, none⟩) m8 cap ∧ m8 ≤ 0 ∧ Hid (Lp.length = m8 ∧ Lp = ([] : List Int)) ∧ Hid (NR wx (b2 + 1) (.slice (some ⟨g, 0, none⟩) m8 cap) Lp) ∧ Hid (Gw w3 wx))
  case first =>
    go_wp2_with fail
    go_meet
    exact ⟨_, _, _, [], rfl, Nat.le_refl _, ⟨rfl, rfl⟩, N0, G4⟩
  case rest =>
    clear zz N0 G4
    obtain ⟨g, m8, cap, Lp, rfl, h8, LPH, NRC, GC⟩ := hcut
    have OW : Hid (∀ o, ((wc).alloc (.cells o 3)).ownsRow (b2 + 1) 3 1 (.slice (some ⟨g, 0, none⟩) m8 cap) m8 (nis Lp)) := fun o => by have := (NRC.out.gw ((Gw.refl (wc)).alloc o 3)).row; rw [LPH.out.1] at this; exact this
    obtain ⟨⟨d0, _⟩, e0, _⟩ := CL.out _ GC.out
    go_upto_if 17 with fail
    go_cut [8] (fun s8 wx => ∃ (g m8 cap : Nat) (Lp : List Int), s8 = .slice (some ⟨g, 0, none⟩) m8 cap ∧ m8 ≤ 1 ∧ Hid (Lp.length = m8 ∧ Lp = (([] : List Int) ++ (if c = C then [] else [1]))) ∧ Hid (NR wx (b2 + 1) (.slice (some ⟨g, 0, none⟩) m8 cap) Lp) ∧ Hid (Gw w3 wx))
    case first =>
      by_cases q : c = C
      · have EQ : Hid (c = C) := q
        have q' : (c != C) = false := by simpa using q
        have q2 : (c == C) = true := by simpa using q
        clear q
        go_wp2_with fail
        go_meet
        exact ⟨g, m8, cap, Lp, rfl, by omega, ⟨LPH.out.1, by rw [LPH.out.2, if_pos EQ.out, List.append_nil]⟩, NRC, GC⟩
      · have NE : Hid (¬ (c = C)) := q
        have q' : (c != C) = true := by simpa using q
        have q2 : (c == C) = false := by simpa using q
        clear q
        go_wp2_with (at_builtin; refine app3_w _ rfl _ _ 39 rfl (b2 + 1) 3 ii _ 1 8 Try.underlying39 hii hz hsz hby rfl (by decide) g m8 cap (nis Lp) rfl (OW.out _) (some ⟨wc.heap.size, 0, none⟩) 1 1 (nis [1]) rfl (fun e => by cases e) rfl (fun ad e => by cases e; exact new_int wc 1) (nis_one _) (by simp only [maxLen]; omega) (by omega) (by have := GC.out.size; have := ZZ.out; simp; omega) ?_; intro g9 cap9 w9 r1 r2 r3; have N9 : Hid (NR w9 (b2 + 1) (.slice (some ⟨g9, 0, none⟩) (m8 + 1) cap9) (Lp ++ [1])) := ⟨⟨_, _, by rw [List.length_append, LPH.out.1]; rfl⟩, by rw [List.length_append, LPH.out.1, nis, List.map_append]; exact r1⟩; have G9 : Hid (Gw w3 w9) := (GC.out.alloc _ _).grown r2 (fun q hq => by have := (World.ownsRow.lt (OW.out #[]) q hq).1; have := ZZ.out; omega); clear r1 r2 r3)
        go_meet
        exact ⟨g9, m8 + 1, cap9, Lp ++ [1], rfl, by omega, ⟨by rw [List.length_append, LPH.out.1]; rfl, by rw [LPH.out.2, if_neg NE.out]⟩, N9, G9⟩
    case rest =>
      obtain ⟨g, m8, cap, Lp, rfl, h8, LPH, NRC, GC⟩ := hcut
      have OW : Hid (∀ o, ((wc).alloc (.cells o 3)).ownsRow (b2 + 1) 3 1 (.slice (some ⟨g, 0, none⟩) m8 cap) m8 (nis Lp)) := fun o => by have := (NRC.out.gw ((Gw.refl (wc)).alloc o 3)).row; rw [LPH.out.1] at this; exact this
      obtain ⟨⟨_, d0, _⟩, _, e0, _⟩ := CL.out _ GC.out
      obtain ⟨bb, hbb⟩ : ∃ bb, (is == iS) = bb := ⟨_, rfl⟩
      have HB : Hid (bb = true ↔ is = iS) := by rw [← hbb]; exact beq_iff_eq
      go_upto_if 25 with fail
      clear hbb
      go_cut [8] (fun s8 wx => ∃ (g m8 cap : Nat) (Lp : List Int), s8 = .slice (some ⟨g, 0, none⟩) m8 cap ∧ m8 ≤ 2 ∧ Hid (Lp.length = m8 ∧ Lp = ((([] : List Int) ++ (if c = C then [] else [1])) ++ (if is = iS then [] else [2]))) ∧ Hid (NR wx (b2 + 1) (.slice (some ⟨g, 0, none⟩) m8 cap) Lp) ∧ Hid (Gw w3 wx))
      case first =>
        cases bb
        · have NE : Hid (¬ (is = iS)) := fun z => Bool.noConfusion (HB.out.2 z)
          clear HB
          go_wp2_with (at_builtin; refine app3_w _ rfl _ _ 39 rfl (b2 + 1) 3 ii _ 1 8 Try.underlying39 hii hz hsz hby rfl (by decide) g m8 cap (nis Lp) rfl (OW.out _) (some ⟨wc.heap.size, 0, none⟩) 1 1 (nis [2]) rfl (fun e => by cases e) rfl (fun ad e => by cases e; exact new_int wc 2) (nis_one _) (by simp only [maxLen]; omega) (by omega) (by have := GC.out.size; have := ZZ.out; simp; omega) ?_; intro g9 cap9 w9 r1 r2 r3; have N9 : Hid (NR w9 (b2 + 1) (.slice (some ⟨g9, 0, none⟩) (m8 + 1) cap9) (Lp ++ [2])) := ⟨⟨_, _, by rw [List.length_append, LPH.out.1]; rfl⟩, by rw [List.length_append, LPH.out.1, nis, List.map_append]; exact r1⟩; have G9 : Hid (Gw w3 w9) := (GC.out.alloc _ _).grown r2 (fun q hq => by have := (World.ownsRow.lt (OW.out #[]) q hq).1; have := ZZ.out; omega); clear r1 r2 r3)
          go_meet
          exact ⟨g9, m8 + 1, cap9, Lp ++ [2], rfl, by omega, ⟨by rw [List.length_append, LPH.out.1]; rfl, by rw [LPH.out.2, if_neg NE.out]⟩, N9, G9⟩
        · have EQ : Hid (is = iS) := HB.out.1 rfl
          clear HB
          go_wp2_with fail
          go_meet
          exact ⟨g, m8, cap, Lp, rfl, by omega, ⟨LPH.out.1, by rw [LPH.out.2, if_pos EQ.out, List.append_nil]⟩, NRC, GC⟩
      case rest =>
        obtain ⟨g, m8, cap, Lp, rfl, h8, LPH, NRC, GC⟩ := hcut
        have OW : Hid (∀ o, ((wc).alloc (.cells o 3)).ownsRow (b2 + 1) 3 1 (.slice (some ⟨g, 0, none⟩) m8 cap) m8 (nis Lp)) := fun o => by have := (NRC.out.gw ((Gw.refl (wc)).alloc o 3)).row; rw [LPH.out.1] at this; exact this
        obtain ⟨⟨_, _, d0, d1, _⟩, _, _, e0, e1, _⟩ := CL.out _ GC.out
        go_upto_region 7 with fail
        go_cut [8, 40] (fun s8 s40 wx => s8 = .slice (some ⟨g, 0, none⟩) m8 cap ∧ (∃ bb : Bool, s40 = .bool (!bb) ∧ Hid (bb = true ↔ k = K ∧ v = V) ∧ wx = wc))
        case first =>
          by_cases qk : k = K
          · have t1 : (k != K) = false := by simpa using qk
            by_cases qv : v = V
            · have t2 : (v != V) = false := by simpa using qv
              have dd : Hid (k = K ∧ v = V) := ⟨qk, qv⟩
              clear qk qv
              go_wp2_with fail
              go_meet
              exact ⟨rfl, true, rfl, ⟨fun _ => dd.out, fun _ => rfl⟩, rfl⟩
            · have t2 : (v != V) = true := by simpa using qv
              have dd : Hid (¬ (k = K ∧ v = V)) := fun z => qv z.2
              clear qk qv
              go_wp2_with fail
              go_meet
              exact ⟨rfl, false, rfl, ⟨(fun z => by cases z), fun z => absurd z dd.out⟩, rfl⟩
          · have t1 : (k != K) = true := by simpa using qk
            have dd : Hid (¬ (k = K ∧ v = V)) := fun z => qk z.1
            clear qk
            go_wp2_with fail
            go_meet
            exact ⟨rfl, false, rfl, ⟨(fun z => by cases z), fun z => absurd z dd.out⟩, rfl⟩
        case rest =>
          obtain ⟨rfl, bb, rfl, HB, rfl⟩ := hcut
          go_upto_if 40 with fail
          skip
          go_cut [8] (fun s8 wx => ∃ (g m8 cap : Nat) (Lp : List Int), s8 = .slice (some ⟨g, 0, none⟩) m8 cap ∧ m8 ≤ 3 ∧ Hid (Lp.length = m8 ∧ Lp = (((([] : List Int) ++ (if c = C then [] else [1])) ++ (if is = iS then [] else [2])) ++ (if k = K ∧ v = V then [] else [3]))) ∧ Hid (NR wx (b2 + 1) (.slice (some ⟨g, 0, none⟩) m8 cap) Lp) ∧ Hid (Gw w3 wx))
          case first =>
            cases bb
            · have NE : Hid (¬ (k = K ∧ v = V)) := fun z => Bool.noConfusion (HB.out.2 z)
              clear HB
              go_wp2_with (at_builtin; refine app3_w _ rfl _ _ 39 rfl (b2 + 1) 3 ii _ 1 8 Try.underlying39 hii hz hsz hby rfl (by decide) g m8 cap (nis Lp) rfl (OW.out _) (some ⟨wc.heap.size, 0, none⟩) 1 1 (nis [3]) rfl (fun e => by cases e) rfl (fun ad e => by cases e; exact new_int wc 3) (nis_one _) (by simp only [maxLen]; omega) (by omega) (by have := GC.out.size; have := ZZ.out; simp; omega) ?_; intro g9 cap9 w9 r1 r2 r3; have N9 : Hid (NR w9 (b2 + 1) (.slice (some ⟨g9, 0, none⟩) (m8 + 1) cap9) (Lp ++ [3])) := ⟨⟨_, _, by rw [List.length_append, LPH.out.1]; rfl⟩, by rw [List.length_append, LPH.out.1, nis, List.map_append]; exact r1⟩; have G9 : Hid (Gw w3 w9) := (GC.out.alloc _ _).grown r2 (fun q hq => by have := (World.ownsRow.lt (OW.out #[]) q hq).1; have := ZZ.out; omega); clear r1 r2 r3)
              go_meet
              exact ⟨g9, m8 + 1, cap9, Lp ++ [3], rfl, by omega, ⟨by rw [List.length_append, LPH.out.1]; rfl, by rw [LPH.out.2, if_neg NE.out]⟩, N9, G9⟩
            · have EQ : Hid (k = K ∧ v = V) := HB.out.1 rfl
              clear HB
              go_wp2_with fail
              go_meet
              exact ⟨g, m8, cap, Lp, rfl, by omega, ⟨LPH.out.1, by rw [LPH.out.2, if_pos EQ.out, List.append_nil]⟩, NRC, GC⟩
          case rest =>
            obtain ⟨g, m8, cap, Lp, rfl, h8, LPH, NRC, GC⟩ := hcut
            have OW : Hid (∀ o, ((wc).alloc (.cells o 3)).ownsRow (b2 + 1) 3 1 (.slice (some ⟨g, 0, none⟩) m8 cap) m8 (nis Lp)) := fun o => by have := (NRC.out.gw ((Gw.refl (wc)).alloc o 3)).row; rw [LPH.out.1] at this; exact this
            obtain ⟨⟨_, _, _, _, d0, _⟩, _, _, _, _, e0, _⟩ := CL.out _ GC.out
            go_upto_if 48 with fail
            go_cut [8] (fun s8 wx => ∃ (g m8 cap : Nat) (Lp : List Int), s8 = .slice (some ⟨g, 0, none⟩) m8 cap ∧ m8 ≤ 4 ∧ Hid (Lp.length = m8 ∧ Lp = ((((([] : List Int) ++ (if c = C then [] else [1])) ++ (if is = iS then [] else [2])) ++ (if k = K ∧ v = V then [] else [3])) ++ (if n = N then [] else [4]))) ∧ Hid (NR wx (b2 + 1) (.slice (some ⟨g, 0, none⟩) m8 cap) Lp) ∧ Hid (Gw w3 wx))
            case first =>
              by_cases q : n = N
              · have EQ : Hid (n = N) := q
                have q' : (n != N) = false := by simpa using q
                have q2 : (n == N) = true := by simpa using q
                clear q
                go_wp2_with fail
                go_meet
                exact ⟨g, m8, cap, Lp, rfl, by omega, ⟨LPH.out.1, by rw [LPH.out.2, if_pos EQ.out, List.append_nil]⟩, NRC, GC⟩
              · have NE : Hid (¬ (n = N)) := q
                have q' : (n != N) = true := by simpa using q
                have q2 : (n == N) = false := by simpa using q
                clear q
                go_wp2_with (at_builtin; refine app3_w _ rfl _ _ 39 rfl (b2 + 1) 3 ii _ 1 8 Try.underlying39 hii hz hsz hby rfl (by decide) g m8 cap (nis Lp) rfl (OW.out _) (some ⟨wc.heap.size, 0, none⟩) 1 1 (nis [4]) rfl (fun e => by cases e) rfl (fun ad e => by cases e; exact new_int wc 4) (nis_one _) (by simp only [maxLen]; omega) (by omega) (by have := GC.out.size; have := ZZ.out; simp; omega) ?_; intro g9 cap9 w9 r1 r2 r3; have N9 : Hid (NR w9 (b2 + 1) (.slice (some ⟨g9, 0, none⟩) (m8 + 1) cap9) (Lp ++ [4])) := ⟨⟨_, _, by rw [List.length_append, LPH.out.1]; rfl⟩, by rw [List.length_append, LPH.out.1, nis, List.map_append]; exact r1⟩; have G9 : Hid (Gw w3 w9) := (GC.out.alloc _ _).grown r2 (fun q hq => by have := (World.ownsRow.lt (OW.out #[]) q hq).1; have := ZZ.out; omega); clear r1 r2 r3)
                go_meet
                exact ⟨g9, m8 + 1, cap9, Lp ++ [4], rfl, by omega, ⟨by rw [List.length_append, LPH.out.1]; rfl, by rw [LPH.out.2, if_neg NE.out]⟩, N9, G9⟩
            case rest =>
              obtain ⟨g, m8, cap, Lp, rfl, h8, LPH, NRC, GC⟩ := hcut
              have OW : Hid (∀ o, ((wc).alloc (.cells o 3)).ownsRow (b2 + 1) 3 1 (.slice (some ⟨g, 0, none⟩) m8 cap) m8 (nis Lp)) := fun o => by have := (NRC.out.gw ((Gw.refl (wc)).alloc o 3)).row; rw [LPH.out.1] at this; exact this
              obtain ⟨⟨_, _, _, _, _, d0⟩, _, _, _, _, _, e0⟩ := CL.out _ GC.out
              go_wp2_with fail
              have PAw := G2.out.2.2.2.2.2.1.gw (G3.out.trans GC.out)
              have PBw := G2.out.2.2.2.2.1.gw (G3.out.trans GC.out)
              refine (SAM.out _ bo cb PAw PBw).mono ?_
              rintro e wd ⟨bb, rfl, hb, gd⟩
              have HB : Hid (bb = true ↔ L = M) := hb
              clear hb
              have GD : Hid (Gw w3 wd) := GC.out.trans gd
              have NRD : Hid (NR wd (b2 + 1) (.slice (some ⟨g, 0, none⟩) m8 cap) Lp) := NRC.out.gw gd
              clear PAw PBw gd d0 e0 NRC GC OW
              have OW : Hid (∀ o, ((wd).alloc (.cells o 3)).ownsRow (b2 + 1) 3 1 (.slice (some ⟨g, 0, none⟩) m8 cap) m8 (nis Lp)) := fun o => by have := (NRD.out.gw ((Gw.refl (wd)).alloc o 3)).row; rw [LPH.out.1] at this; exact this
              dsimp only
              go_upto_if 57 with fail
              skip
              go_cut [8] (fun s8 wx => ∃ (g m8 cap : Nat) (Lp : List Int), s8 = .slice (some ⟨g, 0, none⟩) m8 cap ∧ m8 ≤ 5 ∧ Hid (Lp.length = m8 ∧ Lp = (((((([] : List Int) ++ (if c = C then [] else [1])) ++ (if is = iS then [] else [2])) ++ (if k = K ∧ v = V then [] else [3])) ++ (if n = N then [] else [4])) ++ (if L = M then [] else [5]))) ∧ Hid (NR wx (b2 + 1) (.slice (some ⟨g, 0, none⟩) m8 cap) Lp) ∧ Hid (Gw w3 wx))
              case first =>
                cases bb
                · have NE : Hid (¬ (L = M)) := fun z => Bool.noConfusion (HB.out.2 z)
                  clear HB
                  go_wp2_with (at_builtin; refine app3_w _ rfl _ _ 39 rfl (b2 + 1) 3 ii _ 1 8 Try.underlying39 hii hz hsz hby rfl (by decide) g m8 cap (nis Lp) rfl (OW.out _) (some ⟨wd.heap.size, 0, none⟩) 1 1 (nis [5]) rfl (fun e => by cases e) rfl (fun ad e => by cases e; exact new_int wd 5) (nis_one _) (by simp only [maxLen]; omega) (by omega) (by have := GD.out.size; have := ZZ.out; simp; omega) ?_; intro g9 cap9 w9 r1 r2 r3; have N9 : Hid (NR w9 (b2 + 1) (.slice (some ⟨g9, 0, none⟩) (m8 + 1) cap9) (Lp ++ [5])) := ⟨⟨_, _, by rw [List.length_append, LPH.out.1]; rfl⟩, by rw [List.length_append, LPH.out.1, nis, List.map_append]; exact r1⟩; have G9 : Hid (Gw w3 w9) := (GD.out.alloc _ _).grown r2 (fun q hq => by have := (World.ownsRow.lt (OW.out #[]) q hq).1; have := ZZ.out; omega); clear r1 r2 r3)
                  go_meet
                  exact ⟨g9, m8 + 1, cap9, Lp ++ [5], rfl, by omega, ⟨by rw [List.length_append, LPH.out.1]; rfl, by rw [LPH.out.2, if_neg NE.out]⟩, N9, G9⟩
                · have EQ : Hid (L = M) := HB.out.1 rfl
                  clear HB
                  go_wp2_with fail
                  go_meet
                  exact ⟨g, m8, cap, Lp, rfl, by omega, ⟨LPH.out.1, by rw [LPH.out.2, if_pos EQ.out, List.append_nil]⟩, NRD, GD⟩
              case rest =>
                obtain ⟨g, m8, cap, Lp, rfl, h8, LPH, NRC, GC⟩ := hcut
                go_wp2_with fail
                have GF := G3.out.trans GC.out
                have hz2 := ZZ.out
                have hw0 := W0.out
                have hb2' := B2.out
                have hg2 := G2.out.2.1.size
                refine bodyPost_ret (v := .slice (some ⟨g, 0, none⟩) m8 cap) (by simp [results, Try.results11, go_sem]) rfl ⟨_, fun q => S' q ∧ q < w2.heap.size, rfl, ?_, G2.out.1.trim.gw GF, G2.out.2.1.trans (GF.gx S) (fun q hq => .inl hq), fun q hq => ?_, fun q hq hs => ?_⟩
                · have e : seeP ⟨C, iS, K, V, N, M⟩ ⟨c, is, k, v, n, L⟩ = Lp := by
                    rw [LPH.out.2]
                    unfold seeP
                    simp only [List.append_assoc, List.nil_append]
                  rw [e]
                  exact ⟨NRC.out.sh, own_keep3 NRC.out.row (by omega) (fun _ _ => rfl)⟩
                · rcases G2.out.2.2.1 q hq.1 with z | z
                  · exact .inl z.1
                  · exact .inr (by omega)
                · have := (World.ownsRow.lt NRC.out.row q hq).1
                  have := hs.2
                  omega
end Go.Proofs.Ytkojcjfjmlompaa
