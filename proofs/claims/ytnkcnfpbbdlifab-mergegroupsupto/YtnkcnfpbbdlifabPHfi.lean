/- Package merge: a list's head is taken in. -/
import Derived.Test.YtnkcnfpbbdlifabPHei
import Derived.Test.YtnkcnfpbbdlifabPEl
namespace Go.Proofs.Ytnkcnfpbbdlifab
open Go.RowKit
set_option linter.unusedVariables false

theorem info_hi : (Try.prog.info? 76).map (fun i => (i.zero, i.size, i.bytes)) = some (some (.agg #[.int .u64 0, .int .i64 0, .slice none 0 0]), 3, 40) := by kernel_rfl
set_option maxRecDepth 20000 in
set_option maxHeartbeats 4000000 in
theorem push_i (hb n base K i : Nat) (hv pv : Value) (H : List (Hd Int)) (s : Lst Int) (key : Int → Int) (FK : FnK encI key okI K) (hn : H.length = n) (hn2 : n ≤ 3000000) (hi : i ≤ 4000000) (w : World) (hp : Hpm 73 76 w hb base (.func (.func K) #[] #[]) hv pv H) (hb1 : base ≤ hb + 1) (hH : HeapOn H) (sl : s.l.length ≤ 4000000) (ao : Option Addr) (sc : Nat) (hs : 0 < s.l.length → ao = some ⟨s.b, s.off, none⟩ ∧ sc = s.c ∧ s.l.length ≤ s.c ∧ s.b < w.heap.size) (El : El1 encI w s) (okl : ∀ x ∈ s.l, okI x) :
    Calls Try.prog 36 #[.pointer (some ⟨hb, 0, none⟩), .int .i64 (i : Int), .slice ao s.l.length sc] w fun e w' => e = .returned (.tuple #[]) ∧ (∃ hv' H', H'.Perm (H ++ hd1 key i s) ∧ HeapOn H' ∧ Hpm 73 76 w' hb base (.func (.func K) #[] #[]) hv' pv H' ∧ (∀ q, hv'.ownBlock = some q → hv.ownBlock = some q ∨ w.heap.size ≤ q)) ∧ Gx (fun q => q = hb ∨ hv.ownBlock = some q) w w' := by
  obtain ⟨sb, so, scc, l⟩ := s
  cases l with
  | nil =>
    have HP : Aside _ := hp
    have HH : Aside (HeapOn H) := hH
    clear hp hH FK El okl hs
    dsimp only [List.length_nil]
    go_enter Try.func36, Try.ntmps36
    go_wp2_with fail
    refine bodyPost_ret (results_none rfl _ _ _) rfl ?_
    exact ⟨rfl, ⟨hv, H, by simp [hd1], HH.out, HP.out, fun q hq => .inl hq⟩, Gx.refl _ _⟩
  | cons x l =>
    obtain ⟨hao, hsc, hlc, hsb⟩ := hs (by simp)
    dsimp only at hao hsc hlc hsb sl El okl ⊢
    subst hao hsc
    clear hs
    obtain ⟨m, hm⟩ : ∃ m, (x :: l).length = m := ⟨_, rfl⟩
    rw [hm]
    have m0 : 0 < m := by rw [← hm]; simp
    have ms : m ≤ 4000000 := by rw [← hm]; exact sl
    have OK : Aside (okI x) := okl x (List.mem_cons_self ..)
    have EL0 : Aside (El1 encI w ⟨sb, so, sc, x :: l⟩) := El
    obtain ⟨hh, hr, ne⟩ := hp
    have hbl : hb < w.heap.size := blkl hh
    have HB : Aside (w.heap[hb]? = some (.cells #[.func (.func K) #[] #[], hv, pv] 73 (0, 0))) := hh
    have R0 : Aside (HR 76 w base hv H) := hr
    have NE : Aside (∀ q, hv.ownBlock = some q → q ≠ hb) := ne
    have LN : Aside (H.length = n) := hn
    have HH : Aside (HeapOn H) := hH
    have XH : Aside ((⟨key x, i, ⟨sb, so, sc, x :: l⟩⟩ : Hd Int) = ⟨key x, i, ⟨sb, so, sc, x :: l⟩⟩) := rfl
    have HD : Aside (hd1 key i (⟨sb, so, sc, x :: l⟩ : Lst Int) = [⟨key x, i, ⟨sb, so, sc, x :: l⟩⟩]) := rfl
    obtain ⟨hx, HX⟩ : ∃ h : Hd Int, Aside (h = ⟨key x, i, ⟨sb, so, sc, x :: l⟩⟩) := ⟨_, rfl⟩
    obtain ⟨ii, hii, hz, hsz, hby⟩ := info_parts info_hi
    obtain ⟨kx, hkx⟩ : ∃ k, key x = k := ⟨_, rfl⟩
    have KX : Aside (key x = kx) := hkx
    have NW : Hid (∀ W : World, ∀ j u, (hd3 hx)[j]? = some u → (W.alloc (.cells #[.int .u64 kx, .int .i64 (i : Int), .slice (some ⟨sb, so, none⟩) m sc] 76)).cell? ((⟨W.heap.size, 0, none⟩ : Addr).add j) = some u) := fun W => by
      have := new_hd 76 W hx
      rw [HX.out] at this ⊢
      rw [← KX.out, ← hm]
      exact this
    have KC : Hid (∀ W : World, Calls Try.prog K #[encI x] W fun e w' => e = .returned (.int .u64 kx) ∧ Gw W w') := fun W => by
      have := FK.tells W x OK.out
      rw [KX.out] at this
      exact this
    have ENT := FK.enter
    have RS : Hid (∀ (m : Nat) (g cap : Nat) (H : List (Hd Int)) (W : World), H.length = m + 1 → m + 1 ≤ 4000000 → Hpm 73 76 W hb base (.func (.func K) #[] #[]) (.slice (some ⟨g, 0, none⟩) (m + 1) cap) pv H → RiseOn H m → Calls Try.prog 40 #[.pointer (some ⟨hb, 0, none⟩), .int .i64 (m : Int)] W fun e w' => e = .returned (.tuple #[]) ∧ (∃ H', H'.Perm H ∧ HeapOn H' ∧ HR 76 w' base (.slice (some ⟨g, 0, none⟩) (m + 1) cap) H') ∧ Gx (fun q => q = g) W w') := fun m g cap H W h1 h2 h3 h4 => rise_i hb m (m + 1) g cap base _ pv H h1 h2 (by omega) W h3 h4
    have c0 : w.cell? ⟨hb, 0, none⟩ = some (.func (.func K) #[] #[]) := blkc hh rfl
    have c1 : w.cell? ⟨hb, 1, none⟩ = some hv := blkc hh rfl
    -- behind the append
    have APP : Hid (∀ (W : World) (v' : Value) (w7 : World), Gw w W → w7.ownsRow base 76 3 v' (n + 1) (H.flatMap hd3 ++ hd3 hx) → (W.alloc (.cells #[.int .u64 kx, .int .i64 (i : Int), .slice (some ⟨sb, so, none⟩) m sc] 76)).grownBy w7 hv.ownBlock → (v'.ownBlock = hv.ownBlock ∨ v'.ownBlock = some (W.heap.size + 1)) →
        (w7.heap[hb]? = some (.cells #[.func (.func K) #[] #[], hv, pv] 73 (0, 0)) ∧ hb < w7.heap.size) ∧ Hpm 73 76 (w7.setCell ⟨hb, 1, none⟩ v') hb base (.func (.func K) #[] #[]) v' pv (H ++ [hx]) ∧ Gx (fun q => q = hb ∨ hv.ownBlock = some q) w (w7.setCell ⟨hb, 1, none⟩ v') ∧ (∀ q, v'.ownBlock = some q → hv.ownBlock = some q ∨ w.heap.size ≤ q)) := fun W v' w7 gW r1 r2 r4 => by
      have b7 : w7.heap[hb]? = some (.cells #[.func (.func K) #[] #[], hv, pv] 73 (0, 0)) := (r2.block hb (by have := gW.size; simp; omega) (fun e => NE.out hb e.symm rfl)).trans ((heap_alloc_old _ _ (Nat.lt_of_lt_of_le hbl gW.size)).trans ((gW.below.block hb hbl).trans HB.out))
      have nv : ∀ q, v'.ownBlock = some q → hv.ownBlock = some q ∨ w.heap.size ≤ q := fun q hq => by
        rcases r4 with e | e
        · rw [e] at hq; exact .inl hq
        · rw [e] at hq; cases hq; have := gW.size; exact .inr (by omega)
      have ne' : ∀ q, v'.ownBlock = some q → q ≠ hb := fun q hq => by
        rcases nv q hq with e | e
        · exact NE.out q e
        · omega
      refine ⟨⟨b7, blkl b7⟩, ⟨blk_set b7 _, ?_, ne'⟩, ?_, nv⟩
      · refine hr_keep (hr_more (by rw [LN.out]; exact r1)) fun q hq => Go.Deep.blk_setCell_other _ _ _ _ (ne' q hq)
      · exact (((gW.alloc _ _).gx _).grown r2 (fun q hq => .inl (.inr hq))).set (.inl (Or.inl rfl)) _ _
    have OW : Hid (∀ W : World, Gw w W → ∀ o : Obj, (W.alloc o).ownsRow base 76 3 hv n (H.flatMap hd3)) := fun W gW o => by
      have := hr_gw R0.out gW
      unfold HR at this
      rw [LN.out] at this
      exact this.alloc _
    have RI : Aside (RiseOn (H ++ [hx]) n) := by
      have := HH.out.app hx
      rw [LN.out] at this
      exact this
    have FIN : Hid (∀ (b8 cap8 : Nat) (W8 u9 : World) (H' : List (Hd Int)), Hpm 73 76 W8 hb base (.func (.func K) #[] #[]) (.slice (some ⟨b8, 0, none⟩) (n + 1) cap8) pv (H ++ [hx]) → Gx (fun q => q = hb ∨ hv.ownBlock = some q) w W8 → (∀ q, (Value.slice (some ⟨b8, 0, none⟩) (n + 1) cap8).ownBlock = some q → hv.ownBlock = some q ∨ w.heap.size ≤ q) → H'.Perm (H ++ [hx]) → HeapOn H' → HR 76 u9 base (.slice (some ⟨b8, 0, none⟩) (n + 1) cap8) H' → Gx (fun q => q = b8) W8 u9 →
        (∃ hv' H', H'.Perm (H ++ [hx]) ∧ HeapOn H' ∧ Hpm 73 76 u9 hb base (.func (.func K) #[] #[]) hv' pv H' ∧ (∀ q, hv'.ownBlock = some q → hv.ownBlock = some q ∨ w.heap.size ≤ q)) ∧ Gx (fun q => q = hb ∨ hv.ownBlock = some q) w u9) := fun b8 cap8 W8 u9 H' h1 h2 h3 h4 h5 h6 h7 => by
      have hne := h1.ne b8 rfl
      refine ⟨⟨_, H', h4, h5, ⟨(h7.block hb (blkl h1.blk) (fun e => hne e.symm)).trans h1.blk, h6, h1.ne⟩, h3⟩, h2.trans h7 (fun q hq => ?_)⟩
      have hq' : q = b8 := hq
      subst hq'
      rcases h3 q rfl with e | e
      · exact .inl (.inr e)
      · exact .inr e
    rw [show hd1 key i (⟨sb, so, sc, x :: l⟩ : Lst Int) = [hx] by rw [HX.out]; rfl]
    simp only [encI] at KC
    have d0 : w.cell? ⟨sb, so, none⟩ = some (.int .i64 x) := by
      have := EL0.out 0 _ rfl
      simpa [encI] using this
    have HL : Aside ((H ++ [hx]).length = n + 1) := by show _ = _; rw [List.length_append, LN.out]; rfl
    clear hh hr ne hn hH El okl sl hkx EL0 R0 NE
    go_enter Try.func36, Try.ntmps36
    have t0 : ((m : Int) == 0) = false := by simp; omega
    have nl1 : IntKind.i64.wrap (((n + 1 : Nat) : Int) - 1) = (n : Int) := by rw [IntKind.wrap_i64]; omega
    have nl2 : IntKind.i64.wrap ((n : Int) + 1 - 1) = (n : Int) := by rw [IntKind.wrap_i64]; omega
    clear hm
    go_wp2_with fail
    go_region_law (first
      | (go_simp; refine (KC.out _).mono ?_; rintro e w4 ⟨rfl, g4⟩; have G4 : Hid (Gw w w4) := ((Gw.refl w).drew.trans g4); have k4 : w4.cell? ⟨hb, 1, none⟩ = some hv := (g4.cell _ _ hbl).trans c1; have l4 : hb < w4.heap.size := Nat.lt_of_lt_of_le hbl g4.size; clear g4)
      | (refine step_app _ rfl (.tmp 13) (.tmp 25) 71 rfl base 76 ii (.agg #[.int .u64 0, .int .i64 0, .slice none 0 0]) 3 40 Try.underlying71 hii hz hsz hby rfl (by decide) hv n (H.flatMap hd3) (by simp [Act.eval]) (OW.out w4 G4.out _) ⟨w4.heap.size, 0, none⟩ 1 1 (hd3 hx) (by simp [Act.eval]) rfl (NW.out w4) (hd3_one hx) (by simp only [maxLen]; omega) (by omega) (Nat.le_trans (show base ≤ w4.heap.size by omega) ((Gw.refl w4).alloc _ _).size) ?_; intro v' w7 r1 r2 r3 r4; obtain ⟨b8, cap8, ev, _, _, _⟩ := own_slice r1 (by simpa using r3); obtain ⟨⟨B7, l7⟩, P7, G7, N7⟩ := APP.out w4 v' w7 G4.out r1 r2 (by simpa using r4); have k7 := blkc (o := 1) B7 rfl; have f7 := blkf (o := 1) B7; have P8 : Hid _ := P7; have G8 : Hid _ := G7; have N8 : Hid _ := N7; clear B7 P7 G7 N7 r1 r2 r3 r4; subst ev))
    all_goals go_wp2_with fail
    all_goals refine (RS.out n b8 cap8 (H ++ [hx]) _ HL.out (by omega) P8.out RI.out).mono ?_
    all_goals rintro ex u9 ⟨rfl, ⟨H', p1, p2, p3⟩, g9⟩
    all_goals have FF : Aside _ := FIN.out b8 cap8 _ u9 H' P8.out G8.out N8.out p1 p2 p3 g9
    all_goals clear p1 p2 p3 g9
    all_goals go_wp2_with fail
    all_goals go_end0
    all_goals exact ⟨rfl, FF.out⟩
end Go.Proofs.Ytnkcnfpbbdlifab
