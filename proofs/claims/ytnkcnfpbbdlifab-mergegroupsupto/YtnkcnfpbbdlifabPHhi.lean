/- Package merge: the heap of lists. -/
import Derived.Test.YtnkcnfpbbdlifabPHgi
import Derived.Test.YtnkcnfpbbdlifabPTell
namespace Go.Proofs.Ytnkcnfpbbdlifab
open Go.RowKit
set_option linter.unusedVariables false

set_option maxRecDepth 20000 in
set_option maxHeartbeats 4000000 in
theorem heapOf_i (K : Nat) (key : Int → Int) (FK : FnK encI key okI K) (L : List (Lst Int)) (ao : Option Addr) (c : Nat) (hL : L.length ≤ 3000000) (w : World) (hv : LV w ao L) (hok : ∀ s ∈ L, LOk okI w.heap.size s) (hel : ∀ s ∈ L, s.l ≠ [] → El1 encI w s) :
    Calls Try.prog 32 #[.func (.func K) #[] #[], .slice ao L.length c] w fun e w' => e = .returned (.pointer (some ⟨w.heap.size, 0, none⟩)) ∧ (∃ hv H, Tl 73 76 (El1 encI) okI key L w.heap.size K [] L hv (.slice none 0 0) H [] w') ∧ Gw w w' := by
  obtain ⟨n, hn⟩ : ∃ n, L.length = n := ⟨_, rfl⟩
  have LN : Aside (L.length = n) := hn
  rw [hn] at hL ⊢
  have LVA : Aside (LV w ao L) := hv
  obtain ⟨hb, hhb⟩ : ∃ hb, w.heap.size = hb := ⟨_, rfl⟩
  have HBE : Aside (w.heap.size = hb) := hhb
  obtain ⟨W1, E1⟩ : ∃ W1, w.alloc (.cells #[.func (.func K) #[] #[], .slice none 0 0, .slice none 0 0] 73) = W1 := ⟨_, rfl⟩
  have G1 : Aside (Gw w W1) := by rw [← E1]; exact (Gw.refl w).alloc _ _
  have B1 : Aside (W1.heap[hb]? = some (.cells #[.func (.func K) #[] #[], .slice none 0 0, .slice none 0 0] 73 (0, 0))) := by rw [← E1, ← hhb]; exact heap_alloc_new w _
  have PUS : Hid (∀ (i : Nat) (hi : i < n) (hv : Value) (H : List (Hd Int)) (W : World) (bo : Option Addr) (sc : Nat), H.Perm (hds key 0 (L.take i)) → HeapOn H → Hpm 73 76 W hb (hb + 1) (.func (.func K) #[] #[]) hv (.slice none 0 0) H → Gw w W → (0 < (L[i]'(by rw [LN.out]; exact hi)).l.length → bo = some ⟨(L[i]'(by rw [LN.out]; exact hi)).b, (L[i]'(by rw [LN.out]; exact hi)).off, none⟩ ∧ sc = (L[i]'(by rw [LN.out]; exact hi)).c) → Calls Try.prog 36 #[.pointer (some ⟨hb, 0, none⟩), .int .i64 (i : Int), .slice bo (L[i]'(by rw [LN.out]; exact hi)).l.length sc] W fun e w' => e = .returned (.tuple #[]) ∧ (∃ hv' H', H'.Perm (hds key 0 (L.take (i + 1))) ∧ HeapOn H' ∧ Hpm 73 76 w' hb (hb + 1) (.func (.func K) #[] #[]) hv' (.slice none 0 0) H') ∧ Gw w w') := fun i hi hv H W bo sc h1 h2 h3 gW hbo => by
    have hi' : i < L.length := by rw [LN.out]; exact hi
    have sm : L[i] ∈ L := List.getElem_mem hi'
    have few : H.length ≤ n := by
      have e := h1.length_eq
      have := hds_len (key := key) (L.take i) 0
      simp at this
      omega
    have LO := hok _ sm
    have ne : 0 < L[i].l.length → L[i].l ≠ [] := fun h0 e => by rw [e] at h0; simp at h0
    have ln4 : L[i].l.length ≤ 4000000 := by
      rcases Nat.eq_zero_or_pos L[i].l.length with z | z
      · omega
      · exact (LO (ne z)).2.2.1
    have el : El1 encI W L[i] := by
      rcases Nat.eq_zero_or_pos L[i].l.length with z | z
      · intro k y hy
        rw [List.length_eq_zero_iff.1 z] at hy
        simp at hy
      · exact (hel _ sm (ne z)).keep (gW.below.block _ (LO (ne z)).1)
    refine (push_i hb H.length (hb + 1) K i hv _ H L[i] key FK rfl (by omega) (by omega) W h3 (Nat.le_refl _) h2 ln4 bo sc (fun h0 => ?_) el (fun y hy => ?_)).mono fun e w' ⟨q1, ⟨hv', H', q2, q3, q4, q5⟩, q6⟩ => ⟨q1, ⟨hv', H', ?_, q3, q4⟩, Gx.gw gW q6 (fun q hq => ?_)⟩
    · obtain ⟨z1, z2⟩ := hbo h0
      exact ⟨z1, z2, (LO (ne h0)).2.1, Nat.lt_of_lt_of_le (LO (ne h0)).1 gW.size⟩
    · have h0 : 0 < L[i].l.length := List.length_pos_of_mem hy
      exact (LO (ne h0)).2.2.2 y hy
    · rw [List.take_add_one, List.getElem?_eq_getElem hi', Option.toList_some, hds_app]
      have e : 0 + (L.take i).length = i := by simp; omega
      rw [e]
      refine q2.trans (List.Perm.append h1 ?_)
      simp [hds]
    · have := HBE.out
      rcases hq with x | x
      · omega
      · have := (hr_lt h3.row q x).1; omega
  have CEL : Hid (∀ (i : Nat) (hi : i < n) (W : World), Gw w W → ∃ b off bo sc, ao = some ⟨b, off, none⟩ ∧ W.cell? ⟨b, off + i, none⟩ = some (.slice bo (L[i]'(by rw [LN.out]; exact hi)).l.length sc) ∧ (0 < (L[i]'(by rw [LN.out]; exact hi)).l.length → bo = some ⟨(L[i]'(by rw [LN.out]; exact hi)).b, (L[i]'(by rw [LN.out]; exact hi)).off, none⟩ ∧ sc = (L[i]'(by rw [LN.out]; exact hi)).c)) := fun i hi W gW => by
    obtain ⟨b, off, e, hb', hc⟩ := (LVA.out.gw gW).cells (by rw [LN.out]; omega)
    obtain ⟨bo, sc, q1, q2⟩ := hc i (by rw [LN.out]; exact hi)
    exact ⟨b, off, bo, sc, e, q1, q2⟩
  have FIN : Hid (∀ (hv : Value) (H : List (Hd Int)) (W : World), H.Perm (hds key 0 (L.take n)) → HeapOn H → Hpm 73 76 W hb (hb + 1) (.func (.func K) #[] #[]) hv (.slice none 0 0) H → Gw w W → Tl 73 76 (El1 encI) okI key L hb K [] L hv (.slice none 0 0) H [] W) := fun hv H W h1 h2 h3 gW => by
    rw [List.take_of_length_le (by rw [LN.out]; exact Nat.le_refl _)] at h1
    refine ⟨h1, h2, ⟨h3, hr_nil _ _ _, fun q _ e => by cases e⟩, fun s hs => by have := hok s hs; rw [HBE.out] at this; exact this, fun s hs ne => (hel s hs ne).keep (gW.below.block _ (hok s hs ne).1), fun out ho => by simpa using ho, rfl, by simp, by simp⟩
  clear hv hok hel hn FK hhb LVA
  go_enter Try.func32, Try.ntmps32
  rw [HBE.out]
  go_wp2_with fail
  rw [HBE.out]
  go_loopg [13] n (fun gg s13 wr => ∃ (i : Nat) (hv : Value) (H : List (Hd Int)), s13 = .int .i64 (i : Int) ∧ i ≤ n ∧ n - i ≤ gg ∧ Aside (H.Perm (hds key 0 (L.take i)) ∧ HeapOn H ∧ Hpm 73 76 wr hb (hb + 1) (.func (.func K) #[] #[]) hv (.slice none 0 0) H) ∧ Aside (Gw w wr))
  case atStart => exact ⟨0, .slice none 0 0, [], rfl, Nat.zero_le _, by omega, ⟨by simp [hds], (fun i _ hi => by simp at hi), ⟨B1.out, hr_nil _ _ _, fun q e => by cases e⟩⟩, G1⟩
  case round =>
    obtain ⟨i, hv, H, rfl, i1, i2, HH, GG⟩ := hrel
    by_cases il : i < n
    · have il' : (i : Int) < (n : Int) := by omega
      obtain ⟨b, off, bo, sc, rfl, q1, q2⟩ := CEL.out i il wr GG.out
      have PU : Hid _ := fun W gW => PUS.out i il hv H W bo sc HH.out.1 HH.out.2.1 ⟨(gW.below.block _ (blkl HH.out.2.2.blk)).trans HH.out.2.2.blk, hr_gw HH.out.2.2.row gW, HH.out.2.2.ne⟩ (GG.out.trans gW) q2
      obtain ⟨ll, hll⟩ : ∃ ll, (L[i]'(by rw [LN.out]; exact il)).l.length = ll := ⟨_, rfl⟩
      rw [hll] at q1 PU
      clear q2 hll PUS
      go_wp2_with fail
      refine (PU.out wr (Gw.refl _)).mono ?_
      rintro ex u5 ⟨rfl, ⟨hv', H', p1, p2, p3⟩, g5⟩
      have H5 : Aside _ := And.intro p1 (And.intro p2 p3)
      have G5 : Aside (Gw w u5) := g5
      clear p1 p2 p3 g5 PU
      go_wp2_with fail
      go_roundg (n - (i + 1))
      case measure => omega
      case rel => exact ⟨i + 1, hv', H', by go_num, by omega, Nat.le_refl _, H5, G5⟩
    · have ei : i = n := by omega
      subst ei
      have il' : ¬ ((i : Int) < (i : Int)) := by omega
      have FF : Aside _ := FIN.out hv H wr HH.out.1 HH.out.2.1 HH.out.2.2 GG.out
      clear FIN PUS CEL
      go_wp2_with fail
      go_ret
      exact ⟨rfl, ⟨hv, H, FF.out⟩, GG.out⟩
end Go.Proofs.Ytnkcnfpbbdlifab
