/- Package judge: an operation is done on the plain map, and what is right to answer is told. -/
import Derived.Test.YtkojcjfjmlompaaPMa
import Derived.Test.YtkojcjfjmlompaaPMb
import Derived.Test.YtkojcjfjmlompaaS3Do
namespace Go.Proofs.Ytkojcjfjmlompaa
open Go.RowKit
set_option linter.unusedVariables false

/-- What an operation answers and leaves. -/
def DoK (w w' : World) (e : Ending) (B : Nat) (l' : Ps) (A : Aw) : Prop :=
  ∃ (bo : Option Addr) (c : Nat), e = .returned (awV A bo c) ∧ (∃ D', MpW w' B l' D') ∧ PLr w' bo A.L ∧ (∀ a, bo = some a → 0 < A.L.length → w.heap.size ≤ a.block) ∧ (bo = none → A.L.length = 0 ∧ c = 0) ∧ Gx (fun q => q = B) w w'
theorem doj_fin {w w2 W : World} {B b2 : Nat} {l' : Ps} {A : Aw} {bo : Option Addr} {c : Nat} (hm : ∃ D', MpW w2 B l' D') (g : Gx (fun q => q = B) w w2) (h2 : w.heap.size ≤ b2) (hB : B < w.heap.size) (pl : PLr w2 bo A.L) (pb : ∀ a, bo = some a → 0 < A.L.length → w.heap.size ≤ a.block ∧ a.block ≠ b2) (pn : bo = none → A.L.length = 0 ∧ c = 0) (s : Gx (fun q => q = b2) w2 W) : DoK w W (.returned (awV A bo c)) B l' A := by
  obtain ⟨D', m⟩ := hm
  exact ⟨bo, c, rfl, ⟨D', m.keep (s.block B m.lt (by omega))⟩, LsR.gx pl s (fun a e h0 => (pb a e h0).2), fun a e h0 => (pb a e h0).1, pn, g.trans s (fun q hq => .inr (by omega))⟩
theorem pl_none (w : World) : PLr w none ([] : Ps) := ⟨fun h => by simp at h⟩
set_option maxRecDepth 100000 in
set_option maxHeartbeats 4000000 in
theorem jdo1 (B : Nat) (most k v : Int) (l : Ps) (D : DU) (hl : l.length ≤ 3999999) (hk : 0 ≤ k ∧ k < 18446744073709551616) (hv : 0 ≤ v ∧ v < 18446744073709551616) (w : World) (h : MpW w B l D) :
    Calls Try.prog 21 #[.agg #[.map (some B), .int .i64 most], .agg #[.int .i64 1, .int .u64 k, .int .u64 v]] w fun e w' => DoK w w' e B (nxtP most l 1 k v) (ansP most l 1 k v) := by
  obtain ⟨b0, hb0⟩ : ∃ b0, w.heap.size = b0 := ⟨_, rfl⟩
  obtain ⟨V, hV⟩ : ∃ V, ((w.alloc (.cells #[.map (some B), .int .i64 most] 65)).alloc (.cells #[.int .i64 1, .int .u64 k, .int .u64 v] 33)).alloc (.cells #[.int .i64 0, .bool false, .int .u64 0, .int .u64 0, .int .i64 0, .slice none 0 0] 36) = V := ⟨_, rfl⟩
  have GV : Aside (Gw w V) := by rw [← hV]; exact (((Gw.refl w).alloc _ _).alloc _ _).alloc _ _
  have Blt := h.lt
  have BX : Aside (V.heap[b0 + 2]? = some (.cells #[.int .i64 0, .bool false, .int .u64 0, .int .u64 0, .int .i64 0, .slice none 0 0] 36 (0, 0)) ∧ w.heap.size = b0 ∧ B < b0 ∧ MpW V B l D) := by
    refine ⟨?_, hb0, by omega, h.gw GV.out⟩
    have := heap_alloc_new ((w.alloc (.cells #[.map (some B), .int .i64 most] 65)).alloc (.cells #[.int .i64 1, .int .u64 k, .int .u64 v] 33)) (.cells #[.int .i64 0, .bool false, .int .u64 0, .int .u64 0, .int .i64 0, .slice none 0 0] 36)
    rw [hV] at this
    simpa [hb0] using this
  have HV : Aside (((w.alloc (.cells #[.map (some B), .int .i64 most] 65)).alloc (.cells #[.int .i64 1, .int .u64 k, .int .u64 v] 33)).alloc (.cells #[.int .i64 0, .bool false, .int .u64 0, .int .u64 0, .int .i64 0, .slice none 0 0] 36) = V) := hV
  have HB : Aside (w.heap.size = b0) := hb0
  have BS : Aside (w.heap.size ≤ b0 + 2) := by show _ ≤ _; rw [HB.out]; omega
  have CC : Hid (∀ W, W = V → Calls Try.prog 27 #[.agg #[.map (some B), .int .i64 most], .int .u64 k, .int .u64 v] W fun e w' => e = .returned (.int .i64 (putP most l k v).2) ∧ (∃ D', MpW w' B (putP most l k v).1 D') ∧ Gx (fun q => q = B) W w') := fun W e => by
    rw [e]
    exact jput23 B most k v l D (by omega) hk hv V BX.out.2.2.2
  have AE : Aside (ansP most l 1 k v = ⟨(putP most l k v).2, false, 0, 0, 0, []⟩) := by show _ = _; unfold ansP; simp [aw0]
  have NE : Aside (nxtP most l 1 k v = (putP most l k v).1) := by
    show _ = _
    first | rfl | exact nxt_two _ _ _ _ | exact same_nxt _ _ _ _ _ (by decide) (by decide)
  clear hV hb0 h Blt
  go_enter Try.func21, Try.ntmps21
  go_wp2_with fail
  rw [HV.out, HB.out]
  refine (CC.out _ rfl).mono ?_
  rintro e w2 ⟨rfl, hm, gx⟩
  have GX : Aside (Gx (fun q => q = B) w w2) := (GV.out.gx _).trans gx (fun q hq => .inl hq)
  have RB : w2.heap[b0 + 2]? = some (.cells #[.int .i64 0, .bool false, .int .u64 0, .int .u64 0, .int .i64 0, .slice none 0 0] 36 (0, 0)) := (gx.block _ (blkl BX.out.1) (by have := BX.out.2.2.1; omega)).trans BX.out.1
  have MP : Aside (∃ D', MpW w2 B ((putP most l k v).1) D') := hm
  have r0 : w2.cell? ⟨b0 + 2, 0, none⟩ = some (.int .i64 0) := blkc RB rfl
  have r1 : w2.cell? ⟨b0 + 2, 1, none⟩ = some (.bool false) := blkc RB rfl
  have r2 : w2.cell? ⟨b0 + 2, 2, none⟩ = some (.int .u64 0) := blkc RB rfl
  have r3 : w2.cell? ⟨b0 + 2, 3, none⟩ = some (.int .u64 0) := blkc RB rfl
  have r4 : w2.cell? ⟨b0 + 2, 4, none⟩ = some (.int .i64 0) := blkc RB rfl
  have r5 : w2.cell? ⟨b0 + 2, 5, none⟩ = some (.slice none 0 0) := blkc RB rfl
  have fz : ∀ o : Nat, w2.frozen? ⟨b0 + 2, o, none⟩ = false := fun o => blkf RB
  have sc : ∀ (W : World) (b i j : Nat) (u : Value), (i == j) = false → (W.setCell ⟨b, i, none⟩ u).cell? ⟨b, j, none⟩ = W.cell? ⟨b, j, none⟩ := set_ne23
  clear RB gx hm
  go_wp2_with fail
  refine bodyPost_ret (v := awV ⟨(putP most l k v).2, false, 0, 0, 0, []⟩ none 0) (by simp [results, Try.results21, go_sem, sc, r0, r1, r2, r3, r4, r5, awV]) rfl ?_
  rw [AE.out, NE.out]
  refine doj_fin (b2 := b0 + 2) (w2 := w2) MP.out GX.out BS.out (by have := BX.out.2.2.1; have := HB.out; omega) (pl_none _) (fun a e => by cases e) (fun _ => ⟨rfl, rfl⟩) ?_
  iterate 6 refine Gx.set (S := fun q => q = b0 + 2) (q := b0 + 2) ?_ (.inl rfl) _ _
  exact Gx.refl _ _
set_option maxRecDepth 100000 in
set_option maxHeartbeats 4000000 in
theorem jdo2 (B : Nat) (most k v : Int) (l : Ps) (D : DU) (hl : l.length ≤ 3999999) (hk : 0 ≤ k ∧ k < 18446744073709551616) (hv : 0 ≤ v ∧ v < 18446744073709551616) (w : World) (h : MpW w B l D) :
    Calls Try.prog 21 #[.agg #[.map (some B), .int .i64 most], .agg #[.int .i64 2, .int .u64 k, .int .u64 v]] w fun e w' => DoK w w' e B (nxtP most l 2 k v) (ansP most l 2 k v) := by
  obtain ⟨b0, hb0⟩ : ∃ b0, w.heap.size = b0 := ⟨_, rfl⟩
  obtain ⟨V, hV⟩ : ∃ V, ((w.alloc (.cells #[.map (some B), .int .i64 most] 65)).alloc (.cells #[.int .i64 2, .int .u64 k, .int .u64 v] 33)).alloc (.cells #[.int .i64 0, .bool false, .int .u64 0, .int .u64 0, .int .i64 0, .slice none 0 0] 36) = V := ⟨_, rfl⟩
  have GV : Aside (Gw w V) := by rw [← hV]; exact (((Gw.refl w).alloc _ _).alloc _ _).alloc _ _
  have Blt := h.lt
  have BX : Aside (V.heap[b0 + 2]? = some (.cells #[.int .i64 0, .bool false, .int .u64 0, .int .u64 0, .int .i64 0, .slice none 0 0] 36 (0, 0)) ∧ w.heap.size = b0 ∧ B < b0 ∧ MpW V B l D) := by
    refine ⟨?_, hb0, by omega, h.gw GV.out⟩
    have := heap_alloc_new ((w.alloc (.cells #[.map (some B), .int .i64 most] 65)).alloc (.cells #[.int .i64 2, .int .u64 k, .int .u64 v] 33)) (.cells #[.int .i64 0, .bool false, .int .u64 0, .int .u64 0, .int .i64 0, .slice none 0 0] 36)
    rw [hV] at this
    simpa [hb0] using this
  have HV : Aside (((w.alloc (.cells #[.map (some B), .int .i64 most] 65)).alloc (.cells #[.int .i64 2, .int .u64 k, .int .u64 v] 33)).alloc (.cells #[.int .i64 0, .bool false, .int .u64 0, .int .u64 0, .int .i64 0, .slice none 0 0] 36) = V) := hV
  have HB : Aside (w.heap.size = b0) := hb0
  have BS : Aside (w.heap.size ≤ b0 + 2) := by show _ ≤ _; rw [HB.out]; omega
  have CC : Hid (∀ W, W = V → Calls Try.prog 28 #[.agg #[.map (some B), .int .i64 most], .int .u64 k] W fun e w' => e = .returned (.bool (isK l k)) ∧ (∃ D', MpW w' B (dropP l k) D') ∧ Gx (fun q => q = B) W w') := fun W e => by
    rw [e]
    exact jdrop23 B most k l D hk V BX.out.2.2.2
  have AE : Aside (ansP most l 2 k v = ⟨0, isK l k, 0, 0, 0, []⟩) := by show _ = _; unfold ansP; simp [aw0]
  have NE : Aside (nxtP most l 2 k v = dropP l k) := by
    show _ = _
    first | rfl | exact nxt_two _ _ _ _ | exact same_nxt _ _ _ _ _ (by decide) (by decide)
  clear hV hb0 h Blt
  go_enter Try.func21, Try.ntmps21
  go_wp2_with fail
  rw [HV.out, HB.out]
  refine (CC.out _ rfl).mono ?_
  rintro e w2 ⟨rfl, hm, gx⟩
  have GX : Aside (Gx (fun q => q = B) w w2) := (GV.out.gx _).trans gx (fun q hq => .inl hq)
  have RB : w2.heap[b0 + 2]? = some (.cells #[.int .i64 0, .bool false, .int .u64 0, .int .u64 0, .int .i64 0, .slice none 0 0] 36 (0, 0)) := (gx.block _ (blkl BX.out.1) (by have := BX.out.2.2.1; omega)).trans BX.out.1
  have MP : Aside (∃ D', MpW w2 B (dropP l k) D') := hm
  have r0 : w2.cell? ⟨b0 + 2, 0, none⟩ = some (.int .i64 0) := blkc RB rfl
  have r1 : w2.cell? ⟨b0 + 2, 1, none⟩ = some (.bool false) := blkc RB rfl
  have r2 : w2.cell? ⟨b0 + 2, 2, none⟩ = some (.int .u64 0) := blkc RB rfl
  have r3 : w2.cell? ⟨b0 + 2, 3, none⟩ = some (.int .u64 0) := blkc RB rfl
  have r4 : w2.cell? ⟨b0 + 2, 4, none⟩ = some (.int .i64 0) := blkc RB rfl
  have r5 : w2.cell? ⟨b0 + 2, 5, none⟩ = some (.slice none 0 0) := blkc RB rfl
  have fz : ∀ o : Nat, w2.frozen? ⟨b0 + 2, o, none⟩ = false := fun o => blkf RB
  have sc : ∀ (W : World) (b i j : Nat) (u : Value), (i == j) = false → (W.setCell ⟨b, i, none⟩ u).cell? ⟨b, j, none⟩ = W.cell? ⟨b, j, none⟩ := set_ne23
  clear RB gx hm
  go_wp2_with fail
  refine bodyPost_ret (v := awV ⟨0, isK l k, 0, 0, 0, []⟩ none 0) (by simp [results, Try.results21, go_sem, sc, r0, r1, r2, r3, r4, r5, awV]) rfl ?_
  rw [AE.out, NE.out]
  refine doj_fin (b2 := b0 + 2) (w2 := w2) MP.out GX.out BS.out (by have := BX.out.2.2.1; have := HB.out; omega) (pl_none _) (fun a e => by cases e) (fun _ => ⟨rfl, rfl⟩) ?_
  iterate 6 refine Gx.set (S := fun q => q = b0 + 2) (q := b0 + 2) ?_ (.inl rfl) _ _
  exact Gx.refl _ _
set_option maxRecDepth 100000 in
set_option maxHeartbeats 4000000 in
theorem jdo4 (B : Nat) (most k v : Int) (l : Ps) (D : DU) (hl : l.length ≤ 3999999) (hk : 0 ≤ k ∧ k < 18446744073709551616) (hv : 0 ≤ v ∧ v < 18446744073709551616) (w : World) (h : MpW w B l D) :
    Calls Try.prog 21 #[.agg #[.map (some B), .int .i64 most], .agg #[.int .i64 4, .int .u64 k, .int .u64 v]] w fun e w' => DoK w w' e B (nxtP most l 4 k v) (ansP most l 4 k v) := by
  obtain ⟨b0, hb0⟩ : ∃ b0, w.heap.size = b0 := ⟨_, rfl⟩
  obtain ⟨V, hV⟩ : ∃ V, ((w.alloc (.cells #[.map (some B), .int .i64 most] 65)).alloc (.cells #[.int .i64 4, .int .u64 k, .int .u64 v] 33)).alloc (.cells #[.int .i64 0, .bool false, .int .u64 0, .int .u64 0, .int .i64 0, .slice none 0 0] 36) = V := ⟨_, rfl⟩
  have GV : Aside (Gw w V) := by rw [← hV]; exact (((Gw.refl w).alloc _ _).alloc _ _).alloc _ _
  have Blt := h.lt
  have BX : Aside (V.heap[b0 + 2]? = some (.cells #[.int .i64 0, .bool false, .int .u64 0, .int .u64 0, .int .i64 0, .slice none 0 0] 36 (0, 0)) ∧ w.heap.size = b0 ∧ B < b0 ∧ MpW V B l D) := by
    refine ⟨?_, hb0, by omega, h.gw GV.out⟩
    have := heap_alloc_new ((w.alloc (.cells #[.map (some B), .int .i64 most] 65)).alloc (.cells #[.int .i64 4, .int .u64 k, .int .u64 v] 33)) (.cells #[.int .i64 0, .bool false, .int .u64 0, .int .u64 0, .int .i64 0, .slice none 0 0] 36)
    rw [hV] at this
    simpa [hb0] using this
  have HV : Aside (((w.alloc (.cells #[.map (some B), .int .i64 most] 65)).alloc (.cells #[.int .i64 4, .int .u64 k, .int .u64 v] 33)).alloc (.cells #[.int .i64 0, .bool false, .int .u64 0, .int .u64 0, .int .i64 0, .slice none 0 0] 36) = V) := hV
  have HB : Aside (w.heap.size = b0) := hb0
  have BS : Aside (w.heap.size ≤ b0 + 2) := by show _ ≤ _; rw [HB.out]; omega
  have CC : Hid (∀ W, W = V → Calls Try.prog 29 #[.agg #[.map (some B), .int .i64 most], .int .u64 k] W fun e w' => e = .returned (awV (hitP (atP l (spotP 4 l k))) none 0) ∧ Gw W w') := fun W e => by
    rw [e]
    exact jfloor23 B most k l D V BX.out.2.2.2
  have AE : Aside (ansP most l 4 k v = hitP (atP l (spotP 4 l k))) := by show _ = _; unfold ansP; simp
  have NE : Aside (nxtP most l 4 k v = l) := by
    show _ = _
    first | rfl | exact nxt_two _ _ _ _ | exact same_nxt _ _ _ _ _ (by decide) (by decide)
  clear hV hb0 h Blt
  go_enter Try.func21, Try.ntmps21
  go_wp2_with fail
  rw [HV.out, HB.out]
  refine (CC.out _ rfl).mono ?_
  rintro e w2 ⟨rfl, gw⟩
  have gx : Gx (fun q => q = B) V w2 := gw.gx _
  have hm : ∃ D', MpW w2 B l D' := ⟨D, BX.out.2.2.2.gw gw⟩
  have GX : Aside (Gx (fun q => q = B) w w2) := (GV.out.trans gw).gx _
  have RB : w2.heap[b0 + 2]? = some (.cells #[.int .i64 0, .bool false, .int .u64 0, .int .u64 0, .int .i64 0, .slice none 0 0] 36 (0, 0)) := (gx.block _ (blkl BX.out.1) (by have := BX.out.2.2.1; omega)).trans BX.out.1
  have MP : Aside (∃ D', MpW w2 B (l) D') := hm
  obtain ⟨A, hA⟩ : ∃ A, hitP (atP l (spotP 4 l k)) = A := ⟨_, rfl⟩
  have AL : A.L = [] := by rw [← hA]; exact (hit_bd BX.out.2.2.2.2.2.2 _).2.2.1
  rw [hA]
  obtain ⟨Ac, Ai, Ak, Av, An, AL'⟩ := A
  dsimp only at AL
  subst AL
  have HA : Aside (hitP (atP l (spotP 4 l k)) = ⟨Ac, Ai, Ak, Av, An, []⟩) := hA
  clear hA
  dsimp only [awV, List.length_nil]
  have r0 : w2.cell? ⟨b0 + 2, 0, none⟩ = some (.int .i64 0) := blkc RB rfl
  have r1 : w2.cell? ⟨b0 + 2, 1, none⟩ = some (.bool false) := blkc RB rfl
  have r2 : w2.cell? ⟨b0 + 2, 2, none⟩ = some (.int .u64 0) := blkc RB rfl
  have r3 : w2.cell? ⟨b0 + 2, 3, none⟩ = some (.int .u64 0) := blkc RB rfl
  have r4 : w2.cell? ⟨b0 + 2, 4, none⟩ = some (.int .i64 0) := blkc RB rfl
  have r5 : w2.cell? ⟨b0 + 2, 5, none⟩ = some (.slice none 0 0) := blkc RB rfl
  have fz : ∀ o : Nat, w2.frozen? ⟨b0 + 2, o, none⟩ = false := fun o => blkf RB
  have sc : ∀ (W : World) (b i j : Nat) (u : Value), (i == j) = false → (W.setCell ⟨b, i, none⟩ u).cell? ⟨b, j, none⟩ = W.cell? ⟨b, j, none⟩ := set_ne23
  clear RB gx hm gw
  go_wp2_with fail
  refine bodyPost_ret (v := awV ⟨Ac, Ai, Ak, Av, An, []⟩ none 0) (by simp [results, Try.results21, go_sem, sc, r0, r1, r2, r3, r4, r5, awV]) rfl ?_
  rw [AE.out, NE.out, HA.out]
  refine doj_fin (b2 := b0 + 2) (w2 := w2) MP.out GX.out BS.out (by have := BX.out.2.2.1; have := HB.out; omega) (pl_none _) (fun a e => by cases e) (fun _ => ⟨rfl, rfl⟩) ?_
  iterate 6 refine Gx.set (S := fun q => q = b0 + 2) (q := b0 + 2) ?_ (.inl rfl) _ _
  exact Gx.refl _ _
set_option maxRecDepth 100000 in
set_option maxHeartbeats 4000000 in
theorem jdo5 (B : Nat) (most k v : Int) (l : Ps) (D : DU) (hl : l.length ≤ 3999999) (hk : 0 ≤ k ∧ k < 18446744073709551616) (hv : 0 ≤ v ∧ v < 18446744073709551616) (w : World) (h : MpW w B l D) :
    Calls Try.prog 21 #[.agg #[.map (some B), .int .i64 most], .agg #[.int .i64 5, .int .u64 k, .int .u64 v]] w fun e w' => DoK w w' e B (nxtP most l 5 k v) (ansP most l 5 k v) := by
  obtain ⟨b0, hb0⟩ : ∃ b0, w.heap.size = b0 := ⟨_, rfl⟩
  obtain ⟨V, hV⟩ : ∃ V, ((w.alloc (.cells #[.map (some B), .int .i64 most] 65)).alloc (.cells #[.int .i64 5, .int .u64 k, .int .u64 v] 33)).alloc (.cells #[.int .i64 0, .bool false, .int .u64 0, .int .u64 0, .int .i64 0, .slice none 0 0] 36) = V := ⟨_, rfl⟩
  have GV : Aside (Gw w V) := by rw [← hV]; exact (((Gw.refl w).alloc _ _).alloc _ _).alloc _ _
  have Blt := h.lt
  have BX : Aside (V.heap[b0 + 2]? = some (.cells #[.int .i64 0, .bool false, .int .u64 0, .int .u64 0, .int .i64 0, .slice none 0 0] 36 (0, 0)) ∧ w.heap.size = b0 ∧ B < b0 ∧ MpW V B l D) := by
    refine ⟨?_, hb0, by omega, h.gw GV.out⟩
    have := heap_alloc_new ((w.alloc (.cells #[.map (some B), .int .i64 most] 65)).alloc (.cells #[.int .i64 5, .int .u64 k, .int .u64 v] 33)) (.cells #[.int .i64 0, .bool false, .int .u64 0, .int .u64 0, .int .i64 0, .slice none 0 0] 36)
    rw [hV] at this
    simpa [hb0] using this
  have HV : Aside (((w.alloc (.cells #[.map (some B), .int .i64 most] 65)).alloc (.cells #[.int .i64 5, .int .u64 k, .int .u64 v] 33)).alloc (.cells #[.int .i64 0, .bool false, .int .u64 0, .int .u64 0, .int .i64 0, .slice none 0 0] 36) = V) := hV
  have HB : Aside (w.heap.size = b0) := hb0
  have BS : Aside (w.heap.size ≤ b0 + 2) := by show _ ≤ _; rw [HB.out]; omega
  have CC : Hid (∀ W, W = V → Calls Try.prog 30 #[.agg #[.map (some B), .int .i64 most], .int .u64 k] W fun e w' => e = .returned (awV (hitP (atP l (spotP 5 l k))) none 0) ∧ Gw W w') := fun W e => by
    rw [e]
    exact jceil23 B most k l D V BX.out.2.2.2
  have AE : Aside (ansP most l 5 k v = hitP (atP l (spotP 5 l k))) := by show _ = _; unfold ansP; simp
  have NE : Aside (nxtP most l 5 k v = l) := by
    show _ = _
    first | rfl | exact nxt_two _ _ _ _ | exact same_nxt _ _ _ _ _ (by decide) (by decide)
  clear hV hb0 h Blt
  go_enter Try.func21, Try.ntmps21
  go_wp2_with fail
  rw [HV.out, HB.out]
  refine (CC.out _ rfl).mono ?_
  rintro e w2 ⟨rfl, gw⟩
  have gx : Gx (fun q => q = B) V w2 := gw.gx _
  have hm : ∃ D', MpW w2 B l D' := ⟨D, BX.out.2.2.2.gw gw⟩
  have GX : Aside (Gx (fun q => q = B) w w2) := (GV.out.trans gw).gx _
  have RB : w2.heap[b0 + 2]? = some (.cells #[.int .i64 0, .bool false, .int .u64 0, .int .u64 0, .int .i64 0, .slice none 0 0] 36 (0, 0)) := (gx.block _ (blkl BX.out.1) (by have := BX.out.2.2.1; omega)).trans BX.out.1
  have MP : Aside (∃ D', MpW w2 B (l) D') := hm
  obtain ⟨A, hA⟩ : ∃ A, hitP (atP l (spotP 5 l k)) = A := ⟨_, rfl⟩
  have AL : A.L = [] := by rw [← hA]; exact (hit_bd BX.out.2.2.2.2.2.2 _).2.2.1
  rw [hA]
  obtain ⟨Ac, Ai, Ak, Av, An, AL'⟩ := A
  dsimp only at AL
  subst AL
  have HA : Aside (hitP (atP l (spotP 5 l k)) = ⟨Ac, Ai, Ak, Av, An, []⟩) := hA
  clear hA
  dsimp only [awV, List.length_nil]
  have r0 : w2.cell? ⟨b0 + 2, 0, none⟩ = some (.int .i64 0) := blkc RB rfl
  have r1 : w2.cell? ⟨b0 + 2, 1, none⟩ = some (.bool false) := blkc RB rfl
  have r2 : w2.cell? ⟨b0 + 2, 2, none⟩ = some (.int .u64 0) := blkc RB rfl
  have r3 : w2.cell? ⟨b0 + 2, 3, none⟩ = some (.int .u64 0) := blkc RB rfl
  have r4 : w2.cell? ⟨b0 + 2, 4, none⟩ = some (.int .i64 0) := blkc RB rfl
  have r5 : w2.cell? ⟨b0 + 2, 5, none⟩ = some (.slice none 0 0) := blkc RB rfl
  have fz : ∀ o : Nat, w2.frozen? ⟨b0 + 2, o, none⟩ = false := fun o => blkf RB
  have sc : ∀ (W : World) (b i j : Nat) (u : Value), (i == j) = false → (W.setCell ⟨b, i, none⟩ u).cell? ⟨b, j, none⟩ = W.cell? ⟨b, j, none⟩ := set_ne23
  clear RB gx hm gw
  go_wp2_with fail
  refine bodyPost_ret (v := awV ⟨Ac, Ai, Ak, Av, An, []⟩ none 0) (by simp [results, Try.results21, go_sem, sc, r0, r1, r2, r3, r4, r5, awV]) rfl ?_
  rw [AE.out, NE.out, HA.out]
  refine doj_fin (b2 := b0 + 2) (w2 := w2) MP.out GX.out BS.out (by have := BX.out.2.2.1; have := HB.out; omega) (pl_none _) (fun a e => by cases e) (fun _ => ⟨rfl, rfl⟩) ?_
  iterate 6 refine Gx.set (S := fun q => q = b0 + 2) (q := b0 + 2) ?_ (.inl rfl) _ _
  exact Gx.refl _ _
set_option maxRecDepth 100000 in
set_option maxHeartbeats 4000000 in
theorem jdo6 (B : Nat) (most k v : Int) (l : Ps) (D : DU) (hl : l.length ≤ 3999999) (hk : 0 ≤ k ∧ k < 18446744073709551616) (hv : 0 ≤ v ∧ v < 18446744073709551616) (w : World) (h : MpW w B l D) :
    Calls Try.prog 21 #[.agg #[.map (some B), .int .i64 most], .agg #[.int .i64 6, .int .u64 k, .int .u64 v]] w fun e w' => DoK w w' e B (nxtP most l 6 k v) (ansP most l 6 k v) := by
  obtain ⟨b0, hb0⟩ : ∃ b0, w.heap.size = b0 := ⟨_, rfl⟩
  obtain ⟨V, hV⟩ : ∃ V, ((w.alloc (.cells #[.map (some B), .int .i64 most] 65)).alloc (.cells #[.int .i64 6, .int .u64 k, .int .u64 v] 33)).alloc (.cells #[.int .i64 0, .bool false, .int .u64 0, .int .u64 0, .int .i64 0, .slice none 0 0] 36) = V := ⟨_, rfl⟩
  have GV : Aside (Gw w V) := by rw [← hV]; exact (((Gw.refl w).alloc _ _).alloc _ _).alloc _ _
  have Blt := h.lt
  have BX : Aside (V.heap[b0 + 2]? = some (.cells #[.int .i64 0, .bool false, .int .u64 0, .int .u64 0, .int .i64 0, .slice none 0 0] 36 (0, 0)) ∧ w.heap.size = b0 ∧ B < b0 ∧ MpW V B l D) := by
    refine ⟨?_, hb0, by omega, h.gw GV.out⟩
    have := heap_alloc_new ((w.alloc (.cells #[.map (some B), .int .i64 most] 65)).alloc (.cells #[.int .i64 6, .int .u64 k, .int .u64 v] 33)) (.cells #[.int .i64 0, .bool false, .int .u64 0, .int .u64 0, .int .i64 0, .slice none 0 0] 36)
    rw [hV] at this
    simpa [hb0] using this
  have HV : Aside (((w.alloc (.cells #[.map (some B), .int .i64 most] 65)).alloc (.cells #[.int .i64 6, .int .u64 k, .int .u64 v] 33)).alloc (.cells #[.int .i64 0, .bool false, .int .u64 0, .int .u64 0, .int .i64 0, .slice none 0 0] 36) = V) := hV
  have HB : Aside (w.heap.size = b0) := hb0
  have BS : Aside (w.heap.size ≤ b0 + 2) := by show _ ≤ _; rw [HB.out]; omega
  have CC : Hid (∀ W, W = V → Calls Try.prog 31 #[.agg #[.map (some B), .int .i64 most], .int .u64 k] W fun e w' => e = .returned (.int .i64 (rk l k : Int)) ∧ Gw W w') := fun W e => by
    rw [e]
    exact jrank23 B most k l D (by omega) V BX.out.2.2.2
  have AE : Aside (ansP most l 6 k v = ⟨0, false, 0, 0, (rk l k : Int), []⟩) := by show _ = _; unfold ansP; simp [aw0]
  have NE : Aside (nxtP most l 6 k v = l) := by
    show _ = _
    first | rfl | exact nxt_two _ _ _ _ | exact same_nxt _ _ _ _ _ (by decide) (by decide)
  clear hV hb0 h Blt
  go_enter Try.func21, Try.ntmps21
  go_wp2_with fail
  rw [HV.out, HB.out]
  refine (CC.out _ rfl).mono ?_
  rintro e w2 ⟨rfl, gw⟩
  have gx : Gx (fun q => q = B) V w2 := gw.gx _
  have hm : ∃ D', MpW w2 B l D' := ⟨D, BX.out.2.2.2.gw gw⟩
  have GX : Aside (Gx (fun q => q = B) w w2) := (GV.out.trans gw).gx _
  have RB : w2.heap[b0 + 2]? = some (.cells #[.int .i64 0, .bool false, .int .u64 0, .int .u64 0, .int .i64 0, .slice none 0 0] 36 (0, 0)) := (gx.block _ (blkl BX.out.1) (by have := BX.out.2.2.1; omega)).trans BX.out.1
  have MP : Aside (∃ D', MpW w2 B (l) D') := hm
  have r0 : w2.cell? ⟨b0 + 2, 0, none⟩ = some (.int .i64 0) := blkc RB rfl
  have r1 : w2.cell? ⟨b0 + 2, 1, none⟩ = some (.bool false) := blkc RB rfl
  have r2 : w2.cell? ⟨b0 + 2, 2, none⟩ = some (.int .u64 0) := blkc RB rfl
  have r3 : w2.cell? ⟨b0 + 2, 3, none⟩ = some (.int .u64 0) := blkc RB rfl
  have r4 : w2.cell? ⟨b0 + 2, 4, none⟩ = some (.int .i64 0) := blkc RB rfl
  have r5 : w2.cell? ⟨b0 + 2, 5, none⟩ = some (.slice none 0 0) := blkc RB rfl
  have fz : ∀ o : Nat, w2.frozen? ⟨b0 + 2, o, none⟩ = false := fun o => blkf RB
  have sc : ∀ (W : World) (b i j : Nat) (u : Value), (i == j) = false → (W.setCell ⟨b, i, none⟩ u).cell? ⟨b, j, none⟩ = W.cell? ⟨b, j, none⟩ := set_ne23
  clear RB gx hm gw
  go_wp2_with fail
  refine bodyPost_ret (v := awV ⟨0, false, 0, 0, (rk l k : Int), []⟩ none 0) (by simp [results, Try.results21, go_sem, sc, r0, r1, r2, r3, r4, r5, awV]) rfl ?_
  rw [AE.out, NE.out]
  refine doj_fin (b2 := b0 + 2) (w2 := w2) MP.out GX.out BS.out (by have := BX.out.2.2.1; have := HB.out; omega) (pl_none _) (fun a e => by cases e) (fun _ => ⟨rfl, rfl⟩) ?_
  iterate 6 refine Gx.set (S := fun q => q = b0 + 2) (q := b0 + 2) ?_ (.inl rfl) _ _
  exact Gx.refl _ _
set_option maxRecDepth 100000 in
set_option maxHeartbeats 4000000 in
theorem jdo7 (B : Nat) (most k v : Int) (l : Ps) (D : DU) (hl : l.length ≤ 3999999) (hk : 0 ≤ k ∧ k < 18446744073709551616) (hv : 0 ≤ v ∧ v < 18446744073709551616) (w : World) (h : MpW w B l D) :
    Calls Try.prog 21 #[.agg #[.map (some B), .int .i64 most], .agg #[.int .i64 7, .int .u64 k, .int .u64 v]] w fun e w' => DoK w w' e B (nxtP most l 7 k v) (ansP most l 7 k v) := by
  obtain ⟨b0, hb0⟩ : ∃ b0, w.heap.size = b0 := ⟨_, rfl⟩
  obtain ⟨V, hV⟩ : ∃ V, ((w.alloc (.cells #[.map (some B), .int .i64 most] 65)).alloc (.cells #[.int .i64 7, .int .u64 k, .int .u64 v] 33)).alloc (.cells #[.int .i64 0, .bool false, .int .u64 0, .int .u64 0, .int .i64 0, .slice none 0 0] 36) = V := ⟨_, rfl⟩
  have GV : Aside (Gw w V) := by rw [← hV]; exact (((Gw.refl w).alloc _ _).alloc _ _).alloc _ _
  have Blt := h.lt
  have BX : Aside (V.heap[b0 + 2]? = some (.cells #[.int .i64 0, .bool false, .int .u64 0, .int .u64 0, .int .i64 0, .slice none 0 0] 36 (0, 0)) ∧ w.heap.size = b0 ∧ B < b0 ∧ MpW V B l D) := by
    refine ⟨?_, hb0, by omega, h.gw GV.out⟩
    have := heap_alloc_new ((w.alloc (.cells #[.map (some B), .int .i64 most] 65)).alloc (.cells #[.int .i64 7, .int .u64 k, .int .u64 v] 33)) (.cells #[.int .i64 0, .bool false, .int .u64 0, .int .u64 0, .int .i64 0, .slice none 0 0] 36)
    rw [hV] at this
    simpa [hb0] using this
  have HV : Aside (((w.alloc (.cells #[.map (some B), .int .i64 most] 65)).alloc (.cells #[.int .i64 7, .int .u64 k, .int .u64 v] 33)).alloc (.cells #[.int .i64 0, .bool false, .int .u64 0, .int .u64 0, .int .i64 0, .slice none 0 0] 36) = V) := hV
  have HB : Aside (w.heap.size = b0) := hb0
  have BS : Aside (w.heap.size ≤ b0 + 2) := by show _ ≤ _; rw [HB.out]; omega
  have CC : Hid (∀ W, W = V → Calls Try.prog 23 #[.agg #[.map (some B), .int .i64 most], .int .u64 k, .int .u64 v] W fun e w' => (∃ g n, e = .returned (.slice (some ⟨g, 0, none⟩) n n) ∧ RowG 44 2 pc2 w' W.heap.size g n n (btwP l k v)) ∧ Gw W w') := fun W e => by
    rw [e]
    exact jbtw23 B most k v l D (by omega) V BX.out.2.2.2
  have AE : Aside (ansP most l 7 k v = ⟨0, false, 0, 0, 0, btwP l k v⟩) := by show _ = _; unfold ansP; simp [aw0, run_btw BX.out.2.2.2.2.2.1]
  have NE : Aside (nxtP most l 7 k v = l) := by
    show _ = _
    first | rfl | exact nxt_two _ _ _ _ | exact same_nxt _ _ _ _ _ (by decide) (by decide)
  clear hV hb0 h Blt
  go_enter Try.func21, Try.ntmps21
  go_wp2_with fail
  rw [HV.out, HB.out]
  refine (CC.out _ rfl).mono ?_
  rintro e w2 ⟨⟨g, n, rfl, rg⟩, gw⟩
  have gx : Gx (fun q => q = B) V w2 := gw.gx _
  have hm : ∃ D', MpW w2 B l D' := ⟨D, BX.out.2.2.2.gw gw⟩
  have RG : Aside (RowG 44 2 pc2 w2 V.heap.size g n n (btwP l k v)) := rg
  have GE : Aside (w.heap.size ≤ g ∧ g ≠ b0 + 2) := by
    have h1 := rg.lt.1
    have h2 := blkl BX.out.1
    have h3 := HB.out
    exact ⟨by omega, by omega⟩
  have LN : Aside ((btwP l k v).length = n) := rg.len
  have GX : Aside (Gx (fun q => q = B) w w2) := (GV.out.trans gw).gx _
  have RB : w2.heap[b0 + 2]? = some (.cells #[.int .i64 0, .bool false, .int .u64 0, .int .u64 0, .int .i64 0, .slice none 0 0] 36 (0, 0)) := (gx.block _ (blkl BX.out.1) (by have := BX.out.2.2.1; omega)).trans BX.out.1
  have MP : Aside (∃ D', MpW w2 B (l) D') := hm
  have r0 : w2.cell? ⟨b0 + 2, 0, none⟩ = some (.int .i64 0) := blkc RB rfl
  have r1 : w2.cell? ⟨b0 + 2, 1, none⟩ = some (.bool false) := blkc RB rfl
  have r2 : w2.cell? ⟨b0 + 2, 2, none⟩ = some (.int .u64 0) := blkc RB rfl
  have r3 : w2.cell? ⟨b0 + 2, 3, none⟩ = some (.int .u64 0) := blkc RB rfl
  have r4 : w2.cell? ⟨b0 + 2, 4, none⟩ = some (.int .i64 0) := blkc RB rfl
  have r5 : w2.cell? ⟨b0 + 2, 5, none⟩ = some (.slice none 0 0) := blkc RB rfl
  have fz : ∀ o : Nat, w2.frozen? ⟨b0 + 2, o, none⟩ = false := fun o => blkf RB
  have sc : ∀ (W : World) (b i j : Nat) (u : Value), (i == j) = false → (W.setCell ⟨b, i, none⟩ u).cell? ⟨b, j, none⟩ = W.cell? ⟨b, j, none⟩ := set_ne23
  clear RB gx hm gw rg
  go_wp2_with fail
  refine bodyPost_ret (v := awV ⟨0, false, 0, 0, 0, btwP l k v⟩ (some ⟨g, 0, none⟩) n) (by simp [results, Try.results21, go_sem, sc, r0, r1, r2, r3, r4, r5, awV, LN.out]) rfl ?_
  rw [AE.out, NE.out]
  refine doj_fin (b2 := b0 + 2) (w2 := w2) MP.out GX.out BS.out (by have := BX.out.2.2.1; have := HB.out; omega) (RG.out.ls pc2_len23) (fun a e h0 => by cases e; exact GE.out) (fun e => by cases e) ?_
  iterate 6 refine Gx.set (S := fun q => q = b0 + 2) (q := b0 + 2) ?_ (.inl rfl) _ _
  exact Gx.refl _ _
set_option maxRecDepth 100000 in
set_option maxHeartbeats 4000000 in
theorem jdo3 (B : Nat) (most k v : Int) (l : Ps) (D : DU) (hl : l.length ≤ 3999999) (hk : 0 ≤ k ∧ k < 18446744073709551616) (hv : 0 ≤ v ∧ v < 18446744073709551616) (w : World) (h : MpW w B l D) :
    Calls Try.prog 21 #[.agg #[.map (some B), .int .i64 most], .agg #[.int .i64 3, .int .u64 k, .int .u64 v]] w fun e w' => DoK w w' e B (nxtP most l 3 k v) (ansP most l 3 k v) := by
  obtain ⟨b0, hb0⟩ : ∃ b0, w.heap.size = b0 := ⟨_, rfl⟩
  obtain ⟨V, hV⟩ : ∃ V, ((w.alloc (.cells #[.map (some B), .int .i64 most] 65)).alloc (.cells #[.int .i64 3, .int .u64 k, .int .u64 v] 33)).alloc (.cells #[.int .i64 0, .bool false, .int .u64 0, .int .u64 0, .int .i64 0, .slice none 0 0] 36) = V := ⟨_, rfl⟩
  have GV : Aside (Gw w V) := by rw [← hV]; exact (((Gw.refl w).alloc _ _).alloc _ _).alloc _ _
  have Blt := h.lt
  have BX : Aside (V.heap[b0 + 2]? = some (.cells #[.int .i64 0, .bool false, .int .u64 0, .int .u64 0, .int .i64 0, .slice none 0 0] 36 (0, 0)) ∧ w.heap.size = b0 ∧ B < b0 ∧ MpW V B l D) := by
    refine ⟨?_, hb0, by omega, h.gw GV.out⟩
    have := heap_alloc_new ((w.alloc (.cells #[.map (some B), .int .i64 most] 65)).alloc (.cells #[.int .i64 3, .int .u64 k, .int .u64 v] 33)) (.cells #[.int .i64 0, .bool false, .int .u64 0, .int .u64 0, .int .i64 0, .slice none 0 0] 36)
    rw [hV] at this
    simpa [hb0] using this
  have HV : Aside (((w.alloc (.cells #[.map (some B), .int .i64 most] 65)).alloc (.cells #[.int .i64 3, .int .u64 k, .int .u64 v] 33)).alloc (.cells #[.int .i64 0, .bool false, .int .u64 0, .int .u64 0, .int .i64 0, .slice none 0 0] 36) = V) := hV
  have HB : Aside (w.heap.size = b0) := hb0
  have BS : Aside (w.heap.size ≤ b0 + 2) := by show _ ≤ _; rw [HB.out]; omega
  have hown2 := BX.out.2.2.2.1
  rw [← HV.out] at hown2
  have hkey := key23 hk
  have MI : Aside (MpI D l) := h.2.1
  have HM : Aside (MpW w B l D) := h
  have AE : Aside (ansP most l 3 k v = ⟨0, isK l k, 0, if isK l k = true then vlP l k else 0, 0, []⟩) := by show _ = _; unfold ansP; simp [aw0, vlP]
  have NE : Aside (nxtP most l 3 k v = l) := same_nxt _ _ _ _ _ (by decide) (by decide)
  have HS : Aside (Maps.has D (.int .u64 k) = isK l k) := MI.out.has k hk.1 hk.2
  obtain ⟨t, ht⟩ : ∃ t, Maps.has D (.int .u64 k) = t := ⟨_, rfl⟩
  have HT : Aside (isK l k = t) := by rw [← HS.out]; exact ht
  clear hV hb0 h Blt
  go_enter Try.func21, Try.ntmps21
  go_wp2_with (first
    | (at_lookup; refine wpList_lookup_own_ok_int _ rfl _ _ 63 rfl 31 31 .u64 law23 Try.underlying63 Try.underlying31 (zero23 _) B l.length D rfl hown2 _ _ rfl hkey ?_; intro c hat hwc)
    | go_in)
  have HC : Aside (c = if isK l k = true then vlP l k else 0) := by
    show _ = _
    cases t with
    | true =>
      rw [if_pos HT.out]
      have := (MI.out.val k hk.1 hk.2 HT.out (.lit (.int .u64 0))).symm.trans hat
      injection this with e1
      injection e1 with _ e2
      exact e2.symm
    | false =>
      rw [if_neg (by rw [HT.out]; simp)]
      have := (Maps.atKey_of_not_has ht (.lit (.int .u64 0) : DU)).symm.trans hat
      injection this with e1
      injection e1 with _ e2
      exact e2.symm
  refine bodyPost_ret (v := awV ⟨0, t, 0, c, 0, []⟩ none 0) (by simp [results, Try.results21, go_sem, awV]) rfl ?_
  rw [AE.out, NE.out, ← HC.out, HT.out]
  have G : Gw w (((w.alloc (.cells #[.map (some B), .int .i64 most] 65)).alloc (.cells #[.int .i64 3, .int .u64 k, .int .u64 v] 33)).alloc (.cells #[.int .i64 0, .bool t, .int .u64 0, .int .u64 c, .int .i64 0, .slice none 0 0] 36)) := (((Gw.refl w).alloc _ _).alloc _ _).alloc _ _
  exact ⟨none, 0, rfl, ⟨D, HM.out.gw G⟩, pl_none _, (fun a e => by cases e), (fun _ => ⟨rfl, rfl⟩), G.gx _⟩
set_option maxRecDepth 100000 in
set_option maxHeartbeats 4000000 in
theorem jdo0 (B : Nat) (most kd k v : Int) (l : Ps) (D : DU) (hl : l.length ≤ 3999999) (hk : 0 ≤ k ∧ k < 18446744073709551616) (hv : 0 ≤ v ∧ v < 18446744073709551616) (h1 : kd ≠ 1) (h2 : kd ≠ 2) (h3 : kd ≠ 3) (h4 : kd ≠ 4) (h5 : kd ≠ 5) (h6 : kd ≠ 6) (h7 : kd ≠ 7) (w : World) (h : MpW w B l D) :
    Calls Try.prog 21 #[.agg #[.map (some B), .int .i64 most], .agg #[.int .i64 kd, .int .u64 k, .int .u64 v]] w fun e w' => DoK w w' e B (nxtP most l kd k v) (ansP most l kd k v) := by
  obtain ⟨b0, hb0⟩ : ∃ b0, w.heap.size = b0 := ⟨_, rfl⟩
  obtain ⟨V, hV⟩ : ∃ V, ((w.alloc (.cells #[.map (some B), .int .i64 most] 65)).alloc (.cells #[.int .i64 kd, .int .u64 k, .int .u64 v] 33)).alloc (.cells #[.int .i64 0, .bool false, .int .u64 0, .int .u64 0, .int .i64 0, .slice none 0 0] 36) = V := ⟨_, rfl⟩
  have GV : Aside (Gw w V) := by rw [← hV]; exact (((Gw.refl w).alloc _ _).alloc _ _).alloc _ _
  have Blt := h.lt
  have BX : Aside (V.heap[b0 + 2]? = some (.cells #[.int .i64 0, .bool false, .int .u64 0, .int .u64 0, .int .i64 0, .slice none 0 0] 36 (0, 0)) ∧ w.heap.size = b0 ∧ B < b0 ∧ MpW V B l D) := by
    refine ⟨?_, hb0, by omega, h.gw GV.out⟩
    have := heap_alloc_new ((w.alloc (.cells #[.map (some B), .int .i64 most] 65)).alloc (.cells #[.int .i64 kd, .int .u64 k, .int .u64 v] 33)) (.cells #[.int .i64 0, .bool false, .int .u64 0, .int .u64 0, .int .i64 0, .slice none 0 0] 36)
    rw [hV] at this
    simpa [hb0] using this
  have HV : Aside (((w.alloc (.cells #[.map (some B), .int .i64 most] 65)).alloc (.cells #[.int .i64 kd, .int .u64 k, .int .u64 v] 33)).alloc (.cells #[.int .i64 0, .bool false, .int .u64 0, .int .u64 0, .int .i64 0, .slice none 0 0] 36) = V) := hV
  have HB : Aside (w.heap.size = b0) := hb0
  have BS : Aside (w.heap.size ≤ b0 + 2) := by show _ ≤ _; rw [HB.out]; omega
  have HM : Aside (MpW w B l D) := h
  have AE : Aside (ansP most l kd k v = ⟨1, false, 0, 0, 0, []⟩) := by show _ = _; unfold ansP; simp [aw0, h1, h2, h3, h4, h5, h6, h7]
  have NE : Aside (nxtP most l kd k v = l) := same_nxt _ _ _ _ _ h1 h2
  have e1 : (kd == 1) = false := by simpa using h1
  have e2 : (kd == 2) = false := by simpa using h2
  have e3 : (kd == 3) = false := by simpa using h3
  have e4 : (kd == 4) = false := by simpa using h4
  have e5 : (kd == 5) = false := by simpa using h5
  have e6 : (kd == 6) = false := by simpa using h6
  have e7 : (kd == 7) = false := by simpa using h7
  clear hV hb0 h Blt h1 h2 h3 h4 h5 h6 h7
  go_enter Try.func21, Try.ntmps21
  go_wp2_with fail
  refine bodyPost_ret (v := awV ⟨1, false, 0, 0, 0, []⟩ none 0) (by simp [results, Try.results21, go_sem, awV]) rfl ?_
  rw [AE.out, NE.out]
  have G : Gw w (((w.alloc (.cells #[.map (some B), .int .i64 most] 65)).alloc (.cells #[.int .i64 kd, .int .u64 k, .int .u64 v] 33)).alloc (.cells #[.int .i64 1, .bool false, .int .u64 0, .int .u64 0, .int .i64 0, .slice none 0 0] 36)) := (((Gw.refl w).alloc _ _).alloc _ _).alloc _ _
  exact ⟨none, 0, rfl, ⟨D, HM.out.gw G⟩, pl_none _, (fun a e => by cases e), (fun _ => ⟨rfl, rfl⟩), G.gx _⟩
theorem jdo23 (B : Nat) (most kd k v : Int) (l : Ps) (D : DU) (hl : l.length ≤ 3999999) (hk : 0 ≤ k ∧ k < 18446744073709551616) (hv : 0 ≤ v ∧ v < 18446744073709551616) (w : World) (h : MpW w B l D) :
    Calls Try.prog 21 #[.agg #[.map (some B), .int .i64 most], .agg #[.int .i64 kd, .int .u64 k, .int .u64 v]] w fun e w' => DoK w w' e B (nxtP most l kd k v) (ansP most l kd k v) := by
  by_cases h1 : kd = 1
  · subst h1; exact jdo1 B most k v l D hl hk hv w h
  by_cases h2 : kd = 2
  · subst h2; exact jdo2 B most k v l D hl hk hv w h
  by_cases h3 : kd = 3
  · subst h3; exact jdo3 B most k v l D hl hk hv w h
  by_cases h4 : kd = 4
  · subst h4; exact jdo4 B most k v l D hl hk hv w h
  by_cases h5 : kd = 5
  · subst h5; exact jdo5 B most k v l D hl hk hv w h
  by_cases h6 : kd = 6
  · subst h6; exact jdo6 B most k v l D hl hk hv w h
  by_cases h7 : kd = 7
  · subst h7; exact jdo7 B most k v l D hl hk hv w h
  exact jdo0 B most kd k v l D hl hk hv h1 h2 h3 h4 h5 h6 h7 w h
end Go.Proofs.Ytkojcjfjmlompaa
