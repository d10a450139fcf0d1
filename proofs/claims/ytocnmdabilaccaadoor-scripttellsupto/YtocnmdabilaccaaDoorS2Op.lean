/- Package script: the operation of a command. -/
import Derived.Test.YtocnmdabilaccaaDoorS2Num
import Derived.Test.YtocnmdabilaccaaDoorS1Ref7
namespace Go.Proofs.YtocnmdabilaccaaDoor
open Go.RowKit
set_option linter.unusedVariables false

theorem chk_zero {l : List UInt8} {n : Nat} : chkW l n = 0 ↔ takes l = (n : Int) := by
  unfold chkW
  constructor
  · intro h
    split at h
    · omega
    · split at h
      · omega
      · rename_i q; exact Decidable.of_not_not q
  · intro h
    rw [if_neg (by omega), if_neg (fun q => q h)]
theorem kind_nums {l : List UInt8} {n : Nat} (h : kindOf l ≠ 0) (t : takes l = (n : Int)) : n = 1 ∨ n = 2 := by
  by_cases q : l ∈ words7
  · simp only [words7, List.mem_cons, List.not_mem_nil, or_false] at q
    have k : takes l = 1 ∨ takes l = 2 := by
      rcases q with q | q | q | q | q | q | q <;> rw [q] <;> decide
    omega
  · simp only [words7, List.mem_cons, List.not_mem_nil, or_false, not_or] at q
    obtain ⟨q1, q2, q3, q4, q5, q6, q7⟩ := q
    exfalso
    apply h
    unfold kindOf
    rw [if_neg q1, if_neg q2, if_neg q3, if_neg q4, if_neg q5, if_neg q6, if_neg q7]
set_option maxRecDepth 100000 in
set_option maxHeartbeats 8000000 in
theorem op_any (c : Cd) (bo : Option Addr) (cp : Nat) (w : World) (hn : c.nums.length ≤ 2000000) (h : KS w bo c.nums.length (fun j => c.nums.getD j 0)) :
    Calls Tryd.prog 16 #[.agg #[.string (Bs c.word), .slice bo c.nums.length cp]] w fun e w' => e = opR (opOf c) ∧ Gw w w' := by
  obtain ⟨m, hm⟩ : ∃ m, c.nums.length = m := ⟨_, rfl⟩
  obtain ⟨cw, hcw⟩ : ∃ cw, c.word = cw := ⟨_, rfl⟩
  have OE : Aside (opOf c = if kindOf cw = 0 ∨ takes cw ≠ (m : Int) then (false, 0, 0, 0) else (true, kindOf cw, c.nums.getD 0 0, c.nums.getD 1 0)) := by show _ = _; rw [← hm, ← hcw]; rfl
  have KN : Hid (kindOf cw ≠ 0 → takes cw = (m : Int) → m = 1 ∨ m = 2) := kind_nums
  have X1 : Hid (m = 1 → c.nums.getD 1 0 = 0) := fun q => by simp [List.getD, List.getElem?_eq_none (show c.nums.length ≤ 1 by omega)]
  have CZ : Hid (chkW cw m = 0 ↔ takes cw = (m : Int)) := chk_zero
  rw [hm] at hn h ⊢
  rw [hcw]
  have KH : Hid (KS w bo m (fun j => c.nums.getD j 0)) := h
  have KD : Hid (∀ W, Calls Tryd.prog 33 #[.string (Bs cw)] W fun e w' => e = .returned (.tuple #[.int .i64 (kindOf cw), .bool (decide (kindOf cw ≠ 0))]) ∧ w' = W) := kind_any cw
  have CK : Hid (∀ W, Calls Tryd.prog 26 #[.string (Bs cw), .int .i64 (m : Int)] W fun e w' => e = .returned (.int .i64 (chkW cw m)) ∧ w' = W) := check_any cw m (by omega)
  clear h hm hcw
  obtain ⟨k, hk⟩ : ∃ k, kindOf cw = k := ⟨_, rfl⟩
  obtain ⟨tk, htk⟩ : ∃ tk, takes cw = tk := ⟨_, rfl⟩
  obtain ⟨ck, hck⟩ : ∃ ck, chkW cw m = ck := ⟨_, rfl⟩
  obtain ⟨x0, hx0⟩ : ∃ y, c.nums.getD 0 0 = y := ⟨_, rfl⟩
  obtain ⟨x1, hx1⟩ : ∃ y, c.nums.getD 1 0 = y := ⟨_, rfl⟩
  have C0 : Hid (∀ W, Gw w W → 0 < m → ∃ kb kf, bo = some ⟨kb, kf, none⟩ ∧ kb < w.heap.size ∧ W.cell? ⟨kb, kf, none⟩ = some (.int .u64 x0) ∧ (1 < m → W.cell? ⟨kb, kf + 1, none⟩ = some (.int .u64 x1))) := fun W g q => by
    obtain ⟨kb, kf, e, hb, _⟩ := KH.out.cells q
    obtain ⟨kb', kf', e', _, kc⟩ := (KH.out.gw g).cells q
    rw [e] at e'
    cases e'
    refine ⟨kb, kf, e, hb, ?_, fun q1 => ?_⟩
    · have := kc 0 q; simp only [hx0, Nat.add_zero] at this; exact this
    · have := kc 1 q1; simp only [hx1] at this; exact this
  rw [hk, htk, hx0, hx1] at OE
  rw [hk, htk] at KN
  rw [hck, htk] at CZ
  rw [hk] at KD
  rw [hck] at CK
  rw [hx1] at X1
  clear hk htk hck hx0 hx1 KH
  obtain ⟨N, hN⟩ : ∃ N, w.heap.size = N := ⟨_, rfl⟩
  obtain ⟨w1, E1⟩ : ∃ W, w.alloc (.cells #[.string (Bs cw), .slice bo m cp] 30) = W := ⟨_, rfl⟩
  obtain ⟨w0, E2⟩ : ∃ W, w1.alloc (.cells #[.int .i64 0, .int .u64 0, .int .u64 0] 38) = W := ⟨_, rfl⟩
  have z1 : w1.heap.size = N + 1 := by rw [← E1]; simp [hN]
  have z0 : w0.heap.size = N + 2 := by rw [← E2]; simp [z1]
  have g10 : Gw w1 w0 := by rw [← E2]; exact (Gw.refl _).alloc _ _
  have G0 : Hid (Gw w w0) := (by rw [← E1]; exact (Gw.refl w).alloc _ _ : Gw w w1).trans g10
  have B0 : Hid (w0.heap[N]? = some (.cells #[.string (Bs cw), .slice bo m cp] 30 (0, 0))) := (g10.below.block N (by omega)).trans (by rw [← E1, ← hN]; exact heap_alloc_new _ _)
  have B1 : Hid (w0.heap[N + 1]? = some (.cells #[.int .i64 0, .int .u64 0, .int .u64 0] 38 (0, 0))) := by show _ = _; rw [← E2, ← z1]; exact heap_alloc_new _ _
  have ALL : Hid ((w.alloc (.cells #[.string (Bs cw), .slice bo m cp] 30)).alloc (.cells #[.int .i64 0, .int .u64 0, .int .u64 0] 38) = w0) := by show _ = _; rw [E1, E2]
  have NH : Hid (w.heap.size = N) := hN
  have Z0 : Hid (w0.heap.size = N + 2) := z0
  have a0 : w0.cell? ⟨N, 0, none⟩ = some (.string (Bs cw)) := blkc B0.out rfl
  have a1 : w0.cell? ⟨N, 1, none⟩ = some (.slice bo m cp) := blkc B0.out rfl
  have q0 := blkf (o := 0) B1.out
  have q1 := blkf (o := 1) B1.out
  have q2 := blkf (o := 2) B1.out
  have m0 : w0.cell? ⟨N + 1, 0, none⟩ = some (.int .i64 0) := blkc B1.out rfl
  have m1 : w0.cell? ⟨N + 1, 1, none⟩ = some (.int .u64 0) := blkc B1.out rfl
  have m2 : w0.cell? ⟨N + 1, 2, none⟩ = some (.int .u64 0) := blkc B1.out rfl
  have bl := blkl B1.out
  have NO : Hid (opOf c = (false, 0, 0, 0) → ∃ u0 u1 u2, opR (opOf c) = .returned (.tuple #[.agg #[u0, u1, u2], .bool false]) ∧ u0 = .int .i64 0 ∧ u1 = .int .u64 0 ∧ u2 = .int .u64 0) := fun q => ⟨_, _, _, by rw [q]; rfl, rfl, rfl, rfl⟩
  have TB := box3w B1.out (.int .i64 0) (.int .u64 0) (.int .u64 0)
  have T0 := blkc (o := 0) TB rfl
  have T1 := blkc (o := 1) TB rfl
  have T2 := blkc (o := 2) TB rfl
  have FIN : Hid (Gw w (((w0.setCell ⟨N + 1, 0, none⟩ (.int .i64 0)).setCell ⟨N + 1, 1, none⟩ (.int .u64 0)).setCell ⟨N + 1, 2, none⟩ (.int .u64 0))) := ((G0.out.setCell (by show _ ≤ N + 1; omega) _).setCell (by show _ ≤ N + 1; omega) _).setCell (by show _ ≤ N + 1; omega) _
  clear E1 E2 z1 z0 g10 TB
  go_enter Tryd.func16, Tryd.ntmps16
  go_wp2_with (go_at_call 33; fail)
  rw [ALL.out]
  refine (KD.out _).mono ?_
  rintro e w' ⟨rfl, hw⟩
  obtain rfl := hw.symm
  by_cases k0 : k = 0
  · have OP : Aside (opOf c = (false, 0, 0, 0)) := by show _ = _; rw [OE.out, if_pos (.inl k0)]
    have kd : decide (k ≠ 0) = false := by simp [k0]
    rw [kd]
    clear kd
    go_wp2_with fail
    refine bodyPost_ret (v := .tuple #[opw 0 0 0, .bool false]) (by simp [results, Tryd.results16, go_sem, T0, T1, T2, opw]) rfl ⟨by rw [OP.out]; rfl, FIN.out⟩
  · have kd : decide (k ≠ 0) = true := by simp [k0]
    rw [kd]
    clear kd
    by_cases c0 : ck = 0
    · subst c0
      have te := CZ.out.1 rfl
      have m12 := KN.out k0 te
      have OP : Aside (opOf c = (true, k, x0, x1)) := by show _ = _; rw [OE.out, if_neg (by rintro (q | q); exact k0 q; exact q te)]
      obtain ⟨kb, kf, rfl, hb, k1, k2⟩ := C0.out w0 G0.out (by omega)
      have kbl : kb < w0.heap.size := by have := NH.out; have := Z0.out; omega
      have bN : N < w0.heap.size := by have := Z0.out; omega
      have ml : (0 : Int) < (m : Int) := by omega
      have K2 : Hid (1 < m → ∀ W, Gw w W → W.cell? ⟨kb, kf + 1, none⟩ = some (.int .u64 x1)) := fun q W g => by
        obtain ⟨kb', kf', e', _, _, r⟩ := C0.out W g (by omega)
        cases e'
        exact r q
      have X1' := X1.out
      clear k2 te C0 CZ OE KN T0 T1 T2 FIN NO X1
      rcases m12 with rfl | rfl
      · have x10 := X1' rfl
        subst x10
        have TB := box3w B1.out (.int .i64 k) (.int .u64 x0) (.int .u64 0)
        have FIN : Hid (Gw w (((w0.setCell ⟨N + 1, 0, none⟩ (.int .i64 k)).setCell ⟨N + 1, 1, none⟩ (.int .u64 x0)).setCell ⟨N + 1, 2, none⟩ (.int .u64 0))) := ((G0.out.setCell (by show _ ≤ N + 1; omega) _).setCell (by show _ ≤ N + 1; omega) _).setCell (by show _ ≤ N + 1; omega) _
        have XL : N + 1 < (((w0.setCell ⟨N + 1, 0, none⟩ (.int .i64 k)).setCell ⟨N + 1, 1, none⟩ (.int .u64 x0)).setCell ⟨N + 1, 2, none⟩ (.int .u64 0)).heap.size := blkl TB
        have T0 : ∀ o, ((((w0.setCell ⟨N + 1, 0, none⟩ (.int .i64 k)).setCell ⟨N + 1, 1, none⟩ (.int .u64 x0)).setCell ⟨N + 1, 2, none⟩ (.int .u64 0)).alloc o).cell? ⟨N + 1, 0, none⟩ = some (.int .i64 k) := fun o => blkc (o := 0) ((Below.heap_alloc _ o _ XL).trans TB) rfl
        have T1 : ∀ o, ((((w0.setCell ⟨N + 1, 0, none⟩ (.int .i64 k)).setCell ⟨N + 1, 1, none⟩ (.int .u64 x0)).setCell ⟨N + 1, 2, none⟩ (.int .u64 0)).alloc o).cell? ⟨N + 1, 1, none⟩ = some (.int .u64 x0) := fun o => blkc (o := 1) ((Below.heap_alloc _ o _ XL).trans TB) rfl
        have T2 : ∀ o, ((((w0.setCell ⟨N + 1, 0, none⟩ (.int .i64 k)).setCell ⟨N + 1, 1, none⟩ (.int .u64 x0)).setCell ⟨N + 1, 2, none⟩ (.int .u64 0)).alloc o).cell? ⟨N + 1, 2, none⟩ = some (.int .u64 0) := fun o => blkc (o := 2) ((Below.heap_alloc _ o _ XL).trans TB) rfl
        clear TB XL
        go_wp2_with (go_at_call 26; refine (CK.out _).mono ?_; rintro e w' ⟨rfl, hw⟩; obtain rfl := hw.symm)
        refine bodyPost_ret (v := .tuple #[opw k x0 0, .bool true]) (by simp [results, Tryd.results16, go_sem, T0, T1, T2, opw]) rfl ⟨by rw [OP.out]; rfl, FIN.out.alloc _ _⟩
      · have k2 := K2.out (by omega) w0 G0.out
        have TB := box3w B1.out (.int .i64 k) (.int .u64 x0) (.int .u64 x1)
        have FIN : Hid (Gw w (((w0.setCell ⟨N + 1, 0, none⟩ (.int .i64 k)).setCell ⟨N + 1, 1, none⟩ (.int .u64 x0)).setCell ⟨N + 1, 2, none⟩ (.int .u64 x1))) := ((G0.out.setCell (by show _ ≤ N + 1; omega) _).setCell (by show _ ≤ N + 1; omega) _).setCell (by show _ ≤ N + 1; omega) _
        have XL : N + 1 < (((w0.setCell ⟨N + 1, 0, none⟩ (.int .i64 k)).setCell ⟨N + 1, 1, none⟩ (.int .u64 x0)).setCell ⟨N + 1, 2, none⟩ (.int .u64 x1)).heap.size := blkl TB
        have T0 : ∀ o, ((((w0.setCell ⟨N + 1, 0, none⟩ (.int .i64 k)).setCell ⟨N + 1, 1, none⟩ (.int .u64 x0)).setCell ⟨N + 1, 2, none⟩ (.int .u64 x1)).alloc o).cell? ⟨N + 1, 0, none⟩ = some (.int .i64 k) := fun o => blkc (o := 0) ((Below.heap_alloc _ o _ XL).trans TB) rfl
        have T1 : ∀ o, ((((w0.setCell ⟨N + 1, 0, none⟩ (.int .i64 k)).setCell ⟨N + 1, 1, none⟩ (.int .u64 x0)).setCell ⟨N + 1, 2, none⟩ (.int .u64 x1)).alloc o).cell? ⟨N + 1, 1, none⟩ = some (.int .u64 x0) := fun o => blkc (o := 1) ((Below.heap_alloc _ o _ XL).trans TB) rfl
        have T2 : ∀ o, ((((w0.setCell ⟨N + 1, 0, none⟩ (.int .i64 k)).setCell ⟨N + 1, 1, none⟩ (.int .u64 x0)).setCell ⟨N + 1, 2, none⟩ (.int .u64 x1)).alloc o).cell? ⟨N + 1, 2, none⟩ = some (.int .u64 x1) := fun o => blkc (o := 2) ((Below.heap_alloc _ o _ XL).trans TB) rfl
        clear TB XL
        go_wp2_with (go_at_call 26; refine (CK.out _).mono ?_; rintro e w' ⟨rfl, hw⟩; obtain rfl := hw.symm)
        refine bodyPost_ret (v := .tuple #[opw k x0 x1, .bool true]) (by simp [results, Tryd.results16, go_sem, T0, T1, T2, opw]) rfl ⟨by rw [OP.out]; rfl, FIN.out.alloc _ _⟩
    · have OP : Aside (opOf c = (false, 0, 0, 0)) := by show _ = _; rw [OE.out, if_pos (.inr (fun q => c0 (CZ.out.2 q)))]
      have cb : (ck == 0) = false := by simp [c0]
      clear C0 CZ OE KN
      go_wp2_with (go_at_call 26; refine (CK.out _).mono ?_; rintro e w' ⟨rfl, hw⟩; obtain rfl := hw.symm)
      refine bodyPost_ret (v := .tuple #[opw 0 0 0, .bool false]) (by simp [results, Tryd.results16, go_sem, T0, T1, T2, opw]) rfl ⟨by rw [OP.out]; rfl, FIN.out⟩
end Go.Proofs.YtocnmdabilaccaaDoor
