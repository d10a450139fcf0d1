/- Package merge: things told to a loop's body. -/
import Derived.Test.YthkahedhmfkhhaaPHE
import Derived.Test.YthkahedhmfkhhaaPTyC
import Derived.Sort.LoopGhostIn
namespace Go.Proofs.Ythkahedhmfkhhaa
open Go.RowKit Go.Shelf
set_option linter.unusedVariables false

attribute [local go_sem] Oper.semAt_some

set_option maxRecDepth 100000 in
set_option maxHeartbeats 4000000 in
theorem tellY_e (K : Nat) (key : Ent → Int) (FK : FnK encE key Ent.ok K) (l n0 : Nat) (M R Wr : Nat → Prop) (out : List Ent) (J Jx : List Ent → (Nat → Prop) → World → Prop) (Z : World → Prop)
    (hJ : ∀ pre O W1 W2, J pre O W1 → Ko n0 Wr O W1 W2 → J pre O W2)
    (hY : ∀ pre x O W1, J pre O W1 → n0 ≤ W1.heap.size → (pre ++ [x]) <+: out → ∀ k, YieldAt Fence.wide k Try.prog l #[encE x] W1 fun e W' => ∃ O', (∀ q, O' q → (O q ∨ W1.heap.size ≤ q) ∧ q < W'.heap.size) ∧ Gx (fun q => (q < n0 ∧ M q) ∨ (n0 ≤ q ∧ O q)) W1 W' ∧ ((e = .returned (.bool true) ∧ J (pre ++ [x]) O' W') ∨ (e = .returned (.bool false) ∧ Jx (pre ++ [x]) O' W')))
    (hZ : ∀ W W', Z W → W.heap.size ≤ W'.heap.size → (∀ q, R q ∨ Wr q → W'.heap[q]? = W.heap[q]?) → Z W') (hRM : ∀ q, R q ∨ Wr q → q < n0 ∧ ¬ M q)
    (L : List (Lst Ent)) (ao : Option Addr) (c : Nat) (hL : L.length ≤ 2000000) (w : World) (hv : LV w ao L) (hok : ∀ s ∈ L, LOk Ent.ok w.heap.size s) (hel : ∀ s ∈ L, s.l ≠ [] → ElE w s) (hnb : ∀ s ∈ L, s.l ≠ [] → n0 ≤ s.b) (hn0 : n0 ≤ w.heap.size) (hM : Mg key (L.map Lst.l) out) (j0 : J [] (fun _ => False) w) (z0 : Z w) :
    CallsIn Fence.wide 2 Try.prog 26 #[.func (.func K) #[] #[], .slice ao L.length c, .func (.yield l) #[] #[]] w fun e W' => (∃ v, e = .returned v) ∧ Z W' ∧ w.heap.size ≤ W'.heap.size ∧ ((∃ O, J out O W') ∨ (∃ pre O, pre <+: out ∧ Jx pre O W')) := by
  obtain ⟨n, hn⟩ : ∃ n, L.length = n := ⟨_, rfl⟩
  have HO := heapOf_e K key FK L ao c (by omega) w hv hok hel
  rw [hn] at HO ⊢
  have HOF : Hid _ := HO
  have LN : Aside (L.length = n) := hn
  have HY : Hid _ := hY
  have ST : Hid (∀ W hv H, Tl 89 92 (ElE) Ent.ok key L w.heap.size K [] L hv (.slice none 0 0) H [] W → Gw w W → TlY 89 92 (ElE) Ent.ok key L w.heap.size K n0 J Z [] (fun _ => False) L hv (.slice none 0 0) H [] W) := fun W hv H t g => ⟨t, fun q hq e => e, hnb, fun s hs ne e => e, fun q e => e.elim, hJ _ _ _ _ j0 (Ko.gw g), hZ _ _ z0 g.size (fun q hq => g.below.block q (by have := (hRM q hq).1; omega)), hn0, Nat.le_trans (Nat.le_succ _) (blkl t.st.hp.blk)⟩
  obtain ⟨hb, hhb⟩ : ∃ hb, w.heap.size = hb := ⟨_, rfl⟩
  have HBE : Aside (w.heap.size = hb) := hhb
  rw [hhb] at HOF ST
  have NX : Hid (∀ told O Lc hv pv H P wr, TlY 89 92 (ElE) Ent.ok key L hb K n0 J Z told O Lc hv pv H P wr → Calls Try.prog 41 #[.pointer (some ⟨hb, 0, none⟩)] wr fun e w' => NextR 89 92 wr hb K 3 hv pv H key encE (.agg #[.int .u64 0, .int .u64 0, .bool false]) e w') := fun told O Lc hv pv H P wr h => next_e hb _ hv pv H P key FK (by have := h.tl.few; omega) (by have := h.tl.pl; omega) wr h.tl.st h.tl.ho (h.tl.me (by omega))
  have STEP : Hid _ := fun told O Lc hv pv H P wr w' e (h : TlY 89 92 (ElE) Ent.ok key L hb K n0 J Z told O Lc hv pv H P wr) ne r => h.next (elpE) (enc := encE) (zero := .agg #[.int .u64 0, .int .u64 0, .bool false]) (w' := w') (e := e) hJ hZ hRM ne r
  have OUT : Aside (Mg key (L.map Lst.l) out) := hM
  have HJ : Hid _ := hJ
  have HZ : Hid _ := hZ
  have HRM : Hid _ := hRM
  have N0 : n0 ≤ hb := by omega
  obtain ⟨sz, hsz⟩ : ∃ sz, sizes (L.map Lst.l) = sz := ⟨_, rfl⟩
  have SZ : Aside (sizes (L.map Lst.l) = sz) := hsz
  clear hsz
  clear HO hv hok hel hn hhb j0 z0 hnb hY hM
  have hro : Fence.wide.round = none := rfl
  refine callsIn_of_wp Try.func26 rfl trivial ?_ hro
  simp only [Try.ntmps26, List.size_toArray, List.length_cons, List.length_nil, Nat.reduceAdd, Nat.reduceSub, Array.replicate_succ, Array.replicate_zero, List.push_toArray, List.append_toArray, List.nil_append, List.cons_append]
  gi_wp2
  refine ⟨trivial, ?_⟩
  refine CallsIn.mono (callsIn_wide.2 HOF.out) ?_
  rintro e w1 ⟨rfl, ⟨hv, H, t1⟩, g1⟩
  have T1 : Hid _ := ST.out w1 hv H t1 g1
  clear t1 g1 HOF ST
  gi_wp2
  gi_loopg [] (sz + 1) (fun gg wr => ∃ (told : List Ent) (O : Nat → Prop) (Lc : List (Lst Ent)) (hv pv : Value) (H P : List (Hd Ent)) (m : Nat), m < gg ∧ Aside (sizes (Lc.map Lst.l) = m) ∧ Hid (TlY 89 92 (ElE) Ent.ok key L hb K n0 J Z told O Lc hv pv H P wr))
  case atStart => exact ⟨[], _, L, hv, _, H, [], sz, by omega, SZ, T1⟩
  case round =>
    clear T1
    obtain ⟨told, O, Lc, hv, pv, H, P, m, mg, MS, TT⟩ := hrel
    obtain ⟨wS, hwS⟩ : ∃ wx, wx = wr := ⟨_, rfl⟩
    subst hwS
    have NXX : Hid _ := NX.out _ _ _ _ _ _ _ _ TT.out
    by_cases hE : H = []
    · have NX2 : Hid (Calls Try.prog 41 #[.pointer (some ⟨hb, 0, none⟩)] wS fun e w' => e = .returned (.tuple #[.agg #[.int .u64 0, .int .u64 0, .bool false], .bool false]) ∧ Gw wS w') := Calls.mono NXX.out fun e w' r => r.1 hE
      have OV : Aside (told = out) := Mg.one (TT.out.tl.over hE) OUT.out
      have FIN : Hid (∀ W, Gw wS W → Z W ∧ w.heap.size ≤ W.heap.size ∧ ((∃ O, J out O W) ∨ (∃ pre O, pre <+: out ∧ Jx pre O W))) := fun W g => ⟨HZ.out _ _ TT.out.z g.size (fun q hq => g.below.block q (by have := (HRM.out q hq).1; have := TT.out.sz; omega)), by rw [HBE.out]; exact Nat.le_trans TT.out.sz g.size, .inl ⟨O, by rw [← OV.out]; exact HJ.out _ _ _ _ TT.out.j (Ko.gw g)⟩⟩
      clear hE NX NXX STEP
      gi_wp2
      refine ⟨trivial, ?_⟩
      refine CallsIn.mono (callsIn_wide.2 NX2.out) ?_
      rintro e w2 ⟨rfl, g2⟩
      have FF : Hid _ := FIN.out _ (g2.alloc (#[.int .u64 0, .int .u64 0, .bool false]) 32)
      clear g2 NX2 FIN
      gi_wp2
      refine ⟨fun _ h => (by cases h), ?_⟩
      gi_wp2
      refine bodyPost_ret (results_none rfl _ _ _) rfl ?_
      exact ⟨⟨_, rfl⟩, FF.out⟩
    · have NX2 : Hid _ := Calls.mono NXX.out fun e w' r => STEP.out told O Lc hv pv H P wS w' e TT.out hE r
      clear hE NX NXX STEP
      gi_wp2
      refine ⟨trivial, ?_⟩
      refine CallsIn.mono (callsIn_wide.2 NX2.out) ?_
      rintro e w2 ⟨x, rfl, j2, z2, h2, pf, s2, Lc', hv', pv', H', P', slt, STP⟩
      have SLT : Aside (sizes (Lc'.map Lst.l) < m) := by rw [← MS.out]; exact slt
      have STH : Hid _ := STP
      have PFX : Hid _ := pf out OUT.out
      have J2 : Hid (J told O w2) := j2
      have Z2 : Hid (Z w2) := z2
      clear slt pf NX2 STP j2 z2
      obtain ⟨xk, xv, xg⟩ := x
      simp only [encE]
      obtain ⟨W3, E3⟩ : ∃ W3, w2.alloc (.cells #[.int .u64 xk, .int .u64 xv, .bool xg] 32) = W3 := ⟨_, rfl⟩
      have G3 : Hid (Gw w2 W3) := by rw [← E3]; exact (Gw.refl w2).alloc _ _
      have b3 : W3.heap[w2.heap.size]? = some (.cells #[.int .u64 xk, .int .u64 xv, .bool xg] 32 (0, 0)) := by rw [← E3]; exact heap_alloc_new w2 _
      have d0 := blkc (o := 0) b3 rfl
      have d1 := blkc (o := 1) b3 rfl
      have d2 := blkc (o := 2) b3 rfl
      have l3 : w2.heap.size < W3.heap.size := blkl b3
      clear b3
      have yy := HY.out told (⟨xk, xv, xg⟩ : Ent) O W3 (HJ.out _ _ _ _ J2.out (Ko.gw G3.out)) (by have := G3.out.size; omega) PFX.out 1
      simp only [encE] at yy
      obtain ⟨fn, tmps, assign, body, hy, hR⟩ := yy
      have HRR : Hid _ := hR
      clear hR HY
      gi_wp2
      refine RoundIn.mono (RoundIn.anyW HRR.out) ?_
      rintro e W5 ⟨O', o1, g5, (⟨rfl, j5⟩ | ⟨rfl, j5⟩)⟩
      · have T5 : Hid _ := STH.out W3 W5 O' G3.out j5 o1 g5
        clear j5 o1 g5 STH HRR
        obtain ⟨m', hm'⟩ : ∃ m', sizes (Lc'.map Lst.l) = m' := ⟨_, rfl⟩
        have MS' : Aside (sizes (Lc'.map Lst.l) = m') := hm'
        have ml : m' < m := by rw [← hm']; exact SLT.out
        clear hm'
        gi_wp2
        go_roundg (m' + 1)
        case measure => omega
        case rel => exact ⟨_, O', Lc', hv', pv', H', P', m', by omega, MS', T5⟩
      · have FF : Hid (Z W5 ∧ w.heap.size ≤ W5.heap.size ∧ ((∃ O, J out O W5) ∨ (∃ pre O, pre <+: out ∧ Jx pre O W5))) := by
          have z3 := HZ.out _ _ Z2.out G3.out.size (fun q hq => G3.out.below.block q (by have := (HRM.out q hq).1; omega))
          refine ⟨HZ.out _ _ z3 g5.size (fun q hq => g5.block q (by have := (HRM.out q hq).1; have := G3.out.size; omega) (fun e => by
            have := HRM.out q hq
            rcases e with ⟨_, y⟩ | ⟨y, _⟩
            · exact this.2 y
            · omega)), by have := g5.size; have := G3.out.size; rw [HBE.out]; omega, .inr ⟨_, O', PFX.out, j5⟩⟩
        clear j5 o1 g5 STH HRR
        gi_wp2
        refine bodyPost_ret (results_none rfl _ _ _) rfl ?_
        exact ⟨⟨_, rfl⟩, FF.out⟩
end Go.Proofs.Ythkahedhmfkhhaa
