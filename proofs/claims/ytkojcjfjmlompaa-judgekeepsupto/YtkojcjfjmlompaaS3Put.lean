/- Layer 23, the document's: put. -/
import Derived.Test.YtkojcjfjmlompaaS3Mem
import Derived.BigQuiet
namespace Go.Proofs.Ytkojcjfjmlompaa
open Go.RowKit
set_option linter.unusedVariables false

/-- An append onto a row of the call's own, as a step of a list of operations. -/
theorem app3_w {P : Program} (w : World) {ops : Array Oper} {rest : List Oper} {o : Oper} {a : Act} {Q : Exit → Act → World → Prop} (hgd : o.guard = none) (s x : Operand) (t : TypeId)
    (ho : o.op = .call { callee := .builtin .append, args := #[s, x], argTypes := #[t, t] })
    (base : Nat) (e : TypeId) (i : TypeInfo) (z : Value) (size bytes : Nat) (ht : P.underlying t = some (.slice e)) (hi : P.info? e = some i) (hz : i.zero = some z)
    (hsize : i.size = size) (hby : i.bytes = bytes) (hzs : z.cells.size = size) (hsz : 0 < size)
    (k n cap0 : Nat) (xs : List Value) (hs : a.eval s = .slice (some ⟨k, 0, none⟩) n cap0) (hown : w.ownsRow base e size (.slice (some ⟨k, 0, none⟩) n cap0) n xs)
    (ao : Option Addr) (m c : Nat) (news : List Value) (hx : a.eval x = .slice ao m c) (hnone : ao = none → m = 0 ∧ c = 0) (hl : news.length = m * size) (hnews : ∀ ad, ao = some ad → ∀ j u, news[j]? = some u → w.cell? (ad.add j) = some u) (h1 : ∀ u ∈ news, u.oneCell' = true)
    (h63 : n + m ≤ maxLen) (hbytes : (n + m) * bytes ≤ 140737488355328) (hbase : base ≤ w.heap.size)
    (h : ∀ g cap w', w'.ownsRow base e size (.slice (some ⟨g, 0, none⟩) (n + m) cap) (n + m) (xs ++ news) → w.grownBy w' (some k) → g < w'.heap.size → wpList P ops Q rest (a.put o.dst (.slice (some ⟨g, 0, none⟩) (n + m) cap)) w') : wpList P ops Q (o :: rest) a w := by
  refine wpList_plain hgd fun K hK => ?_
  obtain ⟨g, cap, w', hr, h2, h3, h4, h5⟩ := run_append_any (P := P) w t o.type base e i z size bytes ht hi hz hsize hby hzs hsz k n cap0 xs hown ao m c news hnone hl hnews h1 h63 hbytes hbase
  unfold Oper.wp execOp
  simp only [ho, resolve, invoke, builtin, Sem.run_bind, Sem.run_pure, Result.andThen_ok, List.map_toArray, List.map_cons, List.map_nil, hs, hx, hr]
  exact hK _ _ (h g cap w' h2 h3 h5)
theorem own_setc {w : World} {base e s g n cap : Nat} {xs : List Value} (h : w.ownsRow base e s (.slice (some ⟨g, 0, none⟩) n cap) n xs) (k : Nat) (u : Value) : (w.setCell ⟨g, k, none⟩ u).ownsRow base e s (.slice (some ⟨g, 0, none⟩) n cap) n (xs.set k u) := by
  refine ⟨by rw [List.length_set]; exact h.1, ?_⟩
  rcases h.2 with ⟨q, _⟩ | ⟨g', cap', cur, q, hb, hh, h1, h2, h3, h4⟩
  · cases q
  · cases q
    refine .inr ⟨g, cap, cur.setIfInBounds k u, rfl, hb, by simp [World.setCell, Array.getElem?_modify, hh], h1, h2, by simpa using h3, ?_⟩
    rw [← h4, Array.toList_setIfInBounds, List.take_set]
theorem pcs_set : ∀ (l : Ps) (i : Nat) (k v : Int) (p : Int × Int), l[i]? = some p → p.1 = k → pcs (l.set i (k, v)) = (pcs l).set (i * 2 + 1) (.int .u64 v) := by
  intro l
  induction l with
  | nil => intro i k v p h; simp at h
  | cons x l ih =>
    intro i k v p h e
    have e0 : pcs (x :: l) = pc2 x ++ pcs l := by simp [pcs]
    cases i with
    | zero =>
      simp at h
      subst h
      subst e
      simp [pcs, pc2]
    | succ i =>
      rw [List.set_cons_succ, show pcs (x :: l.set i (k, v)) = pc2 x ++ pcs (l.set i (k, v)) by simp [pcs], ih i k v p (by simpa using h) e, e0, List.set_append_right _ _ (by show 2 ≤ _; omega), show (i + 1) * 2 + 1 - (pc2 x).length = i * 2 + 1 by show (i + 1) * 2 + 1 - 2 = _; omega]
theorem cuts23 {w : World} {bo : Option Addr} {c : Nat} {l : Ps} (h : w.ownsRow 0 44 2 (.slice bo l.length c) l.length (pcs l)) (k : Nat) (hk : k ≤ l.length) :
    ∃ (so : Option Addr) (sc : Nat) (to : Option Addr) (tc : Nat), (∀ W : World, (Instr.slice 34 (.slice bo l.length c) none (some (.int .i64 (k : Int))) none).run Try.prog W = .ok (.slice so k sc) W) ∧ (∀ W : World, (Instr.slice 34 (.slice bo l.length c) (some (.int .i64 (k : Int))) none none).run Try.prog W = .ok (.slice to (l.length - k) tc) W) ∧ (so = none → k = 0 ∧ sc = 0) ∧ (to = none → l.length - k = 0 ∧ tc = 0) ∧
      ∀ W' : World, (∀ q, (Value.slice bo l.length c).ownBlock = some q → W'.heap[q]? = w.heap[q]?) → (∀ ad, so = some ad → ∀ j u, (pcs (l.take k))[j]? = some u → W'.cell? (ad.add j) = some u) ∧ (∀ ad, to = some ad → ∀ j u, (pcs (l.drop k))[j]? = some u → W'.cell? (ad.add j) = some u) := by
  rcases id h.2 with ⟨q, q2⟩ | ⟨g, cap, cur, q, hb, hh, hc, r⟩
  · have e1 : l = [] := List.eq_nil_of_length_eq_zero q2
    subst e1
    have e2 : k = 0 := by simpa using hk
    subst e2
    cases q
    exact ⟨none, 0, none, 0, fun W => by simp [go_sem, Instr.slice], fun W => by simp [go_sem, Instr.slice], fun _ => ⟨rfl, rfl⟩, fun _ => ⟨rfl, rfl⟩, fun W' _ => ⟨(fun ad e => by cases e), (fun ad e => by cases e)⟩⟩
  · cases q
    have news : ∀ (W' : World), W'.heap[g]? = w.heap[g]? → ∀ o j u, (pcs l)[o + j]? = some u → W'.cell? ((⟨g, o, none⟩ : Addr).add j) = some u := fun W' k o j u hu => by
      have hj := (List.getElem?_eq_some_iff.1 hu).1
      rw [pcs_len] at hj
      have := World.ownsRow.cellAt h (o + j) hj
      rw [Addr.add_lit, World.cell?_of_block (a := ⟨g, o + j, none⟩) k, this, hu]
    have tk : ∀ j u, (pcs (l.take k))[j]? = some u → (pcs l)[0 + j]? = some u := fun j u hu => by
      rw [← pcs_take, List.getElem?_take] at hu
      split at hu
      · rw [Nat.zero_add]; exact hu
      · cases hu
    have dk : ∀ j u, (pcs (l.drop k))[j]? = some u → (pcs l)[k * 2 + j]? = some u := fun j u hu => by
      rw [← pcs_drop, List.getElem?_drop] at hu
      exact hu
    by_cases z : c = k
    · have e : l.length = k := by omega
      have en : l.drop k = [] := List.drop_eq_nil_of_le (by omega)
      refine ⟨some ⟨g, 0, none⟩, c, some ⟨g, 0, none⟩, 0, fun W => by simp [go_sem, Instr.slice]; omega, fun W => by simp [go_sem, Instr.slice, z, e], (fun e => by cases e), (fun e => by cases e), fun W' kp => ⟨fun ad e j u hu => ?_, fun ad e j u hu => ?_⟩⟩
      · cases e
        exact news W' (kp g rfl) 0 j u (tk j u hu)
      · rw [en] at hu
        simp [pcs] at hu
    · refine ⟨some ⟨g, 0, none⟩, c, some ⟨g, k * 2, none⟩, c - k, fun W => by simp [go_sem, Instr.slice]; omega, fun W => by
        simp [go_sem, Instr.slice, z]
        omega, (fun e => by cases e), (fun e => by cases e), fun W' kp => ⟨fun ad e j u hu => ?_, fun ad e j u hu => ?_⟩⟩
      · cases e
        exact news W' (kp g rfl) 0 j u (tk j u hu)
      · cases e
        exact news W' (kp g rfl) (k * 2) j u (dk j u hu)
theorem info_pair : (Try.prog.info? 44).map (fun i => (i.zero, i.size, i.bytes)) = some (some (.agg #[.int .u64 0, .int .u64 0]), 2, 16) := by kernel_rfl
theorem own_keep3 {w w' : World} {base base' e size n : Nat} {v : Value} {xs : List Value} (h : w.ownsRow base e size v n xs) (hb : base' ≤ base) (k : ∀ q, v.ownBlock = some q → w'.heap[q]? = w.heap[q]?) : w'.ownsRow base' e size v n xs := by
  refine ⟨h.1, ?_⟩
  rcases h.2 with q | ⟨b, cap, cur, rfl, hb', hh, r⟩
  · exact .inl q
  · exact .inr ⟨b, cap, cur, rfl, Nat.le_trans hb hb', (k b rfl).trans hh, r⟩
/-- What a put leaves. -/
def PutO (w w' : World) (p : Nat) (S : Nat → Prop) (most : Int) (l : Ps) : Prop := ∃ S' : Nat → Prop, HPl w' p S' most l ∧ Gx S w w' ∧ ∀ q, S' q → S q ∨ w.heap.size ≤ q
theorem new_pair (w : World) (k v : Int) : ∀ j u, (pc2 (k, v))[j]? = some u → (w.alloc (.cells #[.int .u64 k, .int .u64 v] 44)).cell? ((⟨w.heap.size, 0, none⟩ : Addr).add j) = some u := by
  intro j u hu
  match j, hu with
  | 0, hu => simp [pc2] at hu; subst hu; simp [Addr.add, go_sem]
  | 1, hu => simp [pc2] at hu; subst hu; simp [Addr.add, go_sem]
  | j + 2, hu => simp [pc2] at hu
set_option maxRecDepth 100000 in
set_option maxHeartbeats 8000000 in
theorem put23 (p : Nat) (S : Nat → Prop) (most : Int) (l : Ps) (x y : Int) (hx : 0 ≤ x ∧ x < 18446744073709551616) (hy : 0 ≤ y ∧ y < 18446744073709551616) (hn : l.length ≤ 4000000) (w : World) (h : HPl w p S most l) :
    Calls Try.prog 25 #[.pointer (some ⟨p, 0, none⟩), .int .u64 x, .int .u64 y] w fun e w' => e = .returned (.int .i64 (putP most l x y).2) ∧ PutO w w' p S most (putP most l x y).1 := by
  have RK : Hid (Calls Try.prog 24 #[.pointer (some ⟨p, 0, none⟩), .int .u64 x] w fun e w' => e = .returned (.int .i64 (rk l x : Int)) ∧ w' = w) := rank23 p S most l x hn w h
  have BD : Hid (BdP (putP most l x y).1) := bd_put h.bd most hx hy
  have HH : Hid (HPl w p S most l) := h
  obtain ⟨v, h1, h2, h3, h4⟩ := h.lies
  obtain ⟨bo, c, rfl, hc, hno, AT⟩ := row_shape h2
  have ATH : Hid (∀ i q, l[i]? = some q → ∃ g, bo = some ⟨g, 0, none⟩ ∧ g < w.heap.size ∧ (Value.slice bo l.length c).ownBlock = some g ∧ w.cell? ⟨g, i * 2, none⟩ = some (.int .u64 q.1) ∧ w.cell? ⟨g, i * 2 + 1, none⟩ = some (.int .u64 q.2) ∧ ∀ o, w.frozen? ⟨g, o, none⟩ = false) := AT
  have B1 : Hid (w.heap[p]? = some (.cells #[.int .i64 most, .slice bo l.length c] 47 (0, 0))) := h1
  have R1 : Hid (w.ownsRow 0 44 2 (.slice bo l.length c) l.length (pcs l)) := h2
  have S1 : Hid (∀ q, (Value.slice bo l.length c).ownBlock = some q → S q ∧ q ≠ p) := h3
  have S2 : Hid (S p) := h4
  have pl : p < w.heap.size := blkl h1
  have rl := rk_le l x
  have c0 := blkc (o := 0) h1 rfl
  have c1 := blkc (o := 1) h1 rfl
  clear h h1 h2 h3 h4 AT hno
  obtain ⟨r, hr⟩ : ∃ r, rk l x = r := ⟨_, rfl⟩
  have RH : Hid (rk l x = r) := hr
  rw [hr] at RK rl
  by_cases ik : isK l x = true
  · have PE : Hid (putP most l x y = (l.set r (x, y), 0)) := by show _ = _; unfold putP; rw [if_pos ik, hr]
    obtain ⟨q, hq, eq⟩ := isK_some ik
    rw [hr] at hq
    obtain ⟨g, rfl, gl, ob, k0, k1, fz⟩ := ATH.out r q hq
    have rlt : (r : Int) < (l.length : Int) := by have := (List.getElem?_eq_some_iff.1 hq).1; omega
    rw [eq] at k0
    have QH : Hid (l[r]? = some q ∧ q.1 = x) := ⟨hq, eq⟩
    have gp : g ≠ p := (S1.out g rfl).2
    have SG : Hid (S g) := (S1.out g rfl).1
    have f1 := fz (r * 2 + 1)
    obtain ⟨qv, hqv⟩ : ∃ qv, q.2 = qv := ⟨_, rfl⟩
    rw [hqv] at k1
    have xx : ((x : Int) == x) = true := by simp
    obtain ⟨n, hln⟩ : ∃ n, l.length = n := ⟨_, rfl⟩
    have LN : Hid (l.length = n) := hln
    rw [hln] at c1 rlt hn hc rl B1 R1
    clear hq eq ob fz hqv hr ik hln S1 ATH
    go_enter Try.func25, Try.ntmps25
    go_wp2_with fail
    refine RK.out.mono ?_
    rintro e w1 ⟨rfl, rfl⟩
    dsimp only
    go_wp2_with fail
    refine bodyPost_ret (v := .int .i64 0) (by simp [results, Try.results25, go_sem]) rfl ⟨by rw [PE.out], ?_⟩
    rw [PE.out]
    refine ⟨S, ⟨⟨.slice (some ⟨g, 0, none⟩) n c, ?_, ?_, fun q hq => ?_, S2.out⟩, by have := BD.out; rw [PE.out] at this; exact this⟩, (Gx.refl S _).set (.inl SG.out) _ _, fun q hq => .inl hq⟩
    · exact (Go.Deep.blk_setCell_other _ _ _ _ (Ne.symm gp)).trans B1.out
    · rw [List.length_set, LN.out, pcs_set l r x y q QH.out.1 QH.out.2]
      exact own_setc R1.out _ _
    · cases hq
      exact ⟨SG.out, gp⟩
  · have ikf : isK l x = false := Bool.eq_false_iff.2 ik
    have NE : ∀ q, l[r]? = some q → q.1 ≠ x := by rw [← hr]; exact isK_no ikf
    obtain ⟨so, sc, to, tc, su, tu, sn, tn, NW⟩ := cuts23 R1.out r rl
    have SN : Hid (so = none → r = 0 ∧ sc = 0) := sn
    have TN : Hid (to = none → l.length - r = 0 ∧ tc = 0) := tn
    have NWH : Hid (∀ W' : World, (∀ q, (Value.slice bo l.length c).ownBlock = some q → W'.heap[q]? = w.heap[q]?) → (∀ ad, so = some ad → ∀ j u, (pcs (l.take r))[j]? = some u → W'.cell? (ad.add j) = some u) ∧ (∀ ad, to = some ad → ∀ j u, (pcs (l.drop r))[j]? = some u → W'.cell? (ad.add j) = some u)) := NW
    have PEF : Hid (most ≤ (l.length : Int) → putP most l x y = (l, 161)) := fun z => by unfold putP; rw [if_neg ik, if_pos z]
    have PEN : Hid ((l.length : Int) < most → putP most l x y = (l.take r ++ (x, y) :: l.drop r, 0)) := fun z => by unfold putP; rw [if_neg ik, if_neg (by omega), hr]
    have Q2 : Hid (r < l.length → ∃ g k0, bo = some ⟨g, 0, none⟩ ∧ w.cell? ⟨g, r * 2, none⟩ = some (.int .u64 k0) ∧ ((k0 : Int) == x) = false) := fun z => by
      obtain ⟨g, e, _, _, k0, _⟩ := ATH.out r l[r] (List.getElem?_eq_getElem z)
      exact ⟨g, _, e, k0, by simpa using NE l[r] (List.getElem?_eq_getElem z)⟩
    obtain ⟨ii, hii, hz, hsz, hby⟩ := info_parts info_pair
    obtain ⟨n, hln⟩ : ∃ n, l.length = n := ⟨_, rfl⟩
    have LN : Hid (l.length = n) := hln
    rw [hln] at c1 hn hc rl B1 R1 PEF PEN Q2 TN NWH S1 su tu
    clear hr ik ikf NE NW sn tn hln ATH
    have c0' : w.cell? ⟨p, 0, none⟩ = some (.int .i64 most) := c0
    have c1' : w.cell? ⟨p, 1, none⟩ = some (.slice bo n c) := c1
    clear c0 c1
    go_enter Try.func25, Try.ntmps25
    go_wp2_with fail
    refine RK.out.mono ?_
    rintro e w1 ⟨rfl, rfl⟩
    dsimp only
    by_cases full : most ≤ (n : Int)
    · have P1 := PEF.out full
      have P1H : Hid (putP most l x y = (l, 161)) := P1
      clear P1
      by_cases rn : r < n
      · obtain ⟨g, k0, rfl, kc, kn⟩ := Q2.out rn
        have rn' : (r : Int) < (n : Int) := by omega
        go_wp2_with fail
        go_quiet (fail)
        go_wp2_with fail
        refine bodyPost_ret (v := .int .i64 161) (by simp [results, Try.results25, go_sem]) rfl ⟨by rw [P1H.out], ?_⟩
        rw [P1H.out]
        exact ⟨S, HH.out.gw ((Gw.refl _).drewN _), ((Gw.refl _).drewN _).gx S, fun q hq => .inl hq⟩
      · have rn' : ¬ (r : Int) < (n : Int) := by omega
        go_wp2_with fail
        go_quiet (fail)
        go_wp2_with fail
        refine bodyPost_ret (v := .int .i64 161) (by simp [results, Try.results25, go_sem]) rfl ⟨by rw [P1H.out], ?_⟩
        rw [P1H.out]
        exact ⟨S, HH.out.gw ((Gw.refl _).drewN _), ((Gw.refl _).drewN _).gx S, fun q hq => .inl hq⟩
    · have P1H : Hid (putP most l x y = (l.take r ++ (x, y) :: l.drop r, 0)) := PEN.out (by omega)
      have full' : (n : Int) < most := by omega
      have LT : Hid ((l.take r).length = r) := by show _ = _; rw [List.length_take, LN.out]; omega
      have LD : Hid ((l.drop r).length = n - r) := by show _ = _; rw [List.length_drop, LN.out]
      have LT2 : Hid ((pcs (l.take r)).length = r * 2) := by show _ = _; rw [pcs_len, LT.out]
      have LD2 : Hid ((pcs (l.drop r)).length = (n - r) * 2) := by show _ = _; rw [pcs_len, LD.out]
      have kpr : Hid (∀ W : World, Gw w1 W → ∀ q, (Value.slice bo n c).ownBlock = some q → W.heap[q]? = w1.heap[q]?) := fun W g q hq => g.below.block q (World.ownsRow.lt R1.out q hq).2
      clear full
      by_cases rn : r < n
      focus (obtain ⟨g, k0, hbo, kc, kn⟩ := Q2.out rn; subst hbo; have rn' : (r : Int) < (n : Int) := (by omega); go_wp2_with fail; go_quiet (fail))
      rotate_left
      focus (have rn' : ¬ (r : Int) < (n : Int) := (by omega); go_wp2_with fail; go_quiet (fail))
      all_goals
        have GD : Hid (Gw w1 (w1.drewN nq)) := (Gw.refl _).drewN _
        generalize w1.drewN nq = wD at GD ⊢
        have GA : Hid (Gw w1 (wD.alloc (.cells #[] 44))) := GD.out.alloc _ _
        have cD := (GD.out.cell p 1 pl).trans c1'
        have cA := (GA.out.cell p 1 pl).trans c1'
        have zD := GD.out.size
        go_wp2_with (at_builtin; refine app3_w _ rfl _ _ 34 rfl wD.heap.size 44 ii _ 2 16 Try.underlying34 hii hz hsz hby rfl (by decide) wD.heap.size 0 0 [] rfl (World.ownsRow_made wD #[] 0 (Nat.le_refl _) (Nat.zero_le _) rfl) so r sc (pcs (l.take r)) rfl SN.out LT2.out (NWH.out _ (kpr.out _ GA.out)).1 (pcs_one _) (by simp only [maxLen]; omega) (by omega) (by simp) ?_)
        intro g5 cap5 w5 r1 r2 r3
        have O5 : Hid (w5.ownsRow wD.heap.size 44 2 (.slice (some ⟨g5, 0, none⟩) r cap5) r (pcs (l.take r))) := by show World.ownsRow _ _ _ _ _ _ _; simpa using r1
        have G5 : Hid (Gw w1 w5) := GA.out.grown r2 (fun q hq => by cases hq; exact zD)
        have Z5 : Hid (wD.heap.size ≤ w5.heap.size) := by have := r2.size; simp at this; show _ ≤ _; omega
        clear r1 r2 r3
        go_wp2_with (at_builtin; refine app3_w _ rfl _ _ 34 rfl wD.heap.size 44 ii _ 2 16 Try.underlying34 hii hz hsz hby rfl (by decide) g5 r cap5 (pcs (l.take r)) rfl (World.ownsRow.alloc O5.out _) (some ⟨w5.heap.size, 0, none⟩) 1 1 (pc2 (x, y)) rfl (fun e => by cases e) rfl (fun ad e => by cases e; exact new_pair w5 x y) (pcs_one [(x, y)]) (by simp only [maxLen]; omega) (by omega) (by have := Z5.out; simp; omega) ?_)
        intro g6 cap6 w6 r1 r2 r3
        have O6 : Hid (w6.ownsRow wD.heap.size 44 2 (.slice (some ⟨g6, 0, none⟩) (r + 1) cap6) (r + 1) (pcs (l.take r) ++ pc2 (x, y))) := r1
        have G6 : Hid (Gw w1 w6) := (G5.out.alloc _ _).grown r2 (fun q hq => by cases hq; exact Nat.le_trans zD (World.ownsRow.lt O5.out g5 rfl).1)
        have Z6 : Hid (wD.heap.size ≤ w6.heap.size) := by have := r2.size; have := Z5.out; simp at *; show _ ≤ _; omega
        have c6 := (G6.out.cell p 1 pl).trans c1'
        clear r1 r2 r3 cA cD
        go_wp2_with (at_builtin; refine app3_w _ rfl _ _ 34 rfl wD.heap.size 44 ii _ 2 16 Try.underlying34 hii hz hsz hby rfl (by decide) g6 (r + 1) cap6 (pcs (l.take r) ++ pc2 (x, y)) rfl O6.out to (n - r) tc (pcs (l.drop r)) rfl TN.out LD2.out (NWH.out _ (kpr.out _ G6.out)).2 (pcs_one _) (by simp only [maxLen]; omega) (by omega) Z6.out ?_)
        intro g7 cap7 w7 r1 r2 r3
        have G7 : Hid (Gw w1 w7) := G6.out.grown r2 (fun q hq => by cases hq; exact Nat.le_trans zD (World.ownsRow.lt O6.out g6 rfl).1)
        have O7 : Hid (w7.ownsRow wD.heap.size 44 2 (.slice (some ⟨g7, 0, none⟩) (r + 1 + (n - r)) cap7) (r + 1 + (n - r)) (pcs (l.take r) ++ (pc2 (x, y) ++ pcs (l.drop r)))) := r1
        have B7 : Hid (w7.heap[p]? = _) := (G7.out.below.block p pl).trans B1.out
        have c7 := (G7.out.cell p 1 pl).trans c1'
        have f7 : w7.frozen? ⟨p, 1, none⟩ = false := blkf B7.out
        have gp : Hid (g7 ≠ p ∧ w1.heap.size ≤ g7) := by have := (World.ownsRow.lt O7.out g7 rfl).1; show _ ∧ _; omega
        clear r1 r2 r3 c6
        go_wp2_with fail
        refine bodyPost_ret (v := .int .i64 0) (by simp [results, Try.results25, go_sem]) rfl ⟨by rw [P1H.out], ?_⟩
        rw [P1H.out]
        refine ⟨fun q => S q ∨ q = g7, ⟨⟨.slice (some ⟨g7, 0, none⟩) (r + 1 + (n - r)) cap7, ?_, ?_, fun q hq => ?_, .inl S2.out⟩, by have := BD.out; rw [P1H.out] at this; exact this⟩, (G7.out.gx S).set (.inl S2.out) _ _, fun q hq => ?_⟩
        · simp [World.setCell, Array.getElem?_modify, B7.out]
        · have e1 : (l.take r ++ (x, y) :: l.drop r).length = r + 1 + (n - r) := by rw [List.length_append, List.length_cons, LT.out, LD.out]; omega
          have e2 : pcs (l.take r ++ (x, y) :: l.drop r) = pcs (l.take r) ++ (pc2 (x, y) ++ pcs (l.drop r)) := by rw [pcs_app, show pcs ((x, y) :: l.drop r) = pc2 (x, y) ++ pcs (l.drop r) by simp [pcs]]
          rw [e1, e2]
          exact own_keep3 O7.out (Nat.zero_le _) (fun q hq => by cases hq; exact Go.Deep.blk_setCell_other _ _ _ _ gp.out.1)
        · cases hq
          exact ⟨.inr rfl, gp.out.1⟩
        · rcases hq with z | z
          · exact .inl z
          · right; rw [z]; exact gp.out.2
end Go.Proofs.Ytkojcjfjmlompaa
