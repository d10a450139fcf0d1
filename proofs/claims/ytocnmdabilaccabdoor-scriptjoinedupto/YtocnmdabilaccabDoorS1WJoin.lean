/- ScriptJoined: the walk. -/
import Derived.Test.YtocnmdabilaccabDoorS1Shown
import Derived.Test.YtocnmdabilaccabDoorS1WBack
namespace Go.Proofs.YtocnmdabilaccabDoor
open Go.RowKit
set_option linter.unusedVariables false

/-- An append behind a guard that is open: onto a row of the call's own. -/
theorem wpList_app_w {P : Program} (w : World) {ops : Array Oper} {rest : List Oper} {o : Oper} {a : Act} {Q : Exit → Act → World → Prop} (hw : Region.wanted o (yielded ops a.tmps) = true) (s x : Operand) (t : TypeId)
    (ho : o.op = .call { callee := .builtin .append, args := #[s, x], argTypes := #[t, t] })
    (base : Nat) (e : TypeId) (i : TypeInfo) (z : Value) (size bytes : Nat) (ht : P.underlying t = some (.slice e)) (hi : P.info? e = some i) (hz : i.zero = some z)
    (hsize : i.size = size) (hby : i.bytes = bytes) (hzs : z.cells.size = size) (hsz : 0 < size)
    (k n cap0 : Nat) (xs : List Value) (hs : a.eval s = .slice (some ⟨k, 0, none⟩) n cap0) (hown : w.ownsRow base e size (.slice (some ⟨k, 0, none⟩) n cap0) n xs)
    (ao : Option Addr) (m c : Nat) (news : List Value) (hx : a.eval x = .slice ao m c) (hnone : ao = none → m = 0 ∧ c = 0) (hl : news.length = m * size) (hnews : ∀ ad, ao = some ad → ∀ j u, news[j]? = some u → w.cell? (ad.add j) = some u) (h1 : ∀ u ∈ news, u.oneCell' = true)
    (h63 : n + m ≤ maxLen) (hbytes : (n + m) * bytes ≤ 140737488355328) (hbase : base ≤ w.heap.size)
    (h : ∀ g cap w', w'.ownsRow base e size (.slice (some ⟨g, 0, none⟩) (n + m) cap) (n + m) (xs ++ news) → w.grownBy w' (some k) → g < w'.heap.size → wpList P ops Q rest (a.put o.dst (.slice (some ⟨g, 0, none⟩) (n + m) cap)) w') : wpList P ops Q (o :: rest) a w := by
  refine wpList_step fun K hK => ?_
  rw [if_pos hw]
  obtain ⟨g, cap, w', hr, h2, h3, h4, h5⟩ := run_append_any (P := P) w t o.type base e i z size bytes ht hi hz hsize hby hzs hsz k n cap0 xs hown ao m c news hnone hl hnews h1 h63 hbytes hbase
  unfold Oper.wp execOp
  simp only [ho, resolve, invoke, builtin, Sem.run_bind, Sem.run_pure, Result.andThen_ok, List.map_toArray, List.map_cons, List.map_nil, hs, hx, hr]
  exact hK _ _ (h g cap w' h2 h3 h5)
theorem own_news {w : World} {base e size n cp : Nat} {ao : Option Addr} {xs : List Value} (h : w.ownsRow base e size (.slice ao n cp) n xs) : (ao = none → n = 0 ∧ cp = 0) ∧ ∀ ad, ao = some ad → ∀ j u, xs[j]? = some u → w.cell? (ad.add j) = some u := by
  rcases h.2 with ⟨q, q2⟩ | ⟨g, cap, cur, q, _⟩
  · cases q
    exact ⟨fun _ => And.intro rfl rfl, fun ad e => by cases e⟩
  · cases q
    refine ⟨fun e => (by cases e), fun ad e j u hu => ?_⟩
    cases e
    have hj : j < n * size := by rw [← h.1]; exact (List.getElem?_eq_some_iff.1 hu).1
    have := World.ownsRow.cellAt h j hj
    rw [Addr.add_lit, Nat.zero_add, this, hu]
theorem cds_len : ∀ (L : List Cd) (V : List Value), V.length = L.length → (cds L V).length = L.length * 2 := by
  intro L
  induction L with
  | nil => intro V h; simp [cds]
  | cons c L ih =>
    intro V h
    cases V with
    | nil => simp at h
    | cons u V =>
      have e : cds (c :: L) (u :: V) = cd2 c u ++ cds L V := by simp [cds]
      rw [e, List.length_append, ih V (by simpa using h), show (cd2 c u).length = 2 from rfl, List.length_cons]
      omega
theorem cds_app (L M : List Cd) (V U : List Value) (h : V.length = L.length) : cds (L ++ M) (V ++ U) = cds L V ++ cds M U := by
  unfold cds
  rw [List.zip_append h.symm, List.flatMap_append]
theorem CO.ones {w : World} {base : Nat} {v : Value} {L : List Cd} {V : List Value} (h : CO w base v L V) : ∀ x ∈ cds L V, x.oneCell' = true := by
  intro x hx
  obtain ⟨⟨c, u⟩, h1, h2⟩ := List.mem_flatMap.1 hx
  simp only [cd2, List.mem_cons, List.not_mem_nil, or_false] at h2
  rcases h2 with rfl | rfl
  · rfl
  · obtain ⟨i, hi, e⟩ := List.mem_iff_getElem.1 h1
    rw [List.length_zip] at hi
    rw [List.getElem_zip] at e
    simp only [Prod.mk.injEq] at e
    have hN := h.nums i c x (by rw [← e.1]; exact List.getElem?_eq_getElem _) (by rw [← e.2]; exact List.getElem?_eq_getElem _)
    obtain ⟨_, _, rfl, _⟩ := nu_slice hN
    rfl
/-- Commands to be read, out of a row and of the numbers that its cells name. -/
theorem cs_row {w : World} {base g n cap : Nat} {L : List Cd} {V : List Value} (hr : w.ownsRow base 34 2 (.slice (some ⟨g, 0, none⟩) n cap) n (cds L V)) (hn : n = L.length) (hl : V.length = L.length)
    (nums : ∀ (i : Nat) (c : Cd) (u : Value), L[i]? = some c → V[i]? = some u → NUO w 0 u c.nums) (ok : ∀ c ∈ L, NumsOk c) : CS w (some ⟨g, 0, none⟩) L :=
  ⟨fun h0 => by
    refine ⟨g, 0, rfl, (World.ownsRow.lt hr g rfl).2, fun i c hi => ?_⟩
    have il := (List.getElem?_eq_some_iff.1 hi).1
    subst hn
    obtain ⟨u, hu⟩ : ∃ u, V[i]? = some u := ⟨V[i]'(by rw [hl]; exact il), List.getElem?_eq_getElem _⟩
    have hN := nums i c u hi hu
    obtain ⟨bo, cp, rfl, hnil⟩ := nu_slice hN
    have cell : ∀ j, j < 2 → w.cell? ⟨g, i * 2 + j, none⟩ = (cd2 c (.slice bo c.nums.length cp))[j]? := fun j hj => by
      have := World.ownsRow.cellAt hr (i * 2 + j) (by omega)
      rw [this]
      exact cds_at L V i c _ hi hu j hj
    refine ⟨bo, cp, ?_, ?_, nu_ks hN rfl (ok c (List.mem_of_getElem? hi)), hnil⟩
    · rw [Nat.zero_add]; exact cell 0 (by decide)
    · rw [Nat.zero_add]; exact cell 1 (by decide)⟩
theorem cs_two_rows {w w' : World} {b1 b2 base g n cap : Nat} {v1 v2 : Value} {L M : List Cd} {V U : List Value} (h1 : CO w b1 v1 L V) (h2 : CO w b2 v2 M U) (k : Gw w w')
    (hr : w'.ownsRow base 34 2 (.slice (some ⟨g, 0, none⟩) n cap) n (cds L V ++ cds M U)) (hn : n = (L ++ M).length) : CS w' (some ⟨g, 0, none⟩) (L ++ M) := by
  rw [← cds_app L M V U h1.len] at hr
  refine cs_row hr hn (by rw [List.length_append, List.length_append, h1.len, h2.len]) (fun i c u hi hu => ?_) (fun c hc => ?_)
  · by_cases q : i < L.length
    · rw [List.getElem?_append_left q] at hi
      rw [List.getElem?_append_left (by rw [h1.len]; exact q)] at hu
      exact NUO.low (own_gw (h1.nums i c u hi hu) k) (Nat.zero_le _)
    · rw [List.getElem?_append_right (by omega)] at hi
      rw [List.getElem?_append_right (by rw [h1.len]; omega), h1.len] at hu
      exact NUO.low (own_gw (h2.nums _ c u hi hu) k) (Nat.zero_le _)
  · rcases List.mem_append.1 hc with z | z
    · exact h1.ok c z
    · exact h2.ok c z
/-- A new row without elements, of whatever size. -/
theorem own_new0c (w : World) : (w.alloc (.cells #[] 34)).ownsRow w.heap.size 34 2 (.slice (some ⟨w.heap.size, 0, none⟩) 0 0) 0 [] := World.ownsRow_made w #[] 0 (Nat.le_refl _) (Nat.zero_le _) rfl
set_option maxRecDepth 100000 in
set_option maxHeartbeats 8000000 in
theorem joined_walk (C : ScriptC) (ta tb : List UInt8) (hta : ta.length ≤ 2000000) (htb : tb.length ≤ 2000000) (w : World) (T : Tab w) :
    Calls Tryd.prog 4 #[.string (Bs ta), .string (Bs tb)] w fun e w' => e = .returned (.bool true) ∧ Gw w w' := by
  have SH : Hid (∀ W, Gw w W → Calls Tryd.prog 5 #[] W fun e w' => e = .returned (.bool true) ∧ Gw W w') := fun W g => shown21 C W (T.gw g)
  obtain ⟨⟨L, x, er⟩, hr⟩ : ∃ r, parse ta = r := ⟨_, rfl⟩
  obtain ⟨⟨M, y, fr⟩, hs⟩ : ∃ r, parse tb = r := ⟨_, rfl⟩
  have PA : Hid (∀ W, Calls Tryd.prog 6 #[.string (Bs ta)] W fun e w' => ParO W w' e (L, x, er) ∧ Gw W w') := fun W => by have := C.parse ta W hta; rw [hr] at this; exact this
  have PB : Hid (∀ W, Calls Tryd.prog 6 #[.string (Bs tb)] W fun e w' => ParO W w' e (M, y, fr) ∧ Gw W w') := fun W => by have := C.parse tb W htb; rw [hs] at this; exact this
  have PJ : Hid (er = 0 → fr = 0 → ta.length + 1 + tb.length ≤ 65536 → L.length + M.length ≤ 4096 → parse (ta ++ 10 :: tb) = (L ++ M, 0, 0)) := fun h1 h2 h3 h4 => by
    have := parse_joined (a := ta) (b := tb) (by rw [hr]; exact h1) (by rw [hs]; exact h2) h3 (by rw [hr, hs]; exact h4)
    rw [hr, hs] at this
    exact this
  have FA : Hid (er = 0 → ∀ c ∈ L, c.nums.length ≤ 2000000) := fun q => cd_nums (parse_facts (t := ta) (l := L) (a := x) (by rw [hr, q])).2.2.2.1
  have FB : Hid (fr = 0 → ∀ c ∈ M, c.nums.length ≤ 2000000) := fun q => cd_nums (parse_facts (t := tb) (l := M) (a := y) (by rw [hs, q])).2.2.2.1
  have LB : L.length ≤ 4096 := by
    by_cases q : er = 0
    · exact (parse_facts (t := ta) (l := L) (a := x) (by rw [hr, q])).2.2.1
    · have := parse_err (t := ta) (by rw [hr]; exact q)
      rw [hr] at this
      have e : L = [] := this.1
      rw [e]; simp
  have MB : M.length ≤ 4096 := by
    by_cases q : fr = 0
    · exact (parse_facts (t := tb) (l := M) (a := y) (by rw [hs, q])).2.2.1
    · have := parse_err (t := tb) (by rw [hs]; exact q)
      rw [hs] at this
      have e : M = [] := this.1
      rw [e]; simp
  have CH : Hid ScriptC := C
  obtain ⟨ln, hln⟩ : ∃ ln, L.length = ln := ⟨_, rfl⟩
  obtain ⟨mn, hmn⟩ : ∃ mn, M.length = mn := ⟨_, rfl⟩
  have LN : Hid (L.length = ln) := hln
  have MN : Hid (M.length = mn) := hmn
  rw [hln] at LB
  rw [hmn] at MB
  rw [hln, hmn] at PJ
  obtain ⟨jj, hjj, jz, js, jby⟩ := info_parts info_cmd
  clear hr hs hln hmn C
  go_enter Tryd.func4, Tryd.ntmps4
  go_wp2_with fail
  refine (SH.out _ (by first | exact Gw.refl _ | exact (Gw.refl _).alloc _ _ | exact ((Gw.refl _).alloc _ _).alloc _ _)).mono ?_
  rintro e w1 ⟨rfl, g1⟩
  have G1 : Hid (Gw w w1) := g1
  clear g1
  dsimp only
  go_wp2_with fail
  refine (PA.out _).mono ?_
  rintro e w2 ⟨⟨ao, n, ca, V, rfl, hn, c2⟩, g2⟩
  dsimp only at hn c2
  have e1 : n = ln := by rw [← LN.out]; exact hn
  subst e1
  have C2 : Hid (CO w2 w1.heap.size (.slice ao n ca) L V) := c2
  have G2 : Hid (Gw w w2) := G1.out.trans g2
  clear hn c2 g2
  dsimp only
  go_wp2_with fail
  refine (PB.out _).mono ?_
  rintro e w3 ⟨⟨bo, m, cb, U, rfl, hm, c3⟩, g3⟩
  dsimp only at hm c3
  have e1 : m = mn := by rw [← MN.out]; exact hm
  subst e1
  have C3 : Hid (CO w3 w2.heap.size (.slice bo m cb) M U) := c3
  have D3 : Hid (CO w3 w1.heap.size (.slice ao n ca) L V) := C2.out.gw g3
  have G3 : Hid (Gw w w3) := G2.out.trans g3
  clear hm c3 g3 C2
  dsimp only
  by_cases q1 : er = 0
  case neg =>
    have q1' : (er == 0) = false := by simpa using q1
    go_wp2_with fail
    refine bodyPost_ret (v := .bool true) (by simp [results, Tryd.results4, go_sem]) rfl ⟨rfl, G3.out⟩
  by_cases q2 : fr = 0
  case neg =>
    have q2' : (fr == 0) = false := by simpa using q2
    subst q1
    go_wp2_with fail
    refine bodyPost_ret (v := .bool true) (by simp [results, Tryd.results4, go_sem]) rfl ⟨rfl, G3.out⟩
  by_cases q3 : (ta.length : Int) + 1 + tb.length ≤ 65536
  case neg =>
    have q3' : (65536 : Int) < (ta.length : Int) + 1 + tb.length := by omega
    subst q1 q2
    go_wp2_with fail
    refine bodyPost_ret (v := .bool true) (by simp [results, Tryd.results4, go_sem]) rfl ⟨rfl, G3.out⟩
  by_cases q4 : (n : Int) + m ≤ 4096
  case neg =>
    have q4' : (4096 : Int) < (n : Int) + m := by omega
    have q3' : ¬ (65536 : Int) < (ta.length : Int) + 1 + tb.length := by omega
    subst q1 q2
    go_wp2_with fail
    refine bodyPost_ret (v := .bool true) (by simp [results, Tryd.results4, go_sem]) rfl ⟨rfl, G3.out⟩
  have q3' : ¬ (65536 : Int) < (ta.length : Int) + 1 + tb.length := by omega
  have q4' : ¬ (4096 : Int) < (n : Int) + m := by omega
  have PP : Hid (∀ W, Calls Tryd.prog 6 #[.string (Bs (ta ++ 10 :: tb))] W fun e w' => ParO W w' e (L ++ M, 0, 0) ∧ Gw W w') := fun W => by
    have := CH.out.parse (ta ++ 10 :: tb) W (by simp; omega)
    rw [PJ.out q1 q2 (by omega) (by omega)] at this
    exact this
  have NB : Hid (∀ c ∈ L ++ M, c.nums.length ≤ 2000000) := fun c hc => by
    rcases List.mem_append.1 hc with z | z
    · exact FA.out q1 c z
    · exact FB.out q2 c z
  subst q1 q2
  clear PJ FA FB
  go_wp2_with fail
  refine (PP.out _).mono ?_
  rintro e w4 ⟨⟨co, k, cc, X, rfl, hk, c4⟩, g4⟩
  dsimp only at hk c4
  have e1 : k = n + m := by rw [hk, List.length_append, LN.out, MN.out]
  subst e1
  have E4 : Hid (CO w4 w3.heap.size (.slice co (n + m) cc) (L ++ M) X) := c4
  have C4 : Hid (CO w4 w2.heap.size (.slice bo m cb) M U) := C3.out.gw g4
  have D4 : Hid (CO w4 w1.heap.size (.slice ao n ca) L V) := D3.out.gw g4
  have G4 : Hid (Gw w w4) := G3.out.trans g4
  clear hk c4 g4 C3 D3
  dsimp only
  have R1 : Hid (w4.ownsRow w1.heap.size 34 2 (.slice ao n ca) n (cds L V)) := by have := D4.out.row; rw [LN.out] at this; exact this
  have R2 : Hid (w4.ownsRow w2.heap.size 34 2 (.slice bo m cb) m (cds M U)) := by have := C4.out.row; rw [MN.out] at this; exact this
  have GA : Hid (Gw w4 (w4.alloc (.cells #[] 34))) := (Gw.refl w4).alloc _ _
  have L1 : Hid ((cds L V).length = n * 2) := by show _ = _; rw [cds_len L V D4.out.len, LN.out]
  have L2 : Hid ((cds M U).length = m * 2) := by show _ = _; rw [cds_len M U C4.out.len, MN.out]
  go_wp2_with (at_builtin; refine wpList_app_w _ (by kernel_rfl) _ _ 24 rfl w4.heap.size 34 jj _ 2 40 Tryd.underlying24 hjj jz js jby rfl (by decide) w4.heap.size 0 0 [] rfl (own_new0c w4) ao n ca (cds L V) rfl (own_news R1.out).1 L1.out (own_news (own_gw R1.out GA.out)).2 D4.out.ones (by simp only [maxLen]; omega) (by omega) (by simp) ?_)
  intro g5 cap5 w5 r1 r2 r3
  have K5 : Hid (∀ q, q < w4.heap.size → w5.heap[q]? = w4.heap[q]?) := fun q hq => (r2.block q (by simp; omega) (fun e => by cases e; omega)).trans (heap_alloc_old _ _ hq)
  have Z5 : Hid (w4.heap.size ≤ w5.heap.size) := by have := r2.size; simp at this; show _ ≤ _; omega
  have G5 : Hid (Gw w4 w5) := ⟨⟨r2.os, r2.tape, r2.output, Z5.out, K5.out⟩⟩
  have O5 : Hid (w5.ownsRow w4.heap.size 34 2 (.slice (some ⟨g5, 0, none⟩) n cap5) n (cds L V)) := r1
  clear r1 r2 r3
  go_wp2_with (at_builtin; refine wpList_app_w _ (by kernel_rfl) _ _ 24 rfl w4.heap.size 34 jj _ 2 40 Tryd.underlying24 hjj jz js jby rfl (by decide) g5 n cap5 (cds L V) rfl O5.out bo m cb (cds M U) rfl (own_news R2.out).1 L2.out (own_news (own_gw R2.out G5.out)).2 C4.out.ones (by simp only [maxLen]; omega) (by omega) Z5.out ?_)
  intro g6 cap6 w6 r1 r2 r3
  have gb : w4.heap.size ≤ g5 := (World.ownsRow.lt O5.out g5 rfl).1
  have G6 : Hid (Gw w4 w6) := by
    refine ⟨⟨?_, ?_, ?_, ?_, fun q hq => ?_⟩⟩
    · rw [r2.os]; exact G5.out.below.os
    · rw [r2.tape]; exact G5.out.below.tape
    · rw [r2.output]; exact G5.out.below.output
    · have := r2.size; have := Z5.out; omega
    · rw [r2.block q (by have := Z5.out; omega) (fun e => by cases e; omega)]
      exact K5.out q hq
  have S6 : Hid (CS w6 (some ⟨g6, 0, none⟩) (L ++ M)) := cs_two_rows D4.out C4.out G6.out r1 (by rw [List.length_append, LN.out, MN.out])
  have SM : Hid (Calls Tryd.prog 7 #[.slice co (n + m) cc, .slice (some ⟨g6, 0, none⟩) (n + m) cap6] w6 fun e w' => e = .returned (.bool true) ∧ Gw w6 w') := by
    have := same21 co (some ⟨g6, 0, none⟩) cc cap6 (L ++ M) (by rw [List.length_append, LN.out, MN.out]; omega) NB.out w6 (E4.out.gw G6.out).cs2 S6.out
    rw [List.length_append, LN.out, MN.out] at this
    exact this
  clear r1 r2 r3
  go_wp2_with fail
  refine SM.out.mono ?_
  rintro e w7 ⟨rfl, g7⟩
  have G7 : Hid (Gw w w7) := (G4.out.trans G6.out).trans g7
  clear g7
  dsimp only
  go_wp2_with fail
  refine bodyPost_ret (v := .bool true) (by simp [results, Tryd.results4, go_sem]) rfl ⟨rfl, G7.out⟩
end Go.Proofs.YtocnmdabilaccabDoor
