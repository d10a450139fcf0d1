/- MergeOnce: the walk. -/
import Derived.Test.YtnkcnfpbbdlifaaGC
import Derived.Test.YtnkcnfpbbdlifaaGRank
import Derived.Deep.DeepCutAuto
import Derived.Deep.CutBlock
import Derived.Deep.RegionHeld3
namespace Go.Proofs.Ytnkcnfpbbdlifaa
open Go.RowKit
set_option linter.unusedVariables false

/-- A list's keys. -/
def kAt (l : List Ent) (i : Nat) : Int := (l.getD i ent0).k
theorem look_at {l : List Ent} (h : Rise Ent.k l) {i : Nat} (hi : i < l.length) : look Ent.k (kAt l i) l = some (l.getD i ent0) := by
  have e : l.getD i ent0 = l[i] := by simp [List.getD, hi]
  have hm : l[i] ∈ l := List.getElem_mem hi
  have : ∀ (o : List Ent), Rise Ent.k o → ∀ y ∈ o, look Ent.k y.k o = some y := by
    intro o
    induction o with
    | nil => intro _ y hy; cases hy
    | cons z o ih =>
      intro hr y hy
      obtain ⟨z1, z2⟩ := List.pairwise_cons.1 hr
      rw [look_cons]
      rcases List.mem_cons.1 hy with rfl | q
      · rw [if_pos rfl]
      · have := z1 y q
        rw [if_neg (by omega)]
        exact ih z2 y q
  unfold kAt
  rw [e]
  exact this l h _ hm
/-- What Rank says of a rising list. -/
theorem rank_look {l : List Ent} (h : Rise Ent.k l) {q : Int} {m : Int} {t : Bool} (r : RankA (kAt l) l.length q m t) : ∃ k : Nat, m = k ∧ k ≤ l.length ∧ (t = true → k < l.length ∧ look Ent.k q l = some (l.getD k ent0)) ∧ (t = true ↔ look Ent.k q l ≠ none) := by
  have u : Up (kAt l) l.length := rise_up.1 h
  rcases r with ⟨_, k, e, R⟩ | ⟨nu, _⟩
  · have tt : t = true → k < l.length ∧ look Ent.k q l = some (l.getD k ent0) := fun ht => by
      obtain ⟨h1, h2⟩ := R.at_.1 ht
      refine ⟨h1, ?_⟩
      rw [← h2]
      exact look_at h h1
    refine ⟨k, e, R.le, tt, ⟨fun ht => by rw [(tt ht).2]; simp, fun hn => ?_⟩⟩
    cases hl : look Ent.k q l with
    | none => exact absurd hl hn
    | some x =>
      have hx := List.mem_of_find?_eq_some hl
      obtain ⟨i, hi, ei⟩ := List.mem_iff_getElem.1 hx
      have ek := look_key hl
      have eg : l.getD i ent0 = x := by simp [List.getD, hi, ei]
      refine R.at_.2 ?_
      have hk : kAt l i = q := by unfold kAt; rw [eg]; exact ek
      rcases Nat.lt_trichotomy k i with c | c | c
      · have h1 := R.hi k (Nat.le_refl _) (by omega)
        have h2 := u.lt c hi
        omega
      · rw [c]; exact ⟨hi, hk⟩
      · have := R.lo i c
        omega
  · exact absurd u nu
theorem sizes_take {L : List (List Ent)} {i : Nat} (hi : i < L.length) : sizes (L.take (i + 1)) = sizes (L.take i) + (L.getD i []).length := by
  have e : L.take (i + 1) = L.take i ++ [L.getD i []] := by
    rw [List.take_add_one, List.getElem?_eq_getElem hi, List.getD_eq_getElem?_getD, List.getElem?_eq_getElem hi]
    rfl
  rw [e, sizes_app]
  simp [sizes]
theorem sizes_take_le (L : List (List Ent)) (i : Nat) : sizes (L.take i) ≤ sizes L := by
  have := sizes_app (L.take i) (L.drop i)
  rw [List.take_append_drop] at this
  omega
theorem firstOf_at {L : List (List Ent)} {k : Int} : ∀ {i : Nat}, i < L.length → (∀ t, t < i → look Ent.k k (L.getD t []) = none) → ∀ {x : Ent}, look Ent.k k (L.getD i []) = some x → firstOf Ent.k k L = some x := by
  induction L with
  | nil => intro i hi; simp at hi
  | cons l r ih =>
    intro i hi h x hx
    cases i with
    | zero =>
      have e : look Ent.k k l = some x := hx
      simp only [firstOf, e]
    | succ i =>
      have e : look Ent.k k l = none := h 0 (by omega)
      simp only [firstOf, e]
      exact ih (by simpa using hi) (fun t ht => h (t + 1) (by omega)) hx
theorem firstOf_has {L : List (List Ent)} {k : Int} {l : List Ent} (hl : l ∈ L) (h : look Ent.k k l ≠ none) : firstOf Ent.k k L ≠ none := by
  induction L with
  | nil => cases hl
  | cons a r ih =>
    simp only [firstOf]
    cases e : look Ent.k k a with
    | some x => simp
    | none =>
      rcases List.mem_cons.1 hl with rfl | q
      · exact absurd e h
      · exact ih q
set_option maxRecDepth 10000 in
set_option maxHeartbeats 8000000 in
theorem once13_walk (MC : MergeC) (ao : Option Addr) (c : Nat) (L : List (List Ent)) (hl : L.length ≤ 2000000) (hs : ∀ i, i < L.length → (L.getD i []).length ≤ 2000000) (hN : sizes L ≤ 2000000) (hc : L.length ≤ c) (hz : ao = none → L.length = 0 ∧ c = 0) (w : World) (h : EV w ao L) :
    Calls Try.prog 8 #[.slice ao L.length c] w fun e w' => e = .returned (.bool true) ∧ Gw w w' := by
  have M : Hid MergeC := MC
  have HE : Hid (EV w ao L) := h
  have HS : Hid (∀ i, i < L.length → (L.getD i []).length ≤ 2000000) := hs
  have EN : Hid (∀ W, EV W ao L → _) := fun W hh => M.out.entries ao c L hl hs hN hc hz W hh
  have RI : Hid (∀ W, EV W ao L → _) := fun W hh => rising13 ao c L hl hs W hh
  have OKS : Hid (∀ o, Mg Ent.k L o → ∀ e ∈ o, e.ok) := fun o ho => ho.oks HE.out.oks
  have OF : Hid (∀ (W : World) (bo : Option Addr) (bc : Nat) (l : List Ent), l.length ≤ 2000000 → EL W bo l → Calls Try.prog 29 #[.slice bo l.length bc] W fun e w' => (∃ b cap, e = .returned (.slice (some ⟨b, 0, none⟩) l.length cap) ∧ KS w' (some ⟨b, 0, none⟩) l.length (kAt l)) ∧ Gw W w') := fun W bo bc l hn he => (rof3_any bo l.length bc _ _ _ (by omega) W he).mono fun e w' ⟨⟨b, cap, q1, _, q3⟩, g⟩ => ⟨⟨b, cap, q1, ks_of_own q3 fun t ht => (he.ok ht).1⟩, g⟩
  obtain ⟨ln, hln⟩ : ∃ ln, L.length = ln := ⟨_, rfl⟩
  rw [hln] at EN RI HS hl ⊢
  have LN : Hid (L.length = ln) := hln
  have SZ : Hid (sizes L ≤ 2000000) := hN
  clear h hs hln MC hN hc hz
  go_enter Try.func8, Try.ntmps8
  go_wp2_with fail
  refine Calls.mono (M.out.shown w) ?_
  rintro e w1 ⟨rfl, g1⟩
  have G1 : Hid (Gw w w1) := g1
  clear g1
  go_wp2_with fail
  refine Calls.mono (EN.out w1 (HE.out.gw G1.out)) ?_
  rintro e w2 ⟨⟨bo, ac, o, rfl, eo, mg⟩, g2⟩
  have MG : Hid (Mg Ent.k L o) := mg
  have A2 : Hid (EL w2 bo o) := eo_el eo (OKS.out o mg)
  have G2 : Hid (Gw w w2) := G1.out.trans g2
  have onb : o.length ≤ 2000000 := Nat.le_trans mg.few SZ.out
  clear eo mg g2 EN
  obtain ⟨on, hon⟩ : ∃ on, o.length = on := ⟨_, rfl⟩
  have ON : Hid (o.length = on) := hon
  rw [hon] at onb ⊢
  clear hon
  go_wp2_with fail
  refine Calls.mono (RI.out w2 (HE.out.gw G2.out)) ?_
  rintro e w3 ⟨⟨b, rfl, hb⟩, g3⟩
  have G3 : Hid (Gw w w3) := G2.out.trans g3
  have A3 : Hid (EL w3 bo o) := A2.out.gw g3
  cases b with
  | false =>
    clear hb g3
    go_wp2_with fail
    go_ret
    exact ⟨rfl, G3.out⟩
  | true =>
    have RL : Hid (∀ l ∈ L, Rise Ent.k l) := hb.1 rfl
    have RLi : Hid (∀ i, i < ln → Rise Ent.k (L.getD i [])) := fun i hi => by
      have hi' : i < L.length := by rw [LN.out]; exact hi
      have e : L.getD i [] = L[i] := by simp [List.getD, hi']
      rw [e]
      exact RL.out _ (List.getElem_mem hi')
    obtain ⟨ro, lk⟩ := MG.out.once RL.out
    have RO : Hid (Rise Ent.k o) := ro
    have LK : Hid (∀ k, look Ent.k k o = firstOf Ent.k k L) := lk
    have LONG : Hid (∀ i, i < ln → (L.getD i []).length ≤ on) := fun i hi => by
      have hi' : i < L.length := by rw [LN.out]; exact hi
      have e : L.getD i [] = L[i] := by simp [List.getD, hi']
      rw [e, ← ON.out]
      exact MG.out.long RL.out _ (List.getElem_mem hi')
    clear hb g3 ro lk RI
    go_wp2_with fail
    go_loopg [5, 6] ln (fun gg s5 s6 wr => ∃ i : Nat, s5 = .int .i64 ((sizes (L.take i) : Nat) : Int) ∧ s6 = .int .i64 (i : Int) ∧ i ≤ ln ∧ ln - i ≤ gg ∧ Aside (Gw w3 wr))
    case atStart => exact ⟨0, rfl, rfl, Nat.zero_le _, by omega, (show Aside _ from Gw.refl w3)⟩
    case round => as_aux_lemma =>
      obtain ⟨i, rfl, rfl, a1, a2, G⟩ := hrel
      by_cases ilt : i < ln
      · have ilt' : (i : Int) < (ln : Int) := by omega
        obtain ⟨wS, hwS⟩ : ∃ wx, wx = wr := ⟨_, rfl⟩
        subst hwS
        have ST : Aside (sizes (L.take (i + 1)) = sizes (L.take i) + (L.getD i []).length) := sizes_take (by rw [LN.out]; exact ilt)
        have sb := sizes_take_le L (i + 1)
        have sb2 := SZ.out
        obtain ⟨lb, loff, rfl, hlb3, hlc3⟩ := (HE.out.gw G3.out).cells (by rw [LN.out]; omega)
        obtain ⟨eo, ec, p1, p2, p3, _⟩ := hlc3 i (by rw [LN.out]; exact ilt)
        have lng := LONG.out i ilt
        have RLI := RLi.out i ilt
        obtain ⟨l, hl'⟩ : ∃ l, L.getD i [] = l := ⟨_, rfl⟩
        have HL : Aside (L.getD i [] = l) := hl'
        rw [hl'] at ST p1 p2 p3 lng RLI
        obtain ⟨n, hn⟩ : ∃ n, l.length = n := ⟨_, rfl⟩
        have LL : Aside (l.length = n) := hn
        rw [hn] at ST p1 p2 lng
        have E3 : Aside (EL w3 eo l) := p3
        have RIS : Aside (Rise Ent.k l) := RLI
        obtain ⟨sm, hsm⟩ : ∃ x, sizes (L.take i) = x := ⟨_, rfl⟩
        rw [hsm] at ST ⊢
        have smb : sm + n ≤ 2000000 := by have := ST.out; omega
        have PC : Aside (∀ W, Gw w3 W → W.cell? ⟨lb, loff + i, none⟩ = some (.slice eo n ec) ∧ lb < W.heap.size) := fun W gg => ⟨(gg.cell _ _ hlb3).trans p1, Nat.lt_of_lt_of_le hlb3 gg.size⟩
        have wsm : IntKind.i64.wrap ((sm : Int) + (n : Int)) = ((sm + n : Nat) : Int) := by rw [IntKind.wrap_i64]; omega
        have lng' : ¬ (on : Int) < (n : Int) := by omega
        obtain ⟨c1, cl⟩ := PC.out wS G.out
        clear hl' hn hsm p1 p2 p3 hlc3 RLI sb sb2
        have OFa : Hid (∀ W, Gw w3 W → Calls Try.prog 29 #[.slice bo on ac] W fun e w' => (∃ b cap, e = .returned (.slice (some ⟨b, 0, none⟩) on cap) ∧ KS w' (some ⟨b, 0, none⟩) on (kAt o)) ∧ Gw W w') := fun W gg => by
          have := OF.out W bo ac o (by rw [ON.out]; omega) (A3.out.gw gg)
          rw [ON.out] at this
          exact this
        go_wp2_with fail
        go_loopg [7] n (fun gg s7 wr => ∃ j : Nat, s7 = .int .i64 (j : Int) ∧ j ≤ n ∧ n - j ≤ gg ∧ Aside (Gw w3 wr))
        case atStart => exact ⟨0, rfl, Nat.zero_le _, by omega, G⟩
        case round => as_aux_lemma =>
          clear c1 cl
          obtain ⟨j, rfl, b1, b2, GJ⟩ := hrel
          obtain ⟨wT, hwT⟩ : ∃ wx, wx = wr := ⟨_, rfl⟩
          subst hwT
          obtain ⟨c1, cl⟩ := PC.out wT GJ.out
          by_cases jlt : j < n
          · have jlt' : (j : Int) < (n : Int) := by omega
            obtain ⟨eb, eoff, rfl, heb, hec⟩ := E3.out.cells (by rw [LL.out]; omega)
            obtain ⟨d0, d1, d2⟩ := hec j (by rw [LL.out]; exact jlt)
            have LA := look_at RIS.out (i := j) (by rw [LL.out]; exact jlt)
            have XB := (E3.out.ok (i := j) (by rw [LL.out]; exact jlt)).1
            obtain ⟨x, hx⟩ : ∃ x, l.getD j ent0 = x := ⟨_, rfl⟩
            unfold kAt at LA
            rw [hx] at d0 d1 d2 LA XB
            obtain ⟨xk, xv, xg⟩ := x
            have LX : Aside (look Ent.k xk l = some ⟨xk, xv, xg⟩) := LA
            have xb : 0 ≤ xk ∧ xk < 18446744073709551616 := XB
            have XC : Aside (∀ W, Gw w3 W → (W.cell? ⟨eb, eoff + j * 3, none⟩ = some (.int .u64 xk) ∧ W.cell? ⟨eb, eoff + j * 3 + 1, none⟩ = some (.int .u64 xv) ∧ W.cell? ⟨eb, eoff + j * 3 + 2, none⟩ = some (.bool xg)) ∧ eb < W.heap.size) := fun W gg => ⟨⟨(gg.cell _ _ heb).trans d0, (gg.cell _ _ heb).trans d1, (gg.cell _ _ heb).trans d2⟩, Nat.lt_of_lt_of_le heb gg.size⟩
            have HAS : Aside (look Ent.k xk o ≠ none) := by
              show _ ≠ _
              rw [LK.out]
              have hi' : i < L.length := by rw [LN.out]; exact ilt
              refine firstOf_has (l := l) ?_ (by rw [LX.out]; simp)
              rw [← HL.out, show L.getD i [] = L[i] by simp [List.getD, hi']]
              exact List.getElem_mem hi'
            have RKa : Hid (∀ (W : World) (b cap : Nat), KS W (some ⟨b, 0, none⟩) on (kAt o) → Calls Try.prog 28 #[.slice (some ⟨b, 0, none⟩) on cap, .int .u64 xk] W fun e w' => (∃ r : Nat, e = .returned (.tuple #[.int .i64 (r : Int), .bool true]) ∧ r < on ∧ look Ent.k xk o = some (o.getD r ent0)) ∧ Gw W w') := fun W b cap hk => (rrank13 (some ⟨b, 0, none⟩) on cap (kAt o) xk (by omega) W hk).mono fun e w' ⟨⟨m, t, q1, q2⟩, g⟩ => by
              obtain ⟨k, rfl, _, q3, q4⟩ := rank_look RO.out (by rw [ON.out]; exact q2)
              have tt : t = true := q4.2 HAS.out
              obtain ⟨q5, q6⟩ := q3 tt
              rw [tt] at q1
              rw [ON.out] at q5
              exact ⟨⟨k, q1, q5, q6⟩, g⟩
            obtain ⟨⟨f0, _, _⟩, fl⟩ := XC.out wT GJ.out
            have HW : Hid (∀ w', Gw wT w' → Gw wT w' ∧ w'.cell? ⟨lb, loff + i, none⟩ = some (.slice (some ⟨eb, eoff, none⟩) n ec) ∧ w'.cell? ⟨eb, eoff + j * 3, none⟩ = some (.int .u64 xk)) := fun w' g => ⟨g, (g.cell _ _ cl).trans c1, (g.cell _ _ fl).trans f0⟩
            have GT : Hid (∀ W, Gw wT W → Gw w3 W) := fun W gg => GJ.out.trans gg
            clear hec d0 d1 d2 LA XB hx
            go_upto_region 17 with fail
            clear c1 cl f0 fl
            go_cut [8, 9] (fun a b wx => ∃ r : Nat, a = .int .i64 (r : Int) ∧ b = .bool true ∧ r < on ∧ Aside (look Ent.k xk o = some (o.getD r ent0)) ∧ Aside (Gw w3 wx))
            case first => as_aux_lemma =>
              go_region_held3 (fun w' => Gw wT w' ∧ w'.cell? ⟨lb, loff + i, none⟩ = some (.slice (some ⟨eb, eoff, none⟩) n ec) ∧ w'.cell? ⟨eb, eoff + j * 3, none⟩ = some (.int .u64 xk))
                ((refine HW.out _ ?_; (repeat (first | exact Gw.refl _ | exact And.left (by assumption) | exact Hid.out (by assumption) | refine Gw.drew ?_ | refine Gw.drewN ?_ _)); done))
                (first | (go_at_call 29; refine (OFa.out _ (GT.out _ (by repeat (first | exact Gw.refl _ | exact And.left (by assumption) | exact Hid.out (by assumption) | refine Gw.drew ?_ | refine Gw.drewN ?_ _)))).mono ?_; rintro ex u5 ⟨⟨kb, kcp, rfl, ks⟩, g5⟩; have G5 : Hid (Gw wT u5) := Gw.trans (by repeat (first | exact Gw.refl _ | exact And.left (by assumption) | exact Hid.out (by assumption) | refine Gw.drew ?_ | refine Gw.drewN ?_ _)) g5; have K5 : Hid (KS u5 (some ⟨kb, 0, none⟩) on (kAt o)) := ks; clear ks g5) | (go_at_call 28; refine (RKa.out _ _ _ (KS.gw (Hid.out (by assumption)) (by repeat (first | exact Gw.refl _ | refine Gw.drew ?_ | refine Gw.drewN ?_ _)))).mono ?_; rintro ex u6 ⟨⟨r, rfl, hr1, hr2⟩, g6⟩; have G6 : Hid (Gw wT u6) := Gw.trans (by repeat (first | exact Gw.refl _ | exact And.left (by assumption) | exact Hid.out (by assumption) | refine Gw.drew ?_ | refine Gw.drewN ?_ _)) g6; have R6 : Hid (look Ent.k xk o = some (o.getD r ent0)) := hr2; clear g6 hr2))
              all_goals go_wp2_with fail
              all_goals go_meet
              all_goals (case rel => exact ⟨r, rfl, rfl, hr1, (show Aside _ from R6.out), (show Aside _ from GT.out _ (by repeat (first | exact Gw.refl _ | exact And.left (by assumption) | exact Hid.out (by assumption) | refine Gw.drew ?_ | refine Gw.drewN ?_ _)))⟩)
            case rest => as_aux_lemma =>
              obtain ⟨r, rfl, rfl, rl, LO, GR⟩ := hcut
              obtain ⟨wR, hwR⟩ : ∃ wx, wx = wc := ⟨_, rfl⟩
              subst hwR
              clear RKa OFa HW GT HAS
              go_wp2_with fail
              go_loopg [10, 11] i (fun gg s10 s11 wr => ∃ (t : Nat) (fl : Bool), s10 = .bool fl ∧ s11 = .int .i64 (t : Int) ∧ t ≤ i ∧ i - t ≤ gg ∧ Aside (fl = true → ∀ u, u < t → look Ent.k xk (L.getD u []) = none) ∧ Aside (Gw w3 wr))
              case atStart => exact ⟨0, true, rfl, rfl, Nat.zero_le _, by omega, (show Aside _ from fun _ u hu => by omega), GR⟩
              case round => as_aux_lemma =>
                clear GR
                obtain ⟨t, fl, rfl, rfl, e1, e2, FL, GT⟩ := hrel
                obtain ⟨wU, hwU⟩ : ∃ wx, wx = wr := ⟨_, rfl⟩
                subst hwU
                obtain ⟨c1, cl⟩ := PC.out wU GT.out
                obtain ⟨⟨f0, f1, f2⟩, fb⟩ := XC.out wU GT.out
                by_cases tlt : t < i
                · have tlt' : (t : Int) < (i : Int) := by omega
                  have tln : (t : Int) < (ln : Int) := by omega
                  obtain ⟨_, _, eh, _, hlc⟩ := ((HE.out.gw G3.out).gw GT.out).cells (by rw [LN.out]; omega)
                  cases eh
                  obtain ⟨to_, tc, t1, _, t3, _⟩ := hlc t (by rw [LN.out]; omega)
                  have RT := RLi.out t (by omega)
                  have tb := HS.out t (by omega)
                  have OFt0 := fun W (gg : Gw wU W) => OF.out W to_ tc (L.getD t []) tb (t3.gw gg)
                  have FLT : Aside (∀ is : Bool, (is = true ↔ look Ent.k xk (L.getD t []) ≠ none) → (fl && !is) = true → ∀ u, u < t + 1 → look Ent.k xk (L.getD u []) = none) := fun is his hf u hu => by
                    have hf' : fl = true ∧ is = false := by simpa using hf
                    by_cases e : u = t
                    · subst e
                      cases hk : look Ent.k xk (L.getD u []) with
                      | none => rfl
                      | some y =>
                        have := his.2 (by rw [hk]; simp)
                        rw [hf'.2] at this
                        cases this
                    · exact FL.out hf'.1 u (by omega)
                  obtain ⟨nt, hnt⟩ : ∃ x, (L.getD t []).length = x := ⟨_, rfl⟩
                  rw [hnt] at t1 tb
                  have RKt : Hid (∀ (W : World) (b cap : Nat), KS W (some ⟨b, 0, none⟩) nt (kAt (L.getD t [])) → Calls Try.prog 28 #[.slice (some ⟨b, 0, none⟩) nt cap, .int .u64 xk] W fun e w' => (∃ (m : Int) (is : Bool), e = .returned (.tuple #[.int .i64 m, .bool is]) ∧ (is = true ↔ look Ent.k xk (L.getD t []) ≠ none)) ∧ Gw W w') := fun W b cap hk => (rrank13 (some ⟨b, 0, none⟩) nt cap (kAt (L.getD t [])) xk (by omega) W hk).mono fun e w' ⟨⟨m, is, q1, q2⟩, g⟩ => by
                    obtain ⟨k, _, _, _, q4⟩ := rank_look RT (by rw [hnt]; exact q2)
                    exact ⟨⟨m, is, q1, q4⟩, g⟩
                  have OFt : Hid (∀ W, Gw wU W → Calls Try.prog 29 #[.slice to_ nt tc] W fun e w' => (∃ b cap, e = .returned (.slice (some ⟨b, 0, none⟩) nt cap) ∧ KS w' (some ⟨b, 0, none⟩) nt (kAt (L.getD t []))) ∧ Gw W w') := fun W gg => by
                    have := OFt0 W gg
                    rw [hnt] at this
                    exact this
                  have HW : Hid (∀ w', Gw wU w' → Gw wU w' ∧ w'.cell? ⟨lb, loff + i, none⟩ = some (.slice (some ⟨eb, eoff, none⟩) n ec) ∧ w'.cell? ⟨lb, loff + t, none⟩ = some (.slice to_ nt tc) ∧ w'.cell? ⟨eb, eoff + j * 3, none⟩ = some (.int .u64 xk)) := fun w' g => ⟨g, (g.cell _ _ cl).trans c1, (g.cell _ _ cl).trans t1, (g.cell _ _ fb).trans f0⟩
                  have GTT : Hid (∀ W, Gw wU W → Gw w3 W) := fun W gg => GT.out.trans gg
                  clear hlc t3 OFt0 hnt RT c1 cl f0 f1 f2 fb t1
                  go_upto_region 24 with fail
                  go_cut [12, 13] (fun a b wx => ∃ (m : Int) (is : Bool), a = .int .i64 m ∧ b = .bool is ∧ Aside (is = true ↔ look Ent.k xk (L.getD t []) ≠ none) ∧ Aside (Gw w3 wx))
                  case first => as_aux_lemma =>
                    go_region_held3 (fun w' => Gw wU w' ∧ w'.cell? ⟨lb, loff + i, none⟩ = some (.slice (some ⟨eb, eoff, none⟩) n ec) ∧ w'.cell? ⟨lb, loff + t, none⟩ = some (.slice to_ nt tc) ∧ w'.cell? ⟨eb, eoff + j * 3, none⟩ = some (.int .u64 xk))
                      ((refine HW.out _ ?_; (repeat (first | exact Gw.refl _ | exact And.left (by assumption) | exact Hid.out (by assumption) | refine Gw.drew ?_ | refine Gw.drewN ?_ _)); done))
                      (first | (go_at_call 29; refine (OFt.out _ (by repeat (first | exact Gw.refl _ | exact And.left (by assumption) | exact Hid.out (by assumption) | refine Gw.drew ?_ | refine Gw.drewN ?_ _))).mono ?_; rintro ex u5 ⟨⟨kb, kcp, rfl, ks⟩, g5⟩; have G5 : Hid (Gw wU u5) := Gw.trans (by repeat (first | exact Gw.refl _ | exact And.left (by assumption) | exact Hid.out (by assumption) | refine Gw.drew ?_ | refine Gw.drewN ?_ _)) g5; have K5 : Hid (KS u5 (some ⟨kb, 0, none⟩) nt (kAt (L.getD t []))) := ks; clear ks g5) | (go_at_call 28; refine (RKt.out _ _ _ (KS.gw (Hid.out (by assumption)) (by repeat (first | exact Gw.refl _ | refine Gw.drew ?_ | refine Gw.drewN ?_ _)))).mono ?_; rintro ex u6 ⟨⟨m6, is6, rfl, hr2⟩, g6⟩; have G6 : Hid (Gw wU u6) := Gw.trans (by repeat (first | exact Gw.refl _ | exact And.left (by assumption) | exact Hid.out (by assumption) | refine Gw.drew ?_ | refine Gw.drewN ?_ _)) g6; have R6 : Hid (is6 = true ↔ look Ent.k xk (L.getD t []) ≠ none) := hr2; clear g6 hr2))
                    all_goals go_wp2_with fail
                    all_goals go_meet
                    all_goals (case rel => exact ⟨m6, is6, rfl, rfl, (show Aside _ from R6.out), (show Aside _ from GTT.out _ (by repeat (first | exact Gw.refl _ | exact And.left (by assumption) | exact Hid.out (by assumption) | refine Gw.drew ?_ | refine Gw.drewN ?_ _)))⟩)
                  case rest => as_aux_lemma =>
                    obtain ⟨m6, is6, rfl, rfl, IS, G6⟩ := hcut
                    have FLN : Aside ((fl && !is6) = true → ∀ u, u < t + 1 → look Ent.k xk (L.getD u []) = none) := FLT.out is6 IS.out
                    clear FLT IS FL OFt RKt HW GTT
                    cases fl with
                    | false =>
                      go_wp2_with fail
                      go_roundg (i - (t + 1))
                      case measure => omega
                      case rel => exact ⟨t + 1, false, rfl, by go_num, by omega, Nat.le_refl _, (show Aside _ from fun q => by cases q), G6⟩
                    | true =>
                      cases is6 with
                      | false =>
                        go_wp2_with fail
                        go_roundg (i - (t + 1))
                        case measure => omega
                        case rel => exact ⟨t + 1, true, rfl, by go_num, by omega, Nat.le_refl _, (show Aside _ from fun _ => FLN.out rfl), G6⟩
                      | true =>
                        go_wp2_with fail
                        go_roundg (i - (t + 1))
                        case measure => omega
                        case rel => exact ⟨t + 1, false, rfl, by go_num, by omega, Nat.le_refl _, (show Aside _ from fun q => by cases q), G6⟩
                · have et : t = i := by omega
                  subst et
                  cases fl with
                  | false =>
                    go_wp2_with fail
                    go_quiet (fail)
                    go_wp2_with fail
                    go_roundg (n - (j + 1))
                    case measure => omega
                    case rel => exact ⟨j + 1, by go_num, by omega, Nat.le_refl _, (show Aside _ from GT.out.drewN _)⟩
                  | true =>
                    have SAME : o.getD r ent0 = ⟨xk, xv, xg⟩ := by
                      have e1 := firstOf_at (k := xk) (i := t) (by rw [LN.out]; exact ilt) (FL.out rfl) (x := ⟨xk, xv, xg⟩) (by rw [HL.out]; exact LX.out)
                      have e2 := LK.out xk
                      rw [e1, LO.out] at e2
                      exact Option.some.inj e2
                    obtain ⟨ab, aoff, rfl, hab, hac⟩ := (A3.out.gw GT.out).cells (by rw [ON.out]; omega)
                    obtain ⟨h0, h1, h2⟩ := hac r (by rw [ON.out]; exact rl)
                    rw [SAME] at h0 h1 h2
                    have h0' : wU.cell? ⟨ab, aoff + r * 3, none⟩ = some (.int .u64 xk) := h0
                    have h1' : wU.cell? ⟨ab, aoff + r * 3 + 1, none⟩ = some (.int .u64 xv) := h1
                    have h2' : wU.cell? ⟨ab, aoff + r * 3 + 2, none⟩ = some (.bool xg) := h2
                    have rl' : (r : Int) < (on : Int) := by omega
                    clear hac h0 h1 h2 SAME
                    go_wp2_with fail
                    go_quiet (fail)
                    go_wp2_with fail
                    go_roundg (n - (j + 1))
                    case measure => omega
                    case rel => exact ⟨j + 1, by go_num, by omega, Nat.le_refl _, (show Aside _ from GT.out.drewN _)⟩
          · have ej : j = n := by omega
            subst ej
            go_wp2_with fail
            go_roundg (ln - (i + 1))
            case measure => omega
            case rel => exact ⟨i + 1, by rw [ST.out]; go_num, by go_num, by omega, Nat.le_refl _, GJ⟩
      · have ei : i = ln := by omega
        subst ei
        have TT : L.take i = L := List.take_of_length_le (by rw [LN.out]; exact Nat.le_refl _)
        have FEW : on ≤ sizes L := by rw [← ON.out]; exact MG.out.few
        have szb := SZ.out
        rw [TT]
        generalize sizes L = sm at FEW szb
        have FEW' : (on : Int) ≤ (sm : Int) := by omega
        have OFa : Hid (Calls Try.prog 29 #[.slice bo on ac] wr fun e w' => (∃ b cap, e = .returned (.slice (some ⟨b, 0, none⟩) on cap) ∧ KS w' (some ⟨b, 0, none⟩) on (kAt o)) ∧ Gw wr w') := by
          have := OF.out wr bo ac o (by rw [ON.out]; omega) (A3.out.gw G.out)
          rw [ON.out] at this
          exact this
        have UP : Hid (Up (kAt o) on) := by
          have := rise_up.1 RO.out
          rw [ON.out] at this
          exact this
        go_wp2_with fail
        refine Calls.mono OFa.out ?_
        rintro e w5 ⟨⟨kb, kc, rfl, ks⟩, g5⟩
        have K5 : Hid (KS w5 (some ⟨kb, 0, none⟩) on (kAt o)) := ks
        have G5 : Hid (Gw w3 w5) := G.out.trans g5
        clear ks g5 OFa
        go_wp2_with fail
        refine Calls.mono (rrising_any (some ⟨kb, 0, none⟩) on kc (kAt o) (by omega) w5 K5.out) ?_
        rintro e w6 ⟨⟨q, rfl, hq⟩, g6⟩
        have eq : q = true := hq.2 UP.out
        subst eq
        have G6 : Hid (Gw w3 w6) := G5.out.trans g6
        clear hq g6
        go_wp2_with fail
        go_ret
        exact ⟨rfl, G3.out.trans G6.out⟩
end Go.Proofs.Ytnkcnfpbbdlifaa
