/- The document's layer 21: a text read. -/
import Derived.Test.YtocnmdabilaccaaDoorS1Cmd
namespace Go.Proofs.YtocnmdabilaccaaDoor
open Go.RowKit
set_option linter.unusedVariables false

/-- What Parse answers. -/
def ParO (w w' : World) (e : Ending) (r : List Cd × Int × Int) : Prop := ∃ bo n cp V, e = .returned (.tuple #[.slice bo n cp, .int .i64 r.2.1, .int .i64 r.2.2]) ∧ n = r.1.length ∧ CO w' w.heap.size (.slice bo n cp) r.1 V
theorem go_from {P : List (List UInt8)} {i : Nat} {x : List UInt8} (hx : P[i]? = some x) (O : List Cd) : goP (P.drop i) i O =
    if (cmdOf (wordsOf x) O.length).2.1 ≠ 0 then ([], (i : Int) + 1, (cmdOf (wordsOf x) O.length).2.1)
    else if (cmdOf (wordsOf x) O.length).1 = true then goP (P.drop (i + 1)) (i + 1) (O ++ [(cmdOf (wordsOf x) O.length).2.2])
    else goP (P.drop (i + 1)) (i + 1) O := by
  obtain ⟨hi, e⟩ := List.getElem?_eq_some_iff.1 hx
  rw [List.drop_eq_getElem_cons hi, e, goP]
theorem cmd_ok {ws : List (List UInt8)} {n : Nat} : NumsOk (cmdOf ws n).2.2 ∧ 0 ≤ (cmdOf ws n).2.1 ∧ (cmdOf ws n).2.1 ≤ 213 := by
  unfold cmdOf
  cases ws with
  | nil => exact ⟨fun n h => by simp at h, by simp, by simp⟩
  | cons w r =>
    simp only
    split
    · exact ⟨fun n h => by simp at h, by decide, by decide⟩
    split
    · exact ⟨fun n h => by simp at h, by decide, by decide⟩
    split
    · exact ⟨fun n h => by simp at h, by decide, by decide⟩
    split
    · exact ⟨fun n h => by simp at h, by decide, by decide⟩
    cases e : numsOf r with
    | none => exact ⟨fun n h => by simp at h, by simp, by simp⟩
    | some ns => exact ⟨(nums_some e).2, by simp, by simp⟩
set_option maxRecDepth 100000 in
set_option maxHeartbeats 8000000 in
theorem parse21 (t : List UInt8) (ht : t.length ≤ 2000000) (w : World) : Calls Tryd.prog 11 #[.string (Bs t)] w fun e w' => ParO w w' e (parse t) ∧ Gw w w' := by
  have SP : Hid (∀ W, Calls Tryd.prog 24 #[.string (Bs t), .int .u8 10] W fun e w' => TXv W w' e (spl 10 [] t) ∧ Gw W w') := fun W => split21 t 10 ht W
  obtain ⟨tn, htn⟩ : ∃ tn, t.length = tn := ⟨_, rfl⟩
  have TN : Aside (t.length = tn) := htn
  rw [htn] at ht
  go_enter Tryd.func11, Tryd.ntmps11
  by_cases q : 65536 < tn
  · have PE : Aside (parse t = ([], 0, 210)) := by show _ = _; unfold parse; rw [if_pos (by rw [TN.out]; exact q)]
    go_wp2
    refine bodyPost_ret (v := .tuple #[.slice none 0 0, .int .i64 0, .int .i64 210]) (by simp [results, Tryd.results11, go_sem]) rfl ⟨?_, Gw.refl w⟩
    rw [PE.out]
    exact ⟨none, 0, 0, [], rfl, rfl, CO.nil _ _⟩
  have PE : Aside (parse t = goP (spl 10 [] t) 0 []) := by show _ = _; unfold parse; rw [if_neg (by rw [TN.out]; exact q)]
  go_wp2_with fail
  refine (SP.out _).mono ?_
  rintro e w2 ⟨⟨pb, pc, rfl, T⟩, g2⟩
  obtain ⟨P, hP⟩ : ∃ P, spl 10 [] t = P := ⟨_, rfl⟩
  have PH : Aside (spl 10 [] t = P) := hP
  rw [hP] at T ⊢
  obtain ⟨np, hnp⟩ : ∃ np, P.length = np := ⟨_, rfl⟩
  have PN : Aside (P.length = np) := hnp
  have npb : np ≤ 65537 := by
    have h1 := len_lens (spl 10 [] t)
    rw [spl_lens, hP, hnp, TN.out] at h1
    simp at h1
    omega
  have XL : Hid (∀ x ∈ P, x.length ≤ 2000000) := fun x hx => by
    have h1 := mem_lens hx
    rw [← hP, spl_lens, TN.out] at h1
    simp at h1
    omega
  rw [hnp] at T ⊢
  obtain ⟨N, hN⟩ : ∃ N, w.heap.size = N := ⟨_, rfl⟩
  have NH : Hid (w.heap.size = N) := hN
  have PB : Hid (N + 1 ≤ pb ∧ pb < w2.heap.size) := by
    have h1 := World.ownsRow.lt T pb rfl
    rw [← hN]
    show _ ∧ _
    simpa using h1
  have TP : Hid (∀ W, Gx (fun q => q = N) w2 W → ∀ i x, P[i]? = some x → W.cell? ⟨pb, i, none⟩ = some (.string (Bs x))) := fun W g i x hx => by
    have T' : TXO W _ _ P := own_keep T (fun q hq => by
      cases hq
      exact g.block pb PB.out.2 (by have := PB.out.1; show ¬ pb = N; omega))
    exact T'.cell hnp.symm hx
  have G2 : Hid (Gw w w2) := ((Gw.refl w).alloc _ _).trans g2
  have C2 : Hid (CO w2 w.heap.size (.slice (some ⟨N, 0, none⟩) 0 0) [] []) := by rw [← hN]; exact (CO.made w).gw g2
  have s2 : N < w2.heap.size := by have := PB.out; omega
  obtain ⟨ii, hii, hz, hsz, hby⟩ := info_parts info_cmd
  clear hP hnp T g2 SP
  go_wp2
  go_loopg [5, 7] np (fun gg s5 s7 wr => ∃ (b cap k i : Nat) (O : List Cd) (V : List Value), s5 = .slice (some ⟨b, 0, none⟩) k cap ∧ s7 = .int .i64 (i : Int) ∧ i ≤ np ∧ k ≤ i ∧ np - i ≤ gg ∧ Aside (O.length = k ∧ parse t = goP (P.drop i) i O) ∧ Hid (CO wr w.heap.size (.slice (some ⟨b, 0, none⟩) k cap) O V) ∧ Hid (Gx (fun q => q = N) w2 wr) ∧ Hid (b = N ∨ w2.heap.size ≤ b))
  case atStart => exact ⟨N, 0, 0, 0, [], [], rfl, rfl, by omega, by omega, by omega, ⟨rfl, by rw [PE.out, PH.out]; rfl⟩, C2, Gx.refl _ _, .inl rfl⟩
  case round =>
    obtain ⟨b, cap, k, i, O, V, rfl, rfl, hi, hk, hg, OI, C, G, BN⟩ := hrel
    have gz := G.out.size
    by_cases ilt : i < np
    · have ilt' : (i : Int) < (np : Int) := by omega
      obtain ⟨x, hx⟩ : ∃ x, P[i]? = some x := ⟨P[i]'(by rw [PN.out]; exact ilt), List.getElem?_eq_getElem _⟩
      have c1 := TP.out wr G.out i x hx
      have GO : Aside (parse t = _) := OI.out.2.trans (go_from hx O)
      have CM : Hid (∀ W, Calls Tryd.prog 25 #[.string (Bs x), .int .i64 (k : Int)] W fun e w' => CmdO W w' e (cmdOf (wordsOf x) k) ∧ Gw W w') := fun W => command21 x k (XL.out x (List.mem_of_getElem? hx)) (by omega) W
      have OK := cmd_ok (ws := wordsOf x) (n := k)
      rw [OI.out.1] at GO
      clear hx
      go_wp2_with fail
      refine (CM.out _).mono ?_
      generalize cmdOf (wordsOf x) k = r at GO OK
      obtain ⟨is, er, c⟩ := r
      dsimp only at GO OK
      rintro e w5 ⟨⟨u, rfl, NU⟩, g5⟩
      dsimp only at NU ⊢
      obtain ⟨uo, uc, rfl, _⟩ := nu_slice NU
      have NUH : Hid (NUO w5 wr.heap.size (.slice uo c.nums.length uc) c.nums) := NU
      have G5 : Hid (Gw wr w5) := g5
      have OKH : Hid (NumsOk c) := OK.1
      have eb := OK.2
      have GOH : Aside (parse t = if er ≠ 0 then ([], (i : Int) + 1, er) else if is = true then goP (P.drop (i + 1)) (i + 1) (O ++ [c]) else goP (P.drop (i + 1)) (i + 1) O) := GO
      clear CM GO OK NU g5 c1
      have W5 : Hid (Gx (fun q => q = N) w2 w5) := G.out.tw G5.out
      have s5 := G5.out.size
      by_cases q1 : er = 0
      · subst q1
        cases is with
        | true =>
          have NX : Aside (parse t = goP (P.drop (i + 1)) (i + 1) (O ++ [c])) := by have := GOH.out; show _ = _; simpa using this
          obtain ⟨cw, cn⟩ := c
          dsimp only
          have KO := OI.out.1
          have OW : Hid (w5.ownsRow w.heap.size 30 2 (.slice (some ⟨b, 0, none⟩) k cap) k (cds O V)) := by
            have := (C.out.gw G5.out).row
            rw [KO] at this
            exact this
          obtain ⟨cnl, hcnl⟩ : ∃ m, cn.length = m := ⟨_, rfl⟩
          have CNL : Aside (cn.length = cnl) := hcnl
          rw [hcnl]
          clear GOH hcnl
          go_wp2_with (at_builtin; refine wpList_append_own_at _ rfl _ _ 23 rfl w.heap.size 30 ii (.agg #[.string (Bs []), .slice none 0 0]) 2 40 Tryd.underlying23 hii hz hsz hby rfl (by decide) _ k _ rfl ((OW.out.alloc _).alloc _) ⟨w5.heap.size + 1, 0, none⟩ 1 1 (cd2 ⟨cw, cn⟩ (.slice uo cnl uc)) rfl rfl ?_ (cd2_one _ _ _ _) (by simp only [maxLen]; omega) (by omega) (by simp; omega) ?_)
          · exact fun j u h => h
          intro v' w7 r1 r2 r3 r4
          obtain ⟨b8, cap8, rfl, hb8, _, _⟩ := own_slice r1 r3
          obtain ⟨W6, hW6⟩ : ∃ W6, (w5.alloc (.cells #[.string (Bs cw), .slice uo cnl uc] 30)).alloc (.cells #[.string (Bs cw), .slice uo cnl uc] 30) = W6 := ⟨_, rfl⟩
          have z6 : W6.heap.size = w5.heap.size + 1 + 1 := by rw [← hW6]; simp
          have g6 : Gw w5 W6 := by rw [← hW6]; exact ((Gw.refl w5).alloc _ _).alloc _ _
          rw [hW6] at r2
          have C7 : Hid (CO w7 w.heap.size (.slice (some ⟨b8, 0, none⟩) (k + 1) cap8) (O ++ [⟨cw, cn⟩]) (V ++ [.slice uo cnl uc])) := CO.more (w2 := W6) (B := wr.heap.size) C.out (by omega) (fun q hq => (G5.out.trans g6).below.block q hq)
            (fun q hq => (World.ownsRow.lt C.out.row q hq).2) (fun j y q hy hq => (World.ownsRow.lt (C.out.nums j (O[j]'(by have := (List.getElem?_eq_some_iff.1 hy).1; rw [← C.out.len]; exact this)) y (List.getElem?_eq_getElem _) hy) q hq).2) (by have := (G2.out.size); have := gz; omega)
            (own_gw (by have := NUH.out; rw [← CNL.out]; exact this) g6) OKH.out (by rw [KO, hN]; exact r1) (fun q h1 h2 => r2.block q h1 (fun e => h2 e.symm)) (by
              rcases r4 with e | e
              · exact .inl e
              · refine .inr fun q hq => ?_
                rw [e] at hq
                have := Option.some.inj hq
                omega)
          have b8N : Hid (b8 = N ∨ w2.heap.size ≤ b8) := by
            show _ ∨ _
            rcases r4 with e | e
            · have : b8 = b := by simpa [Value.ownBlock] using e
              rw [this]; exact BN.out
            · have : b8 = w5.heap.size + 1 + 1 := by simpa [Value.ownBlock] using e
              have h1 := W5.out.size
              right; omega
          have G7 : Hid (Gx (fun q => q = N) w2 w7) := (W5.out.tw g6).grown r2 (fun q hq => by
            have : b = q := by simpa [Value.ownBlock] using hq
            rw [← this]; exact BN.out)
          clear r1 r2 r3 r4 hW6 z6 g6 C OW
          go_wp2
          go_roundg (np - (i + 1))
          case measure => omega
          case rel => exact ⟨b8, cap8, k + 1, i + 1, O ++ [⟨cw, cn⟩], V ++ [.slice uo cnl uc], rfl, by go_num, by omega, by omega, Nat.le_refl _, ⟨by rw [List.length_append, KO]; rfl, NX.out⟩, C7, G7, b8N⟩
        | false =>
          have NX : Aside (parse t = goP (P.drop (i + 1)) (i + 1) O) := by have := GOH.out; show _ = _; simpa using this
          go_wp2
          go_roundg (np - (i + 1))
          case measure => omega
          case rel => exact ⟨b, cap, k, i + 1, O, V, rfl, by go_num, by omega, by omega, Nat.le_refl _, ⟨OI.out.1, NX.out⟩, (C.out.gw G5.out).gw ((Gw.refl w5).alloc _ _), W5.out.alloc _ _, BN⟩
      · have q1' : (er == 0) = false := by simpa using q1
        have NX : Aside (parse t = ([], (i : Int) + 1, er)) := by
          have := GOH.out
          rw [if_pos q1] at this
          exact this
        go_wp2
        refine bodyPost_ret (v := .tuple #[.slice none 0 0, .int .i64 ((i : Int) + 1), .int .i64 er]) (by simp [results, Tryd.results11, go_sem]) rfl ⟨?_, ?_⟩
        · rw [NX.out]
          exact ⟨none, 0, 0, [], rfl, rfl, CO.nil _ _⟩
        · exact Gx.gw G2.out (W5.out.alloc _ _) (fun q hq => by rw [hq, NH.out]; exact Nat.le_refl _)
    · have NX : Aside (parse t = (O, 0, 0)) := by
        have := OI.out.2
        rw [List.drop_eq_nil_of_le (by rw [PN.out]; omega)] at this
        exact this
      go_wp2
      refine bodyPost_ret (v := .tuple #[.slice (some ⟨b, 0, none⟩) k cap, .int .i64 0, .int .i64 0]) (by simp [results, Tryd.results11, go_sem]) rfl ⟨?_, ?_⟩
      · rw [NX.out]
        exact ⟨some ⟨b, 0, none⟩, k, cap, V, rfl, OI.out.1.symm, C.out⟩
      · exact Gx.gw G2.out G.out (fun q hq => by rw [hq, NH.out]; exact Nat.le_refl _)
end Go.Proofs.YtocnmdabilaccaaDoor
