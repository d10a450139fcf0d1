/- The document's layer 21: commands written. -/
import Derived.Test.YtocnmdabilaccaaDoorS1Ref4
import Derived.Deep.QuietTactic
import Derived.BigQuiet
namespace Go.Proofs.YtocnmdabilaccaaDoor
open Go.RowKit
set_option linter.unusedVariables false

theorem chk_step {L : List Cd} {i : Nat} {c : Cd} (h : L[i]? = some c) : chk (L.drop i) = if takes c.word < 0 then 211 else if takes c.word ≠ (c.nums.length : Int) then 213 else chk (L.drop (i + 1)) := by
  obtain ⟨hi, e⟩ := List.getElem?_eq_some_iff.1 h
  rw [List.drop_eq_getElem_cons hi, e, chk]
theorem text_take {L : List Cd} {i : Nat} {c : Cd} (h : L[i]? = some c) : text (L.take (i + 1)) = text (L.take i) ++ (lineOf c ++ [10]) := by
  rw [List.take_add_one, h]
  simp [text]
theorem text_len (L : List Cd) (i : Nat) : (text (L.take i)).length ≤ (text L).length := by
  have : text L = text (L.take i) ++ text (L.drop i) := by
    unfold text
    rw [← List.flatMap_append, List.take_append_drop]
  rw [this]
  simp
/-- A command's line up to its number k. -/
def lineTo (c : Cd) (k : Nat) : List UInt8 := c.word ++ (c.nums.take k).flatMap (fun n => 32 :: digits n.toNat)
theorem lineTo_step {c : Cd} {k : Nat} {n : Int} (h : c.nums[k]? = some n) : lineTo c (k + 1) = lineTo c k ++ (32 :: digits n.toNat) := by
  unfold lineTo
  rw [List.take_add_one, h]
  simp
theorem lineTo_all {c : Cd} {k : Nat} (h : c.nums.length ≤ k) : lineTo c k = lineOf c := by
  unfold lineTo lineOf
  rw [List.take_of_length_le h]
theorem takes_bd (l : List UInt8) : -1 ≤ takes l ∧ takes l ≤ 3 := by
  unfold takes
  repeat' split
  all_goals decide
theorem takes_len {l : List UInt8} (h : ¬ takes l < 0) : l.length ≤ 5 := by
  unfold takes at h
  split at h
  · rename_i q; rcases q with rfl | rfl | rfl <;> decide
  split at h
  · rename_i q; rcases q with rfl | rfl | rfl | rfl | rfl <;> decide
  split at h
  · rename_i q; rcases q with rfl | rfl | rfl <;> decide
  split at h
  · rename_i q; subst q; decide
  · exact absurd (by decide) h
set_option maxRecDepth 100000 in
set_option maxHeartbeats 8000000 in
theorem print21 (ao : Option Addr) (cp : Nat) (L : List Cd) (hl : L.length ≤ 2000000) (hn : ∀ c ∈ L, c.nums.length ≤ 2000000) (w : World) (h : CS w ao L) :
    Calls Tryd.prog 15 #[.slice ao L.length cp] w fun e w' => e = .returned (.tuple #[.string (Bs (print L).1), .int .i64 (print L).2]) ∧ Gw w w' := by
  have CSH : Hid (CS w ao L) := h
  have HN : Hid (∀ c ∈ L, c.nums.length ≤ 2000000) := hn
  obtain ⟨n, hln⟩ : ∃ n, L.length = n := ⟨_, rfl⟩
  have LN : Aside (L.length = n) := hln
  rw [hln] at hl ⊢
  clear h hn hln
  go_enter Tryd.func15, Tryd.ntmps15
  by_cases q0 : 4096 < n
  · have PE : Aside (print L = ([], 210)) := by show _ = _; unfold print; rw [if_pos (by rw [LN.out]; exact q0)]
    go_wp2
    exact bodyPost_ret (v := .tuple #[.string (Bs []), .int .i64 210]) (by simp [results, Tryd.results15, go_sem]) rfl ⟨by rw [PE.out], Gw.refl w⟩
  have P0 : Hid (¬ 4096 < L.length) := by show ¬ _; rw [LN.out]; exact q0
  go_wp2_with fail
  go_loopg [4] n (fun gg s4 wr => ∃ i : Nat, s4 = .int .i64 (i : Int) ∧ i ≤ n ∧ n - i ≤ gg ∧ Aside (chk L = chk (L.drop i)) ∧ Hid (Gw w wr))
  case atStart => exact ⟨0, rfl, Nat.zero_le _, by omega, (by show _ = _; simp), Gw.refl w⟩
  case round =>
    obtain ⟨i, rfl, h1, h2, CK, G⟩ := hrel
    by_cases ilt : i < n
    · have il : i < L.length := by rw [LN.out]; exact ilt
      obtain ⟨c, hc⟩ : ∃ c, L[i]? = some c := ⟨L[i], List.getElem?_eq_getElem il⟩
      obtain ⟨b, off, rfl, hb, hcc⟩ := (CSH.out.gw G.out).cells (by omega)
      obtain ⟨bo, bc, d0, d1, _⟩ := hcc i c hc
      have ilt' : (i : Int) < (n : Int) := by omega
      have CS1 : Aside (chk L = _) := CK.out.trans (chk_step hc)
      obtain ⟨tk, htk⟩ : ∃ tk, takes c.word = tk := ⟨_, rfl⟩
      have TK : Hid (∀ W, Calls Tryd.prog 31 #[.string (Bs c.word)] W fun e w' => e = .returned (.int .i64 tk) ∧ w' = W) := fun W => by rw [← htk]; exact takes21 c.word W
      obtain ⟨m, hm⟩ : ∃ m, c.nums.length = m := ⟨_, rfl⟩
      have mb : m ≤ 2000000 := by rw [← hm]; exact HN.out c (List.mem_of_getElem? hc)
      rw [hm] at d1
      rw [htk, hm] at CS1
      have CSH1 : Aside (chk L = if tk < 0 then 211 else if tk ≠ (m : Int) then 213 else chk (L.drop (i + 1))) := CS1
      have tb := takes_bd c.word
      rw [htk] at tb
      generalize c.word = cw at d0 TK
      clear hc hcc CS1 htk hm CK
      go_wp2_with fail
      refine (TK.out _).mono ?_
      rintro e w' ⟨rfl, hw'⟩
      have hw : wr = w' := hw'.symm
      subst hw
      clear hw'
      by_cases q1 : tk < 0
      · have CE : Aside (chk L = 211) := by have := CSH1.out; rw [if_pos q1] at this; exact this
        have PE : Aside (print L = ([], 211)) := by show _ = _; unfold print; rw [if_neg P0.out, CE.out]; rfl
        go_wp2
        exact bodyPost_ret (v := .tuple #[.string (Bs []), .int .i64 211]) (by simp [results, Tryd.results15, go_sem]) rfl ⟨by rw [PE.out], G.out⟩
      go_wp2_with fail
      go_quiet (first | (go_at_call 31; exact Calls.quiet_of_same (TK.out _)))
      by_cases q2 : tk = (m : Int)
      · have CE : Aside (chk L = chk (L.drop (i + 1))) := by have := CSH1.out; rw [if_neg (by omega), if_neg (fun z => z q2)] at this; exact this
        subst q2
        go_wp2
        go_roundg (n - (i + 1))
        case measure => omega
        case rel => exact ⟨i + 1, by go_num, by omega, Nat.le_refl _, CE, G.out.drewN _⟩
      · have q2' : (tk == (m : Int)) = false := by simpa using q2
        have CE : Aside (chk L = 213) := by have := CSH1.out; rw [if_neg (by omega), if_pos q2] at this; exact this
        have PE : Aside (print L = ([], 213)) := by show _ = _; unfold print; rw [if_neg P0.out, CE.out]; rfl
        go_wp2
        exact bodyPost_ret (v := .tuple #[.string (Bs []), .int .i64 213]) (by simp [results, Tryd.results15, go_sem]) rfl ⟨by rw [PE.out], G.out.drewN _⟩
    · have C0 : Hid (chk L = 0) := by
        have := CK.out
        rw [List.drop_eq_nil_of_le (by rw [LN.out]; omega)] at this
        exact this
      have GOOD : Hid (∀ c ∈ L, ¬ takes c.word < 0 ∧ takes c.word = (c.nums.length : Int)) := chk_ok C0.out
      obtain ⟨wO, hwO⟩ : ∃ wO, wO = wr := ⟨_, rfl⟩
      subst hwO
      go_wp2_with fail
      go_loopg [5, 6] n (fun gg s5 s6 wr => ∃ (i : Nat) (S : List UInt8), s5 = .string (Bs S) ∧ s6 = .int .i64 (i : Int) ∧ i ≤ n ∧ n - i ≤ gg ∧ S.length ≤ 65536 ∧ Aside (S = text (L.take i)) ∧ Hid (Gw wO wr))
      case atStart => exact ⟨0, [], rfl, rfl, Nat.zero_le _, by omega, by simp, (by show _ = _; simp [text]), Gw.refl wO⟩
      case round =>
        obtain ⟨i, S, rfl, rfl, h1, h2, sl, ST, GG⟩ := hrel
        have G2 : Hid (Gw w wr) := G.out.trans GG.out
        by_cases ilt : i < n
        · have il : i < L.length := by rw [LN.out]; exact ilt
          obtain ⟨c, hc⟩ : ∃ c, L[i]? = some c := ⟨L[i], List.getElem?_eq_getElem il⟩
          have GD := GOOD.out c (List.mem_of_getElem? hc)
          have CELL : Hid (∀ W, Gw w W → ∃ (b off : Nat) (bo : Option Addr) (bc : Nat), ao = some ⟨b, off, none⟩ ∧ W.cell? ⟨b, off + i * 2, none⟩ = some (.string (Bs c.word)) ∧ W.cell? ⟨b, off + i * 2 + 1, none⟩ = some (.slice bo c.nums.length bc) ∧ KS W bo c.nums.length (fun j => c.nums.getD j 0)) := fun W g => by
            obtain ⟨b, off, e, hb, hcc⟩ := (CSH.out.gw g).cells (by omega)
            obtain ⟨bo, bc, d0, d1, d2, _⟩ := hcc i c hc
            exact ⟨b, off, bo, bc, e, d0, d1, d2⟩
          have wl : c.word.length ≤ 5 := takes_len (by have := GD.1; omega)
          have nl : c.nums.length ≤ 3 := by have := takes_bd c.word; have := GD.2; omega
          have ilt' : (i : Int) < (n : Int) := by omega
          have TX : Aside (text (L.take (i + 1)) = S ++ (lineOf c ++ [10])) := by show _ = _; rw [text_take hc, ← ST.out]
          obtain ⟨wI, hwI⟩ : ∃ wI, wI = wr := ⟨_, rfl⟩
          subst hwI
          obtain ⟨b, off, bo0, bc0, rfl, d0, _, _⟩ := CELL.out wI G2.out
          obtain ⟨cw, hcw⟩ : ∃ cw, c.word = cw := ⟨_, rfl⟩
          have CW : Aside (c.word = cw) := hcw
          rw [hcw] at d0 wl
          obtain ⟨m, hm⟩ : ∃ m, c.nums.length = m := ⟨_, rfl⟩
          have CM : Aside (c.nums.length = m) := hm
          rw [hm] at nl
          clear hc GD hcw hm
          go_wp2_with fail
          go_loopg [5, 7] m (fun gg s5 s7 wr => ∃ (k : Nat) (S' : List UInt8), s5 = .string (Bs S') ∧ s7 = .int .i64 (k : Int) ∧ k ≤ m ∧ m - k ≤ gg ∧ S'.length ≤ 65541 + 21 * k ∧ Aside (S' = S ++ lineTo c k) ∧ Hid (Gw wI wr))
          case atStart => exact ⟨0, S ++ cw, rfl, rfl, Nat.zero_le _, by omega, by simp; omega, (by show _ = _; simp [lineTo, CW.out]), Gw.refl wI⟩
          case round =>
            obtain ⟨k, S', rfl, rfl, k1, k2, sl', SE, G3⟩ := hrel
            have G4 : Hid (Gw w wr) := G2.out.trans G3.out
            obtain ⟨b', off', bo, bc, e', _, d1, d2⟩ := CELL.out wr G4.out
            cases e'
            rw [CM.out] at d1 d2
            by_cases klt : k < m
            · have klt' : (k : Int) < (m : Int) := by omega
              obtain ⟨kb, kf, rfl, _, kc⟩ := d2.cells (by omega)
              have kck := kc k klt
              have kbd := d2.bd k klt
              have kl : k < c.nums.length := by rw [CM.out]; exact klt
              have kg : c.nums.getD k 0 = c.nums[k] := by simp [List.getD, kl]
              obtain ⟨x, hx⟩ : ∃ x, c.nums.getD k 0 = x := ⟨_, rfl⟩
              simp only [hx] at kck kbd
              have LS : Aside (lineTo c (k + 1) = lineTo c k ++ (32 :: digits x.toNat)) := lineTo_step (by rw [← hx, kg]; exact List.getElem?_eq_getElem kl)
              have D : Hid (∀ W, Calls Tryd.prog 32 #[.int .u64 x] W fun e w' => e = .returned (.string (Bs (digits x.toNat))) ∧ Gw W w') := fun W => digits21 x kbd.1 kbd.2 W
              have LX : Hid ((digits x.toNat).length ≤ 20) := digits_len20 (by omega)
              clear kc d2 kg hx
              go_wp2_with fail
              refine (D.out _).mono ?_
              rintro e w8 ⟨rfl, g8⟩
              obtain ⟨D8, hD8⟩ : ∃ D8, digits x.toNat = D8 := ⟨_, rfl⟩
              rw [hD8]
              have l8 : D8.length ≤ 20 := by rw [← hD8]; exact LX.out
              have HD8 : Aside (digits x.toNat = D8) := hD8
              have G8 : Hid (Gw wI w8) := G3.out.trans g8
              clear hD8 g8 LX D d1 kck
              go_wp2
              go_roundg (m - (k + 1))
              case measure => omega
              case rel =>
                refine ⟨k + 1, S' ++ 32 :: D8, ?_, by go_num, by omega, Nat.le_refl _, by simp; omega, ?_, G8⟩
                · simp
                · show _ = _
                  rw [SE.out, LS.out, HD8.out, List.append_assoc]
            · have SE2 : Aside (S' = S ++ lineOf c) := by show _ = _; rw [SE.out, lineTo_all (by rw [CM.out]; omega)]
              have TX2 : Aside (text (L.take (i + 1)) = S' ++ [10]) := by show _ = _; rw [TX.out, SE2.out, List.append_assoc]
              have G5 : Hid (Gw wO wr) := GG.out.trans G3.out
              clear d2
              by_cases big : 65536 < S'.length + 1
              · have PE : Aside (print L = ([], 210)) := by
                  show _ = _
                  have h1 := text_len L (i + 1)
                  rw [TX2.out] at h1
                  simp at h1
                  unfold print
                  rw [if_neg P0.out, if_neg (by rw [C0.out]; simp), if_pos (by omega)]
                have big' : (65536 : Int) < (S'.length : Int) + 1 := by omega
                go_wp2
                exact bodyPost_ret (v := .tuple #[.string (Bs []), .int .i64 210]) (by simp [results, Tryd.results15, go_sem]) rfl ⟨by rw [PE.out], G4.out⟩
              · have big' : ¬ (65536 : Int) < (S'.length : Int) + 1 := by omega
                go_wp2
                go_roundg (n - (i + 1))
                case measure => omega
                case rel => exact ⟨i + 1, S' ++ [10], rfl, by go_num, by omega, Nat.le_refl _, by simp; omega, TX2.out.symm, G5⟩
        · have PE : Aside (print L = (S, 0)) := by
            show _ = _
            have : S = text L := by rw [ST.out, List.take_of_length_le (by rw [LN.out]; omega)]
            unfold print
            rw [if_neg P0.out, if_neg (by rw [C0.out]; simp), if_neg (by rw [← this]; omega), this]
          go_wp2
          exact bodyPost_ret (v := .tuple #[.string (Bs S), .int .i64 0]) (by simp [results, Tryd.results15, go_sem]) rfl ⟨by rw [PE.out], G2.out⟩
end Go.Proofs.YtocnmdabilaccaaDoor
