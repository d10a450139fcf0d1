import Derived.Test.YtapjipinceoaoaaGreatZCom
import Derived.Deep.QuietTactic
import Derived.BigQuiet
import Derived.ChangeKeysEq
import Derived.StillTailTactics
/- The slots' within: what was asked keeps to a path. -/
namespace Go.Proofs.YtapjipinceoaoaaGreat
open Go.RowKit
set_option linter.unusedVariables false

theorem path_get {eps q : Int} {f : Nat → Int} {n : Nat} {L : List (List Sg)} {k : Nat} (hk : k < L.length) : (pathL eps q f n L).getD k vis0 = visAt eps q f n L (L.length - 1 - k) := by
  unfold pathL
  simp [List.getD, hk]
theorem pair_at {l : List (Int × Int)} {i : Nat} (h : i < l.length) : l.getD i (0, 0) ∈ l := by
  rw [List.getD_eq_getElem?_getD, List.getElem?_eq_getElem h]
  exact List.getElem_mem h
theorem pair_ne {l : List (Int × Int)} (nd : l.Nodup) {i k : Nat} (hi : i < l.length) (hk : k < i) : l.getD i (0, 0) ≠ l.getD k (0, 0) := by
  rw [List.getD_eq_getElem?_getD, List.getElem?_eq_getElem hi, List.getD_eq_getElem?_getD, List.getElem?_eq_getElem (show k < l.length by omega)]
  intro e
  have e' : l[k]'(by omega) = l[i] := e.symm
  have := (List.pairwise_iff_getElem.1 nd) k i (by omega) hi hk
  exact this e'
theorem info_i9 : (Tryz.prog.info? 3).map (fun i => (i.zero, i.size, i.bytes)) = some (some (.int .i64 0), 1, 8) := by kernel_rfl
theorem cells_int9 : Tryz.prog.cellsOf 3 = 1 := by kernel_rfl
set_option maxRecDepth 100000 in
/-- Unlike pairs. -/
theorem unlike9 {a b c d : Int} (h : (a, b) ≠ (c, d)) (W : World) : (Op.equalIn 10000 67 (.agg #[.int .i64 a, .int .i64 b]) (.agg #[.int .i64 c, .int .i64 d])).run Tryz.prog W = .ok false W := by
  obtain ⟨i, hi, _, hs, _⟩ := info_parts info_i9
  have e : (10000 : Nat) = 9999 + 1 := rfl
  rw [e, run_equalIn_array W 9999 _ _ Tryz.underlying67 hi, cells_int9, show List.range 2 = [0, 1] from rfl]
  have r : ∀ (x y : Int) (W : World), (Op.equalIn 9999 3 (.int .i64 x) (.int .i64 y)).run Tryz.prog W = .ok (x == y) W := fun x y W => run_equalIn_int W 9998 3 .i64 .i64 x y Tryz.underlying3
  have p0 : ∀ (x y : Int) (W : World), (part 3 #[.int .i64 x, .int .i64 y] 0).run Tryz.prog W = .ok (.int .i64 x) W := fun x y W => by kernel_rfl
  have p1 : ∀ (x y : Int) (W : World), (part 3 #[.int .i64 x, .int .i64 y] 1).run Tryz.prog W = .ok (.int .i64 y) W := fun x y W => by kernel_rfl
  simp only [Op.eqItems, Nat.mul_one, Sem.run_bind, p0, Result.andThen_ok, r]
  by_cases e1 : a = c
  · have e2 : ¬ b = d := fun e2 => h (by rw [e1, e2])
    have b1 : (a == c) = true := by simpa using e1
    have b2 : (b == d) = false := by simpa using e2
    simp [b1, b2, p1, r]
  · have b1 : (a == c) = false := by simpa using e1
    simp [b1]

set_option maxRecDepth 10000 in
set_option maxHeartbeats 8000000 in
theorem within_any {w : World} {p : Nat} {S : Nat → Prop} {ko : Option Addr} {n kc : Nat} {f : Nat → Int} {eps : Int} {lo : Option Addr} {lc : Nat} {L : List (List Sg)} {ln : Nat} {A B : List (Int × Int)} (hv : VS w lo L) (hl : L.length = ln) (h : SL w p S ko n kc eps lo ln lc A B false) (vo : Option Addr) (vc : Nat) (q : Int) (q0 : 0 ≤ q) (q1 : q < 18446744073709551616) (hp : PV w vo (pathL eps q f n L)) (ak : AskR eps q f n L A B) (R : Ready eps f n L) :
    Calls Tryz.prog 13 #[.pointer (some ⟨p, 0, none⟩), .slice vo ln vc] w fun e w' => e = .returned (.bool true) ∧ Gw w w' := by
  obtain ⟨va, vb, h1, h2, h3, _⟩ := h.blk
  obtain ⟨aA, cA, rfl, _, pA⟩ := ar_form h2
  obtain ⟨aB, cB, rfl, _, pB⟩ := ar_form h3
  have pl : p < w.heap.size := (Array.getElem?_eq_some_iff.1 h1).1
  obtain ⟨c0, c1, c2, c3, c4, c5⟩ := slv_cells h1
  have BK : Aside (w.heap[p]? = some (slV ko n kc eps lo ln lc (.slice aA A.length cA) (.slice aB B.length cB) false)) := h1
  have PA : Aside (PS w aA A) := pA
  have PB : Aside (PS w aB B) := pB
  have AK : Aside (AskR eps q f n L A B) := ak
  have RD : Aside (Ready eps f n L) := R
  have HP : Aside (PV w vo (pathL eps q f n L)) := hp
  have HV : Aside (VS w lo L) := hv
  have LN : Aside (L.length = ln) := hl
  have sm := ak.small R
  have bl : B.length = ln := by have := ak.bl; omega
  have l1 : ln ≤ 2000000 := by have := R.sh.1; omega
  obtain ⟨an, han⟩ : ∃ an, A.length = an := ⟨_, rfl⟩
  have AN : Aside (A.length = an) := han
  have BN : Aside (B.length = ln) := bl
  rw [han] at c3 sm
  rw [bl] at c4 sm
  have a1 := sm.1
  clear h h1 h2 h3 pA pB ak R hp hv hl sm han bl c0 c1
  go_enter Tryz.func13, Tryz.ntmps13
  go_wp2_with fail
  go_loopg [5] ln (fun gg s5 wr => ∃ i : Nat, s5 = .int .i64 (i : Int) ∧ i ≤ ln ∧ ln - i ≤ gg ∧ Aside (Gw w wr))
  case atStart => exact ⟨0, rfl, Nat.zero_le _, by omega, (show Aside _ from Gw.refl w)⟩
  case round =>
    obtain ⟨i, rfl, g1, g2, G⟩ := hrel
    obtain ⟨wS, hwS⟩ : ∃ wx, wx = wr := ⟨_, rfl⟩
    subst hwS
    have d4 : wS.cell? ⟨p, 4, none⟩ = some (.slice aB ln cB) := (G.out.cell _ _ pl).trans c4
    have d3 : wS.cell? ⟨p, 3, none⟩ = some (.slice aA an cA) := (G.out.cell _ _ pl).trans c3
    by_cases hlt : i < ln
    · obtain ⟨bb, rfl, hbb, hbc⟩ := (PB.out.gw G.out).cells (by rw [BN.out]; omega)
      have xc := hbc i (by rw [BN.out]; exact hlt)
      obtain ⟨j, hj, hj1, hj2⟩ := AK.out.bin _ (pair_at (l := B) (i := i) (by rw [BN.out]; exact hlt))
      obtain ⟨⟨x0, x1⟩, hx⟩ : ∃ x, B.getD i (0, 0) = x := ⟨_, rfl⟩
      rw [hx] at xc hj1 hj2
      have xc0 : wS.cell? ⟨bb, i * 2, none⟩ = some (.int .i64 x0) := xc.1
      have xc1 : wS.cell? ⟨bb, i * 2 + 1, none⟩ = some (.int .i64 x1) := xc.2
      have X0 : Aside (x0 = (j : Int) + 1 ∧ x1 = ((slotA q L j : Nat) : Int) ∧ j < L.length) := ⟨hj1, hj2, hj⟩
      have BX : Aside (B.getD i (0, 0) = (x0, x1)) := hx
      obtain ⟨kk, hkk⟩ : ∃ kk, kk = ln - 1 - j := ⟨_, rfl⟩
      have KK : Aside (kk = ln - 1 - j) := hkk
      clear xc hx hj1 hj2 hj hkk hbc
      go_wp2_with fail
      go_loopg [6, 7] ln (fun gg s6 s7 wr => ∃ (k : Nat) (ok : Bool), s6 = .bool ok ∧ s7 = .int .i64 (k : Int) ∧ k ≤ ln ∧ ln - k ≤ gg ∧ Aside (kk < k → ok = true) ∧ Aside (Gw wS wr))
      case atStart => exact ⟨0, false, rfl, rfl, Nat.zero_le _, by omega, (show Aside _ from fun x => absurd x (by omega)), (show Aside _ from Gw.refl wS)⟩
      case round =>
        obtain ⟨k, ok, rfl, rfl, k1, k2, OK, GG⟩ := hrel
        obtain ⟨wT, hwT⟩ : ∃ wx, wx = wr := ⟨_, rfl⟩
        subst hwT
        have e4 : wT.cell? ⟨p, 4, none⟩ = some (.slice (some ⟨bb, 0, none⟩) ln cB) := ((G.out.trans GG.out).cell _ _ pl).trans c4
        have y0 : wT.cell? ⟨bb, i * 2, none⟩ = some (.int .i64 x0) := (GG.out.cell _ _ hbb).trans xc0
        have y1 : wT.cell? ⟨bb, i * 2 + 1, none⟩ = some (.int .i64 x1) := (GG.out.cell _ _ hbb).trans xc1
        have pT : p < wT.heap.size := Nat.lt_of_lt_of_le pl (G.out.trans GG.out).size
        have bT : bb < wT.heap.size := Nat.lt_of_lt_of_le hbb GG.out.size
        by_cases klt : k < ln
        · obtain ⟨vb, vf, rfl, hvb, hvc⟩ := ((HP.out.gw G.out).gw GG.out).cells (by rw [pathL_len, LN.out]; omega)
          have V := hvc k (by rw [pathL_len, LN.out]; exact klt)
          rw [path_get (by rw [LN.out]; exact klt), LN.out] at V
          have v0 : wT.cell? ⟨vb, vf + k * 6, none⟩ = some (.int .i64 ((ln - 1 - k : Nat) : Int)) := V.c0
          have v1 : wT.cell? ⟨vb, vf + k * 6 + 1, none⟩ = some (.int .i64 ((slotA q L (ln - 1 - k) : Nat) : Int)) := V.c1
          have HIT : Aside (k = kk → x0 = ((ln - 1 - k : Nat) : Int) + 1 ∧ x1 = ((slotA q L (ln - 1 - k) : Nat) : Int)) := fun e => by
            obtain ⟨e1, e2, e3⟩ := X0.out
            rw [LN.out] at e3
            have := KK.out
            have ej : ln - 1 - k = j := by omega
            rw [ej]
            exact ⟨e1, e2⟩
          obtain ⟨lv, hlv⟩ : ∃ lv, ln - 1 - k = lv := ⟨_, rfl⟩
          have lvb : lv ≤ 2000000 := by omega
          obtain ⟨sv, hsv⟩ : ∃ sv, ((slotA q L (ln - 1 - k) : Nat) : Int) = sv := ⟨_, rfl⟩
          rw [hsv] at v1 HIT
          rw [hlv] at v0 HIT
          have wl : IntKind.i64.wrap ((lv : Int) + 1) = (lv : Int) + 1 := by rw [IntKind.wrap_i64]; omega
          obtain ⟨t1, ht1⟩ : ∃ t : Bool, (x0 == (lv : Int) + 1) = t := ⟨_, rfl⟩
          obtain ⟨t2, ht2⟩ : ∃ t : Bool, (x1 == sv) = t := ⟨_, rfl⟩
          have HT1 : Aside (k = kk → t1 = true) := fun e => by
            rw [← ht1]
            simpa using (HIT.out e).1
          have HT2 : Aside (t1 = true → t2 = true) := fun e => by
            rw [← ht1] at e
            have e0 : x0 = (lv : Int) + 1 := by simpa using e
            have e1 := X0.out.1
            have := KK.out
            rw [← ht2]
            have := X0.out.2.2
            rw [LN.out] at this
            simpa using (HIT.out (by omega)).2
          have ways : ok = true ∨ (ok = false ∧ t1 = false ∧ ¬ kk < k + 1) ∨ (ok = false ∧ t1 = true ∧ t2 = true) := by
            by_cases e : ok = true
            · exact .inl e
            · have e' : ok = false := by simpa using e
              by_cases f : t1 = true
              · exact .inr (.inr ⟨e', f, HT2.out f⟩)
              · refine .inr (.inl ⟨e', by simpa using f, fun x => ?_⟩)
                by_cases g : k = kk
                · exact f (HT1.out g)
                · exact e (OK.out (by omega))
          clear hvc V hlv hsv HIT HT1 HT2 OK
          rcases ways with rfl | ⟨rfl, rfl, nk⟩ | ⟨rfl, rfl, rfl⟩
          · go_wp2_with fail
            first
              | (go_quiet (fail)
                 go_wp2_with fail)
              | skip
            go_roundg (ln - (k + 1))
            case measure => omega
            case rel => exact ⟨k + 1, true, rfl, by go_num, by omega, Nat.le_refl _, (show Aside _ from fun _ => rfl), (by first | exact (show Aside _ from GG.out.drewN _) | exact GG)⟩
          · have NK : Aside (¬ kk < k + 1) := nk
            clear nk
            go_wp2_with fail
            first
              | (go_quiet (fail)
                 go_wp2_with fail)
              | skip
            go_roundg (ln - (k + 1))
            case measure => omega
            case rel => exact ⟨k + 1, false, rfl, by go_num, by omega, Nat.le_refl _, (show Aside _ from fun x => absurd x NK.out), (by first | exact (show Aside _ from GG.out.drewN _) | exact GG)⟩
          · go_wp2_with fail
            first
              | (go_quiet (fail)
                 go_wp2_with fail)
              | skip
            go_roundg (ln - (k + 1))
            case measure => omega
            case rel => exact ⟨k + 1, true, rfl, by go_num, by omega, Nat.le_refl _, (show Aside _ from fun _ => rfl), (by first | exact (show Aside _ from GG.out.drewN _) | exact GG)⟩
        · have ek : k = ln := by omega
          subst ek
          have eo : ok = true := OK.out (by have := KK.out; omega)
          subst eo
          clear OK y0 y1 e4 pT bT
          go_wp2_with fail
          go_loopg [6, 8] i (fun gg s6 s8 wr => ∃ k : Nat, s6 = .bool true ∧ s8 = .int .i64 (k : Int) ∧ k ≤ i ∧ i - k ≤ gg ∧ Aside (Gw wS wr))
          case atStart => exact ⟨0, rfl, rfl, Nat.zero_le _, by omega, GG⟩
          case round =>
            obtain ⟨m, rfl, rfl, m1, m2, GM⟩ := hrel
            obtain ⟨wU, hwU⟩ : ∃ wx, wx = wr := ⟨_, rfl⟩
            subst hwU
            by_cases mlt : m < i
            · have e4 : wU.cell? ⟨p, 4, none⟩ = some (.slice (some ⟨bb, 0, none⟩) k cB) := ((G.out.trans GM.out).cell _ _ pl).trans c4
              have y0 : wU.cell? ⟨bb, i * 2, none⟩ = some (.int .i64 x0) := (GM.out.cell _ _ hbb).trans xc0
              have y1 : wU.cell? ⟨bb, i * 2 + 1, none⟩ = some (.int .i64 x1) := (GM.out.cell _ _ hbb).trans xc1
              obtain ⟨_, eb, _, hbc⟩ := ((PB.out.gw G.out).gw GM.out).cells (by rw [BN.out]; omega)
              cases eb
              have zc := hbc m (by rw [BN.out]; omega)
              have ne := pair_ne AK.out.bn (i := i) (k := m) (by rw [BN.out]; exact hlt) mlt
              obtain ⟨⟨z0, z1⟩, hz⟩ : ∃ x, B.getD m (0, 0) = x := ⟨_, rfl⟩
              rw [hz] at zc ne
              rw [BX.out] at ne
              have z0c : wU.cell? ⟨bb, m * 2, none⟩ = some (.int .i64 z0) := zc.1
              have z1c : wU.cell? ⟨bb, m * 2 + 1, none⟩ = some (.int .i64 z1) := zc.2
              have NE := fun W => unlike9 ne W
              have pT : p < wU.heap.size := Nat.lt_of_lt_of_le pl (G.out.trans GM.out).size
              have bT : bb < wU.heap.size := Nat.lt_of_lt_of_le hbb GM.out.size
              have mk : m < k := by omega
              clear zc hz hbc ne
              go_wp2_with fail
              first
                | (go_quiet (fail)
                   go_wp2_with fail)
                | skip
              go_roundg (i - (m + 1))
              case measure => omega
              case rel => exact ⟨m + 1, rfl, by go_num, by omega, Nat.le_refl _, (by first | exact (show Aside _ from GM.out.drewN _) | exact GM)⟩
            · have em : m = i := by omega
              subst em
              go_wp2_with fail
              go_roundg (k - (m + 1))
              case measure => omega
              case rel => exact ⟨m + 1, by go_num, by omega, Nat.le_refl _, (show Aside _ from G.out.trans GM.out)⟩
    · have ei : i = ln := by omega
      subst ei
      clear g1 g2 hlt
      as_aux_lemma =>
      go_wp2_with fail
      go_loopg [9] an (fun gg s9 wr => ∃ i : Nat, s9 = .int .i64 (i : Int) ∧ i ≤ an ∧ an - i ≤ gg ∧ Aside (Gw w wr))
      case atStart => exact ⟨0, rfl, Nat.zero_le _, by omega, G⟩
      case round =>
        clear d3 d4 G
        obtain ⟨z, rfl, g1, g2, G⟩ := hrel
        obtain ⟨wV, hwV⟩ : ∃ wx, wx = wr := ⟨_, rfl⟩
        subst hwV
        have d3 : wV.cell? ⟨p, 3, none⟩ = some (.slice aA an cA) := (G.out.cell _ _ pl).trans c3
        by_cases hlt : z < an
        · obtain ⟨bb, rfl, hbb, hbc⟩ := (PA.out.gw G.out).cells (by rw [AN.out]; omega)
          have xc := hbc z (by rw [AN.out]; exact hlt)
          obtain ⟨j, hj, hj1, hj2, hj3, hj4⟩ := AK.out.ain _ (pair_at (l := A) (i := z) (by rw [AN.out]; exact hlt))
          obtain ⟨⟨x0, x1⟩, hx⟩ : ∃ x, A.getD z (0, 0) = x := ⟨_, rfl⟩
          rw [hx] at xc hj1 hj2 hj3 hj4
          have xc0 : wV.cell? ⟨bb, z * 2, none⟩ = some (.int .i64 x0) := xc.1
          have xc1 : wV.cell? ⟨bb, z * 2 + 1, none⟩ = some (.int .i64 x1) := xc.2
          have X0 : Aside (x0 = (j : Int) ∧ j < L.length ∧ (visAt eps q f n L j).lo ≤ x1 ∧ x1 ≤ (visAt eps q f n L j).hi ∧ x1 < (segA q L j).te) := ⟨hj1, hj, hj2, hj3, hj4⟩
          have BX : Aside (A.getD z (0, 0) = (x0, x1)) := hx
          obtain ⟨kk, hkk⟩ : ∃ kk, kk = i - 1 - j := ⟨_, rfl⟩
          have KK : Aside (kk = i - 1 - j) := hkk
          clear xc hx hj1 hj2 hj3 hj4 hj hkk hbc
          go_wp2_with fail
          go_loopg [10, 11] i (fun gg s10 s11 wr => ∃ (k : Nat) (ok : Bool), s10 = .bool ok ∧ s11 = .int .i64 (k : Int) ∧ k ≤ i ∧ i - k ≤ gg ∧ Aside (kk < k → ok = true) ∧ Aside (Gw wV wr))
          case atStart => exact ⟨0, false, rfl, rfl, Nat.zero_le _, by omega, (show Aside _ from fun x => absurd x (by omega)), (show Aside _ from Gw.refl wV)⟩
          case round =>
            obtain ⟨k, ok, rfl, rfl, k1, k2, OK, GG⟩ := hrel
            obtain ⟨wT, hwT⟩ : ∃ wx, wx = wr := ⟨_, rfl⟩
            subst hwT
            have e3 : wT.cell? ⟨p, 3, none⟩ = some (.slice (some ⟨bb, 0, none⟩) an cA) := ((G.out.trans GG.out).cell _ _ pl).trans c3
            have e2 : wT.cell? ⟨p, 2, none⟩ = some (.slice lo i lc) := ((G.out.trans GG.out).cell _ _ pl).trans c2
            have y0 : wT.cell? ⟨bb, z * 2, none⟩ = some (.int .i64 x0) := (GG.out.cell _ _ hbb).trans xc0
            have y1 : wT.cell? ⟨bb, z * 2 + 1, none⟩ = some (.int .i64 x1) := (GG.out.cell _ _ hbb).trans xc1
            have pT : p < wT.heap.size := Nat.lt_of_lt_of_le pl (G.out.trans GG.out).size
            have bT : bb < wT.heap.size := Nat.lt_of_lt_of_le hbb GG.out.size
            by_cases klt : k < i
            · obtain ⟨vb, vf, rfl, hvb, hvc⟩ := ((HP.out.gw G.out).gw GG.out).cells (by rw [pathL_len, LN.out]; omega)
              have V := hvc k (by rw [pathL_len, LN.out]; exact klt)
              rw [path_get (by rw [LN.out]; exact klt), LN.out] at V
              have HIT : Aside (k = kk → i - 1 - k = j) := fun e => by
                obtain ⟨_, e3, _⟩ := X0.out
                rw [LN.out] at e3
                have := KK.out
                omega
              obtain ⟨lv, hlv⟩ : ∃ lv, i - 1 - k = lv := ⟨_, rfl⟩
              have lvb : lv < i := by omega
              rw [hlv] at V HIT
              have slt := RD.out.lv.slot (q := q) (i := lv) (by rw [LN.out]; exact lvb)
              obtain ⟨ab, af, rfl, hab, hac⟩ := ((HV.out.gw G.out).gw GG.out).cells (by rw [LN.out]; omega)
              obtain ⟨so, sc, p1, _, _, p4⟩ := hac lv (by rw [LN.out]; exact lvb)
              obtain ⟨gb, gf, rfl, hgb, hgc⟩ := p4.cells (by omega)
              have c4' := (hgc _ slt).c4
              have SG : Aside (segA q L lv = (L.getD lv []).getD (slotA q L lv) sg0) := rfl
              rw [← SG.out] at c4'
              have HJ : Aside (k = kk → x0 = (lv : Int) ∧ (visAt eps q f n L lv).lo ≤ x1 ∧ x1 ≤ (visAt eps q f n L lv).hi ∧ x1 < (segA q L lv).te) := fun e => by
                have := HIT.out e
                rw [this]
                exact ⟨X0.out.1, X0.out.2.2.1, X0.out.2.2.2.1, X0.out.2.2.2.2⟩
              have v0 : wT.cell? ⟨vb, vf + k * 6, none⟩ = some (.int .i64 (lv : Int)) := V.c0
              have v1 : wT.cell? ⟨vb, vf + k * 6 + 1, none⟩ = some (.int .i64 ((slotA q L lv : Nat) : Int)) := V.c1
              have v3 := V.c3
              have v4 := V.c4
              obtain ⟨sv, hsv⟩ : ∃ sv, slotA q L lv = sv := ⟨_, rfl⟩
              rw [hsv] at v1 slt c4'
              obtain ⟨sn, hsn⟩ : ∃ sn, (L.getD lv []).length = sn := ⟨_, rfl⟩
              rw [hsn] at slt p1
              generalize (visAt eps q f n L lv).lo = vlo at v3 HJ
              generalize (visAt eps q f n L lv).hi = vhi at v4 HJ
              generalize (segA q L lv).te = vte at c4' HJ
              have sli : (sv : Int) < (sn : Int) := by omega
              have lvi : (lv : Int) < (i : Int) := by omega
              obtain ⟨t1, ht1⟩ : ∃ t : Bool, (x0 == (lv : Int)) = t := ⟨_, rfl⟩
              obtain ⟨t2, ht2⟩ : ∃ t : Bool, decide (vlo ≤ x1) = t := ⟨_, rfl⟩
              obtain ⟨t3, ht3⟩ : ∃ t : Bool, decide (x1 ≤ vhi) = t := ⟨_, rfl⟩
              obtain ⟨t4, ht4⟩ : ∃ t : Bool, decide (x1 < vte) = t := ⟨_, rfl⟩
              have HT1 : Aside (k = kk → t1 = true) := fun e => by
                rw [← ht1]
                simpa using (HJ.out e).1
              have HT2 : Aside (t1 = true → t2 = true ∧ t3 = true ∧ t4 = true) := fun e => by
                rw [← ht1] at e
                have e0 : x0 = (lv : Int) := by simpa using e
                have e1 := X0.out.1
                have := KK.out
                have := X0.out.2.1
                rw [LN.out] at this
                obtain ⟨_, f2, f3, f4⟩ := HJ.out (by omega)
                rw [← ht2, ← ht3, ← ht4]
                exact ⟨decide_eq_true f2, decide_eq_true f3, decide_eq_true f4⟩
              have ways : ok = true ∨ (ok = false ∧ t1 = false ∧ ¬ kk < k + 1) ∨ (ok = false ∧ t1 = true ∧ t2 = true ∧ t3 = true ∧ t4 = true) := by
                by_cases e : ok = true
                · exact .inl e
                · have e' : ok = false := by simpa using e
                  by_cases f : t1 = true
                  · exact .inr (.inr ⟨e', f, HT2.out f⟩)
                  · refine .inr (.inl ⟨e', by simpa using f, fun x => ?_⟩)
                    by_cases g : k = kk
                    · exact f (HT1.out g)
                    · exact e (OK.out (by omega))
              clear hvc V hlv hsv hsn HIT HJ SG hac p4 hgc HT1 HT2 OK
              rcases ways with rfl | ⟨rfl, rfl, nk⟩ | ⟨rfl, rfl, rfl, rfl, rfl⟩
              · go_wp2_with fail
                try dsimp only [List.append]
                first
                  | (go_quiet (fail)
                     go_wp2_with fail)
                  | skip
                go_roundg (i - (k + 1))
                case measure => omega
                case rel => exact ⟨k + 1, true, rfl, by go_num, by omega, Nat.le_refl _, (show Aside _ from fun _ => rfl), (by first | exact (show Aside _ from GG.out.drewN _) | exact GG)⟩
              · have NK : Aside (¬ kk < k + 1) := nk
                clear nk
                go_wp2_with fail
                try dsimp only [List.append]
                first
                  | (go_quiet (fail)
                     go_wp2_with fail)
                  | skip
                go_roundg (i - (k + 1))
                case measure => omega
                case rel => exact ⟨k + 1, false, rfl, by go_num, by omega, Nat.le_refl _, (show Aside _ from fun x => absurd x NK.out), (by first | exact (show Aside _ from GG.out.drewN _) | exact GG)⟩
              · go_wp2_with fail
                try dsimp only [List.append]
                first
                  | (go_quiet (fail)
                     go_wp2_with fail)
                  | skip
                go_roundg (i - (k + 1))
                case measure => omega
                case rel => exact ⟨k + 1, true, rfl, by go_num, by omega, Nat.le_refl _, (show Aside _ from fun _ => rfl), (by first | exact (show Aside _ from GG.out.drewN _) | exact GG)⟩
            · have ek : k = i := by omega
              subst ek
              have eo : ok = true := OK.out (by have := KK.out; have := X0.out.2.1; rw [LN.out] at this; omega)
              subst eo
              clear OK y0 y1 e3 e2 pT bT
              go_wp2_with fail
              go_loopg [10, 12] z (fun gg s10 s12 wr => ∃ m : Nat, s10 = .bool true ∧ s12 = .int .i64 (m : Int) ∧ m ≤ z ∧ z - m ≤ gg ∧ Aside (Gw wV wr))
              case atStart => exact ⟨0, rfl, rfl, Nat.zero_le _, by omega, GG⟩
              case round =>
                obtain ⟨m, rfl, rfl, m1, m2, GM⟩ := hrel
                obtain ⟨wU, hwU⟩ : ∃ wx, wx = wr := ⟨_, rfl⟩
                subst hwU
                by_cases mlt : m < z
                · have e3 : wU.cell? ⟨p, 3, none⟩ = some (.slice (some ⟨bb, 0, none⟩) an cA) := ((G.out.trans GM.out).cell _ _ pl).trans c3
                  have y0 : wU.cell? ⟨bb, z * 2, none⟩ = some (.int .i64 x0) := (GM.out.cell _ _ hbb).trans xc0
                  have y1 : wU.cell? ⟨bb, z * 2 + 1, none⟩ = some (.int .i64 x1) := (GM.out.cell _ _ hbb).trans xc1
                  obtain ⟨_, eb, _, hbc⟩ := ((PA.out.gw G.out).gw GM.out).cells (by rw [AN.out]; omega)
                  cases eb
                  have zc := hbc m (by rw [AN.out]; omega)
                  have ne := pair_ne AK.out.an (i := z) (k := m) (by rw [AN.out]; exact hlt) mlt
                  obtain ⟨⟨z0, z1⟩, hz⟩ : ∃ x, A.getD m (0, 0) = x := ⟨_, rfl⟩
                  rw [hz] at zc ne
                  rw [BX.out] at ne
                  have z0c : wU.cell? ⟨bb, m * 2, none⟩ = some (.int .i64 z0) := zc.1
                  have z1c : wU.cell? ⟨bb, m * 2 + 1, none⟩ = some (.int .i64 z1) := zc.2
                  have NE := fun W => unlike9 ne W
                  have pT : p < wU.heap.size := Nat.lt_of_lt_of_le pl (G.out.trans GM.out).size
                  have bT : bb < wU.heap.size := Nat.lt_of_lt_of_le hbb GM.out.size
                  have mk : m < an := by omega
                  clear zc hz hbc ne
                  go_wp2_with fail
                  first
                    | (go_quiet (fail)
                       go_wp2_with fail)
                    | skip
                  go_roundg (z - (m + 1))
                  case measure => omega
                  case rel => exact ⟨m + 1, rfl, by go_num, by omega, Nat.le_refl _, (by first | exact (show Aside _ from GM.out.drewN _) | exact GM)⟩
                · have em : m = z := by omega
                  subst em
                  go_wp2_with fail
                  go_roundg (an - (m + 1))
                  case measure => omega
                  case rel => exact ⟨m + 1, by go_num, by omega, Nat.le_refl _, (show Aside _ from G.out.trans GM.out)⟩
        · have ei : z = an := by omega
          subst ei
          go_wp2_with fail
          go_ret
          exact ⟨rfl, G.out⟩

end Go.Proofs.YtapjipinceoaoaaGreat

/- ProbeReads' walk. -/
namespace Go.Proofs.YtapjipinceoaoaaGreat
open Go.RowKit
set_option linter.unusedVariables false

set_option maxRecDepth 10000 in
set_option maxHeartbeats 8000000 in
theorem reads9_walk {HP : World → Nat → (Nat → Prop) → Int → (Nat → Int) → Nat → List (List Sg) → Prop} (PC : ProbeC HP) (O5 : Of5C) (ao : Option Addr) (n cp : Nat) (f : Nat → Int) (eps : Int) (own : Bool) (uo : Option Addr) (uc : Nat) (U : List (List Sg)) (bo : Option Addr) (m cb : Nat) (g : Nat → Int) (e0 : -9223372036854775808 ≤ eps) (e1 : eps < 9223372036854775808) (hn : n ≤ 2000000) (hcp : n ≤ cp) (hU : Short U) (hm : m ≤ 2000000) (w : World) (h : KS w ao n f) (hv : UV w uo U) (hg : KS w bo m g) :
    Calls Tryz.prog 4 #[madeV ao n cp eps own uo U.length uc, .slice bo m cb] w fun ex w' => ex = .returned (.bool true) ∧ Gw w w' := by
  have HK : Aside (KS w ao n f) := h
  have HG : Aside (KS w bo m g) := hg
  have SH : Hid _ := fun W => shown9 PC W
  have MD : Hid (∀ W, Gw w W → Calls Tryz.prog 7 #[madeV ao n cp eps own uo U.length uc] W fun ex w' => (∃ lo lc L ok, ex = .returned (.tuple #[.slice lo (L : List (List Sg)).length lc, .bool ok]) ∧ MadeR eps f n own U L ok ∧ VSf w' W.heap.size lo L ∧ L.length ≤ lc) ∧ Gw W w') := fun W gW => made_any O5 eps ao n cp f own uo uc U e0 e1 hn hcp hU W (h.gw gW) (hv.gw gW)
  have PCC : Aside (ProbeC HP) := PC
  obtain ⟨un, hun⟩ : ∃ un, U.length = un := ⟨_, rfl⟩
  rw [hun] at MD ⊢
  clear h hv hg O5 PC hU hun
  have G0 : Aside (Gw w (w.alloc (.cells #[.slice ao n cp, .int .i64 eps, .bool own, .slice uo un uc] 25))) := (Gw.refl w).alloc _ _
  have BK : Aside ((w.alloc (.cells #[.slice ao n cp, .int .i64 eps, .bool own, .slice uo un uc] 25)).heap[w.heap.size]? = some (.cells #[.slice ao n cp, .int .i64 eps, .bool own, .slice uo un uc] 25 (0, 0))) := heap_alloc_new w _
  go_enter Tryz.func4, Tryz.ntmps4
  go_wp2_with fail
  generalize w.alloc (.cells #[.slice ao n cp, .int .i64 eps, .bool own, .slice uo un uc] 25) = w1 at G0 BK ⊢
  obtain ⟨mb, hmb⟩ : ∃ mb, w.heap.size = mb := ⟨_, rfl⟩
  rw [hmb] at BK ⊢
  clear hmb
  refine (SH.out _).mono ?_
  rintro e w2 ⟨rfl, g2⟩
  have G2 : Aside (Gw w w2) := G0.out.trans g2
  have B2 : Aside (w2.heap[mb]? = some (.cells #[.slice ao n cp, .int .i64 eps, .bool own, .slice uo un uc] 25 (0, 0))) := (g2.below.block mb (Array.getElem?_eq_some_iff.1 BK.out).1).trans BK.out
  clear g2 G0 BK SH
  have b0 : w2.cell? ⟨mb, 0, none⟩ = some (.slice ao n cp) := by have := B2.out; simp [World.cell?, this]
  have b1 : w2.cell? ⟨mb, 1, none⟩ = some (.int .i64 eps) := by have := B2.out; simp [World.cell?, this]
  have b2 : w2.cell? ⟨mb, 2, none⟩ = some (.bool own) := by have := B2.out; simp [World.cell?, this]
  have b3 : w2.cell? ⟨mb, 3, none⟩ = some (.slice uo un uc) := by have := B2.out; simp [World.cell?, this]
  have bl : mb < w2.heap.size := (Array.getElem?_eq_some_iff.1 B2.out).1
  go_wp2_with fail
  refine (MD.out _ G2.out).mono ?_
  rintro e w3 ⟨⟨lo, lc, L, ok, rfl, hM, hV, hl⟩, g3⟩
  have G3 : Aside (Gw w w3) := G2.out.trans g3
  have B3 : Aside (w3.heap[mb]? = some (.cells #[.slice ao n cp, .int .i64 eps, .bool own, .slice uo un uc] 25 (0, 0))) := (g3.below.block mb bl).trans B2.out
  have V3 : Aside (VS w3 lo L) := hV.vs
  have MR : Aside (MadeR eps f n own U L ok) := hM
  clear hM hV g3 G2 B2 b0 b1 b2 b3 bl MD
  cases ok with
  | false =>
    go_wp2_with fail
    go_ret
    exact ⟨rfl, G3.out⟩
  | true =>
    have RD : Aside (Ready eps f n L) := Ready.of (MR.out.chk rfl) hn MR.out.sh HK.out.bd
    obtain ⟨ln, hln⟩ : ∃ ln, L.length = ln := ⟨_, rfl⟩
    have LN : Aside (L.length = ln) := hln
    rw [hln] at hl ⊢
    clear hln MR
    have ST : Aside (Sit w3 ao n cp f eps lo lc L ln) := ⟨HK.out.gw G3.out, hcp, V3.out, LN.out, hl, RD.out⟩
    go_wp2_with fail
    go_loopg [8] m (fun gg s8 wr => ∃ i : Nat, s8 = .int .i64 i ∧ i ≤ m ∧ m - i ≤ gg ∧ Aside (Gw w3 wr))
    case atStart => exact ⟨0, rfl, Nat.zero_le _, by omega, (show Aside _ from Gw.refl w3)⟩
    case round =>
      obtain ⟨i, rfl, h1, h2, G⟩ := hrel
      by_cases ilt : i < m
      · obtain ⟨bk, off, rfl, hbk, hc⟩ := ((HG.out.gw G3.out).gw G.out).cells (by omega)
        have q1 := hc i ilt
        have qb := HG.out.bd i ilt
        obtain ⟨q, hq⟩ : ∃ q, g i = q := ⟨_, rfl⟩
        rw [hq] at q1 qb
        clear hc hq
        have BR : Aside (wr.heap[mb]? = some (.cells #[.slice ao n cp, .int .i64 eps, .bool own, .slice uo un uc] 25 (0, 0))) := (G.out.below.block mb (Array.getElem?_eq_some_iff.1 B3.out).1).trans B3.out
        have b0 : wr.cell? ⟨mb, 0, none⟩ = some (.slice ao n cp) := by have := BR.out; simp [World.cell?, this]
        have b1 : wr.cell? ⟨mb, 1, none⟩ = some (.int .i64 eps) := by have := BR.out; simp [World.cell?, this]
        have bl : mb < wr.heap.size := (Array.getElem?_eq_some_iff.1 BR.out).1
        obtain ⟨wS, hwS⟩ : ∃ wx, wx = wr := ⟨_, rfl⟩
        subst hwS
        have c0 : wS.drew.cell? ⟨mb, 0, none⟩ = some (.slice ao n cp) := b0
        have c1 : wS.drew.cell? ⟨mb, 1, none⟩ = some (.int .i64 eps) := b1
        have c2 : wS.drew.cell? ⟨bk, off + i, none⟩ = some (.int .u64 q) := q1
        go_wp2_with fail
        refine wp_region_still_tail 9 (by kernel_rfl) (by kernel_rfl) ?_
        change wpStill _ _ (World.drew wS) (fun a' => wpList _ _ _ _ a' (World.drew wS)) _ _
        simp only [List.take_succ_cons, List.take_zero, List.drop_succ_cons, List.drop_zero]
        still_step
        still_step
        still_step
        still_step
        still_step
        still_step
        still_step
        still_step
        still_step
        refine wpStill_nil ?_
        go_wp2_with fail
        refine ((ST.out.gw G.out.drew).rpath q qb.1 qb.2).mono ?_
        rintro ex w5 ⟨⟨ro, rc, rfl, hr⟩, g5'⟩
        have g5 : Gw wS w5 := (Gw.refl wS).drew.trans g5'
        have R5 : Aside (PV w5 ro (pathL eps q f n L)) := hr
        have G5 : Aside (Gw wS w5) := g5
        have d0 : w5.cell? ⟨mb, 0, none⟩ = some (.slice ao n cp) := (g5.cell _ _ bl).trans b0
        have d1 : w5.cell? ⟨mb, 1, none⟩ = some (.int .i64 eps) := (g5.cell _ _ bl).trans b1
        have d2 : w5.cell? ⟨bk, off + i, none⟩ = some (.int .u64 q) := (g5.cell _ _ hbk).trans q1
        have bl5 : mb < w5.heap.size := Nat.lt_of_lt_of_le bl g5.size
        have bk5 : bk < w5.heap.size := Nat.lt_of_lt_of_le hbk g5.size
        clear hr g5 g5' c0 c1 c2
        go_wp2_with fail
        refine ((ST.out.gw (G.out.trans G5.out)).sfind0 PCC.out q qb.1 qb.2).mono ?_
        rintro ex w6 ⟨⟨S6, A6, B6, rfl, hs6, hk6, _⟩, g6⟩
        obtain ⟨sb, hsb⟩ : ∃ sb, w5.heap.size = sb := ⟨_, rfl⟩
        rw [hsb] at hs6 ⊢
        have L6 : Aside (SL w6 sb S6 ao n cp eps lo ln lc A6 B6 false) := hs6
        have K6 : Aside (AskR eps q f n L A6 B6) := hk6
        have G6 : Aside (Gw wS w6) := G5.out.trans g6
        have R6 : Aside (PV w6 ro (pathL eps q f n L)) := R5.out.gw g6
        have d0 : w6.cell? ⟨mb, 0, none⟩ = some (.slice ao n cp) := (G6.out.cell _ _ bl).trans b0
        have d1 : w6.cell? ⟨mb, 1, none⟩ = some (.int .i64 eps) := (G6.out.cell _ _ bl).trans b1
        have d2 : w6.cell? ⟨bk, off + i, none⟩ = some (.int .u64 q) := (G6.out.cell _ _ hbk).trans q1
        have bl6 : mb < w6.heap.size := Nat.lt_of_lt_of_le bl G6.out.size
        have bk6 : bk < w6.heap.size := Nat.lt_of_lt_of_le hbk G6.out.size
        have sb6 : sb < w6.heap.size := hs6.lt _ hs6.self
        clear hs6 hk6 g6 R5 G5 hsb bl5 bk5
        go_wp2_with fail
        refine ((ST.out.gw (G.out.trans G6.out)).spath PCC.out q qb.1 qb.2).mono ?_
        rintro ex w7 ⟨⟨po, pc, S7, A7, B7, rfl, _, hs7, hk7, _, _⟩, g7⟩
        obtain ⟨tb, htb⟩ : ∃ tb, w6.heap.size = tb := ⟨_, rfl⟩
        rw [htb] at hs7 ⊢
        have L7 : Aside (SL w7 tb S7 ao n cp eps lo ln lc A7 B7 false) := hs7
        have K7 : Aside (AskR eps q f n L A7 B7) := hk7
        have G7 : Aside (Gw wS w7) := G6.out.trans g7
        have R7 : Aside (PV w7 ro (pathL eps q f n L)) := R6.out.gw g7
        have M7 : Aside (SL w7 sb S6 ao n cp eps lo ln lc A6 B6 false) := L6.out.gw g7
        clear hs7 hk7 g7 R6 L6 G6 htb d0 d1 d2 bl6 bk6 sb6
        go_wp2_with fail
        refine (within_any (V3.out.gw (G.out.trans G7.out)) LN.out M7.out ro rc q qb.1 qb.2 R7.out K6.out RD.out).mono ?_
        rintro ex w8 ⟨rfl, g8⟩
        have G8 : Aside (Gw wS w8) := G7.out.trans g8
        have R8 : Aside (PV w8 ro (pathL eps q f n L)) := R7.out.gw g8
        have M8 : Aside (SL w8 sb S6 ao n cp eps lo ln lc A6 B6 false) := M7.out.gw g8
        have L8 : Aside (SL w8 tb S7 ao n cp eps lo ln lc A7 B7 false) := L7.out.gw g8
        clear g8 G7 R7 M7 L7
        go_wp2_with fail
        refine (within_any (V3.out.gw (G.out.trans G8.out)) LN.out L8.out ro rc q qb.1 qb.2 R8.out K7.out RD.out).mono ?_
        rintro ex w9 ⟨rfl, g9⟩
        have G9 : Aside (Gw wS w9) := G8.out.trans g9
        have M9 : SL w9 sb S6 ao n cp eps lo ln lc A6 B6 false := M8.out.gw g9
        obtain ⟨va, vb, h1, h2, h3, _⟩ := M9.blk
        obtain ⟨aA, cA, rfl, _, _⟩ := ar_form h2
        obtain ⟨aB, cB, rfl, _, _⟩ := ar_form h3
        obtain ⟨_, _, _, k3, k4, _⟩ := slv_cells h1
        have k1 : w9.cell? ⟨mb, 1, none⟩ = some (.int .i64 eps) := (G9.out.cell _ _ bl).trans b1
        have bl9 : mb < w9.heap.size := Nat.lt_of_lt_of_le bl G9.out.size
        have sb9 : sb < w9.heap.size := (Array.getElem?_eq_some_iff.1 h1).1
        have few := K6.out.few (by have := RD.out.e0; omega)
        have bln := K6.out.bl
        rw [LN.out] at few bln
        rw [bln] at k4
        have sm := (K6.out.small RD.out).1
        obtain ⟨an, han⟩ : ∃ an, A6.length = an := ⟨_, rfl⟩
        rw [han] at few k3 sm
        have ee0 := RD.out.e0
        have ee1 := RD.out.e1
        have ll := RD.out.sh.1
        rw [LN.out] at ll
        obtain ⟨F, hF⟩ : ∃ F : Int, (ln : Int) * (2 * eps + 3) = F := ⟨_, rfl⟩
        have F1 : 0 ≤ F ∧ F ≤ 2000000 * 131 := by
          rw [← hF]
          exact ⟨Int.mul_nonneg (by omega) (by omega), Int.mul_le_mul (by omega) (by omega) (by omega) (by omega)⟩
        rw [hF] at few
        have u1 : IntKind.i64.wrap (2 * eps) = 2 * eps := by rw [IntKind.wrap_i64]; omega
        have u2 : IntKind.i64.wrap (2 * eps + 3) = 2 * eps + 3 := by rw [IntKind.wrap_i64]; omega
        have u3 : IntKind.i64.wrap F = F := by rw [IntKind.wrap_i64]; omega
        have t1 : decide (F < (an : Int)) = false := decide_eq_false (by omega)
        have GN : Aside (Gw w3 w9) := G.out.trans G9.out
        clear g9 G8 R8 M8 L8 M9 h1 h2 h3 bln han sm K6 K7 b0 b1 q1
        go_wp2_with fail
        first
          | (go_quiet (fail)
             go_wp2_with fail)
          | skip
        go_roundg (m - (i + 1))
        case measure => omega
        case rel => exact ⟨i + 1, by go_num, by omega, Nat.le_refl _, (by first | exact (show Aside _ from GN.out.drewN _) | exact GN)⟩
      · have ei : i = m := by omega
        subst ei
        go_wp2_with fail
        go_ret
        exact ⟨rfl, G3.out.trans G.out⟩

end Go.Proofs.YtapjipinceoaoaaGreat
