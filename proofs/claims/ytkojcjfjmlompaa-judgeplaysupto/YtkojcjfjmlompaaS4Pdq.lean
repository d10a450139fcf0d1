/- The library's sort of numbers: what comes out rises, and is what went in, in another order. -/
import Derived.Test.YtkojcjfjmlompaaPSa
import Derived.Test.YtkojcjfjmlompaaPSb
import Derived.Test.YtkojcjfjmlompaaPSc
import Derived.Deep.CutBlock
namespace Go.Proofs.Ytkojcjfjmlompaa
open Go.RowKit
set_option linter.unusedVariables false

/-- What a call leaves that puts part of the row in order. -/
def SrtP (w w' : World) (k a b : Nat) (d : Array Int) (e : Ending) : Prop := e = .returned (.tuple #[]) ∧ ∃ d', UR w' k d' ∧ (Sort.PermIn a b d d' ∧ Sort.SortedIn ltI a b d') ∧ Gx (fun q => q = k) w w'
/-- What is left to be put in order, and that the whole is in order behind it. -/
def LeftP (n a b : Nat) (d : Array Int) (a' b' : Nat) (D : Array Int) : Prop := D.size = n ∧ Sort.Below ltI a' b' D ∧ ∀ R, Sort.PermIn a' b' D R → Sort.SortedIn ltI a' b' R → Sort.PermIn a b d R ∧ Sort.SortedIn ltI a b R
theorem LeftP.perm {n a b a' b' : Nat} {d D E : Array Int} (h : LeftP n a b d a' b' D) (hb : b' ≤ n) (p : Sort.PermIn a' b' D E) : LeftP n a b d a' b' E :=
  ⟨p.1.trans h.1, h.2.1.perm (by rw [h.1]; exact hb) p, fun R h1 h2 => h.2.2 R (Sort.permIn_trans _ _ _ _ _ p h1) h2⟩
def PdqC (k c n M : Nat) : Prop := ∀ (a b lim : Nat) (d : Array Int) (w : World), b - a = M → a ≤ b → b ≤ n → lim ≤ 64 → d.size = n → UR w k d → Sort.Below ltI a b d →
  Calls Try.prog 34 #[.slice (some ⟨k, 0, none⟩) n c, .int .i64 (a : Int), .int .i64 (b : Int), .int .i64 (lim : Int)] w fun e w' => SrtP w w' k a b d e
set_option maxRecDepth 100000 in
set_option maxHeartbeats 8000000 in
theorem pdq_step (k c n M : Nat) (n62 : n ≤ 4000000) (IH : ∀ M', M' < M → PdqC k c n M') : PdqC k c n M := by
  intro a b lim d w hM hab hbn hl hn hr hB
  have PD : Hid (∀ (a' b' lim : Nat) (D : Array Int) (W : World), b' - a' < M → a' ≤ b' → b' ≤ n → lim ≤ 64 → D.size = n → UR W k D → Sort.Below ltI a' b' D → Calls Try.prog 34 #[.slice (some ⟨k, 0, none⟩) n c, .int .i64 (a' : Int), .int .i64 (b' : Int), .int .i64 (lim : Int)] W fun e w' => SrtP W w' k a' b' D e) := fun a' b' lim D W h0 h1 h2 h3 h4 h5 h6 => IH (b' - a') h0 a' b' lim D W rfl h1 h2 h3 h4 h5 h6
  have LE : Hid (∀ (x y : Int) (W : World), Calls Try.prog 42 #[.int .u64 x, .int .u64 y] W fun e w' => e = .returned (.bool (ltI x y)) ∧ w' = W) := fun x y W => less23 x y W
  have IS : Hid (∀ (a' b' : Nat) (D : Array Int) (W : World), D.size = n → a' ≤ b' → b' ≤ n → UR W k D → Calls Try.prog 36 #[.slice (some ⟨k, 0, none⟩) n c, .int .i64 (a' : Int), .int .i64 (b' : Int)] W fun e w' => SrtP W w' k a' b' D e) := fun a' b' D W h1 h2 h3 h4 => (ins23 k c n a' b' D h1 n62 h2 h3 W h4).mono fun e w' h => ⟨h.1, _, h.2.1, Sort.insertionSort_holds swoI D a' b' h2 (by rw [h1]; exact h3), h.2.2⟩
  have HS : Hid (∀ (a' b' : Nat) (D : Array Int) (W : World), D.size = n → a' ≤ b' → b' ≤ n → UR W k D → Calls Try.prog 37 #[.slice (some ⟨k, 0, none⟩) n c, .int .i64 (a' : Int), .int .i64 (b' : Int)] W fun e w' => SrtP W w' k a' b' D e) := fun a' b' D W h1 h2 h3 h4 => (heap23 k c n a' b' D h1 n62 h2 h3 W h4).mono fun e w' h => ⟨h.1, _, h.2.1, Sort.heapSort_holds swoI D a' b' h2 (by rw [h1]; exact h3), h.2.2⟩
  have BK : Hid (∀ (a' b' : Nat) (D : Array Int) (W : World), D.size = n → a' + 8 ≤ b' → b' ≤ n → UR W k D → Calls Try.prog 38 #[.slice (some ⟨k, 0, none⟩) n c, .int .i64 (a' : Int), .int .i64 (b' : Int)] W fun e w' => Srt W w' k a' b' D e) := fun a' b' D W h1 h2 h3 h4 => break23 k c n a' b' D h1 n62 h2 h3 W h4
  have RV : Hid (∀ (a' b' : Nat) (D : Array Int) (W : World), D.size = n → a' < b' → b' ≤ n → UR W k D → Calls Try.prog 40 #[.slice (some ⟨k, 0, none⟩) n c, .int .i64 (a' : Int), .int .i64 (b' : Int)] W fun e w' => Srt W w' k a' b' D e) := fun a' b' D W h1 h2 h3 h4 => (rev23 k c n a' b' D h1 n62 h2 h3 W h4).mono fun e w' h => ⟨h.1, _, h.2.1, Sort.reverseRange_holds D a' b' (by omega) (by rw [h1]; exact h3), h.2.2⟩
  have PV : Hid (∀ (a' b' : Nat) (D : Array Int) (W : World), D.size = n → a' + 8 ≤ b' → b' ≤ n → UR W k D → Calls Try.prog 39 #[.slice (some ⟨k, 0, none⟩) n c, .int .i64 (a' : Int), .int .i64 (b' : Int)] W fun e w' => PivR W a' b' e w') := fun a' b' D W h1 h2 h3 h4 => pivot23 k c n a' b' D h1 n62 h2 h3 W h4
  have PI : Hid (∀ (a' b' : Nat) (D : Array Int) (W : World), D.size = n → a' < b' → b' ≤ n → Sort.Below ltI a' b' D → UR W k D → Calls Try.prog 41 #[.slice (some ⟨k, 0, none⟩) n c, .int .i64 (a' : Int), .int .i64 (b' : Int)] W fun e w' => (∃ (t : Bool) (d' : Array Int), e = .returned (.bool t) ∧ UR w' k d' ∧ Sort.PermIn a' b' D d' ∧ (t = true → Sort.SortedIn ltI a' b' d')) ∧ Gx (fun q => q = k) W w') := fun a' b' D W h1 h2 h3 h5 h4 => (pins23 k c n a' b' D h1 n62 h2 h3 W h4).mono fun e w' h => ⟨⟨_, _, h.1, h.2.1, Sort.partialInsertionSort_holds swoI D a' b' h2 (by rw [h1]; exact h3) h5⟩, h.2.2⟩
  have PE : Hid (∀ (a' b' p : Nat) (D : Array Int) (W : World), D.size = n → a' ≤ p → p < b' → b' ≤ n → UR W k D → Calls Try.prog 43 #[.slice (some ⟨k, 0, none⟩) n c, .int .i64 (a' : Int), .int .i64 (b' : Int), .int .i64 (p : Int)] W fun e w' => (∃ (m : Nat) (E : Array Int), e = .returned (.int .i64 (m : Int)) ∧ Sort.partitionEqual ltI D a' b' p = (m, E) ∧ UR w' k E) ∧ Gx (fun q => q = k) W w') := fun a' b' p D W h1 h2 h3 h4 h5 => (parte23 k c n a' b' p D h1 n62 h2 h3 h4 W h5).mono fun e w' h => ⟨⟨_, _, h.1, rfl, h.2.1⟩, h.2.2⟩
  have PT : Hid (∀ (a' b' p : Nat) (D : Array Int) (W : World), D.size = n → a' ≤ p → p < b' → b' ≤ n → UR W k D → Calls Try.prog 44 #[.slice (some ⟨k, 0, none⟩) n c, .int .i64 (a' : Int), .int .i64 (b' : Int), .int .i64 (p : Int)] W fun e w' => (∃ (m : Nat) (t : Bool) (E : Array Int), e = .returned (.tuple #[.int .i64 (m : Int), .bool t]) ∧ Sort.partition ltI D a' b' p = (m, t, E) ∧ UR w' k E) ∧ Gx (fun q => q = k) W w') := fun a' b' p D W h1 h2 h3 h4 h5 => (part23 k c n a' b' p D h1 n62 h2 h3 h4 W h5).mono fun e w' h => ⟨⟨_, _, _, h.1, rfl, h.2.1⟩, h.2.2⟩
  have R0 : Aside (UR w k d) := hr
  have L0 : Aside (LeftP n a b d a b d) := ⟨hn, hB, fun R h1 h2 => ⟨h1, h2⟩⟩
  have HM : Aside (b - a = M) := hM
  clear hr hn hB hM IH
  go_enter Try.func34, Try.ntmps34
  go_wp2_with fail
  go_loopg [1, 2, 3, 8, 9, 10, 11, 12, 13, 14, 15, 16, 17, 18] (b - a) (fun gg s1 s2 s3 s8 s9 s10 s11 s12 s13 s14 s15 s16 s17 s18 wr => ∃ (a' b' lim : Nat) (wb wp : Bool) (D : Array Int), s1 = .int .i64 (a' : Int) ∧ s2 = .int .i64 (b' : Int) ∧ s3 = .int .i64 (lim : Int) ∧ s8 = .bool wb ∧ s9 = .bool wp ∧ b' - a' ≤ gg ∧ lim ≤ 64 ∧ Aside (a ≤ a' ∧ a' ≤ b' ∧ b' ≤ b) ∧ Aside (LeftP n a b d a' b' D) ∧ Aside (UR wr k D) ∧ Aside (Gx (fun q => q = k) w wr))
  case atStart => exact ⟨a, b, lim, true, true, d, rfl, rfl, rfl, rfl, rfl, Nat.le_refl _, hl, ⟨Nat.le_refl _, hab, Nat.le_refl _⟩, L0, R0, (show Aside _ from Gx.refl _ _)⟩
  case round =>
    obtain ⟨a1, b1, lm, wb, wp, D, rfl, rfl, rfl, rfl, rfl, gb, lm64, XB, LP, Ur, Gr⟩ := hrel
    have b1n : b1 ≤ n := by have := XB.out; omega
    have ab1 : a1 ≤ b1 := XB.out.2.1
    obtain ⟨l, hl⟩ : ∃ l, l = b1 - a1 := ⟨_, rfl⟩
    have v0 : IntKind.i64.wrap ((b1 : Int) - (a1 : Int)) = (l : Int) := by rw [IntKind.wrap_i64]; omega
    have HL : Aside (l = b1 - a1) := hl
    have lb : l ≤ 4000000 := by omega
    clear hl
    by_cases c12 : l ≤ 12
    · have c12' : decide ((l : Int) ≤ 12) = true := by simp; omega
      go_wp2_with fail
      refine (IS.out a1 b1 D _ LP.out.1 ab1 b1n Ur.out).mono ?_
      rintro e w2 ⟨rfl, d', h1, h2, h3⟩
      have FIN : Aside (SrtP w w2 k a b d (.returned (.tuple #[]))) := ⟨rfl, d', h1, LP.out.2.2 d' h2.1 h2.2, Gr.out.trans h3 (fun q hq => .inl hq)⟩
      clear h1 h2 h3
      go_wp2_with fail
      refine bodyPost_ret (results_none rfl _ _ _) rfl FIN.out
    · have c12' : decide ((l : Int) ≤ 12) = false := by simp; omega
      have a8 : a1 + 8 ≤ b1 := by have := HL.out; omega
      by_cases c0 : lm = 0
      · have c0' : ((lm : Int) == 0) = true := by simp [c0]
        go_wp2_with fail
        refine (HS.out a1 b1 D _ LP.out.1 ab1 b1n Ur.out).mono ?_
        rintro e w2 ⟨rfl, d', h1, h2, h3⟩
        have FIN : Aside (SrtP w w2 k a b d (.returned (.tuple #[]))) := ⟨rfl, d', h1, LP.out.2.2 d' h2.1 h2.2, Gr.out.trans h3 (fun q hq => .inl hq)⟩
        clear h1 h2 h3
        go_wp2_with fail
        refine bodyPost_ret (results_none rfl _ _ _) rfl FIN.out
      · have c0' : ((lm : Int) == 0) = false := by simp [c0]
        have wl : IntKind.i64.wrap ((lm : Int) - 1) = ((lm - 1 : Nat) : Int) := by rw [IntKind.wrap_i64]; omega
        go_upto_if 35 with fail
        go_cut [3] from 19 to 133 (fun s3 wc => ∃ (lm2 : Nat) (E : Array Int), s3 = .int .i64 (lm2 : Int) ∧ lm2 ≤ 64 ∧ Aside (LeftP n a b d a1 b1 E) ∧ Aside (UR wc k E) ∧ Aside (Gx (fun q => q = k) w wc))
        case first =>
          cases wb with
          | true =>
            go_wp2_with fail
            go_meet
            case rel => exact ⟨lm, D, rfl, lm64, LP, Ur, Gr⟩
          | false =>
            go_wp2_with fail
            refine (BK.out a1 b1 D _ LP.out.1 a8 b1n Ur.out).mono ?_
            rintro e w2 ⟨rfl, d', h1, h2, h3⟩
            have U2 : Aside (UR w2 k d') := h1
            have L2 : Aside (LeftP n a b d a1 b1 d') := LP.out.perm b1n h2
            have G2 : Aside (Gx (fun q => q = k) w w2) := Gr.out.trans h3 (fun q hq => .inl hq)
            clear h1 h2 h3
            go_wp2_with fail
            go_meet
            case rel => exact ⟨lm - 1, d', rfl, by omega, L2, U2, G2⟩
        case rest =>
          obtain ⟨lm2, D1, rfl, lm2b, L1, U1, G1⟩ := hcut
          clear LP Ur Gr c0 c0' wl lm64
          go_wp2_with fail
          refine (PV.out a1 b1 D1 _ L1.out.1 a8 b1n U1.out).mono ?_
          rintro e w2 ⟨⟨p, h, rfl, pa, pb⟩, g⟩
          have U2 : Aside (UR w2 k D1) := U1.out.gw g
          have G2 : Aside (Gx (fun q => q = k) w w2) := G1.out.tw g
          clear g U1 G1
          obtain ⟨b2, hb2⟩ : ∃ b2, b2 = b1 - 1 := ⟨_, rfl⟩
          obtain ⟨pp, hpp⟩ : ∃ pp, pp = p - a1 := ⟨_, rfl⟩
          have v1 : IntKind.i64.wrap ((b1 : Int) - 1) = (b2 : Int) := by rw [IntKind.wrap_i64]; omega
          have v2 : IntKind.i64.wrap ((p : Int) - (a1 : Int)) = (pp : Int) := by rw [IntKind.wrap_i64]; omega
          have v3 : IntKind.i64.wrap ((b2 : Int) - (pp : Int)) = ((b2 - pp : Nat) : Int) := by rw [IntKind.wrap_i64]; omega
          have PB : Aside (a1 ≤ b2 - pp ∧ b2 - pp < b1) := ⟨by omega, by omega⟩
          have b2b : b2 ≤ 4000000 := by omega
          clear hb2 hpp
          go_upto_if 50 with fail
          go_cut [11, 12] from 19 to 133 (fun s11 s12 wc => ∃ (p' : Nat) (h' : Int) (E : Array Int), s11 = .int .i64 (p' : Int) ∧ s12 = .int .i64 h' ∧ a1 ≤ p' ∧ p' < b1 ∧ Aside (LeftP n a b d a1 b1 E) ∧ Aside (UR wc k E) ∧ Aside (Gx (fun q => q = k) w wc))
          case first =>
            by_cases ch : h = 2
            · have ch' : (h == 2) = true := by simp [ch]
              go_wp2_with fail
              refine (RV.out a1 b1 D1 _ L1.out.1 (by omega) b1n U2.out).mono ?_
              rintro e w3 ⟨rfl, d', h1, h2, h3⟩
              have U3 : Aside (UR w3 k d') := h1
              have L3 : Aside (LeftP n a b d a1 b1 d') := L1.out.perm b1n h2
              have G3 : Aside (Gx (fun q => q = k) w w3) := G2.out.trans h3 (fun q hq => .inl hq)
              clear h1 h2 h3
              go_wp2_with fail
              go_meet
              case rel => exact ⟨b2 - pp, 1, d', rfl, rfl, PB.out.1, PB.out.2, L3, U3, G3⟩
            · have ch' : (h == 2) = false := by simp [ch]
              go_wp2_with fail
              go_meet
              case rel => exact ⟨p, h, D1, rfl, rfl, pa, pb, L1, U2, G2⟩
          case rest =>
            obtain ⟨p2, h2, D2, rfl, rfl, p2a, p2b, L2, U3, G3⟩ := hcut
            clear U2 G2 L1 v1 v2 v3 PB pa pb b2b
            go_upto_region 15 with fail
            go_cut [68] from 19 to 133 (fun s68 wc => ∃ t : Bool, s68 = .bool t ∧ Aside (UR wc k D2) ∧ Aside (Gx (fun q => q = k) w wc))
            case first =>
              cases wb with
              | false =>
                go_wp2_with fail
                go_meet
                case rel => exact ⟨false, rfl, U3, G3⟩
              | true =>
                cases wp with
                | false =>
                  go_wp2_with fail
                  go_meet
                  case rel => exact ⟨false, rfl, U3, G3⟩
                | true =>
                  by_cases ch : h2 = 1
                  · have ch' : (h2 == 1) = true := by simp [ch]
                    go_wp2_with fail
                    go_meet
                    case rel => exact ⟨true, rfl, U3, G3⟩
                  · have ch' : (h2 == 1) = false := by simp [ch]
                    go_wp2_with fail
                    go_meet
                    case rel => exact ⟨false, rfl, U3, G3⟩
            case rest =>
              obtain ⟨t, rfl, U4, G4⟩ := hcut
              clear U3 G3
              go_upto_if 68 with fail
              go_cut [11] from 19 to 133 (fun s11 wc => ∃ E : Array Int, s11 = .int .i64 (p2 : Int) ∧ Aside (LeftP n a b d a1 b1 E) ∧ Aside (UR wc k E) ∧ Aside (Gx (fun q => q = k) w wc))
              case first =>
                cases t with
                | false =>
                  go_wp2_with fail
                  go_meet
                  case rel => exact ⟨D2, rfl, L2, U4, G4⟩
                | true =>
                  go_wp2_with fail
                  refine (PI.out a1 b1 D2 _ L2.out.1 (by omega) b1n L2.out.2.1 U4.out).mono ?_
                  rintro e w3 ⟨⟨t2, d', rfl, h1, h3, h4⟩, h5⟩
                  have U5 : Aside (UR w3 k d') := h1
                  have L5 : Aside (LeftP n a b d a1 b1 d') := L2.out.perm b1n h3
                  have G5 : Aside (Gx (fun q => q = k) w w3) := G4.out.trans h5 (fun q hq => .inl hq)
                  have S5 : Aside (t2 = true → SrtP w w3 k a b d (.returned (.tuple #[]))) := fun e => ⟨rfl, d', h1, L2.out.2.2 d' h3 (h4 e), G5.out⟩
                  clear h1 h3 h4 h5
                  cases t2 with
                  | true =>
                    go_wp2_with fail
                    refine bodyPost_ret (results_none rfl _ _ _) rfl (S5.out (by simp))
                  | false =>
                    go_wp2_with fail
                    go_meet
                    case rel => exact ⟨d', rfl, L5, U5, G5⟩
              case rest =>
                obtain ⟨E, rfl, L5, U5, G5⟩ := hcut
                clear L2 U4 G4
                obtain ⟨am, ham⟩ : ∃ am, am = a1 - 1 := ⟨_, rfl⟩
                have AM : Aside (am = a1 - 1) := ham
                go_upto_region 17 with fail
                go_cut [87] from 19 to 133 (fun s87 wc => ∃ t : Bool, s87 = .bool t ∧ Aside (t = true → 0 < a1 ∧ ltI E[a1 - 1]! E[p2]! = false) ∧ Aside (UR wc k E) ∧ Aside (Gx (fun q => q = k) w wc))
                case first =>
                  by_cases ca : 0 < a1
                  · have ca' : decide (0 < (a1 : Int)) = true := by simp; omega
                    have wa : IntKind.i64.wrap ((a1 : Int) - 1) = (am : Int) := by rw [IntKind.wrap_i64]; omega
                    have bam : am < n := by omega
                    have bp2 : p2 < n := by omega
                    clear ham
                    have qx := U5.out.cell (i := am) (by rw [L5.out.1]; exact bam)
                    have qy := U5.out.cell (i := p2) (by rw [L5.out.1]; exact bp2)
                    obtain ⟨x, hx⟩ : ∃ x, E[am]! = x := ⟨_, rfl⟩
                    obtain ⟨y, hy⟩ : ∃ y, E[p2]! = y := ⟨_, rfl⟩
                    rw [hx] at qx
                    rw [hy] at qy
                    obtain ⟨t2, ht2⟩ : ∃ t2, ltI x y = t2 := ⟨_, rfl⟩
                    have Lt := LE.out x y
                    rw [ht2] at Lt
                    have Mt : Hid _ := Lt
                    have HT : Aside (ltI E[a1 - 1]! E[p2]! = t2) := by rw [← AM.out, hx, hy]; exact ht2
                    clear hx hy ht2 Lt
                    cases t2 with
                    | true =>
                      go_wp2_with fail
                      go_quiet ((go_at_call 42; exact Calls.quiet_of_same (Mt.out _)))
                      go_wp2_with fail
                      go_meet
                      case rel => exact ⟨false, rfl, (show Aside _ from fun e => by cases e), (show Aside _ from U5.out.keep rfl), (show Aside _ from G5.out.tw ((Gw.refl _).drewN nq))⟩
                    | false =>
                      go_wp2_with fail
                      go_quiet ((go_at_call 42; exact Calls.quiet_of_same (Mt.out _)))
                      go_wp2_with fail
                      go_meet
                      case rel => exact ⟨true, rfl, (show Aside _ from fun _ => ⟨ca, HT.out⟩), (show Aside _ from U5.out.keep rfl), (show Aside _ from G5.out.tw ((Gw.refl _).drewN nq))⟩
                  · have ca' : decide (0 < (a1 : Int)) = false := by simp; omega
                    clear ham
                    go_wp2_with fail
                    go_quiet (fail)
                    go_wp2_with fail
                    go_meet
                    case rel => exact ⟨false, rfl, (show Aside _ from fun e => by cases e), (show Aside _ from U5.out.keep rfl), (show Aside _ from G5.out.tw ((Gw.refl _).drewN nq))⟩
                case rest =>
                  obtain ⟨t, rfl, TT, U6, G6⟩ := hcut
                  clear U5 G5 ham
                  have E6 : Aside (b1 ≤ E.size) := by have := L5.out.1; show _ ≤ _; omega
                  cases t with
                  | true =>
                    go_wp2_with fail
                    refine (PE.out a1 b1 p2 E _ L5.out.1 p2a p2b b1n U6.out).mono ?_
                    rintro e w5 ⟨⟨m, F, rfl, hx, hu⟩, g⟩
                    have RE := Sort.round_eq swoI (Sort.partitionEqual_holds _) (TT.out (by simp)).1 p2a p2b E6.out L5.out.2.1 (TT.out (by simp)).2 hx
                    have am1 := RE.1
                    have mb1 := RE.2.1
                    have L7 : Aside (LeftP n a b d m b1 F) := ⟨by rw [RE.2.2.1]; exact L5.out.1, RE.2.2.2.1, fun R h1 h2 => by
                      obtain ⟨x1, x2⟩ := RE.2.2.2.2 R h1 h2
                      exact L5.out.2.2 R x1 x2⟩
                    have U7 : Aside (UR w5 k F) := hu
                    have G7 : Aside (Gx (fun q => q = k) w w5) := G6.out.trans g (fun q hq => .inl hq)
                    clear RE hx hu g
                    go_wp2_with fail
                    go_roundg (b1 - m)
                    case measure => omega
                    case rel => exact ⟨m, b1, lm2, wb, wp, F, rfl, rfl, rfl, rfl, rfl, Nat.le_refl _, lm2b, ⟨by have := XB.out; omega, mb1, by have := XB.out; omega⟩, L7, U7, G7⟩
                  | false =>
                    go_wp2_with fail
                    refine (PT.out a1 b1 p2 E _ L5.out.1 p2a p2b b1n U6.out).mono ?_
                    rintro e w5 ⟨⟨m, t, F, rfl, hx, hu⟩, g⟩
                    have RE := Sort.round_part swoI (Sort.partition_holds _) p2a p2b E6.out L5.out.2.1 hx
                    have am1 := RE.1
                    have mb1 := RE.2.1
                    have SF : Aside (F.size = n) := by show _ = _; rw [RE.2.2.1]; exact L5.out.1
                    have BL : Aside (Sort.Below ltI a1 m F ∧ Sort.Below ltI (m + 1) b1 F) := ⟨RE.2.2.2.1, RE.2.2.2.2.1⟩
                    have LL : Aside (∀ L, Sort.PermIn a1 m F L → Sort.SortedIn ltI a1 m L → LeftP n a b d (m + 1) b1 L) := fun L h1 h2 => by
                      obtain ⟨x1, x2⟩ := RE.2.2.2.2.2.1 L h1 h2
                      exact ⟨by rw [h1.1]; exact SF.out, x1, fun R h3 h4 => by
                        obtain ⟨y1, y2⟩ := x2 R h3 h4
                        exact L5.out.2.2 R y1 y2⟩
                    have LR : Aside (∀ L, Sort.PermIn (m + 1) b1 F L → Sort.SortedIn ltI (m + 1) b1 L → LeftP n a b d a1 m L) := fun L h1 h2 => by
                      obtain ⟨x1, x2⟩ := RE.2.2.2.2.2.2 L h1 h2
                      exact ⟨by rw [h1.1]; exact SF.out, x1, fun R h3 h4 => by
                        obtain ⟨y1, y2⟩ := x2 R h3 h4
                        exact L5.out.2.2 R y1 y2⟩
                    have U7 : Aside (UR w5 k F) := hu
                    have G7 : Aside (Gx (fun q => q = k) w w5) := G6.out.trans g (fun q hq => .inl hq)
                    clear RE hx hu g
                    obtain ⟨lf, hlf⟩ : ∃ lf, lf = m - a1 := ⟨_, rfl⟩
                    obtain ⟨rg, hrg⟩ : ∃ rg, rg = b1 - m := ⟨_, rfl⟩
                    obtain ⟨t8, ht8⟩ : ∃ t8, t8 = l / 8 := ⟨_, rfl⟩
                    have v1 : IntKind.i64.wrap ((m : Int) - (a1 : Int)) = (lf : Int) := by rw [IntKind.wrap_i64]; omega
                    have v2 : IntKind.i64.wrap ((b1 : Int) - (m : Int)) = (rg : Int) := by rw [IntKind.wrap_i64]; omega
                    have v3 : (l : Int) / 8 = (t8 : Int) := by rw [ht8]; rfl
                    have v4 : IntKind.i64.wrap ((m : Int) + 1) = ((m + 1 : Nat) : Int) := by rw [IntKind.wrap_i64]; omega
                    have t8b : t8 ≤ 1000000 := by omega
                    have BM : Aside (m - a1 < M ∧ b1 - (m + 1) < M) := by have := HM.out; have := XB.out; exact ⟨by omega, by omega⟩
                    clear hlf hrg ht8
                    by_cases cl : lf < rg
                    · have cl' : decide ((lf : Int) < (rg : Int)) = true := by simpa using cl
                      go_wp2_with fail
                      refine (PD.out a1 m lm2 F _ BM.out.1 am1 (by omega) lm2b SF.out U7.out BL.out.1).mono ?_
                      rintro e w6 ⟨rfl, F2, h1, h3, h4⟩
                      have U8 : Aside (UR w6 k F2) := h1
                      have L8 : Aside (LeftP n a b d (m + 1) b1 F2) := LL.out F2 h3.1 h3.2
                      have G8 : Aside (Gx (fun q => q = k) w w6) := G7.out.trans h4 (fun q hq => .inl hq)
                      clear h1 h3 h4
                      go_wp2_with fail
                      go_roundg (b1 - (m + 1))
                      case measure => omega
                      case rel => exact ⟨m + 1, b1, lm2, _, t, F2, rfl, rfl, rfl, rfl, rfl, Nat.le_refl _, lm2b, ⟨by have := XB.out; omega, by omega, by have := XB.out; omega⟩, L8, U8, G8⟩
                    · have cl' : decide ((lf : Int) < (rg : Int)) = false := by simpa using cl
                      go_wp2_with fail
                      refine (PD.out (m + 1) b1 lm2 F _ BM.out.2 (by omega) b1n lm2b SF.out U7.out BL.out.2).mono ?_
                      rintro e w6 ⟨rfl, F2, h1, h3, h4⟩
                      have U8 : Aside (UR w6 k F2) := h1
                      have L8 : Aside (LeftP n a b d a1 m F2) := LR.out F2 h3.1 h3.2
                      have G8 : Aside (Gx (fun q => q = k) w w6) := G7.out.trans h4 (fun q hq => .inl hq)
                      clear h1 h3 h4
                      go_wp2_with fail
                      go_roundg (m - a1)
                      case measure => omega
                      case rel => exact ⟨a1, m, lm2, _, t, F2, rfl, rfl, rfl, rfl, rfl, Nat.le_refl _, lm2b, ⟨by have := XB.out; omega, am1, by have := XB.out; omega⟩, L8, U8, G8⟩
theorem pdq_all (k c n : Nat) (n62 : n ≤ 4000000) (M : Nat) : PdqC k c n M := Nat.strongRecOn M (fun M ih => pdq_step k c n M n62 ih)
/-- slices.Sort of numbers. -/
theorem sort23 (k c n : Nat) (d : Array Int) (hn : d.size = n) (n62 : n ≤ 4000000) (w : World) (hr : UR w k d) :
    Calls Try.prog 32 #[.slice (some ⟨k, 0, none⟩) n c] w fun e w' => SrtP w w' k 0 n d e := by
  obtain ⟨lm, hlm⟩ : ∃ lm, lm = Sort.bitsLen n := ⟨_, rfl⟩
  have LN : Hid (∀ W : World, Calls Try.prog 35 #[.int .u64 (n : Int)] W fun e w' => e = .returned (.int .i64 (lm : Int)) ∧ w' = W) := fun W => by
    have h := Try.bits_Len (n : Int) W (by omega) (by omega)
    rw [Int.toNat_natCast, bitLen_eq _ (by omega), ← hlm] at h
    exact h
  have l64 : lm ≤ 64 := by rw [hlm]; have := (Sort.bitsLen_le_iff n 62).2 (by omega); omega
  have PD : Hid (∀ W : World, W = w → Calls Try.prog 34 #[.slice (some ⟨k, 0, none⟩) n c, .int .i64 0, .int .i64 (n : Int), .int .i64 (lm : Int)] W fun e w' => SrtP W w' k 0 n d e) := fun W e => by
    rw [e]
    exact pdq_all k c n n62 n 0 n lm d w rfl (Nat.zero_le _) (Nat.le_refl _) l64 hn hr (.inl rfl)
  have wl : IntKind.u64.wrap (n : Int) = (n : Int) := by rw [IntKind.wrap_u64]; omega
  clear hlm hn hr
  go_enter Try.func32, Try.ntmps32
  go_wp2_with (go_at_call 35; refine (LN.out _).mono ?_; rintro e w' ⟨rfl, rfl⟩)
  refine (PD.out _ rfl).mono ?_
  rintro e w6 ⟨rfl, F2, h1, h3, h4⟩
  have FIN : Aside (SrtP _ w6 k 0 n d (.returned (.tuple #[]))) := ⟨rfl, F2, h1, h3, h4⟩
  clear h1 h3 h4
  go_wp2_with fail
  refine bodyPost_end (results_none rfl _ _ _) rfl FIN.out
end Go.Proofs.Ytkojcjfjmlompaa
