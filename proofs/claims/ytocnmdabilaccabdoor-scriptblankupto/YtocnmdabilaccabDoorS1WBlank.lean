/- ScriptBlank: the walk. -/
import Derived.Test.YtocnmdabilaccabDoorS1WBack
namespace Go.Proofs.YtocnmdabilaccabDoor
open Go.RowKit
set_option linter.unusedVariables false

theorem goP_at : ∀ (L : List (List UInt8)) (i : Nat) (O : List Cd), 0 ≤ (goP L i O).2.1 ∧ (goP L i O).2.1 ≤ ((i + L.length : Nat) : Int) := by
  intro L
  induction L with
  | nil => intro i O; simp [goP]
  | cons l L ih =>
    intro i O
    rw [goP]
    split
    · simp; omega
    · split
      · have := ih (i + 1) (O ++ [(cmdOf (wordsOf l) O.length).2.2])
        simp at this ⊢
        omega
      · have := ih (i + 1) O
        simp at this ⊢
        omega
theorem parse_at (t : List UInt8) : 0 ≤ (parse t).2.1 ∧ (parse t).2.1 ≤ 65537 := by
  unfold parse
  split
  · simp
  · have h1 := goP_at (spl 10 [] t) 0 []
    have h2 := len_lens (spl 10 [] t)
    rw [spl_lens] at h2
    simp at h2 h1
    omega
theorem noteOf_step {l : List UInt8} {i : Nat} {b : UInt8} (h : l[i]? = some b) : noteOf (l.take (i + 1)) = if b = 10 then noteOf (l.take i) else noteOf (l.take i) ++ [b] := by
  unfold noteOf
  rw [List.take_add_one, h, List.filter_append]
  by_cases q : b = 10
  · subst q; simp
  · rw [if_neg q]; simp [q]
theorem wid_step {l : List UInt8} {i : Nat} {b : UInt8} (h : l[i]? = some b) : wid (l.take (i + 1)) = wid (l.take i) ++ if b = 32 ∨ b = 10 then [32, b, 32] else [b] := by
  unfold wid
  rw [List.take_add_one, h, List.flatMap_append]
  simp
theorem cut_one {l : List UInt8} {i : Nat} {b : UInt8} (h : l[i]? = some b) : (l.drop i).take 1 = [b] := by
  obtain ⟨hi, e⟩ := List.getElem?_eq_some_iff.1 h
  rw [List.drop_eq_getElem_cons hi, e]
  rfl
theorem three_row (w : World) (b : UInt8) (c : Nat) (h : b.toNat = c) : ∀ j u, (bcs [32, b, 32])[j]? = some u → (w.alloc (.cells #[.int .u8 32, .int .u8 (c : Int), .int .u8 32] 5)).cell? ((⟨w.heap.size, 0, none⟩ : Addr).add j) = some u := by
  intro j u hu
  subst h
  match j, hu with
  | 0, hu => simp [bcs] at hu; subst hu; simp [Addr.add, go_sem]
  | 1, hu => simp [bcs] at hu; subst hu; simp [Addr.add, go_sem]
  | 2, hu => simp [bcs] at hu; subst hu; simp [Addr.add, go_sem]
  | j + 3, hu => simp [bcs] at hu
theorem one_row (w : World) (b : UInt8) (c : Nat) (h : b.toNat = c) : ∀ j u, (bcs [b])[j]? = some u → (w.alloc (.cells #[.int .u8 (c : Int)] 5)).cell? ((⟨w.heap.size, 0, none⟩ : Addr).add j) = some u := by
  intro j u hu
  subst h
  match j, hu with
  | 0, hu => simp [bcs] at hu; subst hu; simp [Addr.add, go_sem]
  | j + 1, hu => simp [bcs] at hu
/-- What the two readings have to do with each other. -/
theorem blank_two {t n : List UInt8} (h : (longOf t n).length ≤ 65536) {L : List Cd} {x er : Int} (hr : parse t = (L, x, er)) : ∃ y, parse (longOf t n) = (L, y, er) ∧ (er = 0 → y = 0) ∧ (er ≠ 0 → y = x + 2) := by
  have := parse_blank t n h
  rw [hr] at this
  by_cases q : er = 0
  · exact ⟨0, by rw [this.1 q, q], fun _ => rfl, fun z => absurd q z⟩
  · exact ⟨x + 2, this.2 q, fun z => absurd z q, fun _ => rfl⟩
set_option maxRecDepth 100000 in
set_option maxHeartbeats 8000000 in
theorem blank_walk (C : ScriptC) (t s : List UInt8) (ht : t.length ≤ 2000000) (hs : s.length ≤ 2000000) (w : World) (T : Tab w) :
    Calls Tryd.prog 3 #[.string (Bs t), .string (Bs s)] w fun e w' => e = .returned (.bool true) ∧ Gw w w' := by
  have SH : Hid (∀ W, Gw w W → Calls Tryd.prog 5 #[] W fun e w' => e = .returned (.bool true) ∧ Gw W w') := fun W g => shown21 C W (T.gw g)
  have CH : Hid ScriptC := C
  clear C
  go_enter Tryd.func3, Tryd.ntmps3
  go_wp2_with fail
  refine (SH.out _ (by first | exact Gw.refl _ | exact (Gw.refl _).alloc _ _ | exact ((Gw.refl _).alloc _ _).alloc _ _)).mono ?_
  rintro e w1 ⟨rfl, g1⟩
  have G1 : Hid (Gw w w1) := g1
  clear g1
  dsimp only
  go_wp2_with fail
  go_loopg [6, 7] s.length (fun gg s6 s7 wr => ∃ (i : Nat) (S : List UInt8), s6 = .string (Bs S) ∧ s7 = .int .i64 (i : Int) ∧ i ≤ s.length ∧ s.length - i ≤ gg ∧ S.length ≤ i + 1 ∧ Aside (S = noteOf (s.take i)) ∧ Hid (Gw w wr))
  case atStart => exact ⟨0, [35], rfl, rfl, by omega, by omega, by simp, (by show _ = _; simp [noteOf]), G1⟩
  case round =>
    obtain ⟨i, S, rfl, rfl, hi, hg, sl, SE, G⟩ := hrel
    by_cases ilt : i < s.length
    · have ilt' : (i : Int) < (s.length : Int) := by omega
      obtain ⟨b, hb⟩ : ∃ b, s[i]? = some b := ⟨s[i], List.getElem?_eq_getElem ilt⟩
      have ix := index_bs s i b hb
      obtain ⟨c, hc⟩ : ∃ c : Nat, b.toNat = c := ⟨_, rfl⟩
      rw [hc] at ix
      have cu := cut_one hb
      have ST : Aside (noteOf (s.take (i + 1)) = if b = 10 then S else S ++ [b]) := by show _ = _; rw [noteOf_step hb, ← SE.out]
      by_cases q : b = 10
      · have c10 : c = 10 := by rw [← hc, q]; rfl
        subst c10
        have NX : Aside (S = noteOf (s.take (i + 1))) := by have := ST.out; rw [if_pos q] at this; exact this.symm
        clear hb hc cu
        go_wp2
        go_roundg (s.length - (i + 1))
        case measure => omega
        case rel => exact ⟨i + 1, S, rfl, by go_num, by omega, by omega, by omega, NX, G⟩
      · have c10 : ((c : Int) == 10) = false := by
          simp only [beq_eq_false_iff_ne, ne_eq]
          intro z
          apply q
          apply UInt8.toNat_inj.1
          rw [hc]
          show c = 10
          omega
        have NX : Aside (S ++ [b] = noteOf (s.take (i + 1))) := by have := ST.out; rw [if_neg q] at this; exact this.symm
        clear hb hc
        go_wp2
        go_roundg (s.length - (i + 1))
        case measure => omega
        case rel => exact ⟨i + 1, S ++ [b], rfl, by go_num, by omega, by omega, by simp; omega, NX, G⟩
    · have ei : i = s.length := by omega
      have SN : Hid (S = noteOf s) := by have := SE.out; rw [ei, List.take_length] at this; exact this
      obtain ⟨w2, hw2⟩ : ∃ w2, w2 = wr := ⟨_, rfl⟩
      subst hw2
      have BW : BR (w2.alloc (.cells #[] 5)) w2.heap.size (.slice (some ⟨w2.heap.size, 0, none⟩) 0 0) [] := BR.new w2 w2.heap.size (Nat.le_refl _) [] 0 (Nat.le_refl _) (Nat.zero_le _) #[] rfl (fun j b h => by simp at h) (0, 0) (.inl rfl)
      have BWH : Hid (BR (w2.alloc (.cells #[] 5)) w2.heap.size (.slice (some ⟨w2.heap.size, 0, none⟩) 0 0) []) := BW
      clear BW SE hg ei
      go_wp2
      go_loopg [8, 9] t.length (fun gg s8 s9 wr => ∃ (i gb gm gc : Nat) (W : List UInt8), s8 = .slice (some ⟨gb, 0, none⟩) gm gc ∧ s9 = .int .i64 (i : Int) ∧ i ≤ t.length ∧ i ≤ 65537 ∧ t.length - i ≤ gg ∧ W.length ≤ 3 * i ∧ i ≤ W.length ∧ Aside (W = wid (t.take i)) ∧ Hid (BR wr w2.heap.size (.slice (some ⟨gb, 0, none⟩) gm gc) W) ∧ Hid (Gw w2 wr))
      case atStart => exact ⟨0, _, _, _, [], rfl, rfl, by omega, by omega, by omega, by simp, by simp, (by show _ = _; simp [wid]), BWH, (Gw.refl w2).alloc _ _⟩
      case round =>
        obtain ⟨k, gb, gm, gc, W, rfl, rfl, hk, k6, hg, wl, wk, WE, B, G2⟩ := hrel
        have gz := G2.out.size
        by_cases klt : k < t.length
        · have klt' : (k : Int) < (t.length : Int) := by omega
          by_cases k7 : k ≤ 65536
          · have k7' : (k : Int) ≤ 65536 := by omega
            obtain ⟨b, hb⟩ : ∃ b, t[k]? = some b := ⟨t[k], List.getElem?_eq_getElem klt⟩
            have ix := index_bs t k b hb
            obtain ⟨c, hc⟩ : ∃ c : Nat, b.toNat = c := ⟨_, rfl⟩
            rw [hc] at ix
            have ST : Aside (wid (t.take (k + 1)) = W ++ if b = 32 ∨ b = 10 then [32, b, 32] else [b]) := by show _ = _; rw [wid_step hb, ← WE.out]
            have BC : Aside (b.toNat = c) := hc
            by_cases q : b = 32 ∨ b = 10
            · have NX : Aside (W ++ [32, b, 32] = wid (t.take (k + 1))) := by have := ST.out; rw [if_pos q] at this; exact this.symm
              have cq : c = 32 ∨ c = 10 := by rcases q with q | q <;> rw [← hc, q] <;> decide
              clear hb hc ST
              rcases cq with cq | cq
              all_goals
                subst cq
                go_wp2_with (at_builtin; refine wpList_append_br _ rfl _ _ 23 rfl w2.heap.size (.slice (some ⟨gb, 0, none⟩) gm gc) W [32, b, 32] rfl (B.out.gw ((Gw.refl wr).alloc _ _)) _ rfl (by simp; omega) (by simp; omega) (.inr ⟨_, _, rfl, rfl, three_row wr b _ BC.out⟩) ?_)
                intro v3 w3 b3 r3
                obtain ⟨gb3, gm3, gc3, rfl⟩ := b3.shape
                have B3 : Hid (BR w3 w2.heap.size (.slice (some ⟨gb3, 0, none⟩) gm3 gc3) (W ++ [32, b, 32])) := b3
                have G3 : Hid (Gw w2 w3) := (G2.out.alloc _ _).grown r3 (fun q hq => (B.out.lt q hq).1)
                clear b3 r3
                go_wp2
                go_roundg (t.length - (k + 1))
                case measure => omega
                case rel => exact ⟨k + 1, gb3, gm3, gc3, W ++ [32, b, 32], rfl, by go_num, by omega, by omega, by omega, by simp; omega, by simp; omega, NX, B3, G3⟩
            · have NX : Aside (W ++ [b] = wid (t.take (k + 1))) := by have := ST.out; rw [if_neg q] at this; exact this.symm
              have c1 : ((c : Int) == 32) = false := by
                simp only [beq_eq_false_iff_ne, ne_eq]
                intro z
                exact q (.inl (UInt8.toNat_inj.1 (by rw [hc]; show c = 32; omega)))
              have c2 : ((c : Int) == 10) = false := by
                simp only [beq_eq_false_iff_ne, ne_eq]
                intro z
                exact q (.inr (UInt8.toNat_inj.1 (by rw [hc]; show c = 10; omega)))
              clear hb hc ST q
              go_wp2_with (at_builtin; refine wpList_append_br _ rfl _ _ 23 rfl w2.heap.size (.slice (some ⟨gb, 0, none⟩) gm gc) W [b] rfl (B.out.gw ((Gw.refl wr).alloc _ _)) _ rfl (by simp; omega) (by simp; omega) (.inr ⟨_, _, rfl, rfl, one_row wr b _ BC.out⟩) ?_)
              intro v3 w3 b3 r3
              obtain ⟨gb3, gm3, gc3, rfl⟩ := b3.shape
              have B3 : Hid (BR w3 w2.heap.size (.slice (some ⟨gb3, 0, none⟩) gm3 gc3) (W ++ [b])) := b3
              have G3 : Hid (Gw w2 w3) := (G2.out.alloc _ _).grown r3 (fun q hq => (B.out.lt q hq).1)
              clear b3 r3
              go_wp2
              go_roundg (t.length - (k + 1))
              case measure => omega
              case rel => exact ⟨k + 1, gb3, gm3, gc3, W ++ [b], rfl, by go_num, by omega, by omega, by omega, by simp; omega, by simp; omega, NX, B3, G3⟩
          · have k7' : ((k : Int) ≤ 65536) = False := by simp; omega
            have cv := conv_br wr w2.heap.size _ W B.out
            have s2 : S.length ≤ 2000001 := by omega
            have w2' : W.length ≤ 1000000 := by omega
            obtain ⟨LG, hLG⟩ : ∃ LG, S ++ 10 :: 32 :: 10 :: (W ++ 32 :: 32 :: 10 :: S) = LG := ⟨_, rfl⟩
            have big : (65536 : Int) < (LG.length : Int) := by rw [← hLG]; simp; omega
            have G2W : Hid (Gw w wr) := G.out.trans G2.out
            clear WE k6 k7 hk wk wl sl hi ilt klt gz hg
            go_wp2
            refine bodyPost_ret (v := .bool true) (by simp [results, Tryd.results3, go_sem]) rfl ⟨rfl, G2W.out⟩
        · have ek : k = t.length := by omega
          have WN : Hid (W = wid t) := by have := WE.out; rw [ek, List.take_length] at this; exact this
          have cv := conv_br wr w2.heap.size _ W B.out
          have s2 : S.length ≤ 2000001 := by omega
          have w2' : W.length ≤ 1000000 := by omega
          obtain ⟨LG, hLG⟩ : ∃ LG, S ++ 10 :: 32 :: 10 :: (W ++ 32 :: 32 :: 10 :: S) = LG := ⟨_, rfl⟩
          have LE : Hid (LG = longOf t s) := by show _ = _; rw [← hLG, SN.out, WN.out]; rfl
          have G2W : Hid (Gw w wr) := G.out.trans G2.out
          have klt' : ((k : Int) < (t.length : Int)) = False := by simp; omega
          by_cases big : (65536 : Int) < (LG.length : Int)
          · clear WE k6 hk wk wl sl hi ilt klt gz hg ek
            go_wp2
            refine bodyPost_ret (v := .bool true) (by simp [results, Tryd.results3, go_sem]) rfl ⟨rfl, G2W.out⟩
          · have ll : LG.length ≤ 65536 := by omega
            obtain ⟨⟨L, x, er⟩, hr⟩ : ∃ r, parse t = r := ⟨_, rfl⟩
            obtain ⟨y, hy, y1, y2⟩ := blank_two (t := t) (n := s) (by rw [← LE.out]; exact ll) hr
            have xb := parse_at t
            rw [hr] at xb
            dsimp only at xb
            obtain ⟨xb1, xb2⟩ := xb
            have PA : Hid (∀ W, Calls Tryd.prog 6 #[.string (Bs t)] W fun e w' => ParO W w' e (L, x, er) ∧ Gw W w') := fun W => by have := CH.out.parse t W ht; rw [hr] at this; exact this
            have PB : Hid (∀ W, Calls Tryd.prog 6 #[.string (Bs LG)] W fun e w' => ParO W w' e (L, y, er) ∧ Gw W w') := fun W => by have := CH.out.parse LG W (by omega); rw [LE.out, hy] at this; rw [LE.out]; exact this
            have Y1 : Hid (er = 0 → y = 0) := y1
            have Y2 : Hid (er ≠ 0 → y = x + 2) := y2
            have FZ : Hid (L.length ≤ 4096 ∧ ∀ c ∈ L, c.nums.length ≤ 2000000) := by
              show _ ∧ _
              by_cases q : er = 0
              · obtain ⟨_, _, f3, f4, _, _⟩ := parse_facts (t := t) (l := L) (a := x) (by rw [hr, q])
                exact ⟨f3, cd_nums f4⟩
              · have := parse_err (t := t) (by rw [hr]; exact q)
                rw [hr] at this
                have e : L = [] := this.1
                rw [e]
                exact ⟨by simp, fun c hc => by cases hc⟩
            clear WE k6 hk wk wl sl hi ilt klt gz hg ek hr hy y1 y2
            go_wp2_with fail
            refine (PA.out _).mono ?_
            rintro e w3 ⟨⟨ao, n, ca, V, rfl, hn, c3⟩, g3⟩
            dsimp only at hn c3
            have C3 : Hid (CO w3 wr.heap.size (.slice ao n ca) L V) := c3
            have G3 : Hid (Gw w w3) := G2W.out.trans g3
            have LN : Hid (n = L.length) := hn
            clear hn c3 g3
            dsimp only
            go_wp2_with fail
            refine (PB.out _).mono ?_
            rintro e w4 ⟨⟨bo, m, cb, U, rfl, hm, c4⟩, g4⟩
            dsimp only at hm c4
            have e1 : m = n := by rw [LN.out]; exact hm
            subst e1
            have SM : Hid (Calls Tryd.prog 7 #[.slice ao m ca, .slice bo m cb] w4 fun e w' => e = .returned (.bool true) ∧ Gw w4 w') := by
              have := same21 ao bo ca cb L (by have := FZ.out.1; omega) FZ.out.2 w4 (C3.out.gw g4).cs2 c4.cs2
              rw [← LN.out] at this
              exact this
            have G4 : Hid (Gw w w4) := G3.out.trans g4
            clear hm c4 g4
            dsimp only
            go_wp2_with fail
            refine SM.out.mono ?_
            rintro e w5 ⟨rfl, g5⟩
            have G5 : Hid (Gw w w5) := G4.out.trans g5
            clear g5
            dsimp only
            by_cases q : er = 0
            · have y0 := Y1.out q
              subst q y0
              go_wp2_with fail
              refine bodyPost_ret (v := .bool true) (by simp [results, Tryd.results3, go_sem]) rfl ⟨rfl, G5.out⟩
            · have y0 := Y2.out q
              subst y0
              have q' : (er == 0) = false := by simpa using q
              go_wp2_with fail
              refine bodyPost_ret (v := .bool true) (by simp [results, Tryd.results3, go_sem, q]) rfl ⟨rfl, G5.out⟩
end Go.Proofs.YtocnmdabilaccabDoor
