/- Package probe: next, and seek over what is descended. -/
import Derived.Test.YtapjipinceoaoaaZDesc
import Derived.Lib.MinMax
namespace Go.Proofs.Ytapjipinceoaoaa
open Go.RowKit
set_option linter.unusedVariables false

/-- What has been asked so far in a search between l and h. -/
structure SeekI (i lo hi l h : Nat) (A : List (Int × Int)) : Prop where
  nd : A.Nodup
  mem : ∀ a ∈ A, ∃ t : Nat, a = ((i : Int), (t : Int)) ∧ lo ≤ t ∧ t < hi ∧ (t < l ∨ h ≤ t)
theorem SeekI.add {i lo hi l h : Nat} {A : List (Int × Int)} (s : SeekI i lo hi l h A) {m l' h' : Nat} (m1 : l ≤ m) (m2 : m < h) (m3 : lo ≤ l) (m4 : h ≤ hi) (c : (l' = m + 1 ∧ h' = h) ∨ (l' = l ∧ h' = m)) : SeekI i lo hi l' h' (A ++ [((i : Int), (m : Int))]) := by
  refine ⟨List.nodup_append.2 ⟨s.nd, by simp, fun a ha b hb e => ?_⟩, fun a ha => ?_⟩
  · obtain ⟨t, e1, _, _, e2⟩ := s.mem a ha
    simp only [List.mem_cons, List.not_mem_nil, or_false] at hb
    rw [e1, hb] at e
    have := (Prod.mk.inj e).2
    omega
  · rcases List.mem_append.1 ha with ha | ha
    · obtain ⟨t, e1, e2, e3, e4⟩ := s.mem a ha
      exact ⟨t, e1, e2, e3, by omega⟩
    · simp only [List.mem_cons, List.not_mem_nil, or_false] at ha
      exact ⟨m, ha, by omega, by omega, by omega⟩
theorem SeekI.done {i lo hi te l h : Nat} {A : List (Int × Int)} (s : SeekI i lo hi l h A) (ht : hi ≤ te) (hl : A.length ≤ hi - lo + 1) : SeekR i lo hi te A :=
  ⟨s.nd, fun a ha => by
    obtain ⟨t, e1, e2, e3, _⟩ := s.mem a ha
    exact ⟨t, e1, e2, by omega, by omega⟩, hl⟩
theorem SeekI.last {i lo hi te l h : Nat} {A : List (Int × Int)} (s : SeekI i lo hi l h A) (hl : lo ≤ hi) (ht : hi < te) (ha : A.length ≤ hi - lo) : SeekR i lo hi te (A ++ [((i : Int), (hi : Int))]) := by
  refine ⟨List.nodup_append.2 ⟨s.nd, by simp, fun a ha b hb e => ?_⟩, fun a ha => ?_, by simp; omega⟩
  · obtain ⟨t, e1, _, e3, e2⟩ := s.mem a ha
    simp only [List.mem_cons, List.not_mem_nil, or_false] at hb
    rw [e1, hb] at e
    have := (Prod.mk.inj e).2
    omega
  · rcases List.mem_append.1 ha with ha | ha
    · obtain ⟨t, e1, e2, e3, e4⟩ := s.mem a ha
      exact ⟨t, e1, e2, by omega, by omega⟩
    · simp only [List.mem_cons, List.not_mem_nil, or_false] at ha
      exact ⟨hi, ha, hl, Nat.le_refl _, ht⟩
/-- A block of a visit. -/
theorem vis_cells {w : World} {b : Nat} {v : Vis} (h : w.heap[b]? = some (.cells #[.int .i64 v.lv, .int .i64 v.sl, .int .i64 v.gu, .int .i64 v.lo, .int .i64 v.hi, .int .i64 v.rk] 40 (0, 0))) : VisAt w b 0 v := by
  refine ⟨?_, ?_, ?_, ?_, ?_, ?_⟩ <;> simp [World.cell?, h]

theorem next_any (r fr : Int) (st : Bool) (r0 : 0 ≤ r) (r1 : r ≤ 4294967296) (w : World) :
    Calls Try.prog 47 #[.int .i64 r, .int .i64 fr, .bool st] w fun e w' => e = .returned (.int .i64 (if st then r else max (r - 1) fr)) ∧ w' = w := by
  have wj : IntKind.i64.wrap (r - 1) = r - 1 := by rw [IntKind.wrap_i64]; omega
  cases st with
  | true =>
    go_enter Try.func47, Try.ntmps47
    go_wp2_with fail
    go_ret
    exact ⟨rfl, rfl⟩
  | false =>
    go_enter Try.func47, Try.ntmps47
    go_wp2_with fail
    go_ret
    exact ⟨rfl, rfl⟩

set_option maxRecDepth 10000 in
set_option maxHeartbeats 4000000 in
theorem seek_pile {p : Nat} {w0 : World} {HS : World → (Nat → Prop) → List (Int × Int) → List (Int × Int) → Prop} {eps : Int} {f : Nat → Int} {n : Nat} {L : List (List Sg)} (D : DSC 12 13 16 18 (.pointer (some ⟨p, 0, none⟩)) w0 HS eps f n L) (i : Nat) (hi : i < L.length) (hl : L.length ≤ 2000000) (lo0 hi0 te r : Nat) (sl gu rk q : Int) (q0 : 0 ≤ q) (q1 : q < 18446744073709551616) (lr : lo0 ≤ r) (rh : r ≤ hi0) (ht : hi0 ≤ te) (tn : te ≤ rowN n L i) (te1 : te ≤ 4294967296) (bel : ∀ t, t < r → rowF f L i t < q) (abo : ∀ t, r ≤ t → t < rowN n L i → q ≤ rowF f L i t) {w : World} {S : Nat → Prop} {A B : List (Int × Int)} (h : HS w S A B) (la : A.length + (hi0 - lo0) ≤ 1999999999) :
    Calls Try.prog 46 #[.pointer (some ⟨p, 0, none⟩), visV ⟨(i : Int), sl, gu, (lo0 : Int), (hi0 : Int), rk⟩, .int .i64 (te : Int), .int .u64 q] w fun e w' => (∃ S' A', e = .returned (.tuple #[.int .i64 (r : Int), .bool (decide (r < te ∧ rowF f L i r = q))]) ∧ HS w' S' (A ++ A') B ∧ (∀ q, S' q → S q ∨ w.heap.size ≤ q) ∧ SeekR i lo0 hi0 te A') ∧ Gs S w w' := by
  have HH : Aside (HS (w.alloc (.cells #[.int .i64 (i : Int), .int .i64 sl, .int .i64 gu, .int .i64 (lo0 : Int), .int .i64 (hi0 : Int), .int .i64 rk] 40)) S A B) := D.grow h ((Gw.refl w).alloc _ _)
  have SW : Aside (∀ q, S q → q < w.heap.size) := D.lt h
  have BK : Aside ((w.alloc (.cells #[.int .i64 (i : Int), .int .i64 sl, .int .i64 gu, .int .i64 (lo0 : Int), .int .i64 (hi0 : Int), .int .i64 rk] 40)).heap[w.heap.size]? = some (.cells #[.int .i64 (i : Int), .int .i64 sl, .int .i64 gu, .int .i64 (lo0 : Int), .int .i64 (hi0 : Int), .int .i64 rk] 40 (0, 0))) := heap_alloc_new w _
  have G0 : Aside (Gs S w (w.alloc (.cells #[.int .i64 (i : Int), .int .i64 sl, .int .i64 gu, .int .i64 (lo0 : Int), .int .i64 (hi0 : Int), .int .i64 rk] 40))) := ((Gw.refl w).alloc _ _).gs S
  have z1 : ((w.alloc (.cells #[.int .i64 (i : Int), .int .i64 sl, .int .i64 gu, .int .i64 (lo0 : Int), .int .i64 (hi0 : Int), .int .i64 rk] 40)).heap.size = w.heap.size + 1) := by simp
  have Z1 : Aside (_ = w.heap.size + 1) := z1
  clear z1
  have mK : ∀ W : World, (method 260 30 (.pointer (some ⟨p, 0, none⟩)) "Key").run Try.prog W = .ok (16, .pointer (some ⟨p, 0, none⟩)) W := fun _ => by kernel_rfl
  have DD : Aside (DSC 12 13 16 18 (.pointer (some ⟨p, 0, none⟩)) w0 HS eps f n L) := D
  have BEL : Aside (∀ t, t < r → rowF f L i t < q) := bel
  have ABO : Aside (∀ t, r ≤ t → t < rowN n L i → q ≤ rowF f L i t) := abo
  have TN : Aside (te ≤ rowN n L i ∧ i < L.length ∧ L.length ≤ 2000000) := ⟨tn, hi, hl⟩
  clear h D bel abo tn hi
  obtain ⟨st, hst⟩ : ∃ st : Bool, decide (r < te ∧ rowF f L i r = q) = st := ⟨_, rfl⟩
  have ST : Aside (decide (r < te ∧ rowF f L i r = q) = st) := hst
  rw [hst]
  clear hst
  go_enter Try.func46, Try.ntmps46
  go_wp2_with fail
  generalize w.alloc (.cells #[.int .i64 (i : Int), .int .i64 sl, .int .i64 gu, .int .i64 (lo0 : Int), .int .i64 (hi0 : Int), .int .i64 rk] 40) = w1 at HH BK G0 Z1 ⊢
  obtain ⟨vb, hvb⟩ : ∃ vb, w.heap.size = vb := ⟨_, rfl⟩
  have VB : Aside (w.heap.size = vb) := hvb
  rw [hvb] at BK SW Z1 ⊢
  clear hvb
  have VV : Aside (VisAt w1 vb 0 ⟨(i : Int), sl, gu, (lo0 : Int), (hi0 : Int), rk⟩) := vis_cells BK.out
  have k3 : w1.cell? ⟨vb, 3, none⟩ = some (.int .i64 (lo0 : Int)) := VV.out.c3
  have k4 : w1.cell? ⟨vb, 4, none⟩ = some (.int .i64 (hi0 : Int)) := VV.out.c4
  have kb : vb < w1.heap.size := (Array.getElem?_eq_some_iff.1 BK.out).1
  go_quiet (fail)
  have H1 : Aside (HS (w1.drewN nq) S A B) := DD.out.grow HH.out ((Gw.refl w1).drewN nq)
  have G1 : Aside (Gs S w1 (w1.drewN nq)) := ((Gw.refl w1).drewN nq).gs S
  have DF : Aside (false = decide (hi0 < hi0 ∧ rowF f L i hi0 = q)) := (decide_eq_false (fun x => Nat.lt_irrefl _ x.1)).symm
  clear HH k3 k4
  go_wp2_with fail
  go_loopg [9, 10, 11] (hi0 - lo0) (fun gg s9 s10 s11 wr => ∃ (l h : Nat) (t : Bool) (S' : Nat → Prop) (A' : List (Int × Int)), s9 = .bool t ∧ s10 = .int .i64 (l : Int) ∧ s11 = .int .i64 (h : Int) ∧ lo0 ≤ l ∧ l ≤ r ∧ r ≤ h ∧ h ≤ hi0 ∧ h - l ≤ gg ∧ A'.length + (h - l) ≤ hi0 - lo0 ∧ Aside (t = decide (h < hi0 ∧ rowF f L i h = q)) ∧ Aside (HS wr S' (A ++ A') B) ∧ Aside (∀ q, S' q → S q ∨ vb + 1 ≤ q) ∧ Aside (SeekI i lo0 hi0 l h A') ∧ Aside (Gs S w1 wr))
  case atStart => exact ⟨lo0, hi0, false, S, [], rfl, rfl, rfl, Nat.le_refl _, lr, rh, Nat.le_refl _, Nat.le_refl _, by simp, DF, (by rw [List.append_nil]; exact H1), (show Aside _ from fun q hq => .inl hq), (show Aside _ from ⟨by simp, fun a ha => by simp at ha⟩), G1⟩
  case round =>
    clear H1 G1 DF
    obtain ⟨l, h, t, S', A', rfl, rfl, rfl, a1, a2, a3, a4, a5, a6, TT, HH, SS, SK, GG⟩ := hrel
    have vk : Aside (wr.heap[vb]? = w1.heap[vb]?) := GG.out.block vb kb (fun e => by have := SW.out vb e; omega)
    have k0 : wr.cell? ⟨vb, 0, none⟩ = some (.int .i64 (i : Int)) := (World.cell?_of_block (a := ⟨vb, 0, none⟩) vk.out).trans VV.out.c0
    have k4 : wr.cell? ⟨vb, 4, none⟩ = some (.int .i64 (hi0 : Int)) := (World.cell?_of_block (a := ⟨vb, 4, none⟩) vk.out).trans VV.out.c4
    have kb' : vb < wr.heap.size := Nat.lt_of_lt_of_le kb GG.out.size
    by_cases hlt : l < h
    · obtain ⟨m, hm⟩ : ∃ m : Nat, (h - l) / 2 + l = m := ⟨_, rfl⟩
      have m1 : l ≤ m := by omega
      have m2 : m < h := by omega
      have d1 : IntKind.i64.wrap ((h : Int) - (l : Int)) = ((h - l : Nat) : Int) := by rw [IntKind.wrap_i64]; omega
      have d4 : (l : Int) + ((h - l : Nat) : Int) / 2 = (m : Int) := by omega
      have mN : Aside (m < rowN n L i) := by have := TN.out.1; exact Nat.lt_of_lt_of_le (by omega) this
      clear hm
      go_wp2_with fail
      refine (DD.out.key HH.out (by simp; omega) i m (Nat.le_of_lt TN.out.2.1) mN.out).mono ?_
      rintro e w2 ⟨⟨S2, rfl, h2, s2⟩, g2⟩
      have H2 : Aside (HS w2 S2 (A ++ (A' ++ [((i : Int), (m : Int))])) B) := by rw [← List.append_assoc]; exact h2
      have S3 : Aside (∀ q, S2 q → S q ∨ vb + 1 ≤ q) := fun q hq => by
        rcases s2 q hq with e | e
        · exact SS.out q e
        · exact .inr (by have := GG.out.size; have := Z1.out; omega)
      have G2 : Aside (Gs S w1 w2) := gs_trans9 GG.out g2 fun q hq => by
        rcases SS.out q hq with e | e
        · exact .inl e
        · exact .inr (by rw [Z1.out]; exact e)
      obtain ⟨y, hy⟩ : ∃ y, rowF f L i m = y := ⟨_, rfl⟩
      have Y : Aside (rowF f L i m = y) := hy
      rw [hy]
      clear hy h2 s2 g2 HH SS GG k0 k4 kb' vk
      by_cases c : y < q
      · have mr : m + 1 ≤ r := by
          rcases Nat.lt_or_ge m r with e | e
          · exact e
          · have := ABO.out m e mN.out
            rw [Y.out] at this
            omega
        have SK2 : Aside (SeekI i lo0 hi0 (m + 1) h (A' ++ [((i : Int), (m : Int))])) := SK.out.add m1 m2 a1 a4 (.inl ⟨rfl, rfl⟩)
        clear Y SK d1 d4
        go_wp2_with fail
        go_roundg (h - (m + 1))
        case measure => omega
        case rel => exact ⟨m + 1, h, t, S2, A' ++ [((i : Int), (m : Int))], rfl, by go_num, rfl, by omega, mr, a3, a4, Nat.le_refl _, by simp; omega, TT, H2, S3, SK2, G2⟩
      · have mr : r ≤ m := by
          rcases Nat.lt_or_ge m r with e | e
          · have := BEL.out m e
            rw [Y.out] at this
            omega
          · exact e
        have SK2 : Aside (SeekI i lo0 hi0 l m (A' ++ [((i : Int), (m : Int))])) := SK.out.add m1 m2 a1 a4 (.inr ⟨rfl, rfl⟩)
        obtain ⟨z, hz⟩ : ∃ z : Bool, (y == q) = z := ⟨_, rfl⟩
        have TT2 : Aside (z = decide (m < hi0 ∧ rowF f L i m = q)) := by
          show z = _
          rw [← hz, Y.out]
          have : m < hi0 := by omega
          by_cases e : y = q
          · rw [decide_eq_true ⟨this, e⟩]; simpa using e
          · rw [decide_eq_false (fun x => e x.2)]; simpa using e
        clear Y SK d1 d4
        go_wp2_with fail
        go_roundg (m - l)
        case measure => omega
        case rel => exact ⟨l, m, z, S2, A' ++ [((i : Int), (m : Int))], rfl, rfl, rfl, a1, a2, mr, by omega, Nat.le_refl _, by simp; omega, TT2, H2, S3, SK2, G2⟩
    · obtain rfl : l = r := by omega
      obtain rfl : h = l := by omega
      have SW2 : Aside (∀ q, S' q → S q ∨ w.heap.size ≤ q) := fun q hq => by
        rcases SS.out q hq with e | e
        · exact .inl e
        · exact .inr (by rw [VB.out]; omega)
      by_cases c1 : h = hi0
      · by_cases c2 : h < te
        · have m0 : ((h : Int) == (hi0 : Int)) = true := by rw [c1]; simp
          have m1 : decide ((h : Int) < (te : Int)) = true := by simpa using c2
          have hN : Aside (h < rowN n L i) := by have := TN.out.1; exact Nat.lt_of_lt_of_le c2 this
          have AL : Aside ((A ++ A').length ≤ 2000000000) := by show _ ≤ _; rw [List.length_append]; omega
          have HI : Aside (h = hi0) := c1
          clear c1
          go_wp2_with fail
          refine (DD.out.key HH.out AL.out i h (Nat.le_of_lt TN.out.2.1) hN.out).mono ?_
          rintro e w2 ⟨⟨S2, rfl, h2, s2⟩, g2⟩
          have H2 : Aside (HS w2 S2 (A ++ (A' ++ [((i : Int), (h : Int))])) B) := by rw [← List.append_assoc]; exact h2
          have S3 : Aside (∀ q, S2 q → S q ∨ w.heap.size ≤ q) := fun q hq => by
            rcases s2 q hq with e | e
            · exact SW2.out q e
            · exact .inr (by have := GG.out.size; have := G0.out.size; omega)
          have G2 : Aside (Gs S w w2) := gs_trans9 (gs_trans9 G0.out GG.out (fun q hq => .inl hq)) g2 SW2.out
          obtain ⟨y, hy⟩ : ∃ y, rowF f L i h = y := ⟨_, rfl⟩
          have zz : (y == q) = st := by
            have s := ST.out
            rw [hy] at s
            rw [← s]
            by_cases e : y = q
            · rw [decide_eq_true ⟨c2, e⟩]; simpa using e
            · rw [decide_eq_false (fun x => e x.2)]; simpa using e
          rw [hy]
          have SKL : Aside (SeekR i lo0 hi0 te (A' ++ [((i : Int), (h : Int))])) := by
            have e := HI.out
            have := SK.out.last (te := te) (by omega) (by omega) (by omega)
            rw [e]
            exact this
          clear hy h2 s2 g2 HH SS GG k0 k4 kb' vk
          go_wp2_with fail
          go_ret2
          exact ⟨⟨S2, _, rfl, H2.out, S3.out, SKL.out⟩, G2.out⟩
        · have m0 : ((h : Int) == (hi0 : Int)) = true := by rw [c1]; simp
          have m1 : decide ((h : Int) < (te : Int)) = false := by simpa using c2
          have e1 : t = false := by rw [TT.out]; exact decide_eq_false (fun x => by omega)
          have e2 : st = false := by rw [← ST.out]; exact decide_eq_false (fun x => c2 x.1)
          subst e1 e2
          have HI : Aside (h = hi0) := c1
          have SKL : Aside (SeekR i lo0 hi0 te A') := SK.out.done ht (by omega)
          have G2 : Aside (Gs S w wr) := gs_trans9 G0.out GG.out (fun q hq => .inl hq)
          clear c1
          go_wp2_with fail
          go_ret2
          exact ⟨⟨S', A', rfl, HH.out, SW2.out, SKL.out⟩, G2.out⟩
      · have m0 : ((h : Int) == (hi0 : Int)) = false := by simp; omega
        have e1 : t = st := by
          rw [TT.out, ← ST.out]
          have x1 : h < hi0 := by omega
          have x2 : h < te := by omega
          by_cases e : rowF f L i h = q
          · rw [decide_eq_true ⟨x1, e⟩, decide_eq_true ⟨x2, e⟩]
          · rw [decide_eq_false (fun x => e x.2), decide_eq_false (fun x => e x.2)]
        subst e1
        have SKL : Aside (SeekR i lo0 hi0 te A') := SK.out.done ht (by omega)
        have G2 : Aside (Gs S w wr) := gs_trans9 G0.out GG.out (fun q hq => .inl hq)
        go_wp2_with fail
        go_ret2
        exact ⟨⟨S', A', rfl, HH.out, SW2.out, SKL.out⟩, G2.out⟩


end Go.Proofs.Ytapjipinceoaoaa
