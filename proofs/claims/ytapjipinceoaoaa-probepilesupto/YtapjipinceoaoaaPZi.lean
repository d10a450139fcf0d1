import Derived.Test.YtapjipinceoaoaaZDown
import Derived.Maps.AppendAt
import Derived.Deep.AppendLies
import Derived.Deep.RegionHeld3
import Derived.Test.YtapjipinceoaoaaZC
import Derived.Deep.QuietTactic
import Derived.BigQuiet
import Derived.Test.YtapjipinceoaoaaPY2
import Derived.Deep.RegionLaw
import Derived.Test.YtapjipinceoaoaaPSt
import Derived.Test.YtapjipinceoaoaaPXm
/- Package probe: what Find and Path hand to descend; Find and Path. -/
namespace Go.Proofs.Ytapjipinceoaoaa
open Go.RowKit
set_option linter.unusedVariables false

/-- A variable of one cell. -/
def Bx9 (w : World) (b : Nat) (v : Value) (t : TypeId) : Prop := w.heap[b]? = some (.cells #[v] t (0, 0))
theorem Bx9.lt {w : World} {b : Nat} {v : Value} {t : TypeId} (h : Bx9 w b v t) : b < w.heap.size := (Array.getElem?_eq_some_iff.1 h).1
theorem Bx9.cell {w : World} {b : Nat} {v : Value} {t : TypeId} (h : Bx9 w b v t) : w.cell? ⟨b, 0, none⟩ = some v := cell_blk9 h rfl
theorem Bx9.fz {w : World} {b : Nat} {v : Value} {t : TypeId} (h : Bx9 w b v t) : w.frozen? ⟨b, 0, none⟩ = false := fz_blk9 h
/-- The rank of the last visit. -/
def lastR (l : List Vis) : Int := match l.getLast? with | none => 0 | some v => v.rk
theorem lastR_snoc (l : List Vis) (v : Vis) : lastR (l ++ [v]) = v.rk := by simp [lastR]
/-- Find's two variables. -/
structure FT (br bt : Nat) (w : World) (X : Nat → Prop) (l : List Vis) (st : Bool) : Prop where
  r : Bx9 w br (.int .i64 (lastR l)) 3
  t : Bx9 w bt (.bool st) 4
  x : ∀ q, X q ↔ q = br ∨ q = bt
/-- Path's variable. -/
structure PT (bl : Nat) (w : World) (X : Nat → Prop) (l : List Vis) (st : Bool) : Prop where
  v : ∃ vl, Bx9 w bl vl 37 ∧ VR w (bl + 1) vl l ∧ ∀ q, X q ↔ q = bl ∨ vl.ownBlock = some q
/-- What Find has told behind the last visit. -/
theorem found_end {eps q : Int} {f : Nat → Int} {n : Nat} {L : List (List Sg)} (R : Ready eps f n L) : lastR (pathL eps q f n L) = (cntb f q n : Nat) ∧ standTo q f n L 0 = decide (cntb f q n < n ∧ f (cntb f q n) = q) := by
  by_cases e : L.length = 0
  · have n0 := R.z.1 e
    have l0 : L = [] := List.eq_nil_of_length_eq_zero e
    subst l0
    subst n0
    exact ⟨rfl, by simp [standTo]⟩
  · constructor
    · rw [← pathTo_zero, pathTo_next eps q f n L (show 0 < L.length by omega), lastR_snoc]
      rfl
    · unfold standTo
      rw [if_neg (by omega)]
      rfl
theorem vr_keep {w w' : World} {base : Nat} {v : Value} {l : List Vis} (h : VR w base v l) (k : ∀ q, v.ownBlock = some q → w'.heap[q]? = w.heap[q]?) : VR w' base v l := by
  refine ⟨h.1, ?_⟩
  rcases h.2 with q | ⟨g, cap, cur, rfl, hb, hh, r⟩
  · exact .inl q
  · exact .inr ⟨g, cap, cur, rfl, hb, (k g rfl).trans hh, r⟩

set_option maxRecDepth 10000 in
set_option maxHeartbeats 2000000 in
theorem tellf_pile (br bt : Nat) (ne : br ≠ bt) : TellC 26 (fun a b => #[a, b, .pointer (some ⟨br, 0, none⟩), .pointer (some ⟨bt, 0, none⟩)]) (FT br bt) where
  lt h q hq := by
    rcases (h.x q).1 hq with rfl | rfl
    · exact h.r.lt
    · exact h.t.lt
  keep h k := ⟨(k br ((h.x br).2 (.inl rfl))).trans h.r, (k bt ((h.x bt).2 (.inr rfl))).trans h.t, h.x⟩
  call {w X l st} h hl v s := by
    obtain ⟨v0, v1, v2, v3, v4, v5⟩ := v
    have HH : Aside (FT br bt w X l st) := h
    have c1 := h.r.cell
    have c2 := h.t.cell
    have f1 := h.r.fz
    have f2 := h.t.fz
    have l1 := h.r.lt
    have l2 := h.t.lt
    have b1 : br ≠ w.heap.size := by omega
    have b2 : bt ≠ w.heap.size := by omega
    clear h
    go_enter Try.func26, Try.ntmps26
    go_wp2_with fail
    go_end0
    refine ⟨rfl, ⟨X, ⟨?_, ?_, HH.out.x⟩, fun q hq => .inl hq⟩, ?_⟩
    · rw [lastR_snoc]
      refine (heap_alloc_old _ _ (by simpa using l1)).trans ?_
      refine (Go.Deep.blk_setCell_other _ _ _ _ ne).trans ?_
      exact set_blk9 HH.out.r 0 _
    · refine (heap_alloc_old _ _ (by simpa using l2)).trans ?_
      exact set_blk9 ((Go.Deep.blk_setCell_other _ _ _ _ (fun e => ne e.symm)).trans HH.out.t) 0 _
    · have g := (((Gw.refl w).gs X).set ((HH.out.x br).2 (.inl rfl)) 0 (.int .i64 v5)).set ((HH.out.x bt).2 (.inr rfl)) 0 (.bool s)
      exact gs_trans9 g (((Gw.refl _).alloc _ _).gs (fun _ => False)) (fun q hq => hq.elim)

set_option maxRecDepth 10000 in
set_option maxHeartbeats 2000000 in
theorem tellp_pile (bl : Nat) : TellC 27 (fun a b => #[a, b, .pointer (some ⟨bl, 0, none⟩)]) (PT bl) where
  lt h q hq := by
    obtain ⟨vl, h1, h2, h3⟩ := h.v
    rcases (h3 q).1 hq with rfl | e
    · exact h1.lt
    · exact (World.ownsRow.lt h2 q e).2
  keep h k := by
    obtain ⟨vl, h1, h2, h3⟩ := h.v
    exact ⟨vl, (k bl ((h3 bl).2 (.inl rfl))).trans h1, vr_keep h2 fun q e => k q ((h3 q).2 (.inr e)), h3⟩
  call {w X l st} h hl v s := by
    obtain ⟨vl, h1, h2, h3⟩ := h.v
    have HX : Aside (∀ q, X q ↔ q = bl ∨ vl.ownBlock = some q) := h3
    have HB : Aside (Bx9 w bl vl 37) := h1
    have HV : Aside (VR w (bl + 1) vl l) := h2
    have c1 := h1.cell
    have f1 := h1.fz
    have l1 := h1.lt
    have ob : ∀ q, vl.ownBlock = some q → bl + 1 ≤ q ∧ q < w.heap.size := fun q e => World.ownsRow.lt h2 q e
    have OB : Aside (∀ q, vl.ownBlock = some q → bl + 1 ≤ q ∧ q < w.heap.size) := ob
    obtain ⟨v0, v1, v2, v3, v4, v5⟩ := v
    obtain ⟨ii, hii, hz, hs', hby⟩ := info_parts info_vis
    have z1 : (w.alloc (.cells #[.int .i64 v0, .int .i64 v1, .int .i64 v2, .int .i64 v3, .int .i64 v4, .int .i64 v5] 40)).heap.size = w.heap.size + 1 := by simp
    have A2 : Aside (((w.alloc (.cells #[.int .i64 v0, .int .i64 v1, .int .i64 v2, .int .i64 v3, .int .i64 v4, .int .i64 v5] 40)).alloc (.cells #[.int .i64 v0, .int .i64 v1, .int .i64 v2, .int .i64 v3, .int .i64 v4, .int .i64 v5] 40)).ownsRow (bl + 1) 40 6 vl l.length (l.flatMap visc)) := World.ownsRow.alloc (World.ownsRow.alloc h2 _) _
    have NW : Aside (∀ j u, (visc ⟨v0, v1, v2, v3, v4, v5⟩)[j]? = some u → ((w.alloc (.cells #[.int .i64 v0, .int .i64 v1, .int .i64 v2, .int .i64 v3, .int .i64 v4, .int .i64 v5] 40)).alloc (.cells #[.int .i64 v0, .int .i64 v1, .int .i64 v2, .int .i64 v3, .int .i64 v4, .int .i64 v5] 40)).cell? ((⟨w.heap.size + 1, 0, none⟩ : Addr).add j) = some u) := by
      have := new_vis (w.alloc (.cells #[.int .i64 v0, .int .i64 v1, .int .i64 v2, .int .i64 v3, .int .i64 v4, .int .i64 v5] 40)) ⟨v0, v1, v2, v3, v4, v5⟩
      rw [z1] at this
      exact this
    have Z1 : Aside ((w.alloc (.cells #[.int .i64 v0, .int .i64 v1, .int .i64 v2, .int .i64 v3, .int .i64 v4, .int .i64 v5] 40)).heap.size = w.heap.size + 1) := z1
    clear h h1 h2 h3 ob z1
    go_enter Try.func27, Try.ntmps27
    go_wp2_with (at_builtin; refine wpList_append_own_at _ rfl _ _ 37 rfl (bl + 1) 40 ii (.agg #[.int .i64 0, .int .i64 0, .int .i64 0, .int .i64 0, .int .i64 0, .int .i64 0]) 6 48 Try.underlying37 hii hz hs' hby rfl (by decide) _ l.length _ rfl A2.out ⟨w.heap.size + 1, 0, none⟩ 1 1 (visc ⟨v0, v1, v2, v3, v4, v5⟩) rfl rfl NW.out (visc_one _) (by simp only [maxLen]; omega) (by omega) (by simp; omega) ?_)
    intro v' w7 r1 r2 r3 r4
    have ob : ∀ q, v'.ownBlock = some q → bl + 1 ≤ q := fun q e => (r1.lt q e).1
    obtain ⟨b8, cap8, ev, _, _, _⟩ := own_slice r1 (by simpa using r3)
    have keep : ∀ q, q < w.heap.size → vl.ownBlock ≠ some q → w7.heap[q]? = w.heap[q]? := fun q hq hn => (r2.block q (by simp; omega) (fun e => hn e.symm)).trans ((heap_alloc_old _ _ (by rw [Z1.out]; omega)).trans (heap_alloc_old w _ hq))
    have p7 : Bx9 w7 bl vl 37 := (keep bl l1 (fun e => by have := (OB.out bl e).1; omega)).trans HB.out
    have d1 := p7.cell
    have g1 := p7.fz
    have l7 := p7.lt
    have RES : Aside ((∃ X', PT bl (w7.setCell ⟨bl, 0, none⟩ v') X' (l ++ [⟨v0, v1, v2, v3, v4, v5⟩]) s ∧ ∀ q, X' q → X q ∨ w.heap.size ≤ q) ∧ Gs X w (w7.setCell ⟨bl, 0, none⟩ v')) := by
      refine ⟨⟨fun q => q = bl ∨ v'.ownBlock = some q, ⟨v', set_blk9 p7 0 _, ?_, fun q => Iff.rfl⟩, ?_⟩, ?_⟩
      · refine vr_keep (w := w7) ?_ fun q e => Go.Deep.blk_setCell_other _ _ _ _ (by have := ob q e; show q ≠ bl; omega)
        show World.ownsRow _ _ _ _ _ _ _
        rw [List.length_append, vflat_one]
        exact r1
      · rintro q (e | e)
        · exact .inl ((HX.out q).2 (.inl e))
        · rcases r4 with r | r
          · rw [r] at e; exact .inl ((HX.out q).2 (.inr e))
          · rw [r] at e
            have : w.heap.size + 1 + 1 = q := by simpa using e
            exact .inr (by omega)
      · refine ⟨r2.os, r2.tape, r2.output, ?_, fun q hq hs => ?_⟩
        · have := r2.size; simp at this ⊢; omega
        · exact (Go.Deep.blk_setCell_other _ _ _ _ (fun e => hs ((HX.out q).2 (.inl e)))).trans (keep q hq (fun e => hs ((HX.out q).2 (.inr e))))
    clear r1 r2 r3 r4 ob keep p7 A2 NW c1 f1
    subst ev
    go_wp2_with fail
    go_end0
    exact ⟨rfl, RES.out.1, RES.out.2⟩

set_option maxRecDepth 10000 in
set_option maxHeartbeats 4000000 in
theorem xfind_pile {p : Nat} {w0 : World} {HS : World → (Nat → Prop) → List (Int × Int) → List (Int × Int) → Prop} {eps : Int} {f : Nat → Int} {n : Nat} {L : List (List Sg)} (D : DSC 12 13 16 18 (.pointer (some ⟨p, 0, none⟩)) w0 HS eps f n L) (M : ModelC) (R : Ready eps f n L) (q : Int) (q0 : 0 ≤ q) (q1 : q < 18446744073709551616) {w : World} {S : Nat → Prop} {A B : List (Int × Int)} (h : HS w S A B) (la : A.length ≤ 1000000000) (lb : B.length ≤ 1000000000) :
    Calls Try.prog 8 #[.pointer (some ⟨p, 0, none⟩), .int .u64 q] w fun e w' => (∃ S' A' B', e = .returned (foundV f n q) ∧ HS w' S' (A ++ A') (B ++ B') ∧ AskR eps q f n L A' B' ∧ ∀ q, S' q → S q ∨ w.heap.size ≤ q) ∧ Gs S w w' := by
  obtain ⟨br, hbr⟩ : ∃ br, w.heap.size = br := ⟨_, rfl⟩
  have BR : Aside (w.heap.size = br) := hbr
  have G2 : Aside (Gw w ((w.alloc (.cells #[.int .i64 0] 3)).alloc (.cells #[.bool false] 4))) := ((Gw.refl w).alloc _ _).alloc _ _
  have z1 : (w.alloc (.cells #[.int .i64 0] 3)).heap.size = br + 1 := by rw [← hbr]; simp
  have T2 : Aside (FT br (br + 1) ((w.alloc (.cells #[.int .i64 0] 3)).alloc (.cells #[.bool false] 4)) (fun q => q = br ∨ q = br + 1) [] false) := by
    refine ⟨?_, ?_, fun q => Iff.rfl⟩
    · have := heap_alloc_new w (.cells #[.int .i64 0] 3)
      rw [hbr] at this
      exact (heap_alloc_old _ _ (by omega)).trans this
    · have := heap_alloc_new (w.alloc (.cells #[.int .i64 0] 3)) (.cells #[.bool false] 4)
      rw [z1] at this
      exact this
  have z2 : ((w.alloc (.cells #[.int .i64 0] 3)).alloc (.cells #[.bool false] 4)).heap.size = br + 2 := by rw [← hbr]; simp
  have Z2 : Aside (br + 2 ≤ ((w.alloc (.cells #[.int .i64 0] 3)).alloc (.cells #[.bool false] 4)).heap.size) := Nat.le_of_eq z2.symm
  have H2 : Aside (HS ((w.alloc (.cells #[.int .i64 0] 3)).alloc (.cells #[.bool false] 4)) S A B) := D.grow h G2.out
  have SB : Aside (∀ q, S q → q < br) := fun q hq => by have := D.lt h q hq; omega
  have W0 : Aside (w0.heap.size ≤ br) := by have := (D.gw h).size; show _ ≤ _; omega
  have RR : Aside (Ready eps f n L) := R
  have DN : Hid _ := fun (W : World) (hW : HS W S A B) (tW : FT br (br + 1) W (fun q => q = br ∨ q = br + 1) [] false) (dj : ∀ q, (q = br ∨ q = br + 1) → w0.heap.size ≤ q ∧ ¬ S q) => down_find_pile D M R (.pointer (some ⟨br, 0, none⟩)) (.pointer (some ⟨br + 1, 0, none⟩)) (tellf_pile br (br + 1) (by omega)) q q0 q1 hW tW dj la lb
  have DD : Aside (DSC 12 13 16 18 (.pointer (some ⟨p, 0, none⟩)) w0 HS eps f n L) := D
  clear h D M R la lb z1 z2
  go_enter Try.func8, Try.ntmps8
  have dj : Aside (∀ q, (q = br ∨ q = br + 1) → w0.heap.size ≤ q ∧ ¬ S q) := fun q hq => by
    have := W0.out
    exact ⟨by omega, fun e => by have := SB.out q e; omega⟩
  go_wp2_with fail
  refine (DN.out _ H2.out T2.out dj.out).mono ?_
  clear DN T2 H2
  rintro e w3 ⟨rfl, ⟨S3, X3, A3, B3, h3, k3, t3, s3, x3⟩, g3⟩
  have c1 := t3.r.cell
  have c2 := t3.t.cell
  have l1 := t3.r.lt
  have l2 := t3.t.lt
  have RES : Aside (∀ W, Gw w3 W → ∃ S' A' B', HS W S' (A ++ A') (B ++ B') ∧ AskR eps q f n L A' B' ∧ ∀ q, S' q → S q ∨ w.heap.size ≤ q) := fun W gW => ⟨S3, A3, B3, DD.out.grow h3 gW, k3, fun q hq => by
    rcases s3 q hq with e | e
    · exact .inl e
    · exact .inr (by have := Z2.out; rw [BR.out]; omega)⟩
  have G3 : Aside (Gs S w w3) := gs_trans9 (G2.out.gs S) g3 fun q hq => by
    rcases hq with e | e
    · exact .inl e
    · exact .inr (by rw [BR.out]; omega)
  obtain ⟨e1, e2⟩ := found_end (q := q) RR.out
  rw [e1] at c1
  rw [e2] at c2
  have FV : Aside (foundV f n q = .tuple #[.int .i64 (cntb f q n : Nat), .bool (decide (cntb f q n < n ∧ f (cntb f q n) = q))]) := rfl
  generalize decide (cntb f q n < n ∧ f (cntb f q n) = q) = tt at c2 FV
  generalize cntb f q n = nn at c1 FV
  clear h3 k3 t3 s3 x3 g3 e1 e2 dj
  go_wp2_with fail
  first
    | (go_quiet (fail)
       go_wp2_with fail
       go_ret2
       obtain ⟨S', A', B', r1, r2, r3⟩ := RES.out _ ((Gw.refl w3).drewN _)
       exact ⟨⟨S', A', B', congrArg Ending.returned FV.out.symm, r1, r2, r3⟩, gs_trans9 G3.out (((Gw.refl w3).drewN _).gs (fun _ => False)) (fun q hq => hq.elim)⟩)
    | (go_ret2
       obtain ⟨S', A', B', r1, r2, r3⟩ := RES.out w3 (Gw.refl w3)
       exact ⟨⟨S', A', B', congrArg Ending.returned FV.out.symm, r1, r2, r3⟩, G3.out⟩)

set_option maxRecDepth 10000 in
set_option maxHeartbeats 4000000 in
theorem xpath_pile {p : Nat} {w0 : World} {HS : World → (Nat → Prop) → List (Int × Int) → List (Int × Int) → Prop} {eps : Int} {f : Nat → Int} {n : Nat} {L : List (List Sg)} (D : DSC 12 13 16 18 (.pointer (some ⟨p, 0, none⟩)) w0 HS eps f n L) (M : ModelC) (R : Ready eps f n L) (q : Int) (q0 : 0 ≤ q) (q1 : q < 18446744073709551616) {w : World} {S : Nat → Prop} {A B : List (Int × Int)} (h : HS w S A B) (la : A.length ≤ 1000000000) (lb : B.length ≤ 1000000000) :
    Calls Try.prog 9 #[.pointer (some ⟨p, 0, none⟩), .int .u64 q] w fun e w' => (∃ bo c S' A' B', e = .returned (.slice bo L.length c) ∧ PV w' bo (pathL eps q f n L) ∧ (∀ a, bo = some a → w.heap.size ≤ a.block ∧ ¬ S' a.block) ∧ HS w' S' (A ++ A') (B ++ B') ∧ AskR eps q f n L A' B' ∧ ∀ q, S' q → S q ∨ w.heap.size ≤ q) ∧ Gs S w w' := by
  obtain ⟨bl, hbl⟩ : ∃ bl, w.heap.size = bl := ⟨_, rfl⟩
  have BL : Aside (w.heap.size = bl) := hbl
  have G2 : Aside (Gw w (w.alloc (.cells #[.slice none 0 0] 37))) := (Gw.refl w).alloc _ _
  have z1 : (w.alloc (.cells #[.slice none 0 0] 37)).heap.size = bl + 1 := by rw [← hbl]; simp
  have Z2 : Aside (bl + 1 ≤ (w.alloc (.cells #[.slice none 0 0] 37)).heap.size) := Nat.le_of_eq z1.symm
  have T2 : Aside (PT bl (w.alloc (.cells #[.slice none 0 0] 37)) (fun q => q = bl) [] false) := by
    refine ⟨.slice none 0 0, ?_, World.ownsRow_nil _ _ _ _, fun q => ⟨fun e => .inl e, fun e => ?_⟩⟩
    · have := heap_alloc_new w (.cells #[.slice none 0 0] 37)
      rw [hbl] at this
      exact this
    · rcases e with e | e
      · exact e
      · cases e
  have H2 : Aside (HS (w.alloc (.cells #[.slice none 0 0] 37)) S A B) := D.grow h G2.out
  have SB : Aside (∀ q, S q → q < bl) := fun q hq => by have := D.lt h q hq; omega
  have W0 : Aside (w0.heap.size ≤ bl) := by have := (D.gw h).size; show _ ≤ _; omega
  have DN : Hid _ := fun (W : World) (hW : HS W S A B) (tW : PT bl W (fun q => q = bl) [] false) (dj : ∀ q, q = bl → w0.heap.size ≤ q ∧ ¬ S q) => down_path_pile D M R (.pointer (some ⟨bl, 0, none⟩)) (tellp_pile bl) q q0 q1 hW tW dj la lb
  have dj : Aside (∀ q, q = bl → w0.heap.size ≤ q ∧ ¬ S q) := fun q hq => by
    have := W0.out
    exact ⟨by omega, fun e => by have := SB.out q e; omega⟩
  clear h D M R la lb z1
  go_enter Try.func9, Try.ntmps9
  go_wp2_with fail
  refine (DN.out _ H2.out T2.out dj.out).mono ?_
  clear DN T2 H2
  rintro e w3 ⟨rfl, ⟨S3, X3, A3, B3, h3, k3, t3, s3, x3⟩, g3⟩
  obtain ⟨vl, t1, t2, t4⟩ := t3.v
  have form : ∃ bo c, vl = .slice bo L.length c ∧ PV w3 bo (pathL eps q f n L) ∧ ∀ a, bo = some a → vl.ownBlock = some a.block := by
    have pl := pathL_len eps q f n L
    rcases t2.2 with ⟨e, z⟩ | ⟨g, cap, cur, e, hb, hh, hc, _⟩
    · refine ⟨none, 0, by rw [e]; rw [pl] at z; rw [z], ⟨fun h0 => by omega⟩, fun a q => by cases q⟩
    · refine ⟨some ⟨g, 0, none⟩, cap, by rw [e, pl], vr_pv (cap := cap) (by rw [← e]; exact t2), fun a q => by cases q; rw [e]; rfl⟩
  obtain ⟨bo, c, hvl, hp, hob⟩ := form
  have c1 := t1.cell
  have l1 := t1.lt
  rw [hvl] at c1
  have RES : Aside (∃ S' A' B', PV w3 bo (pathL eps q f n L) ∧ (∀ a, bo = some a → w.heap.size ≤ a.block ∧ ¬ S' a.block) ∧ HS w3 S' (A ++ A') (B ++ B') ∧ AskR eps q f n L A' B' ∧ ∀ q, S' q → S q ∨ w.heap.size ≤ q) := ⟨S3, A3, B3, hp, fun a ea => ⟨by have := (World.ownsRow.lt t2 _ (hob a ea)).1; rw [BL.out]; omega, (x3 _ ((t4 _).2 (.inr (hob a ea)))).2⟩, h3, k3, fun q hq => by
    rcases s3 q hq with e | e
    · exact .inl e
    · exact .inr (by have := Z2.out; rw [BL.out]; omega)⟩
  have G3 : Aside (Gs S w w3) := gs_trans9 (G2.out.gs S) g3 fun q hq => by
    rcases hq with e | e
    · exact .inl e
    · exact .inr (by rw [BL.out]; omega)
  clear h3 k3 t3 s3 x3 g3 t1 t2 t4 hvl hp hob dj
  obtain ⟨ln, hln⟩ : ∃ ln, L.length = ln := ⟨_, rfl⟩
  have LN : Aside (L.length = ln) := hln
  rw [hln] at c1
  clear hln
  go_wp2_with fail
  go_ret
  obtain ⟨S', A', B', r1, r2, r3⟩ := RES.out
  exact ⟨⟨bo, c, S', A', B', by rw [LN.out]; rfl, r1, r2, r3⟩, G3.out⟩





end Go.Proofs.Ytapjipinceoaoaa

/- Package probe: a pile in memory, and its methods. -/
namespace Go.Proofs.Ytapjipinceoaoaa
open Go.RowKit
set_option linter.unusedVariables false
attribute [local go_sem] run_store_float

/-- A pile at block p, made of the blocks S: it lies as it lay in the world u. -/
structure HPile (w : World) (p : Nat) (S : Nat → Prop) (eps : Int) (f : Nat → Int) (n : Nat) (L : List (List Sg)) : Prop where
  lies : ∃ (u : World) (base : Nat) (ko : Option Addr) (kc : Nat) (lo : Option Addr) (lc : Nat), (∀ q, S q ↔ base ≤ q ∧ q < u.heap.size) ∧ u.heap.size ≤ w.heap.size ∧ (∀ q, base ≤ q → q < u.heap.size → w.heap[q]? = u.heap[q]?) ∧ u.heap[p]? = some (.cells #[.int .i64 eps, .slice ko n kc, .slice lo L.length lc] 66 (0, 0)) ∧ base ≤ p ∧ KS u ko n f ∧ (∀ a, ko = some a → base ≤ a.block) ∧ VSf u base lo L
  n1 : n ≤ 2000000
  sh : Short L
theorem HPile.lt {w : World} {p : Nat} {S : Nat → Prop} {eps : Int} {f : Nat → Int} {n : Nat} {L : List (List Sg)} (h : HPile w p S eps f n L) : ∀ q, S q → q < w.heap.size := by
  obtain ⟨u, base, ko, kc, lo, lc, h1, h2, _⟩ := h.lies
  intro q hq
  have := (h1 q).1 hq
  omega
theorem HPile.keep {w w' : World} {p : Nat} {S : Nat → Prop} {eps : Int} {f : Nat → Int} {n : Nat} {L : List (List Sg)} (h : HPile w p S eps f n L) (k : ∀ q, S q → w'.heap[q]? = w.heap[q]?) : HPile w' p S eps f n L := by
  obtain ⟨u, base, ko, kc, lo, lc, h1, h2, h3, h4, h5, h6⟩ := h.lies
  have pu : p < u.heap.size := (Array.getElem?_eq_some_iff.1 h4).1
  refine ⟨⟨u, base, ko, kc, lo, lc, h1, ?_, fun q a b => (k q ((h1 q).2 ⟨a, b⟩)).trans (h3 q a b), h4, h5, h6⟩, h.n1, h.sh⟩
  have e := k (u.heap.size - 1) ((h1 _).2 ⟨by omega, by omega⟩)
  rw [Array.getElem?_eq_getElem (show u.heap.size - 1 < w.heap.size by omega)] at e
  have := (Array.getElem?_eq_some_iff.1 e).1
  omega
/-- What lies in it. -/
theorem HPile.opened {w : World} {p : Nat} {S : Nat → Prop} {eps : Int} {f : Nat → Int} {n : Nat} {L : List (List Sg)} (h : HPile w p S eps f n L) : ∃ ko kc lo lc, w.heap[p]? = some (.cells #[.int .i64 eps, .slice ko n kc, .slice lo L.length lc] 66 (0, 0)) ∧ KS w ko n f ∧ VS w lo L := by
  obtain ⟨u, base, ko, kc, lo, lc, h1, h2, h3, h4, h5, h6, h7, h8⟩ := h.lies
  have pu : p < u.heap.size := (Array.getElem?_eq_some_iff.1 h4).1
  refine ⟨ko, kc, lo, lc, (h3 p h5 pu).trans h4, ⟨fun hn => ?_, h6.bd⟩, (h8.keep (fun q a b => h3 q a b) h2).vs⟩
  obtain ⟨b, off, e, hb, hc⟩ := h6.cells hn
  have bb : base ≤ b := h7 _ e
  exact ⟨b, off, e, by omega, fun i hi => (World.cell?_of_block (a := ⟨b, off + i, none⟩) (h3 b bb hb)).trans (hc i hi)⟩
theorem pl_cells {w : World} {p : Nat} {a b c : Value} {t : TypeId} (h : w.heap[p]? = some (.cells #[a, b, c] t (0, 0))) : w.cell? ⟨p, 0, none⟩ = some a ∧ w.cell? ⟨p, 1, none⟩ = some b ∧ w.cell? ⟨p, 2, none⟩ = some c := by
  refine ⟨?_, ?_, ?_⟩ <;> simp [World.cell?, h]

theorem pl_eps {w : World} {p : Nat} {S : Nat → Prop} {eps : Int} {f : Nat → Int} {n : Nat} {L : List (List Sg)} (h : HPile w p S eps f n L) :
    Calls Try.prog 12 #[.pointer (some ⟨p, 0, none⟩)] w fun e w' => e = .returned (.int .i64 eps) ∧ w' = w := by
  obtain ⟨ko, kc, lo, lc, h1, _⟩ := h.opened
  obtain ⟨c0, c1, c2⟩ := pl_cells h1
  clear h h1
  go_enter Try.func12, Try.ntmps12
  go_wp2_with fail
  go_ret
  exact ⟨rfl, rfl⟩
theorem pl_height {w : World} {p : Nat} {S : Nat → Prop} {eps : Int} {f : Nat → Int} {n : Nat} {L : List (List Sg)} (h : HPile w p S eps f n L) :
    Calls Try.prog 13 #[.pointer (some ⟨p, 0, none⟩)] w fun e w' => e = .returned (.int .i64 (L.length : Int)) ∧ w' = w := by
  obtain ⟨ko, kc, lo, lc, h1, _⟩ := h.opened
  obtain ⟨c0, c1, c2⟩ := pl_cells h1
  clear h h1
  go_enter Try.func13, Try.ntmps13
  go_wp2_with fail
  go_ret
  exact ⟨rfl, rfl⟩
set_option maxRecDepth 10000 in
set_option maxHeartbeats 4000000 in
theorem pl_size {w : World} {p : Nat} {S : Nat → Prop} {eps : Int} {f : Nat → Int} {n : Nat} {L : List (List Sg)} (h : HPile w p S eps f n L) (lv : Int) (l0 : -9223372036854775808 ≤ lv) (l1 : lv < 9223372036854775808) :
    Calls Try.prog 14 #[.pointer (some ⟨p, 0, none⟩), .int .i64 lv] w fun e w' => e = .returned (.int .i64 (sizeV n L lv : Nat)) ∧ w' = w := by
  obtain ⟨ko, kc, lo, lc, h1, hk, hv⟩ := h.opened
  obtain ⟨c0, c1, c2⟩ := pl_cells h1
  have pl : p < w.heap.size := (Array.getElem?_eq_some_iff.1 h1).1
  have hl := h.sh.1
  obtain ⟨ln, hln⟩ : ∃ ln, L.length = ln := ⟨_, rfl⟩
  have LN : Aside (L.length = ln) := hln
  rw [hln] at c2 hl
  have HV : Aside (VS w lo L) := hv
  clear h h1 hk hv hln
  by_cases z : lv = 0
  · have e : sizeV n L lv = n := by rw [z]; unfold sizeV; rw [if_pos ⟨Int.le_refl _, by omega⟩]; rfl
    have t0 : (lv == 0) = true := by simpa using z
    rw [e]
    clear e z
    go_enter Try.func14, Try.ntmps14
    go_wp2_with fail
    go_ret
    exact ⟨rfl, rfl⟩
  · have t0 : (lv == 0) = false := by simpa using z
    by_cases a : lv < 0
    · have e : sizeV n L lv = 0 := by unfold sizeV; rw [if_neg (fun x => by have := x.1; omega)]
      have t1 : decide (lv < 0) = true := by simpa using a
      rw [e]
      clear e z
      go_enter Try.func14, Try.ntmps14
      go_wp2_with fail
      go_ret
      exact ⟨rfl, rfl⟩
    · have t1 : decide (lv < 0) = false := by simpa using a
      by_cases b : (ln : Int) < lv
      · have e : sizeV n L lv = 0 := by unfold sizeV; rw [if_neg (fun x => by have := x.2; rw [LN.out] at this; omega)]
        have t2 : decide ((ln : Int) < lv) = true := by simpa using b
        rw [e]
        clear e z
        go_enter Try.func14, Try.ntmps14
        go_wp2_with fail
        go_ret
        exact ⟨rfl, rfl⟩
      · obtain ⟨i, hi⟩ : ∃ i : Nat, lv = (i : Int) + 1 := ⟨(lv - 1).toNat, by omega⟩
        have e : sizeV n L lv = (L.getD i []).length := by
          unfold sizeV
          rw [if_pos ⟨by omega, by rw [LN.out]; omega⟩, show lv.toNat = i + 1 by omega]
          rfl
        have t2 : decide ((ln : Int) < lv) = false := by simpa using b
        have w1 : IntKind.i64.wrap (lv - 1) = (i : Int) := by rw [IntKind.wrap_i64]; omega
        obtain ⟨lb, lf, rfl, hlb, hlc⟩ := HV.out.cells (by rw [LN.out]; omega)
        obtain ⟨so, sc, q1, _, _, _⟩ := hlc i (by rw [LN.out]; omega)
        have il : i < ln := by omega
        have il' : (i : Int) < (ln : Int) := by omega
        rw [e]
        generalize (L.getD i []).length = sn at q1 ⊢
        clear e z hlc hi
        go_enter Try.func14, Try.ntmps14
        go_wp2_with fail
        go_ret
        exact ⟨rfl, rfl⟩
set_option maxRecDepth 10000 in
set_option maxHeartbeats 4000000 in
theorem pl_has {w : World} {p : Nat} {S : Nat → Prop} {eps : Int} {f : Nat → Int} {n : Nat} {L : List (List Sg)} (h : HPile w p S eps f n L) (lv sl : Int) (l0 : -9223372036854775808 ≤ lv) (l1 : lv < 9223372036854775808) :
    Calls Try.prog 36 #[.pointer (some ⟨p, 0, none⟩), .int .i64 lv, .int .i64 sl] w fun e w' => e = .returned (.bool (decide (0 ≤ sl ∧ sl < (sizeV n L lv : Nat)))) ∧ w' = w := by
  have SZ : Hid (Calls Try.prog 14 #[.pointer (some ⟨p, 0, none⟩), .int .i64 lv] w fun e w' => e = .returned (.int .i64 (sizeV n L lv : Nat)) ∧ w' = w) := pl_size h lv l0 l1
  clear h
  generalize sizeV n L lv = z at SZ ⊢
  by_cases a : 0 ≤ sl
  · have t1 : decide (0 ≤ sl) = true := by simpa using a
    have e : decide (0 ≤ sl ∧ sl < (z : Int)) = decide (sl < (z : Int)) := by
      by_cases b : sl < (z : Int)
      · rw [decide_eq_true b, decide_eq_true ⟨a, b⟩]
      · rw [decide_eq_false b, decide_eq_false (fun x => b x.2)]
    rw [e]
    obtain ⟨d, hd⟩ : ∃ d, decide (sl < (z : Int)) = d := ⟨_, rfl⟩
    rw [hd]
    clear e
    go_enter Try.func36, Try.ntmps36
    go_wp2_with fail
    refine Calls.mono SZ.out ?_
    rintro e w2 ⟨rfl, hw⟩
    have hw' : w = w2 := hw.symm
    subst hw'
    clear hw SZ
    go_wp2_with fail
    go_ret
    exact ⟨rfl, rfl⟩
  · have t1 : decide (0 ≤ sl) = false := by simpa using a
    rw [decide_eq_false (fun x => a x.1)]
    go_enter Try.func36, Try.ntmps36
    go_wp2_with fail
    go_ret
    exact ⟨rfl, rfl⟩
set_option maxRecDepth 10000 in
set_option maxHeartbeats 4000000 in
theorem pl_seg {w : World} {p : Nat} {S : Nat → Prop} {eps : Int} {f : Nat → Int} {n : Nat} {L : List (List Sg)} (h : HPile w p S eps f n L) (lv sl : Int) (l0 : -9223372036854775808 ≤ lv) (l1 : lv < 9223372036854775808) (s0 : -9223372036854775808 ≤ sl) (s1 : sl < 9223372036854775808) :
    Calls Try.prog 18 #[.pointer (some ⟨p, 0, none⟩), .int .i64 lv, .int .i64 sl] w fun e w' => e = .returned (sgV (segW L lv sl)) ∧ Gw w w' := by
  have HA : Hid (Calls Try.prog 36 #[.pointer (some ⟨p, 0, none⟩), .int .i64 lv, .int .i64 sl] (w.alloc (.cells #[.int .u64 0, .float .f64 0, .float .f64 0, .int .i64 0, .int .i64 0] 44)) fun e w' => e = .returned (.bool (decide (0 ≤ sl ∧ sl < (sizeV n L lv : Nat)))) ∧ w' = (w.alloc (.cells #[.int .u64 0, .float .f64 0, .float .f64 0, .int .i64 0, .int .i64 0] 44))) := pl_has (h.keep fun q hq => heap_alloc_old w _ (h.lt q hq)) lv sl l0 l1
  obtain ⟨ko, kc, lo, lc, h1, hk, hv⟩ := h.opened
  obtain ⟨c0, c1, c2⟩ := pl_cells h1
  have pl : p < w.heap.size := (Array.getElem?_eq_some_iff.1 h1).1
  have hl := h.sh.1
  obtain ⟨ln, hln⟩ : ∃ ln, L.length = ln := ⟨_, rfl⟩
  have LN : Aside (L.length = ln) := hln
  rw [hln] at c2 hl
  have HV : Aside (VS w lo L) := hv
  clear h h1 hk hv hln
  by_cases z : lv = 0
  · have e : segW L lv sl = sg0 := by unfold segW; rw [if_neg (fun x => by have := x.1.1; omega)]
    have t0 : (lv == 0) = true := by simpa using z
    rw [e]
    show Calls _ _ _ _ fun e w' => e = .returned (.agg #[.int .u64 0, .float .f64 0, .float .f64 0, .int .i64 0, .int .i64 0]) ∧ Gw w w'
    clear e z HA
    go_enter Try.func18, Try.ntmps18
    go_wp2_with fail
    exact bodyPost_ret (v := .agg #[.int .u64 0, .float .f64 0, .float .f64 0, .int .i64 0, .int .i64 0]) (by simp [results, Try.results18, go_sem]) rfl ⟨rfl, (Gw.refl w).alloc _ _⟩
  · have t0 : (lv == 0) = false := by simpa using z
    by_cases a : 0 ≤ sl ∧ sl < (sizeV n L lv : Nat)
    · rw [decide_eq_true a] at HA
      have b : 0 ≤ lv ∧ lv ≤ L.length := by
        by_cases x : 0 ≤ lv ∧ lv ≤ L.length
        · exact x
        · have := a.2; unfold sizeV at this; rw [if_neg x] at this; omega
      rw [LN.out] at b
      obtain ⟨i, hi⟩ : ∃ i : Nat, lv = (i : Int) + 1 := ⟨(lv - 1).toNat, by omega⟩
      have e : sizeV n L lv = (L.getD i []).length := by
        unfold sizeV
        rw [if_pos ⟨by omega, by rw [LN.out]; omega⟩, show lv.toNat = i + 1 by omega]
        rfl
      rw [e] at a
      obtain ⟨m, hm⟩ : ∃ m : Nat, sl = (m : Int) := ⟨sl.toNat, by omega⟩
      have e2 : segW L lv sl = (L.getD i []).getD m sg0 := by
        unfold segW
        rw [show lv.toNat - 1 = i by omega, if_pos ⟨⟨by omega, by rw [LN.out]; omega⟩, a.1, a.2⟩, show sl.toNat = m by omega]
      rw [e2]
      have w1 : IntKind.i64.wrap (lv - 1) = (i : Int) := by rw [IntKind.wrap_i64]; omega
      obtain ⟨lb, lf, rfl, hlb, hlc⟩ := HV.out.cells (by rw [LN.out]; omega)
      obtain ⟨so, sc, q1, _, _, q4⟩ := hlc i (by rw [LN.out]; omega)
      obtain ⟨gb, gf, rfl, hgb, hgc⟩ := q4.cells (by omega)
      have ck := hgc m (by omega)
      obtain ⟨sn, hsn⟩ : ∃ sn, (L.getD i []).length = sn := ⟨_, rfl⟩
      rw [hsn] at q1 a
      obtain ⟨⟨k, sp, ic, fr, te⟩, hs⟩ : ∃ s, (L.getD i []).getD m sg0 = s := ⟨_, rfl⟩
      rw [hs] at ck ⊢
      have k0 : w.cell? ⟨gb, gf + m * 5, none⟩ = some (.int .u64 k) := ck.c0
      have k1 : w.cell? ⟨gb, gf + m * 5 + 1, none⟩ = some (.float .f64 sp) := ck.c1
      have k2 : w.cell? ⟨gb, gf + m * 5 + 2, none⟩ = some (.float .f64 ic) := ck.c2
      have k3 : w.cell? ⟨gb, gf + m * 5 + 3, none⟩ = some (.int .i64 fr) := ck.c3
      have k4 : w.cell? ⟨gb, gf + m * 5 + 4, none⟩ = some (.int .i64 te) := ck.c4
      have il : i < ln := by omega
      have il' : (i : Int) < (ln : Int) := by omega
      have ml : m < sn := by omega
      have ml' : (m : Int) < (sn : Int) := by omega
      subst hm
      clear e z hlc hi ck hgc hs hsn q4 e2 b a
      go_enter Try.func18, Try.ntmps18
      go_wp2_with fail
      refine Calls.mono HA.out ?_
      rintro e w2 ⟨rfl, rfl⟩
      clear HA
      go_wp2_with fail
      exact bodyPost_ret (v := .agg #[.int .u64 k, .float .f64 sp, .float .f64 ic, .int .i64 fr, .int .i64 te]) (by simp [results, Try.results18, go_sem]) rfl ⟨rfl, (Gw.refl w).alloc _ _⟩
    · rw [decide_eq_false a] at HA
      have e : segW L lv sl = sg0 := by
        unfold segW
        refine if_neg (fun x => a ⟨x.2.1, ?_⟩)
        have y := x.2.2
        unfold sizeV
        rw [if_pos ⟨by omega, x.1.2⟩]
        unfold rowN
        rw [if_neg (by have := x.1.1; omega)]
        exact y
      rw [e]
      show Calls _ _ _ _ fun e w' => e = .returned (.agg #[.int .u64 0, .float .f64 0, .float .f64 0, .int .i64 0, .int .i64 0]) ∧ Gw w w'
      clear e z a
      go_enter Try.func18, Try.ntmps18
      go_wp2_with fail
      refine Calls.mono HA.out ?_
      rintro e w2 ⟨rfl, rfl⟩
      clear HA
      go_wp2_with fail
      exact bodyPost_ret (v := .agg #[.int .u64 0, .float .f64 0, .float .f64 0, .int .i64 0, .int .i64 0]) (by simp [results, Try.results18, go_sem]) rfl ⟨rfl, (Gw.refl w).alloc _ _⟩
set_option maxRecDepth 10000 in
set_option maxHeartbeats 4000000 in
theorem pl_key {w : World} {p : Nat} {S : Nat → Prop} {eps : Int} {f : Nat → Int} {n : Nat} {L : List (List Sg)} (h : HPile w p S eps f n L) (lv sl : Int) (l0 : -9223372036854775808 ≤ lv) (l1 : lv < 9223372036854775808) (s0 : -9223372036854775808 ≤ sl) (s1 : sl < 9223372036854775808) :
    Calls Try.prog 16 #[.pointer (some ⟨p, 0, none⟩), .int .i64 lv, .int .i64 sl] w fun e w' => e = .returned (.int .u64 (keyV f n L lv sl)) ∧ Gw w w' := by
  have HA : Hid (Calls Try.prog 36 #[.pointer (some ⟨p, 0, none⟩), .int .i64 0, .int .i64 sl] w fun e w' => e = .returned (.bool (decide (0 ≤ sl ∧ sl < (sizeV n L 0 : Nat)))) ∧ w' = w) := pl_has h 0 sl (by omega) (by omega)
  have SE : Hid (Calls Try.prog 18 #[.pointer (some ⟨p, 0, none⟩), .int .i64 lv, .int .i64 sl] w fun e w' => e = .returned (sgV (segW L lv sl)) ∧ Gw w w') := pl_seg h lv sl l0 l1 s0 s1
  obtain ⟨ko, kc, lo, lc, h1, hk, hv⟩ := h.opened
  obtain ⟨c0, c1, c2⟩ := pl_cells h1
  have pl : p < w.heap.size := (Array.getElem?_eq_some_iff.1 h1).1
  have hn := h.n1
  have z0 : sizeV n L 0 = n := by unfold sizeV; rw [if_pos ⟨Int.le_refl _, by omega⟩]; rfl
  rw [z0] at HA
  clear h h1 hv z0
  by_cases c : lv = 0 ∧ 0 ≤ sl ∧ sl < (n : Int)
  · obtain ⟨z, a⟩ := c
    rw [decide_eq_true a] at HA
    obtain ⟨m, hm⟩ : ∃ m : Nat, sl = (m : Int) := ⟨sl.toNat, by omega⟩
    have e : keyV f n L lv sl = f m := by
      unfold keyV
      rw [z, if_pos ⟨⟨Int.le_refl _, by omega⟩, a⟩, show sl.toNat = m by omega]
      rfl
    rw [e]
    have t0 : (lv == 0) = true := by simpa using z
    obtain ⟨kb, kf, rfl, hkb, hkc⟩ := hk.cells (by omega)
    have ck := hkc m (by omega)
    generalize f m = y at ck ⊢
    have ml : m < n := by omega
    have ml' : (m : Int) < (n : Int) := by omega
    subst hm
    clear e z a hkc hk SE
    go_enter Try.func16, Try.ntmps16
    go_wp2_with fail
    refine Calls.mono HA.out ?_
    rintro e w2 ⟨rfl, hw⟩
    have hw' : w = w2 := hw.symm
    subst hw'
    clear hw HA
    go_wp2_with fail
    go_ret
    exact ⟨rfl, Gw.refl w⟩
  · have e : keyV f n L lv sl = (segW L lv sl).k := by
      unfold keyV segW
      by_cases z : lv = 0
      · subst z
        rw [if_neg (fun x => c ⟨rfl, x.2⟩), if_neg (fun x => by have := x.1.1; omega)]
        rfl
      · by_cases x : (0 ≤ lv ∧ lv ≤ (L.length : Int)) ∧ 0 ≤ sl ∧ sl < (rowN n L lv.toNat : Int)
        · rw [if_pos x]
          obtain ⟨i, hi⟩ : ∃ i : Nat, lv = (i : Int) + 1 := ⟨(lv - 1).toNat, by omega⟩
          have e1 : lv.toNat = i + 1 := by omega
          rw [e1] at x ⊢
          rw [if_pos ⟨⟨by omega, x.1.2⟩, x.2⟩]
          rfl
        · rw [if_neg x]
          rw [if_neg (fun y => x ⟨⟨by omega, y.1.2⟩, y.2.1, by
            unfold rowN
            rw [if_neg (by have := y.1.1; omega)]
            exact y.2.2⟩)]
          rfl
    rw [e]
    obtain ⟨⟨k, sp, ic, fr, te⟩, hs⟩ : ∃ s, segW L lv sl = s := ⟨_, rfl⟩
    rw [hs] at SE ⊢
    clear e hs hk
    show Calls _ _ _ _ fun e w' => e = .returned (.int .u64 k) ∧ Gw w w'
    have fk : ∀ W : World, (Instr.field 44 (.agg #[.int .u64 k, .float .f64 sp, .float .f64 ic, .int .i64 fr, .int .i64 te]) 0).run Try.prog W = .ok (.int .u64 k) W := fun _ => by kernel_rfl
    by_cases z : lv = 0
    · have t0 : (lv == 0) = true := by simpa using z
      rw [decide_eq_false (fun x => c ⟨z, x⟩)] at HA
      clear z c
      go_enter Try.func16, Try.ntmps16
      go_wp2_with fail
      refine Calls.mono HA.out ?_
      rintro e w2 ⟨rfl, hw⟩
      have hw' : w = w2 := hw.symm
      subst hw'
      clear hw HA
      go_wp2_with fail
      refine Calls.mono SE.out ?_
      rintro e w3 ⟨rfl, g3⟩
      have G3 : Aside (Gw w w3) := g3
      clear g3 SE
      go_wp2_with fail
      go_ret
      exact ⟨rfl, G3.out⟩
    · have t0 : (lv == 0) = false := by simpa using z
      clear z c HA
      go_enter Try.func16, Try.ntmps16
      go_wp2_with fail
      refine Calls.mono SE.out ?_
      rintro e w3 ⟨rfl, g3⟩
      have G3 : Aside (Gw w w3) := g3
      clear g3 SE
      go_wp2_with fail
      go_ret
      exact ⟨rfl, G3.out⟩

end Go.Proofs.Ytapjipinceoaoaa

/- The slots' Key, Segment and Size, of levels and slots that there are. -/
namespace Go.Proofs.Ytapjipinceoaoaa
open Go.RowKit
set_option linter.unusedVariables false

theorem slv_set3 {w : World} {p : Nat} {ko : Option Addr} {n kc : Nat} {eps : Int} {lo : Option Addr} {ln lc : Nat} {va vb : Value} {wr : Bool} (h : w.heap[p]? = some (slV ko n kc eps lo ln lc va vb wr)) (u : Value) : (w.setCell ⟨p, 3, none⟩ u).heap[p]? = some (slV ko n kc eps lo ln lc u vb wr) := by
  unfold slV at *
  simp [World.setCell, Array.getElem?_modify, h]
theorem slv_set4 {w : World} {p : Nat} {ko : Option Addr} {n kc : Nat} {eps : Int} {lo : Option Addr} {ln lc : Nat} {va vb : Value} {wr : Bool} (h : w.heap[p]? = some (slV ko n kc eps lo ln lc va vb wr)) (u : Value) : (w.setCell ⟨p, 4, none⟩ u).heap[p]? = some (slV ko n kc eps lo ln lc va u wr) := by
  unfold slV at *
  simp [World.setCell, Array.getElem?_modify, h]
/-- One more was asked for: behind the append and the store. -/
theorem SL.asked {w w7 : World} {p : Nat} {S : Nat → Prop} {ko : Option Addr} {n kc : Nat} {eps : Int} {lo : Option Addr} {ln lc : Nat} {A B : List (Int × Int)} {wr : Bool} {va vb v' : Value} {x : Int × Int} {oc : Array Value} {ot : TypeId} (h1 : w.heap[p]? = some (slV ko n kc eps lo ln lc va vb wr)) (h3 : AR w vb B) (h4 : va.ownBlock ≠ some p) (h5 : vb.ownBlock ≠ some p) (h6 : ∀ q, va.ownBlock = some q → vb.ownBlock ≠ some q) (h7 : ∀ q, S q ↔ q = p ∨ va.ownBlock = some q ∨ vb.ownBlock = some q)
    (r1 : w7.ownsRow 0 54 2 v' (A.length + 1) (A.flatMap pr2 ++ pr2 x)) (r2 : (w.alloc (.cells oc ot)).grownBy w7 va.ownBlock) (r4 : v'.ownBlock = va.ownBlock ∨ v'.ownBlock = some (w.heap.size + 1)) :
    (w7.heap[p]? = some (slV ko n kc eps lo ln lc va vb wr)) ∧ SL (w7.setCell ⟨p, 3, none⟩ v') p (fun q => q = p ∨ v'.ownBlock = some q ∨ vb.ownBlock = some q) ko n kc eps lo ln lc (A ++ [x]) B wr ∧ (∀ q, (q = p ∨ v'.ownBlock = some q ∨ vb.ownBlock = some q) → S q ∨ w.heap.size ≤ q) ∧ Gs S w (w7.setCell ⟨p, 3, none⟩ v') := by
  have pl : p < w.heap.size := (Array.getElem?_eq_some_iff.1 h1).1
  have keep : ∀ q, q < w.heap.size → va.ownBlock ≠ some q → w7.heap[q]? = w.heap[q]? := fun q hq hn => (r2.block q (by simp; omega) (fun e => hn e.symm)).trans (heap_alloc_old w _ hq)
  have p7 : w7.heap[p]? = some (slV ko n kc eps lo ln lc va vb wr) := (keep p pl h4).trans h1
  have vp : v'.ownBlock ≠ some p := by
    rcases r4 with r | r
    · rw [r]; exact h4
    · rw [r]; intro e; have : w.heap.size + 1 = p := by simpa using e
      omega
  have vbq : ∀ q, vb.ownBlock = some q → q < w.heap.size := fun q hq => ar_lt h3 q hq
  refine ⟨p7, ⟨v', vb, slv_set3 p7 v', ?_, ?_, vp, h5, ?_, fun q => Iff.rfl⟩, ?_, ?_⟩
  · have : AR w7 v' (A ++ [x]) := by
      show World.ownsRow _ _ _ _ _ _ _
      rw [List.length_append, pflat_one]
      exact r1
    exact ar_keep this fun q hq => Go.Deep.blk_setCell_other _ _ _ _ (fun e => vp (by have e' : q = p := e; rw [← e']; exact hq))
  · refine ar_keep h3 fun q hq => ?_
    refine (Go.Deep.blk_setCell_other _ _ _ _ (fun e => h5 (by have e' : q = p := e; rw [← e']; exact hq))).trans (keep q (vbq q hq) (fun e => h6 q e hq))
  · intro q hq e
    rcases r4 with r | r
    · rw [r] at hq; exact h6 q hq e
    · rw [r] at hq; have : w.heap.size + 1 = q := by simpa using hq
      have := vbq q e; omega
  · rintro q (e | e | e)
    · exact .inl ((h7 q).2 (.inl e))
    · rcases r4 with r | r
      · rw [r] at e; exact .inl ((h7 q).2 (.inr (.inl e)))
      · rw [r] at e; have : w.heap.size + 1 = q := by simpa using e
        exact .inr (by omega)
    · exact .inl ((h7 q).2 (.inr (.inr e)))
  · refine ⟨?_, ?_, ?_, ?_, fun q hq hs => ?_⟩
    · exact r2.os
    · exact r2.tape
    · exact r2.output
    · have := r2.size; simp at this ⊢; omega
    · refine (Go.Deep.blk_setCell_other _ _ _ _ (fun e => hs ((h7 q).2 (.inl e)))).trans (keep q hq (fun e => hs ((h7 q).2 (.inr (.inl e)))))

/-- One more segment was asked for. -/
theorem SL.segged {w w7 : World} {p : Nat} {S : Nat → Prop} {ko : Option Addr} {n kc : Nat} {eps : Int} {lo : Option Addr} {ln lc : Nat} {A B : List (Int × Int)} {wr : Bool} {va vb v' : Value} {x : Int × Int} {oc : Array Value} {ot : TypeId} (h1 : w.heap[p]? = some (slV ko n kc eps lo ln lc va vb wr)) (h3 : AR w va A) (h4 : va.ownBlock ≠ some p) (h5 : vb.ownBlock ≠ some p) (h6 : ∀ q, va.ownBlock = some q → vb.ownBlock ≠ some q) (h7 : ∀ q, S q ↔ q = p ∨ va.ownBlock = some q ∨ vb.ownBlock = some q)
    (r1 : w7.ownsRow 0 54 2 v' (B.length + 1) (B.flatMap pr2 ++ pr2 x)) (r2 : (w.alloc (.cells oc ot)).grownBy w7 vb.ownBlock) (r4 : v'.ownBlock = vb.ownBlock ∨ v'.ownBlock = some (w.heap.size + 1)) :
    (w7.heap[p]? = some (slV ko n kc eps lo ln lc va vb wr)) ∧ SL (w7.setCell ⟨p, 4, none⟩ v') p (fun q => q = p ∨ va.ownBlock = some q ∨ v'.ownBlock = some q) ko n kc eps lo ln lc A (B ++ [x]) wr ∧ (∀ q, (q = p ∨ va.ownBlock = some q ∨ v'.ownBlock = some q) → S q ∨ w.heap.size ≤ q) ∧ Gs S w (w7.setCell ⟨p, 4, none⟩ v') := by
  have pl : p < w.heap.size := (Array.getElem?_eq_some_iff.1 h1).1
  have keep : ∀ q, q < w.heap.size → vb.ownBlock ≠ some q → w7.heap[q]? = w.heap[q]? := fun q hq hn => (r2.block q (by simp; omega) (fun e => hn e.symm)).trans (heap_alloc_old w _ hq)
  have p7 : w7.heap[p]? = some (slV ko n kc eps lo ln lc va vb wr) := (keep p pl h5).trans h1
  have vp : v'.ownBlock ≠ some p := by
    rcases r4 with r | r
    · rw [r]; exact h5
    · rw [r]; intro e; have : w.heap.size + 1 = p := by simpa using e
      omega
  have vaq : ∀ q, va.ownBlock = some q → q < w.heap.size := fun q hq => ar_lt h3 q hq
  refine ⟨p7, ⟨va, v', slv_set4 p7 v', ?_, ?_, h4, vp, ?_, fun q => Iff.rfl⟩, ?_, ?_⟩
  · refine ar_keep h3 fun q hq => ?_
    refine (Go.Deep.blk_setCell_other _ _ _ _ (fun e => h4 (by have e' : q = p := e; rw [← e']; exact hq))).trans (keep q (vaq q hq) (fun e => h6 q hq e))
  · have : AR w7 v' (B ++ [x]) := by
      show World.ownsRow _ _ _ _ _ _ _
      rw [List.length_append, pflat_one]
      exact r1
    exact ar_keep this fun q hq => Go.Deep.blk_setCell_other _ _ _ _ (fun e => vp (by have e' : q = p := e; rw [← e']; exact hq))
  · intro q hq e
    rcases r4 with r | r
    · rw [r] at e; exact h6 q hq e
    · rw [r] at e; have : w.heap.size + 1 = q := by simpa using e
      have := vaq q hq; omega
  · rintro q (e | e | e)
    · exact .inl ((h7 q).2 (.inl e))
    · exact .inl ((h7 q).2 (.inr (.inl e)))
    · rcases r4 with r | r
      · rw [r] at e; exact .inl ((h7 q).2 (.inr (.inr e)))
      · rw [r] at e; have : w.heap.size + 1 = q := by simpa using e
        exact .inr (by omega)
  · refine ⟨?_, ?_, ?_, ?_, fun q hq hs => ?_⟩
    · exact r2.os
    · exact r2.tape
    · exact r2.output
    · have := r2.size; simp at this ⊢; omega
    · refine (Go.Deep.blk_setCell_other _ _ _ _ (fun e => hs ((h7 q).2 (.inl e)))).trans (keep q hq (fun e => hs ((h7 q).2 (.inr (.inr e)))))

set_option maxRecDepth 10000 in
set_option maxHeartbeats 4000000 in
theorem sl_key {w0 w : World} {p : Nat} {S : Nat → Prop} {ko : Option Addr} {n kc : Nat} {f : Nat → Int} {eps : Int} {lo : Option Addr} {lc : Nat} {L : List (List Sg)} {ln : Nat} {A B : List (Int × Int)} {wr : Bool} (hk : KS w0 ko n f) (hv : VS w0 lo L) (hl : L.length = ln) (hln : ln ≤ 2000000) (g0 : Gw w0 w) (hS : ∀ q, S q → w0.heap.size ≤ q) (h : SL w p S ko n kc eps lo ln lc A B wr) (la : A.length ≤ 2000000000) (a sl : Nat) (ha : a ≤ ln) (hs : sl < rowN n L a) :
    Calls Try.prog 17 #[.pointer (some ⟨p, 0, none⟩), .int .i64 (a : Int), .int .i64 (sl : Int)] w fun ex w' => (∃ S', ex = .returned (.int .u64 (rowF f L a sl)) ∧ SL w' p S' ko n kc eps lo ln lc (A ++ [((a : Int), (sl : Int))]) B wr ∧ ∀ q, S' q → S q ∨ w.heap.size ≤ q) ∧ Gs S w w' := by
  obtain ⟨va, vb, h1, h2, h3, h4, h5, h6, h7⟩ := h.blk
  obtain ⟨c0, c1, c2, c3, c4, c5⟩ := slv_cells h1
  have f3 := slv_fz h1 3
  have pl : p < w.heap.size := (Array.getElem?_eq_some_iff.1 h1).1
  obtain ⟨ii, hii, hz, hs', hby⟩ := info_parts info_p2
  have A2 : Aside ((w.alloc (.cells #[.int .i64 (a : Int), .int .i64 (sl : Int)] 54)).ownsRow 0 54 2 va A.length (A.flatMap pr2)) := World.ownsRow.alloc h2 _
  have NW : Aside (∀ j u, (pr2 ((a : Int), (sl : Int)))[j]? = some u → (w.alloc (.cells #[.int .i64 (a : Int), .int .i64 (sl : Int)] 54)).cell? ((⟨w.heap.size, 0, none⟩ : Addr).add j) = some u) := World.news_of_block (heap_alloc_new w _)
  have H1 : Aside (w.heap[p]? = some (slV ko n kc eps lo ln lc va vb wr)) := h1
  have H3 : Aside (AR w vb B) := h3
  have H4 : Aside (va.ownBlock ≠ some p) := h4
  have H5 : Aside (vb.ownBlock ≠ some p) := h5
  have H6 : Aside (∀ q, va.ownBlock = some q → vb.ownBlock ≠ some q) := h6
  have H7 : Aside (∀ q, S q ↔ q = p ∨ va.ownBlock = some q ∨ vb.ownBlock = some q) := h7
  have HK : Aside (KS w0 ko n f) := hk
  have HV : Aside (VS w0 lo L) := hv
  have HS : Aside (∀ q, S q → w0.heap.size ≤ q) := hS
  have G0 : Aside (Gw w0 w) := g0
  have LN : Aside (L.length = ln) := hl
  have LA : Aside (A.length ≤ 2000000000) := la
  have RB : Aside (sl < rowN n L a) := hs
  obtain ⟨y, hy⟩ : ∃ y, rowF f L a sl = y := ⟨_, rfl⟩
  have YV : Aside (rowF f L a sl = y) := hy
  rw [hy]
  clear h1 h2 h3 h4 h5 h6 h7 hk hv hS g0 hl la hs h hy
  go_enter Try.func17, Try.ntmps17
  go_wp2_with (at_builtin; refine wpList_append_own_at _ rfl _ _ 46 rfl 0 54 ii (.agg #[.int .i64 0, .int .i64 0]) 2 16 Try.underlying46 hii hz hs' hby rfl (by decide) _ A.length _ rfl A2.out ⟨w.heap.size, 0, none⟩ 1 1 (pr2 ((a : Int), (sl : Int))) rfl rfl NW.out (pr2_one _) (by have := LA.out; simp only [maxLen]; omega) (by have := LA.out; omega) (by simp) ?_)
  intro v' w7 r1 r2 r3 r4
  obtain ⟨b8, cap8, ev, _, _, _⟩ := own_slice r1 (by simpa using r3)
  obtain ⟨p7, SL8, SU8, GS8⟩ := SL.asked H1.out H3.out H4.out H5.out H6.out H7.out r1 r2 (by simpa using r4)
  have d3 := (slv_cells p7).2.2.2.1
  have g3 := slv_fz p7 3
  have pl7 : p < w7.heap.size := (Array.getElem?_eq_some_iff.1 p7).1
  have RES : Aside ((∃ S', SL (w7.setCell ⟨p, 3, none⟩ v') p S' ko n kc eps lo ln lc (A ++ [((a : Int), (sl : Int))]) B wr ∧ ∀ q, S' q → S q ∨ w.heap.size ≤ q) ∧ Gs S w (w7.setCell ⟨p, 3, none⟩ v')) := ⟨⟨_, SL8, SU8⟩, GS8⟩
  obtain ⟨c0, _, c2, _, _, _⟩ := slv_cells (slv_set3 p7 v')
  have G8 : Aside (Gw w0 (w7.setCell ⟨p, 3, none⟩ v')) := ⟨⟨GS8.os.trans G0.out.below.os, GS8.tape.trans G0.out.below.tape, GS8.output.trans G0.out.below.output, Nat.le_trans G0.out.below.size GS8.size, fun q hq => (GS8.block q (Nat.lt_of_lt_of_le hq G0.out.below.size) (fun s => by have := HS.out q s; omega)).trans (G0.out.below.block q hq)⟩⟩
  have pl8 : p < (w7.setCell ⟨p, 3, none⟩ v').heap.size := by simpa using pl7
  clear r1 r2 r3 r4 SL8 SU8 GS8 p7 A2 NW
  subst ev
  have n1 : decide ((a : Int) < 0) = false := by simp
  have n2 : decide ((ln : Int) < (a : Int)) = false := by simp; omega
  have n2' : ¬ ln < a := by omega
  have n3 : decide ((sl : Int) < 0) = false := by simp
  by_cases az : a = 0
  · have RB' : sl < n := by have := RB.out; rw [az] at this; exact this
    have RV : f sl = y := by have := YV.out; rw [az] at this; exact this
    have m1 : ((a : Int) == 0) = true := by simpa using az
    have m2 : ¬ 0 < a := by omega
    have m2' : decide ((0 : Int) < (a : Int)) = false := by simp; omega
    obtain ⟨kb, kf, rfl, hkb, hkc⟩ := (HK.out.gw G8.out).cells (by omega)
    have ck := hkc sl RB'
    rw [RV] at ck
    have n4 : decide ((n : Int) ≤ (sl : Int)) = false := by simp; omega
    have n4' : ¬ n ≤ sl := by omega
    have n5 : (sl : Int) < (n : Int) := by omega
    clear hkc az RV
    go_wp2_with fail
    go_ret
    obtain ⟨⟨S', e1, e2⟩, e3⟩ := RES.out
    exact ⟨⟨S', rfl, e1, e2⟩, e3⟩
  · obtain ⟨a', ea⟩ : ∃ a', a = a' + 1 := ⟨a - 1, by omega⟩
    have RB' : sl < (L.getD a' []).length := by have := RB.out; rw [ea] at this; exact this
    have RV : fst8 (L.getD a' []) sl = y := by have := YV.out; rw [ea] at this; exact this
    have m1 : ((a : Int) == 0) = false := by simpa using az
    have m2 : 0 < a := by omega
    have m2' : decide ((0 : Int) < (a : Int)) = true := by simp; omega
    have aw : IntKind.i64.wrap ((a : Int) - 1) = (a' : Int) := by rw [IntKind.wrap_i64]; omega
    obtain ⟨lb, lf, rfl, hlb, hlc⟩ := (HV.out.gw G8.out).cells (by rw [LN.out]; omega)
    obtain ⟨so, sc, q1, _, _, q4⟩ := hlc a' (by rw [LN.out]; omega)
    obtain ⟨gb, gf, rfl, hgb, hgc⟩ := q4.cells (by omega)
    have ck := (hgc sl RB').c0
    have ck' : (w7.setCell ⟨p, 3, none⟩ (.slice (some ⟨b8, 0, none⟩) (A.length + 1) cap8)).cell? ⟨gb, gf + sl * 5, none⟩ = some (.int .u64 y) := by rw [← RV]; exact ck
    obtain ⟨sn, hsn⟩ : ∃ sn, (L.getD a' []).length = sn := ⟨_, rfl⟩
    rw [hsn] at q1 RB'
    have a'l : a' < ln := by omega
    have a'i : (a' : Int) < (ln : Int) := by omega
    have n4 : decide ((sn : Int) ≤ (sl : Int)) = false := by simp; omega
    have n4' : ¬ sn ≤ sl := by omega
    have n5 : (sl : Int) < (sn : Int) := by omega
    clear hlc hgc ck q4 az ea RV hsn
    go_wp2_with fail
    go_ret
    obtain ⟨⟨S', e1, e2⟩, e3⟩ := RES.out
    exact ⟨⟨S', rfl, e1, e2⟩, e3⟩

set_option maxRecDepth 10000 in
set_option maxHeartbeats 4000000 in
theorem sl_size {w : World} {p : Nat} {S : Nat → Prop} {ko : Option Addr} {n kc : Nat} {eps : Int} {lo : Option Addr} {lc : Nat} {L : List (List Sg)} {ln : Nat} {A B : List (Int × Int)} {wr : Bool} (hv : VS w lo L) (hl : L.length = ln) (hln : ln ≤ 2000000) (h : SL w p S ko n kc eps lo ln lc A B wr) (a : Nat) (ha : a ≤ ln) :
    Calls Try.prog 15 #[.pointer (some ⟨p, 0, none⟩), .int .i64 (a : Int)] w fun ex w' => ex = .returned (.int .i64 (rowN n L a : Nat)) ∧ Gw w w' := by
  obtain ⟨va, vb, h1, _⟩ := h.blk
  obtain ⟨c0, c1, c2, c3, c4, c5⟩ := slv_cells h1
  have pl : p < w.heap.size := (Array.getElem?_eq_some_iff.1 h1).1
  have n1 : decide ((a : Int) < 0) = false := by simp
  have n2 : decide ((ln : Int) < (a : Int)) = false := by simp; omega
  have n2' : ¬ ln < a := by omega
  by_cases az : a = 0
  · have RV : rowN n L a = n := by rw [az]; rfl
    have m1 : ((a : Int) == 0) = true := by simpa using az
    rw [RV]
    clear az RV h1 hv h
    go_enter Try.func15, Try.ntmps15
    go_wp2_with fail
    go_ret
    exact ⟨rfl, Gw.refl _⟩
  · obtain ⟨a', ea⟩ : ∃ a', a = a' + 1 := ⟨a - 1, by omega⟩
    have RV : rowN n L a = (L.getD a' []).length := by rw [ea]; rfl
    have m1 : ((a : Int) == 0) = false := by simpa using az
    have aw : IntKind.i64.wrap ((a : Int) - 1) = (a' : Int) := by rw [IntKind.wrap_i64]; omega
    obtain ⟨lb, lf, rfl, hlb, hlc⟩ := hv.cells (by omega)
    obtain ⟨so, sc, q1, _, _, _⟩ := hlc a' (by omega)
    rw [RV]
    generalize (L.getD a' []).length = sn at q1 ⊢
    have a'l : a' < ln := by omega
    have a'i : (a' : Int) < (ln : Int) := by omega
    clear az RV h1 hv h hlc ea
    go_enter Try.func15, Try.ntmps15
    go_wp2_with fail
    go_ret
    exact ⟨rfl, Gw.refl _⟩

end Go.Proofs.Ytapjipinceoaoaa

/- The slots' Segment, of levels and slots that there are. -/
namespace Go.Proofs.Ytapjipinceoaoaa
open Go.RowKit
set_option linter.unusedVariables false
attribute [local go_sem] run_store_float

set_option maxRecDepth 10000 in
set_option maxHeartbeats 4000000 in
theorem sl_seg {w0 w : World} {p : Nat} {S : Nat → Prop} {ko : Option Addr} {n kc : Nat} {eps : Int} {lo : Option Addr} {lc : Nat} {L : List (List Sg)} {ln : Nat} {A B : List (Int × Int)} {wr : Bool} (hv : VS w0 lo L) (hl : L.length = ln) (hln : ln ≤ 2000000) (g0 : Gw w0 w) (hS : ∀ q, S q → w0.heap.size ≤ q) (h : SL w p S ko n kc eps lo ln lc A B wr) (lb : B.length ≤ 2000000000) (a sl : Nat) (ha : a < ln) (hs : sl < (L.getD a []).length) :
    Calls Try.prog 19 #[.pointer (some ⟨p, 0, none⟩), .int .i64 ((a : Int) + 1), .int .i64 (sl : Int)] w fun ex w' => (∃ S', ex = .returned (sgV ((L.getD a []).getD sl sg0)) ∧ SL w' p S' ko n kc eps lo ln lc A (B ++ [((a : Int) + 1, (sl : Int))]) wr ∧ ∀ q, S' q → S q ∨ w.heap.size ≤ q) ∧ Gs S w w' := by
  obtain ⟨wz, hwz⟩ : ∃ wz, w.alloc (.cells #[.int .u64 0, .float .f64 0, .float .f64 0, .int .i64 0, .int .i64 0] 44) = wz := ⟨_, rfl⟩
  have gz : Gw w wz := by rw [← hwz]; exact (Gw.refl w).alloc _ _
  have bz : wz.heap[w.heap.size]? = some (.cells #[.int .u64 0, .float .f64 0, .float .f64 0, .int .i64 0, .int .i64 0] 44 (0, 0)) := by rw [← hwz]; exact heap_alloc_new w _
  have zz : wz.heap.size = w.heap.size + 1 := by rw [← hwz]; simp
  have hlt : ∀ q, S q → q < w.heap.size := h.lt
  obtain ⟨va, vb, h1, h2, h3, h4, h5, h6, h7⟩ := (h.gw gz).blk
  obtain ⟨c0, c1, c2, c3, c4, c5⟩ := slv_cells h1
  have f4 := slv_fz h1 4
  have pl : p < wz.heap.size := (Array.getElem?_eq_some_iff.1 h1).1
  have prb : p ≠ w.heap.size := by have := hlt p h.self; omega
  obtain ⟨ii, hii, hz, hs', hby⟩ := info_parts info_p2
  have A2 : Aside ((wz.alloc (.cells #[.int .i64 ((a : Int) + 1), .int .i64 (sl : Int)] 54)).ownsRow 0 54 2 vb B.length (B.flatMap pr2)) := World.ownsRow.alloc h3 _
  have NW : Aside (∀ j u, (pr2 ((a : Int) + 1, (sl : Int)))[j]? = some u → (wz.alloc (.cells #[.int .i64 ((a : Int) + 1), .int .i64 (sl : Int)] 54)).cell? ((⟨wz.heap.size, 0, none⟩ : Addr).add j) = some u) := World.news_of_block (heap_alloc_new wz _)
  have H1 : Aside (wz.heap[p]? = some (slV ko n kc eps lo ln lc va vb wr)) := h1
  have H2 : Aside (AR wz va A) := h2
  have H4 : Aside (va.ownBlock ≠ some p) := h4
  have H5 : Aside (vb.ownBlock ≠ some p) := h5
  have H6 : Aside (∀ q, va.ownBlock = some q → vb.ownBlock ≠ some q) := h6
  have H7 : Aside (∀ q, S q ↔ q = p ∨ va.ownBlock = some q ∨ vb.ownBlock = some q) := h7
  have HV : Aside (VS w0 lo L) := hv
  have HS : Aside (∀ q, S q → w0.heap.size ≤ q) := hS
  have HT : Aside (∀ q, S q → q < w.heap.size) := hlt
  have G0 : Aside (Gw w0 wz) := g0.trans gz
  have G00 : Aside (w0.heap.size ≤ w.heap.size) := g0.size
  have GZ : Aside (Gw w wz) := gz
  have BZ : Aside (wz.heap[w.heap.size]? = some (.cells #[.int .u64 0, .float .f64 0, .float .f64 0, .int .i64 0, .int .i64 0] 44 (0, 0))) := bz
  have ZZ : Aside (wz.heap.size = w.heap.size + 1) := zz
  have LN : Aside (L.length = ln) := hl
  have LB : Aside (B.length ≤ 2000000000) := lb
  have RB : Aside (sl < (L.getD a []).length) := hs
  obtain ⟨⟨k, sp, ic, fr, te⟩, hy⟩ : ∃ y, (L.getD a []).getD sl sg0 = y := ⟨_, rfl⟩
  have YV : Aside ((L.getD a []).getD sl sg0 = ⟨k, sp, ic, fr, te⟩) := hy
  rw [hy]
  obtain ⟨rb, hrb⟩ : ∃ rb, w.heap.size = rb := ⟨_, rfl⟩
  have RBE : Aside (w.heap.size = rb) := hrb
  rw [hrb] at prb
  clear h1 h2 h3 h4 h5 h6 h7 hv hS g0 hl lb hs h hy gz bz zz hlt
  have n1 : decide ((a : Int) + 1 < 1) = false := by simp; omega
  have n2 : decide ((ln : Int) < (a : Int) + 1) = false := by simp; omega
  have n3 : decide ((sl : Int) < 0) = false := by simp
  have aw : IntKind.i64.wrap ((a : Int) + 1 - 1) = (a : Int) := by rw [IntKind.wrap_i64]; omega
  go_enter Try.func19, Try.ntmps19
  go_wp2_with (at_builtin; refine wpList_append_own_at _ rfl _ _ 46 rfl 0 54 ii (.agg #[.int .i64 0, .int .i64 0]) 2 16 Try.underlying46 hii hz hs' hby rfl (by decide) _ B.length _ rfl A2.out ⟨wz.heap.size, 0, none⟩ 1 1 (pr2 ((a : Int) + 1, (sl : Int))) rfl rfl NW.out (pr2_one _) (by have := LB.out; simp only [maxLen]; omega) (by have := LB.out; omega) (by simp) ?_)
  intro v' w7 r1 r2 r3 r4
  obtain ⟨b8, cap8, ev, _, _, _⟩ := own_slice r1 (by simpa using r3)
  obtain ⟨p7, SL8, SU8, GS8⟩ := SL.segged H1.out H2.out H4.out H5.out H6.out H7.out r1 r2 (by simpa using r4)
  have d4 := (slv_cells p7).2.2.2.2.1
  have g4 := slv_fz p7 4
  have pl7 : p < w7.heap.size := (Array.getElem?_eq_some_iff.1 p7).1
  have b8p := slv_set4 p7 v'
  obtain ⟨w8, hw8⟩ : ∃ w8, w7.setCell ⟨p, 4, none⟩ v' = w8 := ⟨_, rfl⟩
  rw [hw8] at SL8 GS8 b8p
  obtain ⟨c0', _, c2', _, _, _⟩ := slv_cells b8p
  have pl8 : p < w8.heap.size := (Array.getElem?_eq_some_iff.1 b8p).1
  have G8 : Aside (Gw w0 w8) := ⟨⟨GS8.os.trans G0.out.below.os, GS8.tape.trans G0.out.below.tape, GS8.output.trans G0.out.below.output, Nat.le_trans G0.out.below.size GS8.size, fun q hq => (GS8.block q (Nat.lt_of_lt_of_le hq G0.out.below.size) (fun s => by have := HS.out q s; omega)).trans (G0.out.below.block q hq)⟩⟩
  have Z8 : Aside (w8.heap[rb]? = some (.cells #[.int .u64 0, .float .f64 0, .float .f64 0, .int .i64 0, .int .i64 0] 44 (0, 0))) := by
    have e := GS8.block rb (by rw [ZZ.out, RBE.out]; omega) (fun e => by have := HT.out rb e; rw [RBE.out] at this; omega)
    have z := BZ.out
    rw [RBE.out] at z
    exact e.trans z
  have rl8 : rb < w8.heap.size := (Array.getElem?_eq_some_iff.1 Z8.out).1
  have y0 : w8.cell? ⟨rb, 0, none⟩ = some (.int .u64 0) := by have := Z8.out; simp [World.cell?, this]
  have y1 : w8.cell? ⟨rb, 1, none⟩ = some (.float .f64 0) := by have := Z8.out; simp [World.cell?, this]
  have y2 : w8.cell? ⟨rb, 2, none⟩ = some (.float .f64 0) := by have := Z8.out; simp [World.cell?, this]
  have y3 : w8.cell? ⟨rb, 3, none⟩ = some (.int .i64 0) := by have := Z8.out; simp [World.cell?, this]
  have y4 : w8.cell? ⟨rb, 4, none⟩ = some (.int .i64 0) := by have := Z8.out; simp [World.cell?, this]
  have fz : ∀ o, w8.frozen? ⟨rb, o, none⟩ = false := fun o => by have := Z8.out; simp [World.frozen?, this]
  have fz0 := fz 0
  have fz1 := fz 1
  have fz2 := fz 2
  have fz3 := fz 3
  have fz4 := fz 4
  obtain ⟨w9, hw9⟩ : ∃ w9, ((((w8.setCell ⟨rb, 0, none⟩ (.int .u64 k)).setCell ⟨rb, 1, none⟩ (.float .f64 sp)).setCell ⟨rb, 2, none⟩ (.float .f64 ic)).setCell ⟨rb, 3, none⟩ (.int .i64 fr)).setCell ⟨rb, 4, none⟩ (.int .i64 te) = w9 := ⟨_, rfl⟩
  have sb : ∀ {W : World} {cs : Array Value} {t : TypeId}, W.heap[rb]? = some (.cells cs t (0, 0)) → ∀ (o : Nat) (u : Value), (W.setCell ⟨rb, o, none⟩ u).heap[rb]? = some (.cells (cs.setIfInBounds o u) t (0, 0)) := fun h o u => by simp [World.setCell, Array.getElem?_modify, h]
  have Z9 : w9.heap[rb]? = some (.cells #[.int .u64 k, .float .f64 sp, .float .f64 ic, .int .i64 fr, .int .i64 te] 44 (0, 0)) := by
    rw [← hw9]
    exact sb (sb (sb (sb (sb Z8.out 0 (.int .u64 k)) 1 (.float .f64 sp)) 2 (.float .f64 ic)) 3 (.int .i64 fr)) 4 (.int .i64 te)
  have N9 : ∀ q, q ≠ rb → w9.heap[q]? = w8.heap[q]? := fun q hq => by
    rw [← hw9, Go.Deep.blk_setCell_other _ _ _ _ hq, Go.Deep.blk_setCell_other _ _ _ _ hq, Go.Deep.blk_setCell_other _ _ _ _ hq, Go.Deep.blk_setCell_other _ _ _ _ hq, Go.Deep.blk_setCell_other _ _ _ _ hq]
  have M9 : w9.os = w8.os ∧ w9.tape = w8.tape ∧ w9.output = w8.output ∧ w9.heap.size = w8.heap.size := by rw [← hw9]; exact ⟨rfl, rfl, rfl, by simp⟩
  have RES : Aside ((∃ S', SL w9 p S' ko n kc eps lo ln lc A (B ++ [((a : Int) + 1, (sl : Int))]) wr ∧ ∀ q, S' q → S q ∨ w.heap.size ≤ q) ∧ Gs S w w9) := by
    refine ⟨⟨_, SL8.keep fun q hq => N9 q ?_, fun q hq => ?_⟩, ?_⟩
    · rcases SU8 q hq with e | e
      · have := HT.out q e; rw [RBE.out] at this; omega
      · rw [ZZ.out, RBE.out] at e; omega
    · rcases SU8 q hq with e | e
      · exact .inl e
      · rw [ZZ.out] at e; exact .inr (by omega)
    · refine ⟨M9.1.trans (GS8.os.trans GZ.out.below.os), M9.2.1.trans (GS8.tape.trans GZ.out.below.tape), M9.2.2.1.trans (GS8.output.trans GZ.out.below.output), by rw [M9.2.2.2]; exact Nat.le_trans GZ.out.size GS8.size, fun q hq hs => ?_⟩
      rw [RBE.out] at hq
      exact (N9 q (by omega)).trans ((GS8.block q (by rw [ZZ.out, RBE.out]; omega) hs).trans (GZ.out.below.block q (by rw [RBE.out]; exact hq)))
  have x0 : w9.cell? ⟨rb, 0, none⟩ = some (.int .u64 k) := by simp [World.cell?, Z9]
  have x1 : w9.cell? ⟨rb, 1, none⟩ = some (.float .f64 sp) := by simp [World.cell?, Z9]
  have x2 : w9.cell? ⟨rb, 2, none⟩ = some (.float .f64 ic) := by simp [World.cell?, Z9]
  have x3 : w9.cell? ⟨rb, 3, none⟩ = some (.int .i64 fr) := by simp [World.cell?, Z9]
  have x4 : w9.cell? ⟨rb, 4, none⟩ = some (.int .i64 te) := by simp [World.cell?, Z9]
  have rl9 : rb < w9.heap.size := by rw [M9.2.2.2]; exact rl8
  obtain ⟨lb, lf, rfl, hlb, hlc⟩ := (HV.out.gw G8.out).cells (by rw [LN.out]; omega)
  obtain ⟨so, sc, q1, _, _, q4⟩ := hlc a (by rw [LN.out]; omega)
  obtain ⟨gb, gf, rfl, hgb, hgc⟩ := q4.cells (by have := RB.out; omega)
  have ck := hgc sl RB.out
  rw [YV.out] at ck
  have k0 : w8.cell? ⟨gb, gf + sl * 5, none⟩ = some (.int .u64 k) := ck.c0
  have k1 : w8.cell? ⟨gb, gf + sl * 5 + 1, none⟩ = some (.float .f64 sp) := ck.c1
  have k2 : w8.cell? ⟨gb, gf + sl * 5 + 2, none⟩ = some (.float .f64 ic) := ck.c2
  have k3 : w8.cell? ⟨gb, gf + sl * 5 + 3, none⟩ = some (.int .i64 fr) := ck.c3
  have k4 : w8.cell? ⟨gb, gf + sl * 5 + 4, none⟩ = some (.int .i64 te) := ck.c4
  obtain ⟨sn, hsn⟩ : ∃ sn, (L.getD a []).length = sn := ⟨_, rfl⟩
  have rb' : sl < sn := by rw [← hsn]; exact RB.out
  rw [hsn] at q1
  have ai : (a : Int) < (ln : Int) := by omega
  have n4 : decide ((sn : Int) ≤ (sl : Int)) = false := by simp; omega
  have n5 : (sl : Int) < (sn : Int) := by omega
  clear r1 r2 r3 r4 SL8 SU8 GS8 p7 A2 NW b8p hlc hgc ck q4 hsn sb Z9 N9 M9 fz c0 c1 c2 c3 c4 c5 c0'
  subst ev
  go_wp2_with fail
  obtain ⟨⟨S', e1, e2⟩, e3⟩ := RES.out
  exact bodyPost_ret (v := .agg #[.int .u64 k, .float .f64 sp, .float .f64 ic, .int .i64 fr, .int .i64 te]) (by simp [results, Try.results19, go_sem, x0, x1, x2, x3, x4]) rfl ⟨⟨S', rfl, e1, e2⟩, e3⟩

end Go.Proofs.Ytapjipinceoaoaa

/- What is descended: a pile, and the statements' slots; Find and Path over both. -/
namespace Go.Proofs.Ytapjipinceoaoaa
open Go.RowKit
set_option linter.unusedVariables false

theorem vs_ok {w : World} {lo : Option Addr} {L : List (List Sg)} (h : VS w lo L) : ∀ i, i < L.length → ∀ j, j < (L.getD i []).length → ((L.getD i []).getD j sg0).ok := fun i hi j hj => by
  obtain ⟨b, off, _, _, hc⟩ := h.cells (by omega)
  obtain ⟨bo, c, _, _, _, g⟩ := hc i hi
  exact g.ok j hj
/-- A pile, as it lay in the world w. -/
def PS9 (w : World) (W : World) (S : Nat → Prop) (A B : List (Int × Int)) : Prop := Gw w W ∧ ∀ q, ¬ S q
theorem dsc_pile {w : World} {p : Nat} {S : Nat → Prop} {eps : Int} {f : Nat → Int} {n : Nat} {L : List (List Sg)} (h : HPile w p S eps f n L) : DSC 12 13 16 18 (.pointer (some ⟨p, 0, none⟩)) w (PS9 w) eps f n L where
  gw x := x.1
  ge x q hq := (x.2 q hq).elim
  lt x q hq := (x.2 q hq).elim
  keep x g _ := ⟨g, x.2⟩
  sok := by
    obtain ⟨ko, kc, lo, lc, _, _, hv⟩ := h.opened
    exact vs_ok hv
  eps x := pl_eps (h.keep fun q hq => x.1.below.block q (h.lt q hq))
  height x := pl_height (h.keep fun q hq => x.1.below.block q (h.lt q hq))
  key {w1 S1 A B} x la a sl ha hs := by
    have n1 := h.n1
    have s1 := h.sh
    have sl1 : (sl : Int) < 9223372036854775808 := by
      have : rowN n L a ≤ 2000000 := by
        unfold rowN
        by_cases z : a = 0
        · rw [if_pos z]; exact n1
        · rw [if_neg z]; exact s1.2 _ (by omega)
      omega
    have e : keyV f n L (a : Int) (sl : Int) = rowF f L a sl := by
      unfold keyV
      rw [if_pos ⟨⟨by omega, by omega⟩, by omega, by simpa using hs⟩]
      simp
    refine (pl_key (h.keep fun q hq => x.1.below.block q (h.lt q hq)) (a : Int) (sl : Int) (by omega) (by have := s1.1; omega) (by omega) sl1).mono ?_
    rintro ex w2 ⟨rfl, g2⟩
    rw [e]
    exact ⟨⟨S1, rfl, ⟨x.1.trans g2, x.2⟩, fun q hq => .inl hq⟩, g2.gs _⟩
  seg {w1 S1 A B} x lb a sl ha hs := by
    have s1 := h.sh
    have := s1.2 a ha
    have e : segW L ((a : Int) + 1) (sl : Int) = (L.getD a []).getD sl sg0 := by
      unfold segW
      rw [show ((a : Int) + 1).toNat - 1 = a by omega, if_pos ⟨⟨by omega, by omega⟩, by omega, by omega⟩]
      simp
    refine (pl_seg (h.keep fun q hq => x.1.below.block q (h.lt q hq)) ((a : Int) + 1) (sl : Int) (by omega) (by have := s1.1; omega) (by omega) (by omega)).mono ?_
    rintro ex w2 ⟨rfl, g2⟩
    rw [e]
    exact ⟨⟨S1, rfl, ⟨x.1.trans g2, x.2⟩, fun q hq => .inl hq⟩, g2.gs _⟩
theorem pfind9 (M : ModelC) {w : World} {p : Nat} {S : Nat → Prop} {eps : Int} {f : Nat → Int} {n : Nat} {L : List (List Sg)} (h : HPile w p S eps f n L) (R : Ready eps f n L) (q : Int) (q0 : 0 ≤ q) (q1 : q < 18446744073709551616) :
    Calls Try.prog 8 #[.pointer (some ⟨p, 0, none⟩), .int .u64 q] w fun ex w' => ex = .returned (foundV f n q) ∧ Gw w w' := by
  refine (xfind_pile (dsc_pile h) M R q q0 q1 (S := fun _ => False) (A := []) (B := []) ⟨Gw.refl w, fun _ e => e⟩ (by simp) (by simp)).mono ?_
  rintro ex w2 ⟨⟨S2, A2, B2, rfl, x, _⟩, _⟩
  exact ⟨rfl, x.1⟩
theorem ppath9 (M : ModelC) {w : World} {p : Nat} {S : Nat → Prop} {eps : Int} {f : Nat → Int} {n : Nat} {L : List (List Sg)} (h : HPile w p S eps f n L) (R : Ready eps f n L) (q : Int) (q0 : 0 ≤ q) (q1 : q < 18446744073709551616) :
    Calls Try.prog 9 #[.pointer (some ⟨p, 0, none⟩), .int .u64 q] w fun ex w' => (∃ bo c, ex = .returned (.slice bo L.length c) ∧ PV w' bo (pathL eps q f n L) ∧ ∀ a, bo = some a → w.heap.size ≤ a.block) ∧ Gw w w' := by
  refine (xpath_pile (dsc_pile h) M R q q0 q1 (S := fun _ => False) (A := []) (B := []) ⟨Gw.refl w, fun _ e => e⟩ (by simp) (by simp)).mono ?_
  rintro ex w2 ⟨⟨bo, c, S2, A2, B2, rfl, hp, ha, x, _⟩, _⟩
  exact ⟨⟨bo, c, rfl, hp, fun a e => (ha a e).1⟩, x.1⟩

/-- The statements' slots. -/
def SS9 (w0 : World) (p : Nat) (ko : Option Addr) (n kc : Nat) (eps : Int) (lo : Option Addr) (ln lc : Nat) (W : World) (S : Nat → Prop) (A B : List (Int × Int)) : Prop := Gw w0 W ∧ (∀ q, S q → w0.heap.size ≤ q) ∧ SL W p S ko n kc eps lo ln lc A B false
theorem dsc_slots {w0 : World} {p : Nat} {ko : Option Addr} {n kc : Nat} {f : Nat → Int} {eps : Int} {lo : Option Addr} {lc : Nat} {L : List (List Sg)} (hk : KS w0 ko n f) (hv : VS w0 lo L) (hl : L.length ≤ 2000000) : DSC 113 114 17 19 (.pointer (some ⟨p, 0, none⟩)) w0 (SS9 w0 p ko n kc eps lo L.length lc) eps f n L where
  gw x := x.1
  ge x := x.2.1
  lt x := x.2.2.lt
  keep x g k := ⟨g, x.2.1, x.2.2.keep k⟩
  sok := vs_ok hv
  eps x := sl_eps x.2.2
  height x := sl_height x.2.2
  key {w1 S1 A B} x la a sl ha hs := by
    refine (sl_key hk hv rfl hl x.1 x.2.1 x.2.2 la a sl ha hs).mono ?_
    rintro ex w2 ⟨⟨S2, rfl, s2, u2⟩, g2⟩
    exact ⟨⟨S2, rfl, ⟨gs_gwd x.1 g2 x.2.1, fun q hq => by
      rcases u2 q hq with e | e
      · exact x.2.1 q e
      · exact Nat.le_trans x.1.size e, s2⟩, u2⟩, g2⟩
  seg {w1 S1 A B} x lb a sl ha hs := by
    refine (sl_seg hv rfl hl x.1 x.2.1 x.2.2 lb a sl ha hs).mono ?_
    rintro ex w2 ⟨⟨S2, rfl, s2, u2⟩, g2⟩
    exact ⟨⟨S2, rfl, ⟨gs_gwd x.1 g2 x.2.1, fun q hq => by
      rcases u2 q hq with e | e
      · exact x.2.1 q e
      · exact Nat.le_trans x.1.size e, s2⟩, u2⟩, g2⟩

end Go.Proofs.Ytapjipinceoaoaa

/- Package probe: Of. -/
namespace Go.Proofs.Ytapjipinceoaoaa
open Go.RowKit
set_option linter.unusedVariables false

/-- append of one list onto a row of the call's own, nil too, in a region that draws. -/
theorem step_append_v {P : Program} (w : World) {ops : Array Oper} {o : Oper} {a : Act} {K : Act → World → Prop} {Q : Exit → Act → World → Prop} {E : Prop} (hgd : o.guard = none) (s x : Operand) (t : TypeId)
    (ho : o.op = .call { callee := .builtin .append, args := #[s, x], argTypes := #[t, t] })
    (base : Nat) (e : TypeId) (i : TypeInfo) (z : Value) (size bytes : Nat) (ht : P.underlying t = some (.slice e)) (hi : P.info? e = some i) (hz : i.zero = some z)
    (hsize : i.size = size) (hby : i.bytes = bytes) (hzs : z.cells.size = size) (hsz : 0 < size)
    (v : Value) (n : Nat) (xs : List Value) (hs : a.eval s = v) (hown : w.ownsRow base e size v n xs)
    (ad : Addr) (m c : Nat) (news : List Value) (hx : a.eval x = .slice (some ad) m c) (hl : news.length = m * size) (hnews : ∀ j u, news[j]? = some u → w.cell? (ad.add j) = some u) (h1 : ∀ u ∈ news, u.oneCell' = true)
    (h63 : n + m ≤ maxLen) (hbytes : (n + m) * bytes ≤ 140737488355328) (hbase : base ≤ w.heap.size)
    (h : ∀ v' w', w'.ownsRow base e size v' (n + m) (xs ++ news) → w.grownBy w' v.ownBlock → (v' = .slice none 0 0 ↔ v = .slice none 0 0 ∧ m = 0) → (v'.ownBlock = v.ownBlock ∨ v'.ownBlock = some w.heap.size) → K (a.put o.dst v') w') :
    if Region.wanted o (yielded ops a.tmps) = true then Oper.wp P o a w K Q else E := by
  have hw : Region.wanted o (yielded ops a.tmps) = true := by simp [Region.wanted, hgd]
  rw [if_pos hw]
  obtain ⟨v', w', hr, h2, h3, h4, h5⟩ := run_append_own_at (P := P) w base t o.type e i z size bytes ht hi hz hsize hby hzs hsz v n xs hown ad m c news hl hnews h1 h63 hbytes hbase
  unfold Oper.wp execOp
  simp only [ho, resolve, invoke, builtin, Sem.run_bind, Sem.run_pure, Result.andThen_ok, List.map_toArray, List.map_cons, List.map_nil, hs, hx, hr]
  exact h v' w' h2 h3 h4 h5
theorem take_next {L : List (List Sg)} {i : Nat} (h : i < L.length) : L.take (i + 1) = L.take i ++ [L.getD i []] := by
  rw [List.take_add_one, List.getElem?_eq_getElem h, List.getD_eq_getElem?_getD, List.getElem?_eq_getElem h]
  rfl
theorem vs_ok8 {w : World} {lo : Option Addr} {L : List (List Sg)} (h : VS w lo L) : ∀ i, i < L.length → ∀ j, j < (L.getD i []).length → ((L.getD i []).getD j sg0).ok := fun i hi j hj => by
  obtain ⟨b, off, _, _, hc⟩ := h.cells (by omega)
  obtain ⟨bo, c, _, _, _, g⟩ := hc i hi
  exact g.ok j hj
theorem set_pl2 {w : World} {b : Nat} {x y z : Value} {t : TypeId} (h : w.heap[b]? = some (.cells #[x, y, z] t (0, 0))) (u : Value) : (w.setCell ⟨b, 2, none⟩ u).heap[b]? = some (.cells #[x, y, u] t (0, 0)) := by simp [World.setCell, Array.getElem?_modify, h]

set_option maxRecDepth 10000 in
set_option maxHeartbeats 1000000 in
theorem clone_k {w : World} {ao : Option Addr} {n cp : Nat} {f : Nat → Int} (h : KS w ao n f) (hn : n ≤ 2000000) :
    Calls Try.prog 23 #[.slice ao n cp] w fun e w' => (∃ bo c, e = .returned (.slice bo n c) ∧ KS w' bo n f ∧ n ≤ c ∧ ∀ a, bo = some a → w.heap.size ≤ a.block) ∧ Gw w w' := by
  cases ao with
  | none =>
    have n0 : n = 0 := by
      rcases Nat.eq_zero_or_pos n with e | e
      · exact e
      · obtain ⟨b, off, e', _⟩ := h.cells e; cases e'
    subst n0
    have HK : Aside (KS w none 0 f) := h
    clear h
    have hq : ∀ W : World, (binOp .eql 22 (.slice none 0 cp) (.slice none 0 0)).run Try.prog W = .ok (.bool true) W := fun _ => by kernel_rfl
    go_enter Try.func23, Try.ntmps23
    go_wp2_with fail
    go_ret
    exact ⟨⟨none, 0, rfl, HK.out, Nat.le_refl _, fun a e => by cases e⟩, Gw.refl w⟩
  | some ad =>
    have OW : Hid (∀ x, (some ad : Option Addr) = some x → ∀ j u, ((List.range n).map fun j => Value.int .u64 (f j))[j]? = some u → (w.alloc (.cells #[] 36)).cell? (x.add j) = some u) := by
      intro x e j u hu
      cases e
      have hj : j < n := by
        have := (List.getElem?_eq_some_iff.1 hu).1
        simpa using this
      obtain ⟨b, off, e', hb, hc⟩ := h.cells (by omega)
      cases e'
      rw [Addr.add_lit]
      refine (((Gw.refl w).alloc _ _).cell _ _ hb).trans ((hc j hj).trans ?_)
      simpa [hj] using hu
    have O0 : Hid ((w.alloc (.cells #[] 36)).ownsRow w.heap.size 36 1 (.slice (some ⟨w.heap.size, 0, none⟩) 0 0) 0 []) := World.ownsRow_made w #[] 0 (Nat.le_refl _) (Nat.zero_le _) rfl
    obtain ⟨ii, hii, hz, hs, hby⟩ := info_parts info_k
    have BD : Aside (∀ i, i < n → 0 ≤ f i ∧ f i < 18446744073709551616) := h.bd
    have NL : Aside (((List.range n).map fun j => Value.int .u64 (f j)).length = n * 1) := by show _ = _; simp
    have N1 : Aside (∀ u ∈ ((List.range n).map fun j => Value.int .u64 (f j)), u.oneCell' = true) := by
      intro u hu
      obtain ⟨j, _, rfl⟩ := List.mem_map.1 hu
      rfl
    clear h
    have hq : ∀ W : World, (binOp .eql 22 (.slice (some ad) n cp) (.slice none 0 0)).run Try.prog W = .ok (.bool false) W := fun _ => by kernel_rfl
    go_enter Try.func23, Try.ntmps23
    go_wp2_with (at_builtin; refine wpList_append_src _ rfl _ _ 22 rfl w.heap.size 36 ii (.int .u64 0) 1 8 Try.underlying22 hii hz hs hby rfl (by decide) _ 0 [] rfl O0.out (some ad) n cp ((List.range n).map fun j => Value.int .u64 (f j)) rfl (fun q => by cases q) NL.out OW.out N1.out (by simp only [maxLen]; omega) (by omega) (by simp) ?_)
    intro v' w7 q1 q2 q3
    have G7 : Aside (Gw w w7) := ((Gw.refl w).alloc _ _).grown q2 (fun k hk => by cases hk; exact Nat.le_refl _)
    have FM : ∃ bo c, v' = .slice bo n c ∧ KS w7 bo n f ∧ n ≤ c ∧ ∀ a, bo = some a → w.heap.size ≤ a.block := by
      have q1' : w7.ownsRow w.heap.size 36 1 v' n ((List.range n).map fun j => Value.int .u64 (f j)) := by simpa using q1
      rcases q1'.2 with ⟨e, z⟩ | ⟨g, cap, cur, e, hb, hh, hc, _⟩
      · subst z
        exact ⟨none, 0, e, ⟨fun h0 => by omega, BD.out⟩, Nat.le_refl _, fun a q => by cases q⟩
      · subst e
        exact ⟨some ⟨g, 0, none⟩, cap, rfl, ks_own q1' (Nat.le_refl _) (fun j hj => by simp [hj]) BD.out, hc, fun a q => by cases q; exact hb⟩
    obtain ⟨bo, c, rfl, r1, r2, r3⟩ := FM
    have RES : Aside (KS w7 bo n f ∧ n ≤ c ∧ ∀ a, bo = some a → w.heap.size ≤ a.block) := ⟨r1, r2, r3⟩
    clear q1 q2 q3 hii hz hs hby r1 r2 r3
    go_wp2_with fail
    go_ret
    exact ⟨⟨bo, c, rfl, RES.out⟩, G7.out⟩

set_option maxRecDepth 10000 in
set_option maxHeartbeats 1000000 in
theorem clone_g {w : World} {ao : Option Addr} {cp : Nat} {l : List Sg} (h : GS w ao l) (hn : l.length ≤ 2000000) :
    Calls Try.prog 24 #[.slice ao l.length cp] w fun e w' => (∃ bo c, e = .returned (.slice bo l.length c) ∧ SR w' w.heap.size (.slice bo l.length c) l) ∧ Gw w w' := by
  cases ao with
  | none =>
    have n0 : l.length = 0 := by
      rcases Nat.eq_zero_or_pos l.length with e | e
      · exact e
      · obtain ⟨b, off, e', _⟩ := h.cells e; cases e'
    have l0 : l = [] := List.eq_nil_of_length_eq_zero n0
    subst l0
    clear h n0
    show Calls _ _ #[.slice none 0 cp] _ _
    have hq : ∀ W : World, (binOp .eql 41 (.slice none 0 cp) (.slice none 0 0)).run Try.prog W = .ok (.bool true) W := fun _ => by kernel_rfl
    go_enter Try.func24, Try.ntmps24
    go_wp2_with fail
    go_ret
    exact ⟨⟨none, 0, rfl, World.ownsRow_nil _ _ _ _⟩, Gw.refl w⟩
  | some ad =>
    have OW : Hid (∀ x, (some ad : Option Addr) = some x → ∀ j u, (l.flatMap sgc)[j]? = some u → (w.alloc (.cells #[] 44)).cell? (x.add j) = some u) := by
      intro x e j u hu
      cases e
      have hj : j < l.length * 5 := by
        have := (List.getElem?_eq_some_iff.1 hu).1
        rw [flat_len] at this
        exact this
      obtain ⟨b, off, e', hb, hc⟩ := gs_flat h (by omega)
      cases e'
      rw [Addr.add_lit]
      refine (((Gw.refl w).alloc _ _).cell _ _ hb).trans ((hc j hj).trans ?_)
      rw [← flc_get l j hj]
      exact hu
    have O0 : Hid ((w.alloc (.cells #[] 44)).ownsRow w.heap.size 44 5 (.slice (some ⟨w.heap.size, 0, none⟩) 0 0) 0 []) := World.ownsRow_made w #[] 0 (Nat.le_refl _) (Nat.zero_le _) rfl
    obtain ⟨ii, hii, hz, hs, hby⟩ := info_parts info_sg
    have NL : Aside ((l.flatMap sgc).length = l.length * 5) := flat_len l
    have N1 : Aside (∀ u ∈ l.flatMap sgc, u.oneCell' = true) := by
      intro u hu
      obtain ⟨s, -, hs⟩ := List.mem_flatMap.1 hu
      exact sgc_one s u hs
    clear h
    obtain ⟨n, hln⟩ : ∃ n, l.length = n := ⟨_, rfl⟩
    have LN : Aside (l.length = n) := hln
    rw [hln] at hn NL ⊢
    clear hln
    have hq : ∀ W : World, (binOp .eql 41 (.slice (some ad) n cp) (.slice none 0 0)).run Try.prog W = .ok (.bool false) W := fun _ => by kernel_rfl
    go_enter Try.func24, Try.ntmps24
    go_wp2_with (at_builtin; refine wpList_append_src _ rfl _ _ 41 rfl w.heap.size 44 ii (.agg #[.int .u64 0, .float .f64 0, .float .f64 0, .int .i64 0, .int .i64 0]) 5 40 Try.underlying41 hii hz hs hby rfl (by decide) _ 0 [] rfl O0.out (some ad) n cp (l.flatMap sgc) rfl (fun q => by cases q) NL.out OW.out N1.out (by simp only [maxLen]; omega) (by omega) (by simp) ?_)
    intro v' w7 q1 q2 q3
    have G7 : Aside (Gw w w7) := ((Gw.refl w).alloc _ _).grown q2 (fun k hk => by cases hk; exact Nat.le_refl _)
    have FM : ∃ bo c, v' = .slice bo n c ∧ SR w7 w.heap.size (.slice bo n c) l := by
      have q1' : w7.ownsRow w.heap.size 44 5 v' n (l.flatMap sgc) := by simpa using q1
      have q2' : SR w7 w.heap.size v' l := by show World.ownsRow _ _ _ _ _ _ _; rw [LN.out]; exact q1'
      rcases q1'.2 with ⟨e, z⟩ | ⟨g, cap, cur, e, hb, hh, hc, _⟩
      · subst z
        exact ⟨none, 0, e, by rw [← e]; exact q2'⟩
      · subst e
        exact ⟨some ⟨g, 0, none⟩, cap, rfl, q2'⟩
    obtain ⟨bo, c, rfl, r1⟩ := FM
    have RES : Aside (SR w7 w.heap.size (.slice bo n c) l) := r1
    clear q1 q2 q3 hii hz hs hby r1
    go_wp2_with fail
    go_ret
    exact ⟨⟨bo, c, rfl, RES.out⟩, G7.out⟩

set_option maxRecDepth 10000 in
set_option maxHeartbeats 4000000 in
theorem of9 (M : ModelC) (eps : Int) (ao : Option Addr) (n cp : Nat) (f : Nat → Int) (lo : Option Addr) (lc : Nat) (L : List (List Sg)) (e0 : -9223372036854775808 ≤ eps) (e1 : eps < 9223372036854775808) (hn : n ≤ 2000000) (hcp : n ≤ cp) (hS : Short L) (hlc : L.length ≤ lc) (w : World) (hk : KS w ao n f) (hv : VS w lo L) :
    Calls Try.prog 7 #[.slice ao n cp, .int .i64 eps, .slice lo L.length lc] w fun ex w' => PileOut HPile w w' ex eps f n L ∧ Gw w w' := by
  have CK : Hid (Calls Try.prog 22 #[.slice ao n cp, .int .i64 eps, .slice lo L.length lc] w fun ex w' => CheckOut ex eps f n L ∧ Gw w w') := xcheck8_any M eps ao n cp f lo lc L e0 e1 hn hcp hS w hk hv
  have HK : Aside (KS w ao n f) := hk
  have HV : Aside (VS w lo L) := hv
  have SH : Aside (Short L) := hS
  obtain ⟨ln, hln⟩ : ∃ ln, L.length = ln := ⟨_, rfl⟩
  have LN : Aside (L.length = ln) := hln
  have ln1 : ln ≤ 2000000 := by have := hS.1; omega
  rw [hln] at CK hlc ⊢
  clear hk hv hS hln M
  go_enter Try.func7, Try.ntmps7
  go_wp2_with fail
  refine Calls.mono CK.out ?_
  rintro e w1 ⟨⟨E, rfl, hR⟩, g1⟩
  have CR : Aside (CheckR eps f n L E) := hR
  have G1 : Aside (Gw w w1) := g1
  clear hR g1 CK
  by_cases E0 : E = 0
  · subst E0
    have K1 : Aside (KS w1 ao n f) := HK.out.gw G1.out
    go_wp2_with fail
    refine (clone_k K1.out hn).mono ?_
    rintro e w2 ⟨⟨ko, kc, rfl, hk2, hkc, hkb⟩, g2⟩
    have K2 : Aside (KS w2 ko n f ∧ n ≤ kc ∧ ∀ a, ko = some a → w1.heap.size ≤ a.block) := ⟨hk2, hkc, hkb⟩
    have G2 : Aside (Gw w1 w2) := g2
    clear hk2 hkc hkb g2 K1
    go_wp2_with fail
    have B3 : Aside ((w2.alloc (.cells #[.int .i64 eps, .slice ko n kc, .slice none 0 0] 66)).heap[w2.heap.size]? = some (.cells #[.int .i64 eps, .slice ko n kc, .slice none 0 0] 66 (0, 0))) := heap_alloc_new w2 _
    have G3 : Aside (Gw w2 (w2.alloc (.cells #[.int .i64 eps, .slice ko n kc, .slice none 0 0] 66))) := (Gw.refl w2).alloc _ _
    have z3 : (w2.alloc (.cells #[.int .i64 eps, .slice ko n kc, .slice none 0 0] 66)).heap.size = w2.heap.size + 1 := by simp
    obtain ⟨pb, hpb⟩ : ∃ pb, w2.heap.size = pb := ⟨_, rfl⟩
    have PB : Aside (w2.heap.size = pb) := hpb
    have Z3 : Aside ((w2.alloc (.cells #[.int .i64 eps, .slice ko n kc, .slice none 0 0] 66)).heap.size = pb + 1) := by rw [← hpb]; exact z3
    rw [hpb] at B3 ⊢
    clear hpb z3
    generalize w2.alloc (.cells #[.int .i64 eps, .slice ko n kc, .slice none 0 0] 66) = w3 at B3 G3 Z3 ⊢
    obtain ⟨jj, hjj, jz, js, jby⟩ := info_parts info_sgs
    have WP : Aside (w.heap.size ≤ pb) := by have := G1.out.size; have := G2.out.size; have := PB.out; show _ ≤ _; omega
    go_loopg [26] ln (fun gg s26 wr => ∃ (i : Nat) (vo : Option Addr) (vc : Nat) (vals : List Value), s26 = .int .i64 (i : Int) ∧ i ≤ ln ∧ ln - i ≤ gg ∧ Aside (wr.heap[pb]? = some (.cells #[.int .i64 eps, .slice ko n kc, .slice vo i vc] 66 (0, 0))) ∧ Aside (OwnV wr (pb + 1) (.slice vo i vc) (L.take i) vals) ∧ Aside (Gw w2 wr))
    case atStart => exact ⟨0, none, 0, [], rfl, Nat.zero_le _, by omega, B3, (show Aside _ from ownv_nil _ _), G3⟩
    case round =>
      clear B3 G3
      obtain ⟨i, vo, vc, vals, rfl, a1, a2, BK, OV, GG⟩ := hrel
      obtain ⟨wS, hwS⟩ : ∃ wx, wx = wr := ⟨_, rfl⟩
      subst hwS
      by_cases hlt : i < ln
      · obtain ⟨ab, af, rfl, hab, hac⟩ := (((HV.out.gw G1.out).gw G2.out).gw GG.out).cells (by rw [LN.out]; omega)
        obtain ⟨so, sc, p1, _, _, p4⟩ := hac i (by rw [LN.out]; exact hlt)
        obtain ⟨lv, hlv⟩ : ∃ lv, L.getD i [] = lv := ⟨_, rfl⟩
        have LV : Aside (L.getD i [] = lv) := hlv
        have TK : Aside (L.take (i + 1) = L.take i ++ [lv]) := by have := take_next (L := L) (i := i) (by rw [LN.out]; exact hlt); rw [hlv] at this; exact this
        have TL : Aside ((L.take i).length = i) := by show _ = _; rw [List.length_take, LN.out]; omega
        rw [hlv] at p1 p4
        have sn1 : lv.length ≤ 2000000 := by have := SH.out.2 i (by rw [LN.out]; exact hlt); rw [hlv] at this; exact this
        have GSR : Aside (GS wS so lv) := p4
        have CG : Hid (∀ W, Gw wS W → Calls Try.prog 24 #[.slice so lv.length sc] W fun e w' => (∃ bo c, e = .returned (.slice bo lv.length c) ∧ SR w' W.heap.size (.slice bo lv.length c) lv) ∧ Gw W w') := fun W gW => clone_g (p4.gw gW) sn1
        obtain ⟨sn, hsn⟩ : ∃ sn, lv.length = sn := ⟨_, rfl⟩
        have SN : Aside (lv.length = sn) := hsn
        rw [hsn] at p1 CG
        have bl := (Array.getElem?_eq_some_iff.1 BK.out).1
        have OW : Hid (∀ W, Gw wS W → ∀ o, (W.alloc o).ownsRow (pb + 1) 41 1 (.slice vo i vc) i vals) := fun W gW o => by
          have := (OV.out.gw gW).outer
          rw [TL.out] at this
          exact this.alloc o
        have FIN : Hid (∀ (W : World) (bo : Option Addr) (c : Nat) (v' : Value) (w7 : World), Gw wS W → SR W wS.heap.size (.slice bo sn c) lv → w7.ownsRow (pb + 1) 41 1 v' (i + 1) (vals ++ [.slice bo sn c]) → (W.alloc (.cells #[.slice bo sn c] 41)).grownBy w7 (Value.slice vo i vc).ownBlock → (v'.ownBlock = (Value.slice vo i vc).ownBlock ∨ v'.ownBlock = some (W.heap.size + 1)) → w7.heap[pb]? = some (.cells #[.int .i64 eps, .slice ko n kc, .slice vo i vc] 66 (0, 0)) ∧ (w7.setCell ⟨pb, 2, none⟩ v').heap[pb]? = some (.cells #[.int .i64 eps, .slice ko n kc, v'] 66 (0, 0)) ∧ OwnV (w7.setCell ⟨pb, 2, none⟩ v') (pb + 1) v' (L.take (i + 1)) (vals ++ [.slice bo sn c]) ∧ Gw w2 (w7.setCell ⟨pb, 2, none⟩ v')) := fun W bo c v' w7 gW hs r1 r2 r4 => by
          have ow : ∀ q, (Value.slice vo i vc).ownBlock = some q → pb + 1 ≤ q := fun q e => ((OW.out W gW (.cells #[] 0)).lt q e).1
          have B7 : w7.heap[pb]? = some (.cells #[.int .i64 eps, .slice ko n kc, .slice vo i vc] 66 (0, 0)) := (r2.block pb (by have := gW.size; simp; omega) (fun e => by have := ow pb e.symm; omega)).trans ((heap_alloc_old _ _ (Nat.lt_of_lt_of_le bl gW.size)).trans ((gW.below.block pb bl).trans BK.out))
          refine ⟨B7, set_pl2 B7 v', ?_, ?_⟩
          · rw [TK.out]
            have := OwnV.more (o := .cells #[.slice bo sn c] 41) OV.out gW hs (by omega) (by rw [TL.out]; exact r1) r2 r4
            exact this.keep fun q hq _ => Go.Deep.blk_setCell_other _ _ _ _ (by show q ≠ pb; omega)
          · refine Gw.setCell (((GG.out.trans gW).alloc _ _).grown r2 (fun q hq => ?_)) (by show w2.heap.size ≤ pb; rw [PB.out]; exact Nat.le_refl _) _
            have := ow q hq
            rw [PB.out]
            omega
        have k2 : wS.drew.cell? ⟨pb, 2, none⟩ = some (.slice vo i vc) := (pl_cells BK.out).2.2
        clear hac hlv hsn p4
        go_wp2_with fail
        go_region_law (first
          | (go_simp; refine (CG.out _ ((Gw.refl wS).drew)).mono ?_; rintro e w4 ⟨⟨bo, c, rfl, hs4⟩, g4⟩; have S4 : Hid (SR w4 wS.heap.size (.slice bo sn c) lv) := hs4; have G4 : Hid (Gw wS w4) := ((Gw.refl wS).drew.trans g4); have k4 : w4.cell? ⟨pb, 2, none⟩ = some (.slice vo i vc) := (g4.cell _ _ bl).trans k2; have l4 : pb < w4.heap.size := Nat.lt_of_lt_of_le bl g4.size; clear hs4 g4)
          | (refine step_append_v _ rfl (.tmp 34) (.tmp 37) 27 rfl (pb + 1) 41 jj (.slice none 0 0) 1 24 Try.underlying27 hjj jz js jby rfl (by decide) (.slice vo i vc) i vals (by simp [Act.eval]) (OW.out w4 G4.out _) ⟨w4.heap.size, 0, none⟩ 1 1 [.slice bo sn c] (by simp [Act.eval]) rfl (new_val w4 (.slice bo sn c) 41) (fun u hu => by simp at hu; subst hu; rfl) (by simp only [maxLen]; omega) (by omega) (Nat.le_trans (show pb + 1 ≤ w4.heap.size by omega) ((Gw.refl w4).alloc _ _).size) ?_; intro v' w7 r1 r2 r3 r4; obtain ⟨b8, cap8, ev, _, _, _⟩ := own_slice r1 (by simpa using r3); obtain ⟨B7, Q7⟩ := FIN.out w4 bo c v' w7 G4.out S4.out r1 r2 (by simpa using r4); have k7 := (pl_cells B7).2.2; have f7 : w7.frozen? ⟨pb, 2, none⟩ = false := (by simp [World.frozen?, B7]); have l7 : pb < w7.heap.size := (Array.getElem?_eq_some_iff.1 B7).1; have Q8 : Hid _ := Q7; clear B7 Q7 r1 r2 r3 r4; subst ev))
        all_goals go_wp2_with fail
        all_goals go_roundg (ln - (i + 1))
        all_goals first
          | (case measure => omega)
          | (case rel => exact ⟨i + 1, some ⟨b8, 0, none⟩, cap8, vals ++ [Value.slice bo sn c], by go_num, by omega, Nat.le_refl _, (show Aside _ from Q8.out.1), (show Aside _ from Q8.out.2.1), (show Aside _ from Q8.out.2.2)⟩)
      · have ei : i = ln := by omega
        subst ei
        have e1 : L.take i = L := by rw [List.take_of_length_le (by rw [LN.out]; exact Nat.le_refl _)]
        have OV' : OwnV wS w.heap.size (.slice vo L.length vc) L vals := by
          have := OV.out
          rw [e1] at this
          rw [LN.out]
          exact this.base (by have := WP.out; omega)
        have GA : Aside (Gw w wS) := (G1.out.trans G2.out).trans GG.out
        have VSF : VSf wS w.heap.size vo L := OV'.vsf (vs_ok8 HV.out)
        have HPL : Aside (HPile wS pb (fun q => w.heap.size ≤ q ∧ q < wS.heap.size) eps f n L) := by
          refine ⟨⟨wS, w.heap.size, ko, kc, vo, vc, fun q => Iff.rfl, Nat.le_refl _, fun q _ _ => rfl, by rw [LN.out]; exact BK.out, WP.out, K2.out.1.gw GG.out, fun a ea => Nat.le_trans G1.out.size (K2.out.2.2 a ea), VSF⟩, hn, SH.out⟩
        clear OV' VSF e1
        go_wp2_with fail
        go_ret2
        exact ⟨⟨0, CR.out, .inr ⟨rfl, pb, _, rfl, fun q hq => hq.1, HPL.out⟩⟩, GA.out⟩
  · have t0 : (E == 0) = false := by simpa using E0
    have HE : Aside (E ≠ 0) := E0
    clear E0
    go_wp2_with fail
    go_ret2
    exact ⟨⟨E, CR.out, .inl ⟨HE.out, rfl⟩⟩, G1.out⟩

end Go.Proofs.Ytapjipinceoaoaa

/- Package model, as far as it is asked: Check, Guess, Off. -/
namespace Go.Proofs.Ytapjipinceoaoaa
open Go.RowKit
set_option linter.unusedVariables false

theorem modelc : ModelC where
  check k sl ic fr te h w := xcheck_any k sl ic fr te h.s1 h.i1 w
  guess k sl ic fr te q h q0 q1 w := xguess_any k sl ic fr te q h.k0 h.k1 h.s1 h.i1 q0 q1 w
  off k sl ic fr te ao n cp f h hn hcp w K := xoff_any k sl ic fr te h.k0 h.k1 h.s1 h.i1 h.f0 h.f1 h.t0 h.t1 ao n cp f (by omega) w K

end Go.Proofs.Ytapjipinceoaoaa

/- Package probe, whole. -/
namespace Go.Proofs.Ytapjipinceoaoaa
open Go.RowKit
set_option linter.unusedVariables false

theorem probec : ProbeC HPile where
  keep h k := h.keep k
  lt h := h.lt
  of eps ao n cp f lo lc L e0 e1 hn hcp hS hlc w hk hv := of9 modelc eps ao n cp f lo lc L e0 e1 hn hcp hS hlc w hk hv
  pfind h R q q0 q1 := pfind9 modelc h R q q0 q1
  ppath h R q q0 q1 := ppath9 modelc h R q q0 q1
  peps {w p S eps f n L} h := (pl_eps h).mono (by rintro e w' ⟨rfl, rfl⟩; exact ⟨rfl, Gw.refl _⟩)
  pheight {w p S eps f n L} h := (pl_height h).mono (by rintro e w' ⟨rfl, rfl⟩; exact ⟨rfl, Gw.refl _⟩)
  psize {w p S eps f n L} h lv l0 l1 := (pl_size h lv l0 l1).mono (by rintro e w' ⟨rfl, rfl⟩; exact ⟨rfl, Gw.refl _⟩)
  pkey h lv sl l0 l1 s0 s1 := pl_key h lv sl l0 l1 s0 s1
  pseg h lv sl l0 l1 s0 s1 := pl_seg h lv sl l0 l1 s0 s1

end Go.Proofs.Ytapjipinceoaoaa
