import Derived.Test.YtkojcjfjmlompaaS4Plain
import Derived.Test.YtkojcjfjmlompaaS3Law
import Derived.Maps.OwnSet
import Derived.Maps.OwnOps
import Derived.Maps.RangeWalk
import Derived.WalkArith
/- Package judge: the plain map as a map of the language. -/
namespace Go.Proofs.Ytkojcjfjmlompaa
open Go.RowKit
set_option linter.unusedVariables false

abbrev DU := DataW Unit
/-- A map as read, and the pairs that it holds. -/
structure MpI (D : DU) (l : Ps) : Prop where
  tidy : Maps.Tidy D
  has : ∀ k : Int, 0 ≤ k → k < 18446744073709551616 → Maps.has D (.int .u64 k) = isK l k
  val : ∀ k : Int, 0 ≤ k → k < 18446744073709551616 → isK l k = true → ∀ z, D.atKey (.int .u64 k) z = .lit (.int .u64 (vlP l k))
  size : Maps.size D = l.length
theorem MpI.empty : MpI (.map []) [] := ⟨Maps.tidy_empty, fun _ _ _ => rfl, fun _ _ _ h => by simp [isK] at h, rfl⟩
theorem litne {x y : Int} (h : x ≠ y) : (Lit.int .u64 x) ≠ .int .u64 y := fun e => h (by injection e)
theorem MpI.put {D : DU} {l : Ps} (h : MpI D l) (r : RiseP l) {most k v : Int} (hk : 0 ≤ k ∧ k < 18446744073709551616) (ok : isK l k = true ∨ (l.length : Int) < most) : MpI (D.put (.int .u64 k) (.lit (.int .u64 v))) (putP most l k v).1 := by
  have ik : WideAt.IsKeyLit (.int .u64 k) := trivial
  refine ⟨h.tidy.put ik _, fun x x0 x1 => ?_, fun x x0 x1 hx z => ?_, ?_⟩
  · rw [isK_put r ok]
    by_cases e : x = k
    · subst e; rw [Maps.has_put_same h.tidy.isMap ik]; simp
    · rw [Maps.has_put_other (litne e), h.has x x0 x1]; simp [e]
  · rw [isK_put r ok] at hx
    by_cases e : x = k
    · subst e
      rw [Maps.atKey_put_same h.tidy.isMap ik, vlP_put r ok (.inl rfl), if_pos rfl]
    · have hx' : isK l x = true := by simpa [e] using hx
      rw [Maps.atKey_put_other (litne e), vlP_put r ok (.inr hx'), if_neg e, h.val x x0 x1 hx']
  · rw [Maps.size_put h.tidy, h.has k hk.1 hk.2, h.size, len_put_is ok]
theorem MpI.del {D : DU} {l : Ps} (h : MpI D l) (r : RiseP l) {k : Int} (hk : 0 ≤ k ∧ k < 18446744073709551616) : MpI (D.del (.int .u64 k)) (dropP l k) := by
  refine ⟨h.tidy.del _, fun x x0 x1 => ?_, fun x x0 x1 hx z => ?_, ?_⟩
  · rw [isK_drop r]
    by_cases e : x = k
    · subst e; rw [Maps.has_del_same]; simp
    · rw [Maps.has_del_other (litne e), h.has x x0 x1]; simp [e]
  · have hv := vlP_drop r hx
    rw [isK_drop r] at hx
    simp only [Bool.and_eq_true, Bool.not_eq_true', decide_eq_false_iff_not] at hx
    rw [Maps.atKey_del_other (litne hx.1), h.val x x0 x1 hx.2, hv]
  · have h1 := Maps.size_del (k := .int .u64 k) h.tidy
    have h2 := len_drop_is l k
    rw [h.has k hk.1 hk.2, h.size] at h1
    by_cases c : isK l k = true
    · rw [if_pos c] at h1 h2; omega
    · rw [if_neg c] at h1 h2; omega
theorem law23 : Maps.Keyed Try.prog 31 := Maps.int_keyed Try.underlying31
theorem zero23 (w : World) : (zeroValue 31).run Try.prog w = .ok (.int .u64 0) w := by kernel_rfl
theorem key23 {k : Int} (h : 0 ≤ k ∧ k < 18446744073709551616) : keyOf Try.prog 31 (.int .u64 k) = some (.int .u64 k) := Maps.keyOf_int_mk Try.underlying31 (WalkArith.wf_u64 ⟨h.1, by omega⟩)
/-- The map in memory, in block B. -/
def MpW (w : World) (B : Nat) (l : Ps) (D : DU) : Prop := w.ownsMap Try.prog 31 (plainElem Try.prog 31) B l.length D ∧ MpI D l ∧ RiseP l ∧ BdP l
theorem own_tight {w : World} {B n : Nat} {D : DU} (h : w.ownsMap Try.prog 31 (plainElem Try.prog 31) B n D) : w.ownsMap Try.prog 31 (plainElem Try.prog 31) B (Maps.size D) D := by
  obtain ⟨es, clock, hb, F, hs, rfl⟩ := h
  exact ⟨es, clock, hb, F, by simp [Maps.size, length_sorted], rfl⟩
theorem own_blk {w w' : World} {B n : Nat} {D : DU} (h : w.ownsMap Try.prog 31 (plainElem Try.prog 31) B n D) (e : w'.heap[B]? = w.heap[B]?) : w'.ownsMap Try.prog 31 (plainElem Try.prog 31) B n D := by
  obtain ⟨es, clock, hb, r⟩ := h
  exact ⟨es, clock, e.trans hb, r⟩
theorem MpW.keep {w w' : World} {B : Nat} {l : Ps} {D : DU} (h : MpW w B l D) (e : w'.heap[B]? = w.heap[B]?) : MpW w' B l D := ⟨own_blk h.1 e, h.2⟩
theorem MpW.lt {w : World} {B : Nat} {l : Ps} {D : DU} (h : MpW w B l D) : B < w.heap.size := h.1.lt
theorem MpW.gw {w w' : World} {B : Nat} {l : Ps} {D : DU} (h : MpW w B l D) (g : Gw w w') : MpW w' B l D := h.keep (g.below.block B h.lt)
set_option maxRecDepth 100000 in
theorem jput23 (B : Nat) (most k v : Int) (l : Ps) (D : DU) (hl : l.length ≤ 4000000) (hk : 0 ≤ k ∧ k < 18446744073709551616) (hv : 0 ≤ v ∧ v < 18446744073709551616) (w : World) (h : MpW w B l D) :
    Calls Try.prog 27 #[.agg #[.map (some B), .int .i64 most], .int .u64 k, .int .u64 v] w fun e w' => e = .returned (.int .i64 (putP most l k v).2) ∧ (∃ D', MpW w' B (putP most l k v).1 D') ∧ Gx (fun q => q = B) w w' := by
  obtain ⟨hown, MI, RI, BD⟩ := h
  have hown2 := hown.alloc (.cells #[.map (some B), .int .i64 most] 65)
  have hkey := key23 hk
  have GA : Aside (Gx (fun q => q = B) w (w.alloc (.cells #[.map (some B), .int .i64 most] 65))) := ((Gw.refl w).alloc _ _).gx _
  have M0 : Aside (MpI D l ∧ RiseP l ∧ BdP l) := ⟨MI, RI, BD⟩
  have HS : Aside (Maps.has D (.int .u64 k) = isK l k) := MI.has k hk.1 hk.2
  have ln : l.length < maxLen := by unfold maxLen; omega
  have wv := WalkArith.wf_u64 (n := v) ⟨hv.1, by omega⟩
  have hlen := hown2.len Try.underlying63 3
  rw [MI.size] at hlen
  have FIN : Hid (∀ W, W.ownsMap Try.prog 31 (plainElem Try.prog 31) B (l.length + 1) (D.put (.int .u64 k) (.lit (.int .u64 v))) → (w.alloc (.cells #[.map (some B), .int .i64 most] 65)).mapTurned W B → (isK l k = true ∨ (l.length : Int) < most) → (∃ D', MpW W B (putP most l k v).1 D') ∧ Gx (fun q => q = B) w W) := fun W h1 h2 ok => by
    have MI2 := MI.put RI (v := v) hk ok
    have t := own_tight h1
    rw [MI2.size] at t
    exact ⟨⟨_, t, MI2, rise_put RI most k v, bd_put BD most hk hv⟩, GA.out.grown h2.grown (fun q e => by cases e; exact .inl rfl)⟩
  obtain ⟨t, ht⟩ : ∃ t, Maps.has D (.int .u64 k) = t := ⟨_, rfl⟩
  have HT : Aside (isK l k = t) := by rw [← HS.out]; exact ht
  clear MI RI BD hown
  cases t with
  | true =>
    have P2 : Aside ((putP most l k v).2 = 0) := by show _ = _; unfold putP; rw [if_pos HT.out]
    go_enter Try.func27, Try.ntmps27
    go_wp2_with (first
      | (at_lookup; refine wpList_lookup_own_ok_int _ rfl _ _ 63 rfl 31 31 .u64 law23 Try.underlying63 Try.underlying31 (zero23 _) B l.length D rfl hown2 _ _ rfl hkey ?_; intro c hat hwc)
      | (at_mapUpdate; refine wpList_mapUpdate_in _ rfl _ _ _ 63 rfl 31 31 law23 Try.underlying63 _ B l.length D rfl hown2 ln _ _ _ rfl rfl hkey _ [] (plainElem_int Try.underlying31 wv) ?_; intro w1 hown1 hturn1)
      | go_in)
    refine bodyPost_ret (v := .int .i64 0) (by simp [results, Try.results27, go_sem]) rfl ⟨by rw [P2.out], FIN.out _ hown1 hturn1 (.inl HT.out)⟩
  | false =>
    by_cases c : most ≤ (l.length : Int)
    · have c' : decide (most ≤ (l.length : Int)) = true := by simpa using c
      have P2 : Aside ((putP most l k v).2 = 161 ∧ (putP most l k v).1 = l) := by unfold putP; rw [if_neg (by rw [HT.out]; simp), if_pos c]; exact ⟨rfl, rfl⟩
      go_enter Try.func27, Try.ntmps27
      go_wp2_with (first
        | (at_lookup; refine wpList_lookup_own_ok_int _ rfl _ _ 63 rfl 31 31 .u64 law23 Try.underlying63 Try.underlying31 (zero23 _) B l.length D rfl hown2 _ _ rfl hkey ?_; intro c hat hwc)
        | go_in)
      refine bodyPost_ret (v := .int .i64 161) (by simp [results, Try.results27, go_sem]) rfl ⟨by rw [P2.out.1], ⟨D, by rw [P2.out.2]; exact ⟨hown2, M0.out⟩⟩, GA.out⟩
    · have c' : decide (most ≤ (l.length : Int)) = false := by simpa using c
      have P2 : Aside ((putP most l k v).2 = 0) := by show _ = _; unfold putP; rw [if_neg (by rw [HT.out]; simp), if_neg c]
      go_enter Try.func27, Try.ntmps27
      go_wp2_with (first
        | (at_lookup; refine wpList_lookup_own_ok_int _ rfl _ _ 63 rfl 31 31 .u64 law23 Try.underlying63 Try.underlying31 (zero23 _) B l.length D rfl hown2 _ _ rfl hkey ?_; intro c hat hwc)
        | (at_mapUpdate; refine wpList_mapUpdate_in _ rfl _ _ _ 63 rfl 31 31 law23 Try.underlying63 _ B l.length D rfl hown2 ln _ _ _ rfl rfl hkey _ [] (plainElem_int Try.underlying31 wv) ?_; intro w1 hown1 hturn1)
        | go_in)
      refine bodyPost_ret (v := .int .i64 0) (by simp [results, Try.results27, go_sem]) rfl ⟨by rw [P2.out], FIN.out _ hown1 hturn1 (.inr (by omega))⟩
set_option maxRecDepth 100000 in
theorem jdrop23 (B : Nat) (most k : Int) (l : Ps) (D : DU) (hk : 0 ≤ k ∧ k < 18446744073709551616) (w : World) (h : MpW w B l D) :
    Calls Try.prog 28 #[.agg #[.map (some B), .int .i64 most], .int .u64 k] w fun e w' => e = .returned (.bool (isK l k)) ∧ (∃ D', MpW w' B (dropP l k) D') ∧ Gx (fun q => q = B) w w' := by
  obtain ⟨hown, MI, RI, BD⟩ := h
  have hown2 := hown.alloc (.cells #[.map (some B), .int .i64 most] 65)
  have hkey := key23 hk
  have GA : Aside (Gx (fun q => q = B) w (w.alloc (.cells #[.map (some B), .int .i64 most] 65))) := ((Gw.refl w).alloc _ _).gx _
  have HS : Aside (Maps.has D (.int .u64 k) = isK l k) := MI.has k hk.1 hk.2
  have FIN : Hid (∀ W, W.ownsMap Try.prog 31 (plainElem Try.prog 31) B l.length (D.del (.int .u64 k)) → (w.alloc (.cells #[.map (some B), .int .i64 most] 65)).mapTurned W B → (∃ D', MpW W B (dropP l k) D') ∧ Gx (fun q => q = B) w W) := fun W h1 h2 => by
    have MI2 := MI.del RI hk
    have t := own_tight h1
    rw [MI2.size] at t
    exact ⟨⟨_, t, MI2, rise_drop RI k, fun p hp => BD p ((mem_drop RI k p).1 hp).1⟩, GA.out.grown h2.grown (fun q e => by cases e; exact .inl rfl)⟩
  obtain ⟨t, ht⟩ : ∃ t, Maps.has D (.int .u64 k) = t := ⟨_, rfl⟩
  have HT : Aside (isK l k = t) := by rw [← HS.out]; exact ht
  rw [HT.out]
  clear MI RI BD hown
  go_enter Try.func28, Try.ntmps28
  go_wp2_with (first
    | (at_lookup; refine wpList_lookup_own_ok_int _ rfl _ _ 63 rfl 31 31 .u64 law23 Try.underlying63 Try.underlying31 (zero23 _) B l.length D rfl hown2 _ _ rfl hkey ?_; intro c hat hwc)
    | (at_delete; refine wpList_delete_own _ rfl _ _ 63 31 rfl 31 law23 Try.underlying63 _ B l.length D rfl hown2 _ _ rfl hkey ?_; intro w1 hown1 hturn1)
    | go_in)
  go_ret
  exact ⟨rfl, FIN.out _ hown1 hturn1⟩
/-- What is found, of a key, if there is one. -/
def fndP (l : Ps) (k : Int) (is : Bool) : Aw := if is = true then ⟨0, true, k, vlP l k, 0, []⟩ else aw0
set_option maxRecDepth 100000 in
theorem jfound23 (B : Nat) (most k : Int) (is : Bool) (l : Ps) (D : DU) (hk : 0 ≤ k ∧ k < 18446744073709551616) (hi : is = true → isK l k = true) (w : World) (h : MpW w B l D) :
    Calls Try.prog 33 #[.agg #[.map (some B), .int .i64 most], .int .u64 k, .bool is] w fun e w' => e = .returned (awV (fndP l k is) none 0) ∧ Gw w w' := by
  obtain ⟨hown, MI, RI, BD⟩ := h
  have hown2 := (hown.alloc (.cells #[.map (some B), .int .i64 most] 65)).alloc (.cells #[.int .i64 0, .bool false, .int .u64 0, .int .u64 0, .int .i64 0, .slice none 0 0] 36)
  have hkey := key23 hk
  cases is with
  | false =>
    clear MI RI BD hown hi
    go_enter Try.func33, Try.ntmps33
    go_wp2_with fail
    refine bodyPost_ret (v := awV aw0 none 0) (by simp [awV, aw0, results, Try.results33, go_sem]) rfl ⟨rfl, ?_⟩
    exact ((Gw.refl w).alloc _ _).alloc _ _
  | true =>
    have HV : Aside (∀ z, D.atKey (.int .u64 k) z = .lit (.int .u64 (vlP l k))) := MI.val k hk.1 hk.2 (hi rfl)
    clear MI RI BD hown hi
    go_enter Try.func33, Try.ntmps33
    go_wp2_with (first
      | (at_lookup; refine wpList_lookup_own_int _ rfl _ _ 63 rfl 31 31 .u64 law23 Try.underlying63 Try.underlying31 (zero23 _) B l.length D rfl hown2 _ _ rfl hkey ?_; intro c hat hwc)
      | go_in)
    have HC : Aside (c = vlP l k) := by
      have := (HV.out _).symm.trans hat
      injection this with e1
      injection e1 with _ e2
      exact e2.symm
    refine bodyPost_ret (v := awV ⟨0, true, k, c, 0, []⟩ none 0) (by simp [awV, results, Try.results33, go_sem]) rfl ⟨?_, ?_⟩
    · unfold fndP
      rw [if_pos rfl, HC.out]
    · exact ((Gw.refl w).alloc _ _).alloc _ _
end Go.Proofs.Ytkojcjfjmlompaa

/- Package judge: what is found among all keys, in whatever order they come. -/
namespace Go.Proofs.Ytkojcjfjmlompaa
open Go.RowKit
set_option linter.unusedVariables false

def lfI (left : Lit → Bool) (x : Int) : Bool := left (.int .u64 x)
theorem same_u (x y : Int) : (Lit.int .u64 y).sameKey (.int .u64 x) = decide (y = x) := by
  rw [Bool.eq_iff_iff, WideAt.sameKey_iff (b := .int .u64 x) trivial, decide_eq_true_eq]
  exact ⟨fun e => by injection e, fun e => by rw [e]⟩
theorem lfI_step (left : Lit → Bool) (x y : Int) : lfI (fun z => left z && !z.sameKey (.int .u64 x)) y = (lfI left y && !decide (y = x)) := by
  unfold lfI
  simp only [same_u]
theorem MpI.start {D : DU} {l : Ps} (h : MpI D l) (b : BdP l) (x : Int) (hx : isK l x = true) : lfI (Maps.has D) x = true := by
  have := b _ (key_mem hx)
  simp only [] at this
  unfold lfI
  rw [h.has x this.1.1 this.1.2]
  exact hx
theorem wfu_bd {x : Int} (h : (Lit.int .u64 x).wf = true) : 0 ≤ x ∧ x < 18446744073709551616 := by
  simp only [Lit.wf, Bool.and_eq_true, decide_eq_true_eq] at h
  have h1 : IntKind.u64.min = 0 := by decide
  have h2 : IntKind.u64.max = 18446744073709551615 := by decide
  rw [h1, h2] at h
  omega
theorem MpI.came {D : DU} {l : Ps} (h : MpI D l) {x c : Int} (wx : (Lit.int .u64 x).wf = true) (hat : ∀ zd, D.atKey (.int .u64 x) zd = .lit (.int .u64 c)) : isK l x = true ∧ (0 ≤ x ∧ x < 18446744073709551616) := by
  have b := wfu_bd wx
  have := Maps.has_true_of_atKey hat
  rw [h.has x b.1 b.2] at this
  exact ⟨this, b⟩
/-- What a walk through the keys has found so far of the greatest that is not above. -/
def FlI (l : Ps) (q : Int) (left : Int → Bool) (b : Int) (is : Bool) : Prop := (is = false → b = 0) ∧ (is = true → isK l b = true ∧ b ≤ q) ∧ (0 ≤ b ∧ b < 18446744073709551616) ∧ ∀ x, isK l x = true → x ≤ q → left x = false → is = true ∧ x ≤ b
theorem fl_start {l : Ps} {left : Int → Bool} (h : ∀ x, isK l x = true → left x = true) (q : Int) : FlI l q left 0 false :=
  ⟨fun _ => rfl, fun e => (by cases e), by decide, fun x hx _ hl => by rw [h x hx] at hl; cases hl⟩
theorem fl_take {l : Ps} {q : Int} {left left' : Int → Bool} {b x : Int} {is : Bool} (h : FlI l q left b is) (e : ∀ y, left' y = (left y && !decide (y = x))) (hx : isK l x = true) (bx : 0 ≤ x ∧ x < 18446744073709551616) (h1 : x ≤ q) (h2 : b ≤ x) : FlI l q left' x true :=
  ⟨fun c => (by cases c), fun _ => ⟨hx, h1⟩, bx, fun y hy hq hl => by
    rw [e] at hl
    refine ⟨rfl, ?_⟩
    by_cases c : y = x
    · omega
    · have := (h.2.2.2 y hy hq (by simpa [c] using hl)).2
      omega⟩
theorem fl_skip {l : Ps} {q : Int} {left left' : Int → Bool} {b x : Int} {is : Bool} (h : FlI l q left b is) (e : ∀ y, left' y = (left y && !decide (y = x))) (bx : 0 ≤ x) (no : x ≤ q → ¬ b ≤ x) : FlI l q left' b is :=
  ⟨h.1, h.2.1, h.2.2.1, fun y hy hq hl => by
    rw [e] at hl
    by_cases c : y = x
    · have n := no (by omega)
      cases is with
      | false => have := h.1 rfl; omega
      | true => exact ⟨rfl, by omega⟩
    · exact h.2.2.2 y hy hq (by simpa [c] using hl)⟩
theorem fl_end {l : Ps} (r : RiseP l) {q : Int} {left : Int → Bool} {b : Int} {is : Bool} (h : FlI l q left b is) (z : ∀ x, left x = false) : fndP l b is = hitP (atP l (spotP 4 l q)) := by
  cases is with
  | false => exact (floor_no r (fun x hx hq => by have := (h.2.2.2 x hx hq (z x)).1; cases this)).symm
  | true => exact (floor_is r (h.2.1 rfl).1 (h.2.1 rfl).2 (fun y hy hq => (h.2.2.2 y hy hq (z y)).2)).symm
/-- .. of the least that is not below. -/
def CeI (l : Ps) (q : Int) (left : Int → Bool) (b : Int) (is : Bool) : Prop := (is = false → b = 18446744073709551615) ∧ (is = true → isK l b = true ∧ q ≤ b) ∧ (0 ≤ b ∧ b < 18446744073709551616) ∧ ∀ x, isK l x = true → q ≤ x → left x = false → is = true ∧ b ≤ x
theorem ce_start {l : Ps} {left : Int → Bool} (h : ∀ x, isK l x = true → left x = true) (q : Int) : CeI l q left 18446744073709551615 false :=
  ⟨fun _ => rfl, fun e => (by cases e), by decide, fun x hx _ hl => by rw [h x hx] at hl; cases hl⟩
theorem ce_take {l : Ps} {q : Int} {left left' : Int → Bool} {b x : Int} {is : Bool} (h : CeI l q left b is) (e : ∀ y, left' y = (left y && !decide (y = x))) (hx : isK l x = true) (bx : 0 ≤ x ∧ x < 18446744073709551616) (h1 : q ≤ x) (h2 : x ≤ b) : CeI l q left' x true :=
  ⟨fun c => (by cases c), fun _ => ⟨hx, h1⟩, bx, fun y hy hq hl => by
    rw [e] at hl
    refine ⟨rfl, ?_⟩
    by_cases c : y = x
    · omega
    · have := (h.2.2.2 y hy hq (by simpa [c] using hl)).2
      omega⟩
theorem ce_skip {l : Ps} {q : Int} {left left' : Int → Bool} {b x : Int} {is : Bool} (h : CeI l q left b is) (e : ∀ y, left' y = (left y && !decide (y = x))) (bx : x < 18446744073709551616) (no : q ≤ x → ¬ x ≤ b) : CeI l q left' b is :=
  ⟨h.1, h.2.1, h.2.2.1, fun y hy hq hl => by
    rw [e] at hl
    by_cases c : y = x
    · have n := no (by omega)
      cases is with
      | false => have := h.1 rfl; omega
      | true => exact ⟨rfl, by omega⟩
    · exact h.2.2.2 y hy hq (by simpa [c] using hl)⟩
theorem ce_end {l : Ps} (r : RiseP l) {q : Int} {left : Int → Bool} {b : Int} {is : Bool} (h : CeI l q left b is) (z : ∀ x, left x = false) : fndP l b is = hitP (atP l (spotP 5 l q)) := by
  cases is with
  | false => exact (ceil_no r (fun x hx hq => by have := (h.2.2.2 x hx hq (z x)).1; cases this)).symm
  | true => exact (ceil_is r (h.2.1 rfl).1 (h.2.1 rfl).2 (fun y hy hq => (h.2.2.2 y hy hq (z y)).2)).symm
set_option maxRecDepth 100000 in
set_option maxHeartbeats 4000000 in
theorem jrank23 (B : Nat) (most q : Int) (l : Ps) (D : DU) (hl : l.length ≤ 4000000) (w : World) (h : MpW w B l D) :
    Calls Try.prog 31 #[.agg #[.map (some B), .int .i64 most], .int .u64 q] w fun e w' => e = .returned (.int .i64 (rk l q : Int)) ∧ Gw w w' := by
  obtain ⟨hown, MI, RI, BD⟩ := h
  have hown2 := hown.alloc (.cells #[.map (some B), .int .i64 most] 65)
  have GA : Aside (Gw w (w.alloc (.cells #[.map (some B), .int .i64 most] 65))) := (Gw.refl w).alloc _ _
  have M0 : Aside (MpI D l ∧ RiseP l ∧ BdP l) := ⟨MI, RI, BD⟩
  obtain ⟨r, hr⟩ : ∃ r, (w.alloc (.cells #[.map (some B), .int .i64 most] 65)).heap.size = r := ⟨_, rfl⟩
  have HR : Aside ((w.alloc (.cells #[.map (some B), .int .i64 most] 65)).heap.size = r ∧ w.heap.size ≤ r) := ⟨hr, by rw [← hr]; simp⟩
  have hr2 : w.heap.size + 1 = r := by rw [← hr]; simp
  have wl : IntKind.i64.wrap (l.length : Int) = (l.length : Int) := by rw [IntKind.wrap_i64]; omega
  clear MI RI BD hown hr
  go_enter Try.func31, Try.ntmps31
  go_wp2_with (first
    | (at_range; refine wpList_range_own _ rfl _ 63 rfl 31 31 law23 Try.underlying63 _ B l.length D rfl hown2 ?_; intro w0 hrg0 hg0 hs0)
    | go_in)
  rw [HR.out.1] at hrg0 ⊢
  go_frame
  have A0 : Aside (Met l (lfI (Maps.has D)) (fun x => decide (x < q)) []) := met_start (fun x hx => M0.out.1.start M0.out.2.2 x hx) _
  have G0 : Aside (Gw w w0) := GA.out.grown hg0 (fun k e => by cases e)
  have SZ : Aside (Maps.size D = l.length) := M0.out.1.size
  clear hs0 hg0
  go_loopg [5, 6] (Maps.size D) (fun gg s5 s6 wr => ∃ (left : Lit → Bool) (cnt : Nat) (ks : List Int), s5 = .int .i64 (ks.length : Int) ∧ cnt ≤ gg ∧ wr.ranges Try.prog 31 (plainElem Try.prog 31) B r l.length D left cnt ∧ Aside (Met l (lfI left) (fun x => decide (x < q)) ks) ∧ Aside (Gw w wr))
  case atStart => exact ⟨_, _, [], rfl, Nat.le_refl _, hrg0, A0, G0⟩
  case round =>
    clear hrg0
    obtain ⟨left, cnt, ks, rfl, hcg, hrg, HM, GG⟩ := hrel
    have kl : ks.length ≤ 4000000 := by have := met_le M0.out.2.1 HM.out; omega
    have wk : IntKind.i64.wrap ((ks.length : Int) + 1) = (ks.length : Int) + 1 := by rw [IntKind.wrap_i64]; omega
    go_wp2_with (first
      | (at_next; refine wpList_next_ranges_ii _ rfl _ rfl 31 31 .u64 .u64 law23 Try.underlying31 Try.underlying31 B r l.length D left cnt rfl hrg ?_ ?_)
      | go_in)
    · intro _ hl0
      have e := met_len M0.out.2.1 HM.out (fun x => hl0 _)
      have EE : Aside (ks.length = rk l q) := e
      clear e
      go_wp2_with fail
      refine bodyPost_ret (v := .int .i64 (ks.length : Int)) (by simp [results, Try.results31, go_sem]) rfl ⟨by rw [EE.out], GG.out⟩
    · intro x c w1 cnt1 hwx hwc hlx hat hrg1 hlt hg1 hs1 hen
      have CM : Aside (isK l x = true ∧ (0 ≤ x ∧ x < 18446744073709551616)) := M0.out.1.came hwx hat
      have G1 : Aside (Gw w w1) := GG.out.grown hg1 (fun k e => by cases e; exact HR.out.2)
      have HL : Aside (lfI left x = true) := hlx
      clear hs1 hg1 hlx hat hwx hwc
      by_cases cx : x < q
      · have cx' : decide (x < q) = true := by simpa using cx
        have HM1 : Aside (Met l (lfI fun z => left z && !z.sameKey (.int .u64 x)) (fun x => decide (x < q)) (ks ++ [x])) := met_step HM.out CM.out.1 HL.out (lfI_step left x) cx'
        go_wp2_with fail
        go_roundg cnt1
        case measure => omega
        case rel => exact ⟨_, cnt1, ks ++ [x], by simp, Nat.le_refl _, hrg1, HM1, G1⟩
      · have cx' : decide (x < q) = false := by simpa using cx
        have HM1 : Aside (Met l (lfI fun z => left z && !z.sameKey (.int .u64 x)) (fun x => decide (x < q)) ks) := met_skip HM.out (lfI_step left x) cx'
        go_wp2_with fail
        go_roundg cnt1
        case measure => omega
        case rel => exact ⟨_, cnt1, ks, rfl, Nat.le_refl _, hrg1, HM1, G1⟩
end Go.Proofs.Ytkojcjfjmlompaa

/- Package judge: the keys next to one. -/
namespace Go.Proofs.Ytkojcjfjmlompaa
open Go.RowKit
set_option linter.unusedVariables false

set_option maxRecDepth 100000 in
set_option maxHeartbeats 4000000 in
theorem jfloor23 (B : Nat) (most q : Int) (l : Ps) (D : DU) (w : World) (h : MpW w B l D) :
    Calls Try.prog 29 #[.agg #[.map (some B), .int .i64 most], .int .u64 q] w fun e w' => e = .returned (awV (hitP (atP l (spotP 4 l q))) none 0) ∧ Gw w w' := by
  have HW : Aside (MpW w B l D) := h
  obtain ⟨hown, MI, RI, BD⟩ := h
  have FD : Hid (∀ (k : Int) (is : Bool) (W : World), (0 ≤ k ∧ k < 18446744073709551616) → (is = true → isK l k = true) → Gw w W → Calls Try.prog 33 #[.agg #[.map (some B), .int .i64 most], .int .u64 k, .bool is] W fun e w' => e = .returned (awV (fndP l k is) none 0) ∧ Gw W w') := fun k is W h1 h2 g => jfound23 B most k is l D h1 h2 W (HW.out.gw g)
  have hown2 := (hown.alloc (.cells #[.map (some B), .int .i64 most] 65)).alloc (.cells #[.int .i64 0, .bool false, .int .u64 0, .int .u64 0, .int .i64 0, .slice none 0 0] 36)
  have GA : Aside (Gw w ((w.alloc (.cells #[.map (some B), .int .i64 most] 65)).alloc (.cells #[.int .i64 0, .bool false, .int .u64 0, .int .u64 0, .int .i64 0, .slice none 0 0] 36))) := ((Gw.refl w).alloc _ _).alloc _ _
  have M0 : Aside (MpI D l ∧ RiseP l ∧ BdP l) := ⟨MI, RI, BD⟩
  obtain ⟨b0, hb0⟩ : ∃ b0, w.heap.size = b0 := ⟨_, rfl⟩
  obtain ⟨V, hV⟩ : ∃ V, ((w.alloc (.cells #[.map (some B), .int .i64 most] 65)).alloc (.cells #[.int .i64 0, .bool false, .int .u64 0, .int .u64 0, .int .i64 0, .slice none 0 0] 36)) = V := ⟨_, rfl⟩
  have BX : Aside (V.heap[b0]? = some (.cells #[.map (some B), .int .i64 most] 65 (0, 0)) ∧ V.heap[b0 + 1]? = some (.cells #[.int .i64 0, .bool false, .int .u64 0, .int .u64 0, .int .i64 0, .slice none 0 0] 36 (0, 0)) ∧ V.heap.size = b0 + 2 ∧ w.heap.size = b0) := by
    rw [← hV, ← hb0]
    refine ⟨?_, ?_, by simp, rfl⟩
    · rw [heap_alloc_old _ _ (by simp)]
      exact heap_alloc_new w _
    · have := heap_alloc_new (w.alloc (.cells #[.map (some B), .int .i64 most] 65)) (.cells #[.int .i64 0, .bool false, .int .u64 0, .int .u64 0, .int .i64 0, .slice none 0 0] 36)
      simpa using this
  have HV : Aside (((w.alloc (.cells #[.map (some B), .int .i64 most] 65)).alloc (.cells #[.int .i64 0, .bool false, .int .u64 0, .int .u64 0, .int .i64 0, .slice none 0 0] 36)) = V) := hV
  have HB : Aside (w.heap.size = b0) := hb0
  clear MI RI BD hown hV hb0
  go_enter Try.func29, Try.ntmps29
  go_wp2_with (first
    | (at_range; refine wpList_range_own _ rfl _ 63 rfl 31 31 law23 Try.underlying63 _ B l.length D rfl hown2 ?_; intro w0 hrg0 hg0 hs0)
    | go_in)
  rw [HV.out] at hrg0 hg0 ⊢
  rw [BX.out.2.2.1] at hrg0 ⊢
  rw [HB.out]
  go_frame
  have A0 : Aside (FlI l q (lfI (Maps.has D)) 0 false) := fl_start (fun x hx => M0.out.1.start M0.out.2.2 x hx) _
  have GV : Aside (Gw w V) := by rw [← HV.out]; exact GA.out
  have G0 : Aside (Gw V w0) := (Gw.refl V).grown hg0 (fun k e => by cases e)
  clear hs0 hg0 GA
  go_loopg [5, 6, 7] (Maps.size D) (fun gg s5 s6 s7 wr => ∃ (left : Lit → Bool) (cnt : Nat) (b : Int) (is : Bool), s5 = .int .u64 b ∧ s6 = .bool is ∧ cnt ≤ gg ∧ wr.ranges Try.prog 31 (plainElem Try.prog 31) B (b0 + 2) l.length D left cnt ∧ Aside (FlI l q (lfI left) b is) ∧ Aside (Gw V wr))
  case atStart => exact ⟨_, _, _, _, rfl, rfl, Nat.le_refl _, hrg0, A0, G0⟩
  case round =>
    clear hrg0
    obtain ⟨left, cnt, b, is, rfl, rfl, hcg, hrg, HM, GG⟩ := hrel
    have bl0 : b0 < V.heap.size := blkl BX.out.1
    have k0 : wr.cell? ⟨b0, 0, none⟩ = some (.map (some B)) := (GG.out.cell _ _ bl0).trans (blkc BX.out.1 rfl)
    have k1 : wr.cell? ⟨b0, 1, none⟩ = some (.int .i64 most) := (GG.out.cell _ _ bl0).trans (blkc BX.out.1 rfl)
    go_wp2_with (first
      | (at_next; refine wpList_next_ranges_ii _ rfl _ rfl 31 31 .u64 .u64 law23 Try.underlying31 Try.underlying31 B (b0 + 2) l.length D left cnt rfl hrg ?_ ?_)
      | go_in)
    · intro _ hl0
      have EE : Aside (fndP l b is = hitP (atP l (spotP 4 l q))) := fl_end M0.out.2.1 HM.out (fun x => hl0 _)
      go_wp2_with fail
      refine (FD.out b is _ HM.out.2.2.1 (fun e => (HM.out.2.1 e).1) (GV.out.trans GG.out)).mono ?_
      rintro e w2 ⟨rfl, g2⟩
      have RB : w2.heap[b0 + 1]? = some (.cells #[.int .i64 0, .bool false, .int .u64 0, .int .u64 0, .int .i64 0, .slice none 0 0] 36 (0, 0)) := (g2.below.block _ (Nat.lt_of_lt_of_le (blkl BX.out.2.1) GG.out.size)).trans ((GG.out.below.block _ (blkl BX.out.2.1)).trans BX.out.2.1)
      have G2 : Aside (Gw w w2) := (GV.out.trans GG.out).trans g2
      have r0 : w2.cell? ⟨b0 + 1, 0, none⟩ = some (.int .i64 0) := blkc RB rfl
      have r1 : w2.cell? ⟨b0 + 1, 1, none⟩ = some (.bool false) := blkc RB rfl
      have r2 : w2.cell? ⟨b0 + 1, 2, none⟩ = some (.int .u64 0) := blkc RB rfl
      have r3 : w2.cell? ⟨b0 + 1, 3, none⟩ = some (.int .u64 0) := blkc RB rfl
      have r4 : w2.cell? ⟨b0 + 1, 4, none⟩ = some (.int .i64 0) := blkc RB rfl
      have r5 : w2.cell? ⟨b0 + 1, 5, none⟩ = some (.slice none 0 0) := blkc RB rfl
      have fz : ∀ o : Nat, w2.frozen? ⟨b0 + 1, o, none⟩ = false := fun o => blkf RB
      have sc : ∀ (W : World) (b i j : Nat) (u : Value), (i == j) = false → (W.setCell ⟨b, i, none⟩ u).cell? ⟨b, j, none⟩ = W.cell? ⟨b, j, none⟩ := set_ne23
      have BS : Aside (w.heap.size ≤ b0 + 1) := by rw [HB.out]; exact Nat.le_succ _
      rw [EE.out]
      obtain ⟨A, hA⟩ : ∃ A, hitP (atP l (spotP 4 l q)) = A := ⟨_, rfl⟩
      have AL : A.L = [] := by rw [← hA]; exact (hit_bd M0.out.2.2 _).2.2.1
      rw [hA]
      obtain ⟨Ac, Ai, Ak, Av, An, AL'⟩ := A
      dsimp only at AL
      subst AL
      have HA : Aside (hitP (atP l (spotP 4 l q)) = ⟨Ac, Ai, Ak, Av, An, []⟩) := hA
      clear RB g2 hl0 EE hA k0 k1 hrg
      dsimp only [awV, List.length_nil]
      go_wp2_with fail
      refine bodyPost_ret (v := awV ⟨Ac, Ai, Ak, Av, An, []⟩ none 0) (by simp [results, Try.results29, go_sem, sc, r0, r1, r2, r3, r4, r5, awV]) rfl ⟨by rw [HA.out], ?_⟩
      iterate 6 refine Gw.setCell ?_ BS.out _
      exact G2.out
    · intro x c w1 cnt1 hwx hwc hlx hat hrg1 hlt hg1 hs1 hen
      have CM : Aside (isK l x = true ∧ (0 ≤ x ∧ x < 18446744073709551616)) := M0.out.1.came hwx hat
      have G1 : Aside (Gw V w1) := GG.out.grown hg1 (fun k e => by cases e; rw [BX.out.2.2.1]; exact Nat.le_refl _)
      clear hs1 hg1 hlx hat hwx hwc k0 k1
      by_cases cx : x ≤ q
      · have cx' : decide (x ≤ q) = true := by simpa using cx
        by_cases cy : b ≤ x
        · have cy' : decide (b ≤ x) = true := by simpa using cy
          have HM1 : Aside (FlI l q (lfI fun z => left z && !z.sameKey (.int .u64 x)) x true) := fl_take HM.out (lfI_step left x) CM.out.1 CM.out.2 cx cy
          go_wp2_with fail
          go_roundg cnt1
          case measure => omega
          case rel => exact ⟨_, cnt1, _, _, rfl, rfl, Nat.le_refl _, hrg1, HM1, G1⟩
        · have cy' : decide (b ≤ x) = false := by simpa using cy
          have HM1 : Aside (FlI l q (lfI fun z => left z && !z.sameKey (.int .u64 x)) b is) := fl_skip HM.out (lfI_step left x) CM.out.2.1 (fun _ => cy)
          go_wp2_with fail
          go_roundg cnt1
          case measure => omega
          case rel => exact ⟨_, cnt1, _, _, rfl, rfl, Nat.le_refl _, hrg1, HM1, G1⟩
      · have cx' : decide (x ≤ q) = false := by simpa using cx
        have HM1 : Aside (FlI l q (lfI fun z => left z && !z.sameKey (.int .u64 x)) b is) := fl_skip HM.out (lfI_step left x) CM.out.2.1 (fun e => absurd e cx)
        go_wp2_with fail
        go_roundg cnt1
        case measure => omega
        case rel => exact ⟨_, cnt1, _, _, rfl, rfl, Nat.le_refl _, hrg1, HM1, G1⟩
set_option maxRecDepth 100000 in
set_option maxHeartbeats 4000000 in
theorem jceil23 (B : Nat) (most q : Int) (l : Ps) (D : DU) (w : World) (h : MpW w B l D) :
    Calls Try.prog 30 #[.agg #[.map (some B), .int .i64 most], .int .u64 q] w fun e w' => e = .returned (awV (hitP (atP l (spotP 5 l q))) none 0) ∧ Gw w w' := by
  have HW : Aside (MpW w B l D) := h
  obtain ⟨hown, MI, RI, BD⟩ := h
  have FD : Hid (∀ (k : Int) (is : Bool) (W : World), (0 ≤ k ∧ k < 18446744073709551616) → (is = true → isK l k = true) → Gw w W → Calls Try.prog 33 #[.agg #[.map (some B), .int .i64 most], .int .u64 k, .bool is] W fun e w' => e = .returned (awV (fndP l k is) none 0) ∧ Gw W w') := fun k is W h1 h2 g => jfound23 B most k is l D h1 h2 W (HW.out.gw g)
  have hown2 := (hown.alloc (.cells #[.map (some B), .int .i64 most] 65)).alloc (.cells #[.int .i64 0, .bool false, .int .u64 0, .int .u64 0, .int .i64 0, .slice none 0 0] 36)
  have GA : Aside (Gw w ((w.alloc (.cells #[.map (some B), .int .i64 most] 65)).alloc (.cells #[.int .i64 0, .bool false, .int .u64 0, .int .u64 0, .int .i64 0, .slice none 0 0] 36))) := ((Gw.refl w).alloc _ _).alloc _ _
  have M0 : Aside (MpI D l ∧ RiseP l ∧ BdP l) := ⟨MI, RI, BD⟩
  obtain ⟨b0, hb0⟩ : ∃ b0, w.heap.size = b0 := ⟨_, rfl⟩
  obtain ⟨V, hV⟩ : ∃ V, ((w.alloc (.cells #[.map (some B), .int .i64 most] 65)).alloc (.cells #[.int .i64 0, .bool false, .int .u64 0, .int .u64 0, .int .i64 0, .slice none 0 0] 36)) = V := ⟨_, rfl⟩
  have BX : Aside (V.heap[b0]? = some (.cells #[.map (some B), .int .i64 most] 65 (0, 0)) ∧ V.heap[b0 + 1]? = some (.cells #[.int .i64 0, .bool false, .int .u64 0, .int .u64 0, .int .i64 0, .slice none 0 0] 36 (0, 0)) ∧ V.heap.size = b0 + 2 ∧ w.heap.size = b0) := by
    rw [← hV, ← hb0]
    refine ⟨?_, ?_, by simp, rfl⟩
    · rw [heap_alloc_old _ _ (by simp)]
      exact heap_alloc_new w _
    · have := heap_alloc_new (w.alloc (.cells #[.map (some B), .int .i64 most] 65)) (.cells #[.int .i64 0, .bool false, .int .u64 0, .int .u64 0, .int .i64 0, .slice none 0 0] 36)
      simpa using this
  have HV : Aside (((w.alloc (.cells #[.map (some B), .int .i64 most] 65)).alloc (.cells #[.int .i64 0, .bool false, .int .u64 0, .int .u64 0, .int .i64 0, .slice none 0 0] 36)) = V) := hV
  have HB : Aside (w.heap.size = b0) := hb0
  clear MI RI BD hown hV hb0
  go_enter Try.func30, Try.ntmps30
  go_wp2_with (first
    | (at_range; refine wpList_range_own _ rfl _ 63 rfl 31 31 law23 Try.underlying63 _ B l.length D rfl hown2 ?_; intro w0 hrg0 hg0 hs0)
    | go_in)
  rw [HV.out] at hrg0 hg0 ⊢
  rw [BX.out.2.2.1] at hrg0 ⊢
  rw [HB.out]
  go_frame
  have A0 : Aside (CeI l q (lfI (Maps.has D)) 18446744073709551615 false) := ce_start (fun x hx => M0.out.1.start M0.out.2.2 x hx) _
  have GV : Aside (Gw w V) := by rw [← HV.out]; exact GA.out
  have G0 : Aside (Gw V w0) := (Gw.refl V).grown hg0 (fun k e => by cases e)
  clear hs0 hg0 GA
  go_loopg [5, 6, 7] (Maps.size D) (fun gg s5 s6 s7 wr => ∃ (left : Lit → Bool) (cnt : Nat) (b : Int) (is : Bool), s5 = .int .u64 b ∧ s6 = .bool is ∧ cnt ≤ gg ∧ wr.ranges Try.prog 31 (plainElem Try.prog 31) B (b0 + 2) l.length D left cnt ∧ Aside (CeI l q (lfI left) b is) ∧ Aside (Gw V wr))
  case atStart => exact ⟨_, _, _, _, rfl, rfl, Nat.le_refl _, hrg0, A0, G0⟩
  case round =>
    clear hrg0
    obtain ⟨left, cnt, b, is, rfl, rfl, hcg, hrg, HM, GG⟩ := hrel
    have bl0 : b0 < V.heap.size := blkl BX.out.1
    have k0 : wr.cell? ⟨b0, 0, none⟩ = some (.map (some B)) := (GG.out.cell _ _ bl0).trans (blkc BX.out.1 rfl)
    have k1 : wr.cell? ⟨b0, 1, none⟩ = some (.int .i64 most) := (GG.out.cell _ _ bl0).trans (blkc BX.out.1 rfl)
    go_wp2_with (first
      | (at_next; refine wpList_next_ranges_ii _ rfl _ rfl 31 31 .u64 .u64 law23 Try.underlying31 Try.underlying31 B (b0 + 2) l.length D left cnt rfl hrg ?_ ?_)
      | go_in)
    · intro _ hl0
      have EE : Aside (fndP l b is = hitP (atP l (spotP 5 l q))) := ce_end M0.out.2.1 HM.out (fun x => hl0 _)
      go_wp2_with fail
      refine (FD.out b is _ HM.out.2.2.1 (fun e => (HM.out.2.1 e).1) (GV.out.trans GG.out)).mono ?_
      rintro e w2 ⟨rfl, g2⟩
      have RB : w2.heap[b0 + 1]? = some (.cells #[.int .i64 0, .bool false, .int .u64 0, .int .u64 0, .int .i64 0, .slice none 0 0] 36 (0, 0)) := (g2.below.block _ (Nat.lt_of_lt_of_le (blkl BX.out.2.1) GG.out.size)).trans ((GG.out.below.block _ (blkl BX.out.2.1)).trans BX.out.2.1)
      have G2 : Aside (Gw w w2) := (GV.out.trans GG.out).trans g2
      have r0 : w2.cell? ⟨b0 + 1, 0, none⟩ = some (.int .i64 0) := blkc RB rfl
      have r1 : w2.cell? ⟨b0 + 1, 1, none⟩ = some (.bool false) := blkc RB rfl
      have r2 : w2.cell? ⟨b0 + 1, 2, none⟩ = some (.int .u64 0) := blkc RB rfl
      have r3 : w2.cell? ⟨b0 + 1, 3, none⟩ = some (.int .u64 0) := blkc RB rfl
      have r4 : w2.cell? ⟨b0 + 1, 4, none⟩ = some (.int .i64 0) := blkc RB rfl
      have r5 : w2.cell? ⟨b0 + 1, 5, none⟩ = some (.slice none 0 0) := blkc RB rfl
      have fz : ∀ o : Nat, w2.frozen? ⟨b0 + 1, o, none⟩ = false := fun o => blkf RB
      have sc : ∀ (W : World) (b i j : Nat) (u : Value), (i == j) = false → (W.setCell ⟨b, i, none⟩ u).cell? ⟨b, j, none⟩ = W.cell? ⟨b, j, none⟩ := set_ne23
      have BS : Aside (w.heap.size ≤ b0 + 1) := by rw [HB.out]; exact Nat.le_succ _
      rw [EE.out]
      obtain ⟨A, hA⟩ : ∃ A, hitP (atP l (spotP 5 l q)) = A := ⟨_, rfl⟩
      have AL : A.L = [] := by rw [← hA]; exact (hit_bd M0.out.2.2 _).2.2.1
      rw [hA]
      obtain ⟨Ac, Ai, Ak, Av, An, AL'⟩ := A
      dsimp only at AL
      subst AL
      have HA : Aside (hitP (atP l (spotP 5 l q)) = ⟨Ac, Ai, Ak, Av, An, []⟩) := hA
      clear RB g2 hl0 EE hA k0 k1 hrg
      dsimp only [awV, List.length_nil]
      go_wp2_with fail
      refine bodyPost_ret (v := awV ⟨Ac, Ai, Ak, Av, An, []⟩ none 0) (by simp [results, Try.results30, go_sem, sc, r0, r1, r2, r3, r4, r5, awV]) rfl ⟨by rw [HA.out], ?_⟩
      iterate 6 refine Gw.setCell ?_ BS.out _
      exact G2.out
    · intro x c w1 cnt1 hwx hwc hlx hat hrg1 hlt hg1 hs1 hen
      have CM : Aside (isK l x = true ∧ (0 ≤ x ∧ x < 18446744073709551616)) := M0.out.1.came hwx hat
      have G1 : Aside (Gw V w1) := GG.out.grown hg1 (fun k e => by cases e; rw [BX.out.2.2.1]; exact Nat.le_refl _)
      clear hs1 hg1 hlx hat hwx hwc k0 k1
      by_cases cx : q ≤ x
      · have cx' : decide (q ≤ x) = true := by simpa using cx
        by_cases cy : x ≤ b
        · have cy' : decide (x ≤ b) = true := by simpa using cy
          have HM1 : Aside (CeI l q (lfI fun z => left z && !z.sameKey (.int .u64 x)) x true) := ce_take HM.out (lfI_step left x) CM.out.1 CM.out.2 cx cy
          go_wp2_with fail
          go_roundg cnt1
          case measure => omega
          case rel => exact ⟨_, cnt1, _, _, rfl, rfl, Nat.le_refl _, hrg1, HM1, G1⟩
        · have cy' : decide (x ≤ b) = false := by simpa using cy
          have HM1 : Aside (CeI l q (lfI fun z => left z && !z.sameKey (.int .u64 x)) b is) := ce_skip HM.out (lfI_step left x) CM.out.2.2 (fun _ => cy)
          go_wp2_with fail
          go_roundg cnt1
          case measure => omega
          case rel => exact ⟨_, cnt1, _, _, rfl, rfl, Nat.le_refl _, hrg1, HM1, G1⟩
      · have cx' : decide (q ≤ x) = false := by simpa using cx
        have HM1 : Aside (CeI l q (lfI fun z => left z && !z.sameKey (.int .u64 x)) b is) := ce_skip HM.out (lfI_step left x) CM.out.2.2 (fun e => absurd e cx)
        go_wp2_with fail
        go_roundg cnt1
        case measure => omega
        case rel => exact ⟨_, cnt1, _, _, rfl, rfl, Nat.le_refl _, hrg1, HM1, G1⟩
end Go.Proofs.Ytkojcjfjmlompaa
