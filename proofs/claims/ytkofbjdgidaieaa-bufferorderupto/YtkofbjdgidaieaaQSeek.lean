/- Package buffer: an entry is found by the library's halving. -/
import Derived.Test.YtkofbjdgidaieaaQMem
import Derived.Deep.LoopGhost
namespace Go.Proofs.Ytkofbjdgidaieaa
open Go.RowKit
set_option linter.unusedVariables false

def cmp3 (a b : Int) : Int := if a < b then -1 else if b < a then 1 else 0
theorem cmp3_lt (a b : Int) : cmp3 a b < 0 ↔ a < b := by unfold cmp3; split <;> (try split) <;> omega
theorem cmp3_eq (a b : Int) : cmp3 a b = 0 ↔ a = b := by unfold cmp3; split <;> (try split) <;> omega
theorem cnan14 (x : Int) (w : World) : Calls Try.prog 32 #[.int .u64 x] w fun e w' => e = .returned (.bool false) ∧ w' = w := by
  go_enter Try.func32, Try.ntmps32
  go_wp2
  go_ret
  exact ⟨by simp, rfl⟩
theorem ccmp14 (x y : Int) (w : World) : Calls Try.prog 31 #[.int .u64 x, .int .u64 y] w fun e w' => e = .returned (.int .i64 (cmp3 x y)) ∧ w' = w := by
  rcases Int.lt_trichotomy x y with h | h | h
  · have H : Aside (cmp3 x y = -1) := by show _ = _; unfold cmp3; rw [if_pos h]
    have t1 : decide (x < y) = true := by simpa using h
    clear h
    go_enter Try.func31, Try.ntmps31
    go_wp2_with (go_at_call 32; refine (cnan14 _ _).mono ?_; rintro e w' ⟨rfl, rfl⟩)
    go_ret
    exact ⟨by rw [H.out]; rfl, rfl⟩
  · have H : Aside (cmp3 x y = 0) := by show _ = _; unfold cmp3; rw [if_neg (by omega), if_neg (by omega)]
    have t1 : decide (x < y) = false := by simp; omega
    have t2 : decide (y < x) = false := by simp; omega
    clear h
    go_enter Try.func31, Try.ntmps31
    go_wp2_with (go_at_call 32; refine (cnan14 _ _).mono ?_; rintro e w' ⟨rfl, rfl⟩)
    go_ret
    exact ⟨by rw [H.out]; rfl, rfl⟩
  · have H : Aside (cmp3 x y = 1) := by show _ = _; unfold cmp3; rw [if_neg (by omega), if_pos h]
    have t1 : decide (x < y) = false := by simp; omega
    have t2 : decide (y < x) = true := by simpa using h
    clear h
    go_enter Try.func31, Try.ntmps31
    go_wp2_with (go_at_call 32; refine (cnan14 _ _).mono ?_; rintro e w' ⟨rfl, rfl⟩)
    go_ret
    exact ⟨by rw [H.out]; rfl, rfl⟩
theorem comp14 (k v : Int) (g : Bool) (y : Int) (w : World) : Calls Try.prog 30 #[.agg #[.int .u64 k, .int .u64 v, .bool g], .int .u64 y] w fun e w' => e = .returned (.int .i64 (cmp3 k y)) ∧ Gw w w' := by
  have CM : Hid (∀ W, Calls Try.prog 31 #[.int .u64 k, .int .u64 y] W fun e w' => e = .returned (.int .i64 (cmp3 k y)) ∧ w' = W) := fun W => ccmp14 k y W
  generalize cmp3 k y = c at CM ⊢
  go_enter Try.func30, Try.ntmps30
  go_wp2_with fail
  refine (CM.out _).mono ?_
  rintro e w' ⟨rfl, rfl⟩
  go_wp2_with fail
  go_ret
  exact ⟨rfl, (Gw.refl w).alloc _ _⟩
set_option maxHeartbeats 4000000 in
set_option maxRecDepth 100000 in
theorem bsf14 (ao : Option Addr) (c : Nat) (l : List Ent) (x : Int) (hn : l.length ≤ 4000000) (w : World) (h : EL w ao l) (r : Rise Ent.k l) :
    Calls Try.prog 29 #[.slice ao l.length c, .int .u64 x, .func (.func 30) #[] #[]] w fun e w' => e = .returned (.tuple #[.int .i64 (plc Ent.k x l : Int), .bool (look Ent.k x l).isSome]) ∧ Gw w w' := by
  have HE : Aside (EL w ao l) := h
  have R : Aside (Rise Ent.k l) := r
  obtain ⟨n, hln⟩ : ∃ n, l.length = n := ⟨_, rfl⟩
  have LN : Aside (l.length = n) := hln
  rw [hln] at hn ⊢
  have FIN : Hid (∀ (i : Nat) (t : Bool), i ≤ n → (∀ j y, j < i → l[j]? = some y → y.k < x) → (∀ y, l[i]? = some y → x ≤ y.k) → (t = true ↔ ∃ y, l[i]? = some y ∧ y.k = x) → plc Ent.k x l = i ∧ (look Ent.k x l).isSome = t) := fun i t hi h1 h2 h3 => by
    have e := plc_one (key := Ent.k) (k := x) (l := l) (i := i) (by rw [LN.out]; exact hi) h1 (fun y hy => by have := h2 y hy; omega)
    refine ⟨e, ?_⟩
    cases t with
    | true =>
      obtain ⟨y, hy, hk⟩ := h3.1 rfl
      rw [plc_there R.out (by rw [e]; exact hy) hk]; rfl
    | false =>
      rw [plc_absent R.out (fun y hy hk => by rw [e] at hy; exact Bool.noConfusion (h3.2 ⟨y, hy, hk⟩))]; rfl
  have ENT : ∀ (args : Array Value) (W : World), (callFunc 30 args).run Try.prog W = .ok (.enter 30 args) W := fun args W => rfl
  have CELL : Hid (∀ (i : Nat) (W : World), i < n → Gw w W → ∃ (b off : Nat) (y : Ent), ao = some ⟨b, off, none⟩ ∧ l[i]? = some y ∧ W.cell? ⟨b, off + i * 3, none⟩ = some (.int .u64 y.k) ∧ W.cell? ⟨b, off + i * 3 + 1, none⟩ = some (.int .u64 y.v) ∧ W.cell? ⟨b, off + i * 3 + 2, none⟩ = some (.bool y.g)) := fun i W hi g => by
    have hi' : i < l.length := by rw [LN.out]; exact hi
    obtain ⟨b, off, e, _, hc⟩ := (HE.out.gw g).cells (by omega)
    obtain ⟨c0, c1, c2⟩ := hc i hi'
    refine ⟨b, off, l.getD i ent0, e, by simp [List.getD, hi'], c0, c1, c2⟩
  have UPW : Hid (∀ (i j : Nat) (y z : Ent), i ≤ j → l[i]? = some y → l[j]? = some z → y.k ≤ z.k) := fun i j y z hij hy hz => by
    obtain ⟨i1, i2⟩ := List.getElem?_eq_some_iff.1 hy
    obtain ⟨j1, j2⟩ := List.getElem?_eq_some_iff.1 hz
    by_cases e : i = j
    · subst e; rw [hy] at hz; cases hz; exact Int.le_refl _
    · have := (List.pairwise_iff_getElem.1 R.out) i j i1 j1 (by omega)
      rw [i2, j2] at this
      omega
  clear h r hln
  go_enter Try.func29, Try.ntmps29
  go_wp2_with fail
  go_loopg [9, 10] n (fun gg s7 s8 wr => ∃ lo hi : Nat, s7 = .int .i64 lo ∧ s8 = .int .i64 hi ∧ lo ≤ hi ∧ hi ≤ n ∧ hi - lo ≤ gg ∧ Aside ((∀ j y, j < lo → l[j]? = some y → y.k < x) ∧ (∀ j y, hi ≤ j → l[j]? = some y → x ≤ y.k)) ∧ Aside (Gw w wr))
  case atStart => exact ⟨0, n, rfl, rfl, Nat.zero_le _, Nat.le_refl _, by omega, ⟨fun j y hj => by omega, fun j y h1 h2 => by have := (List.getElem?_eq_some_iff.1 h2).1; have := LN.out; omega⟩, Gw.refl w⟩
  case round =>
    obtain ⟨lo, hi, rfl, rfl, hlh, hin, hg, I, G⟩ := hrel
    by_cases hlt : lo < hi
    · obtain ⟨b, off, y, e, hy, c0, c1, c2⟩ := CELL.out ((lo + hi) / 2) wr (by omega) G.out
      subst e
      obtain ⟨yk, yv, yg⟩ := y
      have Y : Aside (l[(lo + hi) / 2]? = some ⟨yk, yv, yg⟩) := hy
      have c0' : wr.cell? ⟨b, off + (lo + hi) / 2 * 3, none⟩ = some (.int .u64 yk) := c0
      have c1' : wr.cell? ⟨b, off + (lo + hi) / 2 * 3 + 1, none⟩ = some (.int .u64 yv) := c1
      have c2' : wr.cell? ⟨b, off + (lo + hi) / 2 * 3 + 2, none⟩ = some (.bool yg) := c2
      clear hy c0 c1 c2
      by_cases hyx : yk < x
      · have t1 : decide (cmp3 yk x < 0) = true := by simpa [cmp3_lt] using hyx
        have CC : Hid (∀ W, Calls Try.prog 30 #[.agg #[.int .u64 yk, .int .u64 yv, .bool yg], .int .u64 x] W fun e w' => e = .returned (.int .i64 (cmp3 yk x)) ∧ Gw W w') := fun W => comp14 yk yv yg x W
        have HX : Aside (yk < x) := hyx
        clear hyx ENT
        generalize cmp3 yk x = cc at t1 CC
        go_wp2_with fail
        refine (CC.out _).mono ?_
        rintro e w' ⟨rfl, gg'⟩
        have G' : Aside (Gw w w') := G.out.trans gg'
        clear gg' CC
        go_wp2_with fail
        go_roundg (hi - ((lo + hi) / 2 + 1))
        case measure => omega
        case rel =>
          refine ⟨(lo + hi) / 2 + 1, hi, by rw [show ((lo : Int) + (hi : Int)) / 2 + 1 = (((lo + hi) / 2 + 1 : Nat) : Int) by omega], rfl, by omega, hin, Nat.le_refl _, (show Aside _ from ⟨fun j z hj hz => ?_, I.out.2⟩), G'.out⟩
          have := UPW.out j ((lo + hi) / 2) z _ (by omega) hz Y.out
          have hx := HX.out
          simp at this
          omega
      · have t1 : decide (cmp3 yk x < 0) = false := by simpa [cmp3_lt] using hyx
        have CC : Hid (∀ W, Calls Try.prog 30 #[.agg #[.int .u64 yk, .int .u64 yv, .bool yg], .int .u64 x] W fun e w' => e = .returned (.int .i64 (cmp3 yk x)) ∧ Gw W w') := fun W => comp14 yk yv yg x W
        have HX : Aside (x ≤ yk) := by show _ ≤ _; omega
        clear hyx ENT
        generalize cmp3 yk x = cc at t1 CC
        go_wp2_with fail
        refine (CC.out _).mono ?_
        rintro e w' ⟨rfl, gg'⟩
        have G' : Aside (Gw w w') := G.out.trans gg'
        clear gg' CC
        go_wp2_with fail
        go_roundg ((lo + hi) / 2 - lo)
        case measure => omega
        case rel =>
          refine ⟨lo, (lo + hi) / 2, rfl, by rw [show ((lo : Int) + (hi : Int)) / 2 = (((lo + hi) / 2 : Nat) : Int) by omega], by omega, by omega, Nat.le_refl _, (show Aside _ from ⟨I.out.1, fun j z hj hz => ?_⟩), G'.out⟩
          have := UPW.out ((lo + hi) / 2) j _ z hj Y.out hz
          have hx := HX.out
          simp at this
          omega
    · obtain rfl : hi = lo := by omega
      by_cases hn' : hi < n
      · have hn2 : (hi : Int) < (n : Int) := by omega
        obtain ⟨b, off, y, e, hy, c0, c1, c2⟩ := CELL.out hi wr hn' G.out
        subst e
        obtain ⟨yk, yv, yg⟩ := y
        have Y : Aside (l[hi]? = some ⟨yk, yv, yg⟩) := hy
        have c0' : wr.cell? ⟨b, off + hi * 3, none⟩ = some (.int .u64 yk) := c0
        have c1' : wr.cell? ⟨b, off + hi * 3 + 1, none⟩ = some (.int .u64 yv) := c1
        have c2' : wr.cell? ⟨b, off + hi * 3 + 2, none⟩ = some (.bool yg) := c2
        clear hy c0 c1 c2
        have CC : Hid (∀ W, Calls Try.prog 30 #[.agg #[.int .u64 yk, .int .u64 yv, .bool yg], .int .u64 x] W fun e w' => e = .returned (.int .i64 (cmp3 yk x)) ∧ Gw W w') := fun W => comp14 yk yv yg x W
        by_cases hyx : yk = x
        · have t1 : (cmp3 yk x == 0) = true := by simpa [cmp3_eq] using hyx
          obtain ⟨f1, f2⟩ := FIN.out hi true hin I.out.1 (fun y hy => I.out.2 hi y (Nat.le_refl _) hy) ⟨fun _ => ⟨_, Y.out, hyx⟩, fun _ => rfl⟩
          have F12 : Aside (plc Ent.k x l = hi ∧ (look Ent.k x l).isSome = true) := ⟨f1, f2⟩
          clear hyx f1 f2 ENT
          generalize cmp3 yk x = cc at t1 CC
          go_wp2_with fail
          refine (CC.out _).mono ?_
          rintro e w' ⟨rfl, gg'⟩
          have G' : Aside (Gw w w') := G.out.trans gg'
          clear gg' CC
          go_wp2_with fail
          go_ret2
          exact ⟨by rw [F12.out.1, F12.out.2]; rfl, G'.out⟩
        · have t1 : (cmp3 yk x == 0) = false := by simpa [cmp3_eq] using hyx
          obtain ⟨f1, f2⟩ := FIN.out hi false hin I.out.1 (fun y hy => I.out.2 hi y (Nat.le_refl _) hy) ⟨fun q => Bool.noConfusion q, fun ⟨z, hz, hk⟩ => by rw [Y.out] at hz; cases hz; exact absurd hk hyx⟩
          have F12 : Aside (plc Ent.k x l = hi ∧ (look Ent.k x l).isSome = false) := ⟨f1, f2⟩
          clear hyx f1 f2 ENT
          generalize cmp3 yk x = cc at t1 CC
          go_wp2_with fail
          refine (CC.out _).mono ?_
          rintro e w' ⟨rfl, gg'⟩
          have G' : Aside (Gw w w') := G.out.trans gg'
          clear gg' CC
          go_wp2_with fail
          go_ret2
          exact ⟨by rw [F12.out.1, F12.out.2]; rfl, G'.out⟩
      · have hn2 : decide ((hi : Int) < (n : Int)) = false := by simp; omega
        obtain ⟨f1, f2⟩ := FIN.out hi false hin I.out.1 (fun y hy => I.out.2 hi y (Nat.le_refl _) hy) ⟨fun q => Bool.noConfusion q, fun ⟨z, hz, hk⟩ => by have := (List.getElem?_eq_some_iff.1 hz).1; have := LN.out; omega⟩
        have F12 : Aside (plc Ent.k x l = hi ∧ (look Ent.k x l).isSome = false) := ⟨f1, f2⟩
        clear f1 f2 ENT
        go_wp2_with fail
        go_ret2
        exact ⟨by rw [F12.out.1, F12.out.2]; rfl, G.out⟩
set_option maxHeartbeats 1000000 in
theorem find14 (p : Nat) (S : Nat → Prop) (most : Int) (l : List Ent) (x : Int) (hn : l.length ≤ 4000000) (w : World) (h : HB 53 w p S most l) :
    Calls Try.prog 23 #[.pointer (some ⟨p, 0, none⟩), .int .u64 x] w fun e w' => e = .returned (.tuple #[.int .i64 (plc Ent.k x l : Int), .bool (look Ent.k x l).isSome]) ∧ Gw w w' := by
  obtain ⟨v, h1, h2, h3, h4⟩ := h.lies
  obtain ⟨bo, c, rfl, hc, _⟩ := eo_shape h2
  have c1 := blkc (o := 1) h1 rfl
  have BS : Hid (∀ W, Gw w W → Calls Try.prog 29 #[.slice bo l.length c, .int .u64 x, .func (.func 30) #[] #[]] W fun e w' => e = .returned (.tuple #[.int .i64 (plc Ent.k x l : Int), .bool (look Ent.k x l).isSome]) ∧ Gw W w') := fun W g => bsf14 bo c l x hn W ((eo_el h2 h.ok).gw g) h.rise
  generalize plc Ent.k x l = pp at BS ⊢
  generalize (look Ent.k x l).isSome = tt at BS ⊢
  generalize l.length = n at BS c1
  clear h h1 h2 h3 h4 hc hn
  go_enter Try.func23, Try.ntmps23
  go_wp2_with fail
  refine (BS.out _ (Gw.refl w)).mono ?_
  rintro e w' ⟨rfl, g⟩
  have G : Aside (Gw w w') := g
  clear g BS
  go_wp2_with fail
  go_ret2
  exact ⟨rfl, G.out⟩
end Go.Proofs.Ytkofbjdgidaieaa
