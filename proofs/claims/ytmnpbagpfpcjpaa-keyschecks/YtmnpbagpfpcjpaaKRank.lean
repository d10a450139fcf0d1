/- Where a key is: package keys' Rank, by the library's halving. -/
import Derived.Test.YtmnpbagpfpcjpaaKRise
namespace Go.Proofs.Ytmnpbagpfpcjpaa
open Go.RowKit
set_option linter.unusedVariables false

theorem cnan_any (x : Int) (w : World) : Calls Try.prog 32 #[.int .u64 x] w fun e w' => e = .returned (.bool false) ∧ w' = w := by
  go_enter Try.func32, Try.ntmps32
  go_wp2
  go_ret
  exact ⟨by simp, rfl⟩
theorem snan_any (x : Int) (w : World) : Calls Try.prog 31 #[.int .u64 x] w fun e w' => e = .returned (.bool false) ∧ w' = w := by
  go_enter Try.func31, Try.ntmps31
  go_wp2
  go_ret
  exact ⟨by simp, rfl⟩
theorem less_any (x y : Int) (w : World) : Calls Try.prog 30 #[.int .u64 x, .int .u64 y] w fun e w' => e = .returned (.bool (decide (x < y))) ∧ w' = w := by
  go_enter Try.func30, Try.ntmps30
  go_wp2_with (go_at_call 32; refine (cnan_any _ _).mono ?_; rintro e w' ⟨rfl, rfl⟩)
  go_ret
  exact ⟨rfl, rfl⟩

set_option maxHeartbeats 4000000 in
set_option maxRecDepth 100000 in
theorem search_any (ao : Option Addr) (n c : Nat) (f : Nat → Int) (x : Int) (hn : n < 4611686018427387904) (w : World) (h : KS w ao n f) (u : Up f n) :
    Calls Try.prog 26 #[.slice ao n c, .int .u64 x] w fun e w' => (∃ (m : Nat) (t : Bool), e = .returned (.tuple #[.int .i64 m, .bool t]) ∧ RankR f n x m t) ∧ Gb w w' := by
  have U : Aside (Up f n) := u
  clear u
  go_enter Try.func26, Try.ntmps26
  go_wp2_with fail
  go_loopg [7, 8] n (fun gg s7 s8 wr => ∃ lo hi : Nat, s7 = .int .i64 lo ∧ s8 = .int .i64 hi ∧ lo ≤ hi ∧ hi ≤ n ∧ hi - lo ≤ gg ∧ Aside ((∀ j, j < lo → f j < x) ∧ (∀ j, hi ≤ j → j < n → x ≤ f j)) ∧ Aside (Gb w wr))
  case atStart => exact ⟨0, n, rfl, rfl, Nat.zero_le _, Nat.le_refl _, by omega, ⟨fun j hj => by omega, fun j h1 h2 => by omega⟩, Gb.refl w⟩
  case round =>
    obtain ⟨lo, hi, rfl, rfl, hlh, hin, hg, I, G⟩ := hrel
    by_cases hlt : lo < hi
    · obtain ⟨b, off, rfl, hb, hc⟩ := (h.gb G.out).cells (by omega)
      have c1 := hc ((lo + hi) / 2) (by omega)
      clear hc h
      generalize hy : f ((lo + hi) / 2) = y at c1
      have Y : Aside (f ((lo + hi) / 2) = y) := hy
      clear hy
      by_cases hyx : y < x
      · go_wp2_with (first | (go_at_call 30; refine (less_any _ _ _).mono ?_; rintro e w' ⟨rfl, rfl⟩))
        go_roundg (hi - ((lo + hi) / 2 + 1))
        case measure => omega
        case rel =>
          refine ⟨(lo + hi) / 2 + 1, hi, by rw [show ((lo : Int) + (hi : Int)) / 2 + 1 = (((lo + hi) / 2 + 1 : Nat) : Int) by omega], rfl, by omega, hin, Nat.le_refl _, (show Aside _ from ⟨fun j hj => ?_, I.out.2⟩), G⟩
          have := U.out.le (show j ≤ (lo + hi) / 2 by omega) (by omega)
          rw [Y.out] at this
          omega
      · go_wp2_with (first | (go_at_call 30; refine (less_any _ _ _).mono ?_; rintro e w' ⟨rfl, rfl⟩))
        go_roundg ((lo + hi) / 2 - lo)
        case measure => omega
        case rel =>
          refine ⟨lo, (lo + hi) / 2, rfl, by rw [show ((lo : Int) + (hi : Int)) / 2 = (((lo + hi) / 2 : Nat) : Int) by omega], by omega, by omega, Nat.le_refl _, (show Aside _ from ⟨I.out.1, fun j hj hjn => ?_⟩), G⟩
          have := U.out.le hj hjn
          rw [Y.out] at this
          omega
    · obtain rfl : hi = lo := by omega
      by_cases hn' : hi < n
      · obtain ⟨b, off, rfl, hb, hc⟩ := (h.gb G.out).cells (by omega)
        have c1 := hc hi (by omega)
        clear hc h
        generalize hy : f hi = y at c1
        have Y : Aside (f hi = y) := hy
        clear hy
        by_cases hyx : y = x
        · go_wp2_with (first | (go_at_call 31; refine (snan_any _ _).mono ?_; rintro e w' ⟨rfl, rfl⟩))
          go_ret2
          exact ⟨⟨hi, true, by simp, hin, I.out.1, I.out.2, by simp [hn', Y.out, hyx]⟩, G.out⟩
        · go_wp2_with (first | (go_at_call 31; refine (snan_any _ _).mono ?_; rintro e w' ⟨rfl, rfl⟩))
          go_ret2
          exact ⟨⟨hi, false, by simp [hyx], hin, I.out.1, I.out.2, by simp [hn', Y.out, hyx]⟩, G.out⟩
      · go_wp2_with (first | (go_at_call 31; refine (snan_any _ _).mono ?_; rintro e w' ⟨rfl, rfl⟩))
        go_ret2
        exact ⟨⟨hi, false, by simp, hin, I.out.1, I.out.2, by simp [hn']⟩, G.out⟩

/-- What Rank answers. -/
def RankA (f : Nat → Int) (n : Nat) (q : Int) (m : Int) (t : Bool) : Prop := (Up f n ∧ ∃ k : Nat, m = k ∧ RankR f n q k t) ∨ (¬ Up f n ∧ m = -1 ∧ t = false)

set_option maxHeartbeats 1000000 in
theorem rank_any (ao : Option Addr) (n c : Nat) (f : Nat → Int) (x : Int) (hn : n < 4611686018427387904) (w : World) (h : KS w ao n f) :
    Calls Try.prog 18 #[.slice ao n c, .int .u64 x] w fun e w' => (∃ (m : Int) (t : Bool), e = .returned (.tuple #[.int .i64 m, .bool t]) ∧ RankA f n x m t) ∧ Gb w w' := by
  go_enter Try.func18, Try.ntmps18
  go_wp2_with fail
  refine (rising_any ao n c f hn w h).mono ?_
  rintro e w1 ⟨⟨r, rfl, h1⟩, g1⟩
  cases r with
  | false =>
    have H : Hid (¬ Up f n) := fun hu => Bool.noConfusion (h1.2 hu)
    clear h1
    go_wp2_with fail
    go_ret2
    exact ⟨⟨-1, false, rfl, .inr ⟨H.out, rfl, rfl⟩⟩, g1⟩
  | true =>
    have H : Hid (Up f n) := h1.1 rfl
    clear h1
    go_wp2_with fail
    refine (search_any ao n c f x hn w1 (h.gb g1) H.out).mono ?_
    rintro e w2 ⟨⟨m, t, rfl, hR⟩, g2⟩
    have R : Hid (RankR f n x m t) := hR
    clear hR
    go_wp2_with fail
    go_ret2
    exact ⟨⟨m, t, rfl, .inl ⟨H.out, m, rfl, R.out⟩⟩, g1.trans g2⟩

end Go.Proofs.Ytmnpbagpfpcjpaa
