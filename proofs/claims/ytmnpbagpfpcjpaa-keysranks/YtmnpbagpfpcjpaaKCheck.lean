/- Package keys at entries: how far they rise, what is wrong with them, how many live. -/
import Derived.Test.YtmnpbagpfpcjpaaKGrow
import Derived.Test.YtmnpbagpfpcjpaaKPlain
import Derived.Deep.LoopGhost
namespace Go.Proofs.Ytmnpbagpfpcjpaa
open Go.RowKit
set_option linter.unusedVariables false

theorem keyOf_any (a b : Int) (g : Bool) (w : World) : Calls Try.prog 23 #[.agg #[.int .u64 a, .int .u64 b, .bool g]] w fun e w' => e = .returned (.int .u64 a) ∧ Gb w w' := by
  go_enter Try.func23, Try.ntmps23
  go_wp2
  go_ret
  exact ⟨rfl, (Gb.refl w).alloc _ _⟩

theorem valued_any (a b : Int) (g : Bool) (w : World) : Calls Try.prog 25 #[.agg #[.int .u64 a, .int .u64 b, .bool g]] w fun e w' => e = .returned (.bool (g && (b != 0))) ∧ Gb w w' := by
  go_enter Try.func25, Try.ntmps25
  cases g with
  | false =>
    go_wp2
    go_ret
    exact ⟨rfl, (Gb.refl w).alloc _ _⟩
  | true =>
    go_wp2
    go_ret
    exact ⟨rfl, (Gb.refl w).alloc _ _⟩

set_option maxHeartbeats 1000000 in
theorem rises_entries (ao : Option Addr) (n c : Nat) (k v : Nat → Int) (g : Nat → Bool) (hn : n < 4611686018427387904) (w : World) (h : ES w ao n k v g) :
    Calls Try.prog 22 #[.slice ao n c, .func (.func 23) #[] #[]] w fun e w' => (∃ r : Nat, e = .returned (.int .i64 r) ∧ r ≤ n ∧ Up k r ∧ (r < n → 1 ≤ r ∧ k r ≤ k (r - 1))) ∧ Gb w w' := by
  go_enter Try.func22, Try.ntmps22
  go_wp2_with fail
  go_loopg [5] n (fun gg s5 wr => ∃ i : Nat, s5 = .int .i64 i ∧ 1 ≤ i ∧ (i ≤ n ∨ i = 1) ∧ n - i ≤ gg ∧ Aside (Up k i) ∧ Aside (Gb w wr))
  case atStart => exact ⟨1, rfl, Nat.le_refl _, .inr rfl, by omega, fun j hj => by omega, Gb.refl w⟩
  case round =>
    obtain ⟨i, rfl, h1, h2, h3, H4, G⟩ := hrel
    by_cases hlt : i < n
    · obtain ⟨b, off, rfl, hb, hc⟩ := (h.gb G.out).cells (by omega)
      obtain ⟨m, hm⟩ : ∃ m : Nat, (i : Int) - 1 = m := ⟨i - 1, by omega⟩
      have hmn : m < n := by omega
      have hw := wrap_nat m (by omega)
      obtain ⟨c1, c2, c3⟩ := hc i hlt
      obtain ⟨d1, d2, d3⟩ := hc m hmn
      clear hc
      generalize hy1 : k i = y1 at c1
      generalize hy0 : k m = y0 at d1
      have Y : Aside (k i = y1 ∧ k m = y0 ∧ i = m + 1) := ⟨hy1, hy0, by omega⟩
      clear hy1 hy0 h h2
      generalize v i = v1 at c2
      generalize v m = v0 at d2
      generalize g i = g1 at c3
      generalize g m = g0 at d3
      have e1 := GW.cell c1 hb
      have e2 := GW.cell c2 hb
      have e3 := GW.cell c3 hb
      have e4 := GW.cell d1 hb
      have e5 := GW.cell d2 hb
      have e6 := GW.cell d3 hb
      have ne := GW.some wr
      by_cases hle : y1 ≤ y0
      · go_wp2_with fail
        refine wp_region_grow (by kernel_rfl) (by kernel_rfl) ?_
        repeat (go_big_quiet_step (fail))
        go_big_quiet_want
        go_big_quiet_op
        go_big_quiet_call (exact grow_of (keyOf_any _ _ _ _))
        repeat (go_big_quiet_step (fail))
        go_big_quiet_want
        go_big_quiet_op
        go_big_quiet_call (exact grow_of (keyOf_any _ _ _ _))
        repeat (go_big_quiet_step (fail))
        refine wpQuiet_nil ?_
        rintro _ ⟨gw, rfl⟩
        clear e1 e2 e3 e4 e5 e6
        go_wp2_with fail
        go_ret
        obtain ⟨e1, e2, e3⟩ := Y.out
        refine ⟨⟨i, rfl, by omega, H4.out, fun _ => ⟨h1, ?_⟩⟩, G.out.trans gw.2⟩
        rw [e1, show i - 1 = m by omega, e2]; exact hle
      · go_wp2_with fail
        refine wp_region_grow (by kernel_rfl) (by kernel_rfl) ?_
        repeat (go_big_quiet_step (fail))
        go_big_quiet_want
        go_big_quiet_op
        go_big_quiet_call (exact grow_of (keyOf_any _ _ _ _))
        repeat (go_big_quiet_step (fail))
        go_big_quiet_want
        go_big_quiet_op
        go_big_quiet_call (exact grow_of (keyOf_any _ _ _ _))
        repeat (go_big_quiet_step (fail))
        refine wpQuiet_nil ?_
        rintro _ ⟨gw, rfl⟩
        clear e1 e2 e3 e4 e5 e6
        go_wp2_with fail
        go_roundg (n - (m + 2))
        case measure => omega
        case rel =>
          obtain ⟨e1, e2, e3⟩ := Y.out
          refine ⟨m + 2, by go_num, by omega, by omega, Nat.le_refl _, (show Aside _ from fun j hj => ?_), (show Aside _ from G.out.trans gw.2)⟩
          by_cases hj' : j = m
          · subst hj'; rw [e2, ← e3, e1]; omega
          · exact H4.out j (by omega)
    · go_wp2_with fail
      go_ret
      exact ⟨⟨n, rfl, Nat.le_refl _, fun j hj => H4.out j (by omega), fun hh => by omega⟩, G.out⟩

/-- A tombstone with a value. -/
def Bad (v : Nat → Int) (g : Nat → Bool) (j : Nat) : Prop := g j = true ∧ v j ≠ 0

theorem bad_and {v : Nat → Int} {g : Nat → Bool} {j : Nat} : (g j && (v j != 0)) = true ↔ Bad v g j := by simp [Bad]

set_option maxHeartbeats 1000000 in
theorem indexf_any (ao : Option Addr) (n c : Nat) (k v : Nat → Int) (g : Nat → Bool) (hn : n < 4611686018427387904) (w : World) (h : ES w ao n k v g) :
    Calls Try.prog 29 #[.slice ao n c, .func (.func 25) #[] #[]] w fun e w' => (∃ r : Int, e = .returned (.int .i64 r) ∧ ((∃ i : Nat, r = i ∧ i < n ∧ Bad v g i ∧ ∀ j, j < i → ¬ Bad v g j) ∨ (r = -1 ∧ ∀ j, j < n → ¬ Bad v g j))) ∧ Gb w w' := by
  go_enter Try.func29, Try.ntmps29
  go_wp2_with fail
  go_loopg [5, 8] n (fun gg _ s8 wr => ∃ i : Nat, s8 = .int .i64 i ∧ i ≤ n ∧ n - i ≤ gg ∧ Aside (∀ j, j < i → ¬ Bad v g j) ∧ Aside (Gb w wr))
  case atStart => exact ⟨0, rfl, Nat.zero_le _, by omega, fun j hj => by omega, Gb.refl w⟩
  case round =>
    obtain ⟨i, rfl, h1, h2, A, G⟩ := hrel
    by_cases hlt : i < n
    · obtain ⟨b, off, rfl, hb, hc⟩ := (h.gb G.out).cells (by omega)
      obtain ⟨c1, c2, c3⟩ := hc i hlt
      clear hc h
      generalize k i = k1 at c1
      have Y : Aside ((g i && (v i != 0)) = true ↔ Bad v g i) := bad_and
      generalize hp : (g i && (v i != 0)) = p at Y
      have hv := valued_any k1 (v i) (g i)
      rw [hp] at hv
      have hv' : Aside _ := hv
      clear hv hp
      generalize v i = v1 at c2 hv'
      generalize g i = g1 at c3 hv'
      cases p with
      | true =>
        have B : Aside (Bad v g i) := Y.out.1 rfl
        clear Y
        go_wp2_with fail
        refine (hv'.out _).mono ?_
        rintro e w1 ⟨rfl, g1⟩
        go_wp2_with fail
        go_ret
        exact ⟨⟨_, rfl, .inl ⟨i, rfl, hlt, B.out, A.out⟩⟩, G.out.trans g1⟩
      | false =>
        have B : Aside (¬ Bad v g i) := fun hb => Bool.noConfusion (Y.out.2 hb)
        clear Y
        go_wp2_with fail
        refine (hv'.out _).mono ?_
        rintro e w1 ⟨rfl, g1⟩
        go_wp2_with fail
        go_roundg (n - (i + 1))
        case measure => omega
        case rel =>
          refine ⟨i + 1, by go_num, by omega, Nat.le_refl _, (show Aside _ from fun j hj => ?_), (show Aside _ from G.out.trans g1)⟩
          by_cases e : j = i
          · subst e; exact B.out
          · exact A.out j (by omega)
    · obtain rfl : i = n := by omega
      go_wp2_with fail
      go_ret
      exact ⟨⟨_, rfl, .inr ⟨rfl, A.out⟩⟩, G.out⟩

theorem containsf_any (ao : Option Addr) (n c : Nat) (k v : Nat → Int) (g : Nat → Bool) (hn : n < 4611686018427387904) (w : World) (h : ES w ao n k v g) :
    Calls Try.prog 24 #[.slice ao n c, .func (.func 25) #[] #[]] w fun e w' => (∃ r : Bool, e = .returned (.bool r) ∧ (r = true → ∃ i : Nat, i < n ∧ Bad v g i ∧ ∀ j, j < i → ¬ Bad v g j) ∧ (r = false → ∀ j, j < n → ¬ Bad v g j)) ∧ Gb w w' := by
  go_enter Try.func24, Try.ntmps24
  go_wp2_with fail
  refine (indexf_any ao n c k v g hn w h).mono ?_
  rintro e w1 ⟨⟨r, rfl, hr⟩, g1⟩
  have R : Hid _ := hr
  clear hr
  by_cases h0 : 0 ≤ r
  · go_wp2_with fail
    go_ret
    refine ⟨⟨true, by simp, fun _ => ?_, fun hh => Bool.noConfusion hh⟩, g1⟩
    rcases R.out with ⟨i, e, q⟩ | ⟨e, q⟩
    · exact ⟨i, q⟩
    · omega
  · go_wp2_with fail
    go_ret
    refine ⟨⟨false, by simp; omega, fun hh => Bool.noConfusion hh, fun _ => ?_⟩, g1⟩
    rcases R.out with ⟨i, e, q⟩ | ⟨e, q⟩
    · omega
    · exact q

theorem ES.take {w : World} {ao : Option Addr} {n : Nat} {k v : Nat → Int} {g : Nat → Bool} (h : ES w ao n k v g) {m : Nat} (hm : m ≤ n) : ES w ao m k v g :=
  ⟨fun hn => by
    obtain ⟨b, off, e, hb, hc⟩ := h.cells (by omega)
    exact ⟨b, off, e, hb, fun i hi => hc i (by omega)⟩, fun i hi => h.bd i (by omega)⟩

set_option maxHeartbeats 1000000 in
theorem check_any (ao : Option Addr) (n c : Nat) (k v : Nat → Int) (g : Nat → Bool) (hn : n < 4611686018427387904) (hc : n ≤ c) (w : World) (h : ES w ao n k v g) :
    Calls Try.prog 10 #[.slice ao n c] w fun e w' => (∃ r : Int, e = .returned (.int .i64 r) ∧ ChkR k v g n r) ∧ Gb w w' := by
  go_enter Try.func10, Try.ntmps10
  go_wp2_with fail
  refine (rises_entries ao n c k v g hn w h).mono ?_
  rintro e w1 ⟨⟨r, rfl, h1, h2, h3⟩, g1⟩
  have H : Hid (Up k r ∧ (r < n → 1 ≤ r ∧ k r ≤ k (r - 1))) := ⟨h2, h3⟩
  clear h2 h3
  have hrc : r ≤ c := by omega
  go_wp2_with fail
  refine (containsf_any ao r c k v g (by omega) w1 ((h.gb g1).take h1)).mono ?_
  rintro e w2 ⟨⟨t, rfl, k1, k2⟩, g2⟩
  cases t with
  | true =>
    have B : Hid (∃ i : Nat, i < r ∧ Bad v g i ∧ ∀ j, j < i → ¬ Bad v g j) := k1 rfl
    clear k1 k2
    go_wp2_with fail
    go_ret
    obtain ⟨i, hi, hb, hj⟩ := B.out
    refine ⟨⟨31, rfl, .gone i (by omega) (fun j hj => H.out.1 j (by omega)) hj hb⟩, g1.trans g2⟩
  | false =>
    have B : Hid (∀ j, j < r → ¬ Bad v g j) := k2 rfl
    clear k1 k2
    by_cases hlt : r < n
    · go_wp2_with fail
      go_ret
      obtain ⟨q1, q2⟩ := H.out.2 hlt
      obtain ⟨m, rfl⟩ : ∃ m, r = m + 1 := ⟨r - 1, by omega⟩
      exact ⟨⟨30, rfl, .order m hlt H.out.1 B.out q2⟩, g1.trans g2⟩
    · obtain rfl : r = n := by omega
      go_wp2_with fail
      go_ret
      exact ⟨⟨0, rfl, .ok H.out.1 B.out⟩, g1.trans g2⟩

set_option maxHeartbeats 1000000 in
theorem live_any (ao : Option Addr) (n c : Nat) (k v : Nat → Int) (g : Nat → Bool) (hn : n < 4611686018427387904) (w : World) (h : ES w ao n k v g) :
    Calls Try.prog 11 #[.slice ao n c] w fun e w' => e = .returned (.int .i64 (lv g n)) ∧ Gb w w' := by
  go_enter Try.func11, Try.ntmps11
  go_wp2_with fail
  go_loopg [3, 5, 8] n (fun gg s3 _ s8 wr => ∃ i m : Nat, s3 = .int .i64 m ∧ s8 = .int .i64 i ∧ i ≤ n ∧ n - i ≤ gg ∧ m ≤ i ∧ Aside (m = lv g i) ∧ Aside (Gb w wr))
  case atStart => exact ⟨0, 0, rfl, rfl, Nat.zero_le _, by omega, Nat.le_refl _, rfl, Gb.refl w⟩
  case round =>
    obtain ⟨i, m, rfl, rfl, h1, h2, h3, A, G⟩ := hrel
    by_cases hlt : i < n
    · obtain ⟨b, off, rfl, hb, hc⟩ := (h.gb G.out).cells (by omega)
      obtain ⟨c1, c2, c3⟩ := hc i hlt
      clear hc h
      generalize k i = k1 at c1
      generalize v i = v1 at c2
      generalize hg : g i = g1 at c3
      have Y : Aside (g i = g1) := hg
      clear hg
      cases g1 with
      | true =>
        go_wp2_with fail
        go_roundg (n - (i + 1))
        case measure => omega
        case rel =>
          refine ⟨i + 1, m, rfl, by go_num, by omega, Nat.le_refl _, by omega, (show Aside _ from ?_), (show Aside _ from ?_)⟩
          · show m = lv g (i + 1)
            rw [lv, Y.out, if_pos rfl, ← A.out]; omega
          · exact G.out.alloc _ _
      | false =>
        go_wp2_with fail
        go_roundg (n - (i + 1))
        case measure => omega
        case rel =>
          refine ⟨i + 1, m + 1, by go_num, by go_num, by omega, Nat.le_refl _, by omega, (show Aside _ from ?_), (show Aside _ from ?_)⟩
          · show m + 1 = lv g (i + 1)
            rw [lv, Y.out, if_neg (by simp), ← A.out]
          · exact G.out.alloc _ _
    · obtain rfl : i = n := by omega
      go_wp2_with fail
      go_ret
      exact ⟨by rw [A.out]; rfl, G.out⟩

end Go.Proofs.Ytmnpbagpfpcjpaa
