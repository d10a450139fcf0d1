/- Layer 14's statements' own: shown, same, kind, mark, alike. -/
import Derived.Test.YtkofbjdgidaieaaQPut
import Derived.Test.YtkofbjdgidaieaaQRef2
import Derived.Test.YtkofbjdgidaieaaQClone
import Derived.Test.YtkofbjdgidaieaaHGrow
import Derived.Laws.StructEq
namespace Go.Proofs.Ytkofbjdgidaieaa
open Go.RowKit
set_option linter.unusedVariables false

set_option maxRecDepth 10000 in
set_option maxHeartbeats 4000000 in
theorem same14 (ao bo : Option Addr) (ca cb : Nat) (l : List Ent) (hn : l.length ≤ 4000000) (w : World) (ha : EL w ao l) (hb : EL w bo l) :
    Calls Try.prog 18 #[.slice ao l.length ca, .slice bo l.length cb] w fun e w' => e = .returned (.bool true) ∧ Gw w w' := by
  have EA : Aside (EL w ao l) := ha
  have EB : Aside (EL w bo l) := hb
  obtain ⟨n, hln⟩ : ∃ n, l.length = n := ⟨_, rfl⟩
  have LN : Aside (l.length = n) := hln
  rw [hln] at hn ⊢
  clear ha hb hln
  go_enter Try.func18, Try.ntmps18
  go_wp2_with fail
  go_loopg [5] n (fun gg s5 wr => ∃ i : Nat, s5 = .int .i64 i ∧ i ≤ n ∧ n - i ≤ gg ∧ Aside (Gw w wr))
  case atStart => exact ⟨0, rfl, Nat.zero_le _, by omega, (show Aside _ from Gw.refl w)⟩
  case round =>
    obtain ⟨i, rfl, h1, h2, G⟩ := hrel
    by_cases hlt : i < n
    · obtain ⟨ab, af, rfl, hab, hac⟩ := (EA.out.gw G.out).cells (by rw [LN.out]; omega)
      obtain ⟨bb, bf, rfl, hbb, hbc⟩ := (EB.out.gw G.out).cells (by rw [LN.out]; omega)
      obtain ⟨c0, c1, c2⟩ := hac i (by rw [LN.out]; exact hlt)
      obtain ⟨d0, d1, d2⟩ := hbc i (by rw [LN.out]; exact hlt)
      have hlt' : (i : Int) < (n : Int) := by omega
      generalize (l.getD i ent0).k = ki at c0 d0
      generalize (l.getD i ent0).v = vi at c1 d1
      generalize (l.getD i ent0).g = gi at c2 d2
      clear hac hbc
      go_wp2_with fail
      go_quiet (fail)
      go_wp2_with fail
      go_roundg (n - (i + 1))
      case measure => omega
      case rel => exact ⟨i + 1, by go_num, by omega, Nat.le_refl _, (show Aside _ from G.out.drewN _)⟩
    · go_wp2_with fail
      go_ret
      exact ⟨rfl, G.out⟩
theorem kind14 (n : Int) (h0 : -9223372036854775808 ≤ n) (h1 : n < 9223372036854775808) (w : World) :
    Calls Try.prog 11 #[.int .i64 n] w fun e w' => (∃ r : Int, e = .returned (.int .i64 r) ∧ 0 ≤ r ∧ r < 8) ∧ w' = w := by
  by_cases c : n < 0
  · have t1 : decide (n < 0) = true := by simpa using c
    have w1 : IntKind.i64.wrap (n + 1) = n + 1 := by rw [IntKind.wrap_i64]; omega
    have w2 : IntKind.i64.wrap (-(n + 1)) = -(n + 1) := by rw [IntKind.wrap_i64]; omega
    have w4 : Int.tmod (-(n + 1)) 8 = (-(n + 1)) % 8 := Int.tmod_eq_emod_of_nonneg (by omega)
    have w5 : 0 ≤ (-(n + 1)) % 8 ∧ (-(n + 1)) % 8 < 8 := by omega
    have w6 : IntKind.i64.wrap ((-(n + 1)) % 8) = (-(n + 1)) % 8 := by rw [IntKind.wrap_i64]; omega
    have A5 : Aside (0 ≤ (-(n + 1)) % 8 ∧ (-(n + 1)) % 8 < 8) := w5
    clear w5 c
    go_enter Try.func11, Try.ntmps11
    go_wp2_with fail
    go_ret
    exact ⟨⟨_, rfl, by first | exact A5.out | (simp only [go_sem]; rw [w4]; exact A5.out) | (rw [w4, w6]; exact A5.out)⟩, rfl⟩
  · have t1 : decide (n < 0) = false := by simpa using c
    have w4 : Int.tmod n 8 = n % 8 := Int.tmod_eq_emod_of_nonneg (by omega)
    have w5 : 0 ≤ n % 8 ∧ n % 8 < 8 := by omega
    have w6 : IntKind.i64.wrap (n % 8) = n % 8 := by rw [IntKind.wrap_i64]; omega
    have A5 : Aside (0 ≤ n % 8 ∧ n % 8 < 8) := w5
    clear w5 c
    go_enter Try.func11, Try.ntmps11
    go_wp2_with fail
    go_ret
    exact ⟨⟨_, rfl, by first | exact A5.out | (simp only [go_sem]; rw [w4]; exact A5.out) | (rw [w4, w6]; exact A5.out)⟩, rfl⟩
def em1 : Ent := ⟨12345, 54321, false⟩
def em2 : Ent := ⟨12345, 0, false⟩
def em3 : Ent := ⟨12346, 0, false⟩
theorem new_two (w : World) (e f : Ent) : ∀ j u, (ent3 e ++ ent3 f)[j]? = some u → (w.alloc (.cells #[.int .u64 e.k, .int .u64 e.v, .bool e.g, .int .u64 f.k, .int .u64 f.v, .bool f.g] 35)).cell? ((⟨w.heap.size, 0, none⟩ : Addr).add j) = some u := by
  intro j u hu
  match j, hu with
  | 0, hu => simp [ent3] at hu; subst hu; simp [Addr.add, go_sem]
  | 1, hu => simp [ent3] at hu; subst hu; simp [Addr.add, go_sem]
  | 2, hu => simp [ent3] at hu; subst hu; simp [Addr.add, go_sem]
  | 3, hu => simp [ent3] at hu; subst hu; simp [Addr.add, go_sem]
  | 4, hu => simp [ent3] at hu; subst hu; simp [Addr.add, go_sem]
  | 5, hu => simp [ent3] at hu; subst hu; simp [Addr.add, go_sem]
  | j + 6, hu => simp [ent3] at hu
set_option maxRecDepth 10000 in
set_option maxHeartbeats 4000000 in
theorem mark14 (v : Value) (l : List Ent) (hn : l.length ≤ 4000000) (w : World) (h : EO w 0 v l) :
    Calls Try.prog 15 #[v] w fun e w' => e = .returned (.tuple #[]) ∧ Gx (fun q => v.ownBlock = some q) w w' := by
  obtain ⟨ii, hii, hz, hs, hby⟩ := info_parts info_e
  obtain ⟨bo, c, ev, hc, _⟩ := eo_shape h
  subst ev
  obtain ⟨n, hln⟩ : ∃ n, l.length = n := ⟨_, rfl⟩
  rw [hln] at h hn hc ⊢
  have E0 : Aside (EO w 0 (.slice bo n c) l) := h
  have LN : Aside (l.length = n) := hln
  obtain ⟨S, hS⟩ : ∃ S : Nat → Prop, S = fun q => (Value.slice bo n c).ownBlock = some q := ⟨_, rfl⟩
  have SE : Aside (S = fun q => (Value.slice bo n c).ownBlock = some q) := hS
  rw [← hS]
  have G0 : Aside (Gx S w w) := Gx.refl S w
  clear h hln hS
  go_enter Try.func15, Try.ntmps15
  go_wp2_with fail
  go_loopg [2] n (fun gg s wr => ∃ (i : Nat) (l' : List Ent), s = .int .i64 (i : Int) ∧ i ≤ n ∧ n - i ≤ gg ∧ Aside (l'.length = n) ∧ Aside (EO wr 0 (.slice bo n c) l') ∧ Aside (Gx S w wr))
  case atStart => exact ⟨0, l, rfl, Nat.zero_le _, by omega, LN, E0, G0⟩
  case round =>
    clear E0 G0 LN
    obtain ⟨i, l', rfl, a1, a2, LN, E, G⟩ := hrel
    by_cases hlt : i < n
    · have hlt' : (i : Int) < (n : Int) := by omega
      obtain ⟨b, rfl, _, bl, fz, cc⟩ := eo_form E.out LN.out (by omega)
      obtain ⟨c0, c1, c2⟩ := cc i hlt
      have z0 := fz (i * 3)
      have z1 := fz (i * 3 + 1)
      have z2 := fz (i * 3 + 2)
      have E' : Aside (EO (put3 wr b (i * 3) em1) 0 (.slice (some ⟨b, 0, none⟩) n c) (l'.set i em1)) := eo_put E.out LN.out (by rw [LN.out]; exact hlt) em1
      have SB : S b := by rw [SE.out]; rfl
      have G' : Aside (Gx S w (put3 wr b (i * 3) em1)) := ((G.out.set (.inl SB) _ _).set (.inl SB) _ _).set (.inl SB) _ _
      have L' : Aside ((l'.set i em1).length = n) := by show _ = _; rw [List.length_set, LN.out]
      clear E G LN cc fz SB
      go_wp2_with fail
      go_roundg (n - (i + 1))
      case measure => omega
      case rel => exact ⟨i + 1, _, by go_num, by omega, Nat.le_refl _, L', E', G'⟩
    · have ei : i = n := by omega
      subst ei
      have OW : Aside (wr.ownsRow 0 35 3 (.slice bo i c) i (l'.flatMap ent3)) := by have := E.out; unfold EO at this; rw [LN.out] at this; exact this
      go_wp2_with (at_builtin; refine wpList_append_own_at _ rfl _ _ 40 rfl 0 35 ii (.agg #[.int .u64 0, .int .u64 0, .bool false]) 3 24 Try.underlying40 hii hz hs hby rfl (by decide) _ i _ rfl (OW.out.alloc _) ⟨wr.heap.size, 0, none⟩ 2 2 (ent3 em2 ++ ent3 em3) rfl rfl (new_two wr em2 em3) (fun u hu => by rcases List.mem_append.1 hu with q | q <;> exact ent3_one _ u q) (by simp only [maxLen]; omega) (by omega) (Nat.zero_le _) ?_)
      intro v' w5 r1 r2 r3 r4
      obtain ⟨b, cap, rfl, _, hcap, bl⟩ := own_slice r1 (by simpa using r3)
      have SB : S b ∨ w.heap.size ≤ b := by
        rcases r4 with q | q
        · refine .inl ?_
          rw [SE.out]
          exact q.symm.trans rfl
        · refine .inr ?_
          have q' : b = wr.heap.size + 1 := by simpa [Value.ownBlock] using q
          have := G.out.size
          omega
      have G5 : Aside (Gx S w w5) := (G.out.alloc _ _).grown r2 (fun k hk => .inl (by rw [SE.out]; exact hk))
      have FIN : Aside (Gx S w (w5.setCell ⟨b, (i + 1) * 3 + 1, none⟩ (.int .u64 7))) := G5.out.set SB _ _
      have cl := World.ownsRow.cellAt r1 ((i + 1) * 3 + 1) (by omega)
      have fl := flat_len l'
      rw [LN.out] at fl
      have cl' : w5.cell? ⟨b, (i + 1) * 3 + 1, none⟩ = some (.int .u64 0) := by
        rw [cl, List.getElem?_append_right (by rw [fl]; omega), fl, show (i + 1) * 3 + 1 - i * 3 = 4 by omega]
        rfl
      have fz : w5.frozen? ⟨b, (i + 1) * 3 + 1, none⟩ = false := by
        rcases r1.2 with ⟨z, _⟩ | ⟨b', cap', cur, e, _, hh, _⟩
        · cases z
        · injection e with e1
          injection e1 with e1
          injection e1 with e1
          subst e1
          simp [World.frozen?, hh]
      have i1 : IntKind.i64.wrap (((i + 2 : Nat) : Int) - 1) = ((i + 1 : Nat) : Int) := by rw [IntKind.wrap_i64]; omega
      have i2 : IntKind.i64.wrap ((i : Int) + 2 - 1) = ((i + 1 : Nat) : Int) := by rw [IntKind.wrap_i64]; omega
      have i3 : ((i + 1 : Nat) : Int) < ((i + 2 : Nat) : Int) := by omega
      have i4 : (i : Int) + 1 < (i : Int) + 2 := by omega
      clear r1 r2 r3 r4 cl fl E OW G G5 SB
      go_wp2_with fail
      go_end0
      exact ⟨rfl, FIN.out⟩
end Go.Proofs.Ytkofbjdgidaieaa
