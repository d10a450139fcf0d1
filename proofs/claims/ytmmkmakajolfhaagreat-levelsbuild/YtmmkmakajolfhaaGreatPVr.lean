import Derived.Test.YtmmkmakajolfhaaGreatPVp
import Derived.Test.YtmmkmakajolfhaaGreatPSt
import Derived.Deep.LoopGhost
import Derived.Deep.QuietTactic
import Derived.BigQuiet
/- Lists of segments, and levels, in memory. -/
namespace Go.Proofs.YtmmkmakajolfhaaGreat
open Go.RowKit
set_option linter.unusedVariables false

/-- A segment in memory. -/
structure SgAt (w : World) (b off : Nat) (s : Sg) : Prop where
  c0 : w.cell? ⟨b, off, none⟩ = some (.int .u64 s.k)
  c1 : w.cell? ⟨b, off + 1, none⟩ = some (.float .f64 s.sl)
  c2 : w.cell? ⟨b, off + 2, none⟩ = some (.float .f64 s.ic)
  c3 : w.cell? ⟨b, off + 3, none⟩ = some (.int .i64 s.fr)
  c4 : w.cell? ⟨b, off + 4, none⟩ = some (.int .i64 s.te)
theorem SgAt.gw {w w' : World} {b off : Nat} {s : Sg} (h : SgAt w b off s) (hb : b < w.heap.size) (g : Gw w w') : SgAt w' b off s :=
  ⟨(g.cell _ _ hb).trans h.c0, (g.cell _ _ hb).trans h.c1, (g.cell _ _ hb).trans h.c2, (g.cell _ _ hb).trans h.c3, (g.cell _ _ hb).trans h.c4⟩
abbrev Sg.ok (s : Sg) : Prop := SegOk s.k s.sl s.ic s.fr s.te
abbrev sgV (s : Sg) : Value := segV s.k s.sl s.ic s.fr s.te

/-- A list of segments in memory. -/
structure GS (w : World) (ao : Option Addr) (l : List Sg) : Prop where
  cells : 0 < l.length → ∃ b off, ao = some ⟨b, off, none⟩ ∧ b < w.heap.size ∧ ∀ i, i < l.length → SgAt w b (off + i * 5) (l.getD i sg0)
  ok : ∀ i, i < l.length → (l.getD i sg0).ok
theorem GS.gw {w w' : World} {ao : Option Addr} {l : List Sg} (h : GS w ao l) (g : Gw w w') : GS w' ao l :=
  ⟨fun h0 => by
    obtain ⟨b, off, e, hb, hc⟩ := h.cells h0
    exact ⟨b, off, e, Nat.lt_of_lt_of_le hb g.size, fun i hi => (hc i hi).gw hb g⟩, h.ok⟩
theorem GS.mem {w : World} {ao : Option Addr} {l : List Sg} (h : GS w ao l) : ∀ s ∈ l, s.ok := by
  intro s hs
  obtain ⟨i, hi, rfl⟩ := List.mem_iff_getElem.1 hs
  have := h.ok i hi
  rwa [List.getD_eq_getElem?_getD, List.getElem?_eq_getElem hi] at this

/-- Levels in memory. -/
structure VS (w : World) (ao : Option Addr) (L : List (List Sg)) : Prop where
  cells : 0 < L.length → ∃ b off, ao = some ⟨b, off, none⟩ ∧ b < w.heap.size ∧ ∀ i, i < L.length → ∃ bo c, w.cell? ⟨b, off + i, none⟩ = some (.slice bo (L.getD i []).length c) ∧ (L.getD i []).length ≤ c ∧ (bo = none → (L.getD i []).length = 0 ∧ c = 0) ∧ GS w bo (L.getD i [])
theorem VS.gw {w w' : World} {ao : Option Addr} {L : List (List Sg)} (h : VS w ao L) (g : Gw w w') : VS w' ao L :=
  ⟨fun h0 => by
    obtain ⟨b, off, e, hb, hc⟩ := h.cells h0
    refine ⟨b, off, e, Nat.lt_of_lt_of_le hb g.size, fun i hi => ?_⟩
    obtain ⟨bo, c, h1, h2, h3, h4⟩ := hc i hi
    exact ⟨bo, c, (g.cell _ _ hb).trans h1, h2, h3, h4.gw g⟩⟩

theorem fst8_ok {w : World} {ao : Option Addr} {l : List Sg} (h : GS w ao l) : ∀ t, t < l.length → 0 ≤ fst8 l t ∧ fst8 l t < 18446744073709551616 := fun t ht => ⟨(h.ok t ht).k0, (h.ok t ht).k1⟩

set_option maxHeartbeats 2000000 in
theorem rfirsts_any (ao : Option Addr) (c : Nat) (l : List Sg) (hl : l.length ≤ 4000000) (w : World) (h : GS w ao l) :
    Calls Tryz.prog 19 #[.slice ao l.length c] w fun e w' => (∃ b cap, e = .returned (.slice (some ⟨b, 0, none⟩) l.length cap) ∧ w.heap.size ≤ b ∧ l.length ≤ cap ∧ KS w' (some ⟨b, 0, none⟩) l.length (fst8 l)) ∧ Gw w w' := by
  have HG : Aside (GS w ao l) := h
  clear h
  obtain ⟨n, hn⟩ : ∃ n, l.length = n := ⟨_, rfl⟩
  have LN : Aside (l.length = n) := hn
  rw [hn] at hl
  rw [hn]
  clear hn
  obtain ⟨ii, hii, hz, hs, hby⟩ := info_parts info_k
  have R3 : Aside ((w.alloc (.cells #[] 24)).ownsRow w.heap.size 24 1 (.slice (some ⟨w.heap.size, 0, none⟩) 0 0) 0 ((List.range 0).map fun j => Value.int .u64 (fst8 l j))) := World.ownsRow_made w #[] 0 (Nat.le_refl _) (Nat.zero_le _) rfl
  have G3 : Aside (Gw w (w.alloc (.cells #[] 24))) := (Gw.refl w).alloc _ _
  have B3 : Aside (w.heap.size ≤ w.heap.size) := Nat.le_refl _
  go_enter Tryz.func19, Tryz.ntmps19
  go_wp2_with fail
  generalize w.alloc (.cells #[] 24) = w3 at R3 G3 ⊢
  go_loopg [3, 4] n (fun gg s3 s4 wr => ∃ i b cap : Nat, s3 = .slice (some ⟨b, 0, none⟩) i cap ∧ s4 = .int .i64 i ∧ i ≤ n ∧ n - i ≤ gg ∧ Aside (w.heap.size ≤ b) ∧ Aside (wr.ownsRow w.heap.size 24 1 (.slice (some ⟨b, 0, none⟩) i cap) i ((List.range i).map fun j => Value.int .u64 (fst8 l j))) ∧ Aside (Gw w wr))
  case atStart => exact ⟨0, w.heap.size, 0, rfl, rfl, Nat.zero_le _, by omega, B3, R3, G3⟩
  case round =>
    clear R3 G3 B3
    obtain ⟨i, b, cap, rfl, rfl, h1, h2, BW, R, G⟩ := hrel
    by_cases hlt : i < n
    · obtain ⟨bk, off, rfl, hbk, hc⟩ := (HG.out.gw G.out).cells (by rw [LN.out]; omega)
      have q1 := (hc i (by rw [LN.out]; exact hlt)).c0
      obtain ⟨fi, hfi⟩ : ∃ y, fst8 l i = y := ⟨_, rfl⟩
      have FI : Aside (fst8 l i = fi) := hfi
      have q2 : wr.cell? ⟨bk, off + i * 5, none⟩ = some (.int .u64 fi) := by rw [← hfi]; exact q1
      clear hc hfi q1
      have z0 := G.out.size
      go_wp2_with (at_builtin; refine wpList_append_own _ rfl _ _ 22 rfl w.heap.size 24 ii (.int .u64 0) 1 8 Tryz.underlying22 hii hz hs hby rfl (by decide) _ i _ rfl (R.out.alloc _) ⟨wr.heap.size, 0, none⟩ 1 1 [.int .u64 fi] rfl rfl (new_one wr fi) (ints_oneCell .u64 [fi]) (by simp only [maxLen]; omega) (by omega) (by simp; omega) ?_)
      intro v' w5 r1' r2' r3'
      obtain ⟨b5, cap5, rfl, hb5, _, _⟩ := own_slice r1' (by simpa using r3')
      have R5 : Aside (w5.ownsRow w.heap.size 24 1 (.slice (some ⟨b5, 0, none⟩) (i + 1) cap5) (i + 1) ((List.range (i + 1)).map fun j => Value.int .u64 (fst8 l j))) := by
        have := r1'
        rw [← FI.out] at this
        rw [List.range_succ, List.map_append]
        exact this
      have G5 : Aside (Gw w w5) := (G.out.alloc _ _).grown r2' (fun k hk => by cases hk; exact BW.out)
      have B5 : Aside (w.heap.size ≤ b5) := hb5
      clear r1' r2' r3' R G BW hb5 q2 FI
      go_wp2_with fail
      go_roundg (n - (i + 1))
      case measure => omega
      case rel => exact ⟨i + 1, b5, cap5, rfl, by go_num, by omega, Nat.le_refl _, B5, R5, G5⟩
    · have ei : i = n := by omega
      subst ei
      have K4 : Aside (KS wr (some ⟨b, 0, none⟩) i (fst8 l)) := ks_own R.out (Nat.le_refl _) (fun j hj => by simp [hj]) (fun j hj => fst8_ok HG.out j (by rw [LN.out]; exact hj))
      obtain ⟨_, _, ev, _, ic, _⟩ := own_slice R.out (by simp)
      cases ev
      clear R
      go_wp2_with fail
      go_ret
      exact ⟨⟨b, cap, rfl, BW.out, ic, K4.out⟩, G.out⟩

end Go.Proofs.YtmmkmakajolfhaaGreat

/- The document's tiles and MaxHeight of layer 8. -/
namespace Go.Proofs.YtmmkmakajolfhaaGreat
open Go.RowKit
set_option linter.unusedVariables false

theorem drop_at {l : List Sg} {i : Nat} (h : i < l.length) : l.drop i = l.getD i sg0 :: l.drop (i + 1) := by
  rw [List.drop_eq_getElem_cons h, List.getD_eq_getElem?_getD, List.getElem?_eq_getElem h]; rfl


/-- What MaxHeight answers. -/
def mxh (n eps : Int) : Int := if 2 ≤ eps ∧ eps ≤ 64 ∧ 1 ≤ n then (hgt eps.toNat n.toNat : Nat) else 0
theorem hgt_le {e : Nat} (he : 2 ≤ e) : ∀ n, hgt e n ≤ n := by
  intro n
  induction n using Nat.strongRecOn with
  | ind n ih =>
    by_cases h0 : n = 0
    · subst h0; exact Nat.le_refl _
    · by_cases h1 : n ≤ 2 * e - 1
      · rw [hgt_one (by omega) h1]; omega
      · rw [hgt_more he h1]
        have := ih _ (div_less he h1)
        have := div_less he h1
        omega


end Go.Proofs.YtmmkmakajolfhaaGreat
