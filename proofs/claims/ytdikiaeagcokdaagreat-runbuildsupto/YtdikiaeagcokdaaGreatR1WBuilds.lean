/- RunBuilds' walk. -/
import Derived.Test.YtdikiaeagcokdaaGreatPSh
import Derived.Maps.AppendAt
namespace Go.Proofs.YtdikiaeagcokdaaGreat
open Go.RowKit
set_option linter.unusedVariables false
attribute [local go_sem] run_store_float

/-- The first entries of a row of a call's own. -/
theorem es_row {w : World} {base b m cap n : Nat} {xs : List Value} {k v : Nat → Int} {g : Nat → Bool} (h : w.ownsRow base 26 3 (.slice (some ⟨b, 0, none⟩) m cap) m xs) (hn : n ≤ m) (hx : ∀ j, j < n * 3 → xs[j]? = some (ecell k v g j)) (bd : ∀ i, i < n → (0 ≤ k i ∧ k i < 18446744073709551616) ∧ (0 ≤ v i ∧ v i < 18446744073709551616)) : ES w (some ⟨b, 0, none⟩) n k v g := by
  refine ⟨fun h0 => ?_, bd⟩
  have ce : ∀ j, j < n * 3 → w.cell? ⟨b, j, none⟩ = some (ecell k v g j) := fun j hj => by rw [h.cellAt j (by omega), hx j hj]
  refine ⟨b, 0, rfl, (h.lt b rfl).2, fun i hi => ⟨?_, ?_, ?_⟩⟩
  · rw [Nat.zero_add, ce _ (by omega), ecell_0]
  · rw [Nat.zero_add, ce _ (by omega), ecell_1]
  · rw [Nat.zero_add, ce _ (by omega), ecell_2]
/-- A segment is appended to a level, which is put into its place. -/
theorem OwnV.app {w w7 : World} {B gA lc i : Nat} {o : Obj} {L : List (List Sg)} {vals : List Value} {v' : Value} {s : Sg} (h : OwnV w B (.slice (some ⟨gA, 0, none⟩) L.length lc) L vals) (hi : i < L.length) (r1 : w7.ownsRow B 42 5 v' ((L.getD i []).length + 1) ((L.getD i []).flatMap sgc ++ sgc s)) (r2 : (w.alloc o).grownBy w7 (vals.getD i nilS).ownBlock) (r4 : v'.ownBlock = (vals.getD i nilS).ownBlock ∨ v'.ownBlock = some (w.heap.size + 1)) : OwnV (w7.setCell ⟨gA, i, none⟩ v') B (.slice (some ⟨gA, 0, none⟩) (L.set i (L.getD i [] ++ [s])).length lc) (L.set i (L.getD i [] ++ [s])) (vals.set i v') := by
  have vn := h.len
  have gl : gA < w.heap.size := (h.outer.lt gA rfl).2
  have keep : ∀ q, q < w.heap.size → (vals.getD i nilS).ownBlock ≠ some q → w7.heap[q]? = w.heap[q]? := fun q hq hn => (r2.block q (by simp; omega) (fun e => hn e.symm)).trans (heap_alloc_old w o hq)
  have oq : ∀ j, j < L.length → ∀ q, (vals.getD j nilS).ownBlock = some q → q < w.heap.size := fun j hj q hq => (sr_lt (h.rows j hj) q hq).2
  have ng : (vals.getD i nilS).ownBlock ≠ some gA := fun e => (h.apart i hi gA e).1 rfl
  have vg : v'.ownBlock ≠ some gA := by
    rcases r4 with r | r
    · rw [r]; exact ng
    · rw [r]; intro e; have : w.heap.size + 1 = gA := by simpa using e
      omega
  have oth : ∀ q, q ≠ gA → (w7.setCell ⟨gA, i, none⟩ v').heap[q]? = w7.heap[q]? := fun q hq => Go.Deep.blk_setCell_other _ _ _ _ hq
  have gs : ∀ j, j ≠ i → (vals.set i v').getD j nilS = vals.getD j nilS ∧ (L.set i (L.getD i [] ++ [s])).getD j [] = L.getD j [] := fun j hj => by
    constructor
    · simp [List.getD, List.getElem?_set_ne (Ne.symm hj)]
    · simp [List.getD, List.getElem?_set_ne (Ne.symm hj)]
  have ge : (vals.set i v').getD i nilS = v' ∧ (L.set i (L.getD i [] ++ [s])).getD i [] = L.getD i [] ++ [s] := by
    constructor
    · simp [List.getD, List.getElem?_set_self (show i < vals.length by omega)]
    · simp [List.getD, List.getElem?_set_self hi]
  refine ⟨?_, fun j hj => ?_, fun j hj q hq => ?_⟩
  · rw [List.length_set]
    have o7 : w7.ownsRow B 39 1 (.slice (some ⟨gA, 0, none⟩) L.length lc) L.length vals := own_kept h.outer fun q hq => by
      have e : gA = q := by simpa [Value.ownBlock] using hq
      exact keep q (h.outer.lt q hq).2 (by rw [← e]; exact ng)
    exact (o7.stored i v').1
  · rw [List.length_set] at hj
    by_cases e : j = i
    · subst e
      rw [ge.1, ge.2]
      have r : SR w7 B v' (L.getD j [] ++ [s]) := by
        show World.ownsRow _ _ _ _ _ _ _
        rw [List.length_append, flat_one]
        exact r1
      exact sr_keep r fun q hq => oth q (fun x => vg (by rw [← x]; exact hq))
    · rw [(gs j e).1, (gs j e).2]
      exact sr_keep (h.rows j hj) fun q hq => (oth q (fun x => (h.apart j hj q hq).1 (by rw [x]; rfl))).trans (keep q (oq j hj q hq) (fun x => e ((h.apart i hi q x).2 j hj hq)))
  · rw [List.length_set] at hj ⊢
    by_cases e : j = i
    · subst e
      rw [ge.1] at hq
      refine ⟨fun x => ?_, fun m hm hmq => ?_⟩
      · have e3 : gA = q := by simpa [Value.ownBlock] using x
        exact vg (by rw [e3]; exact hq)
      by_cases e2 : m = j
      · exact e2
      · rw [(gs m e2).1] at hmq
        rcases r4 with r | r
        · rw [r] at hq
          exact (h.apart j hi q hq).2 m hm hmq
        · rw [r] at hq
          have : w.heap.size + 1 = q := by simpa using hq
          have := oq m hm q hmq
          omega
    · rw [(gs j e).1] at hq
      have ap := h.apart j hj q hq
      refine ⟨ap.1, fun m hm hmq => ?_⟩
      by_cases e2 : m = i
      · subst e2
        rw [ge.1] at hmq
        rcases r4 with r | r
        · rw [r] at hmq
          exact ap.2 m hm hmq
        · rw [r] at hmq
          have : w.heap.size + 1 = q := by simpa using hmq
          have := oq j hj q hq
          omega
      · rw [(gs m e2).1] at hmq
        exact ap.2 m hm hmq
theorem new_e3 (w : World) (a b : Int) (c : Bool) : ∀ j u, [Value.int .u64 a, .int .u64 b, .bool c][j]? = some u → (w.alloc (.cells #[.int .u64 a, .int .u64 b, .bool c] 26)).cell? ((⟨w.heap.size, 0, none⟩ : Addr).add j) = some u := World.news_of_block (heap_alloc_new w _)

set_option maxRecDepth 10000 in
set_option maxHeartbeats 8000000 in
theorem builds_walk {HR : World → Nat → (Nat → Prop) → Int → (Nat → Int) → (Nat → Int) → (Nat → Bool) → Nat → List (List Sg) → Prop} (H : RunC HR) (O5 : Of5C) (ao : Option Addr) (n cp : Nat) (k v : Nat → Int) (g : Nat → Bool) (eps : Int) (e0 : -9223372036854775808 ≤ eps) (e1 : eps < 9223372036854775808) (hn : n ≤ 2000000) (hcp : n ≤ cp) (hz : ao = none → n = 0 ∧ cp = 0) (w : World) (h : ES w ao n k v g) :
    Calls Tryz.prog 3 #[.slice ao n cp, .int .i64 eps] w fun e w' => e = .returned (.bool true) ∧ Gw w w' := by
  have HE : Aside (ES w ao n k v g) := h
  have HH : Aside (RunC HR) := H
  have HZ : Aside (ao = none → n = 0 ∧ cp = 0) := hz
  have SH : Hid (Calls Tryz.prog 9 #[] w fun e w' => e = .returned (.bool true) ∧ Gw w w') := shown11 H w
  have NW : Hid (∀ (W : World) (b xc : Nat), n ≤ xc → ES W (some ⟨b, 0, none⟩) n k v g → Calls Tryz.prog 10 #[.slice (some ⟨b, 0, none⟩) n xc, .int .i64 eps] W fun ex w' => RunOut HR W w' ex eps k v g n ∧ Gw W w') := fun W b xc a hx => H.new eps _ n xc k v g e0 e1 hn a (fun q => by cases q) W hx
  have DN : Hid (∀ W, Gw w W → Calls Tryz.prog 11 #[.slice ao n cp, .int .i64 eps] W fun ex w' => RunOut HDoc W w' ex eps k v g n ∧ Gw W w') := fun W gg => dc_new O5 eps ao n cp k v g e0 e1 hn hcp hz W (h.gw gg)
  have SL : Hid (∀ (W : World) (b xc : Nat), Gw w W → ES W (some ⟨b, 0, none⟩) n k v g → Calls Tryz.prog 12 #[.slice (some ⟨b, 0, none⟩) n xc, .slice ao n cp] W fun e w' => e = .returned (.bool true) ∧ Gw W w') := fun W b xc gg hx => same11_list _ ao xc cp n k v g (by omega) W hx (h.gw gg)
  clear h H hz hcp O5
  by_cases big : 300 < n
  · go_enter Tryz.func3, Tryz.ntmps3
    go_wp2_with fail
    refine Calls.mono SH.out ?_
    rintro e w1 ⟨rfl, g1⟩
    have G1 : Aside (Gw w w1) := g1
    clear g1 SH
    have big' : (300 : Int) < (n : Int) := by omega
    go_wp2_with fail
    go_ret
    exact ⟨rfl, G1.out⟩
  go_enter Tryz.func3, Tryz.ntmps3
  go_wp2_with fail
  refine Calls.mono SH.out ?_
  rintro e w1 ⟨rfl, g1⟩
  have G1 : Aside (Gw w w1) := g1
  clear g1 SH
  have big' : ¬ (300 : Int) < (n : Int) := by omega
  obtain ⟨ii, hii, iz, is, iby⟩ := info_parts info_e
  have O0 : Hid ((w1.alloc (.cells #[] 26)).ownsRow w1.heap.size 26 3 (.slice (some ⟨w1.heap.size, 0, none⟩) 0 0) 0 []) := World.ownsRow_made w1 #[] 0 (Nat.le_refl _) (Nat.zero_le _) rfl
  have NS : Hid (∀ ad, ao = some ad → ∀ j u, (ecs k v g n)[j]? = some u → (w1.alloc (.cells #[] 26)).cell? (ad.add j) = some u) := es_news (HE.out.gw (G1.out.alloc _ _))
  go_wp2_with (at_builtin; refine wpList_append_src _ rfl _ _ 22 rfl w1.heap.size 26 ii (.agg #[.int .u64 0, .int .u64 0, .bool false]) 3 24 Tryz.underlying22 hii iz is iby rfl (by decide) _ 0 [] rfl O0.out ao n cp (ecs k v g n) rfl HZ.out (ecs_len k v g n) NS.out (ecs_one k v g n) (by simp only [maxLen]; omega) (by omega) (by simp) ?_)
  intro v' w2 q1 q2 q3
  have O2 : Aside (w2.ownsRow w1.heap.size 26 3 v' n (ecs k v g n)) := by show World.ownsRow _ _ _ _ _ _ _; simpa using q1
  have G2 : Aside (Gw w1 w2) := ((Gw.refl w1).alloc _ _).grown q2 (fun j hj => by cases hj; exact Nat.le_refl _)
  clear q1 q2 q3 O0 NS
  go_wp2_with (at_builtin; refine wpList_append_own_at _ rfl _ _ 22 rfl w1.heap.size 26 ii (.agg #[.int .u64 0, .int .u64 0, .bool false]) 3 24 Tryz.underlying22 hii iz is iby rfl (by decide) _ n _ rfl (World.ownsRow.alloc O2.out _) ⟨w2.heap.size, 0, none⟩ 1 1 [.int .u64 77, .int .u64 0, .bool false] rfl rfl (new_e3 w2 77 0 false) (fun u hu => by simp at hu; rcases hu with rfl | rfl | rfl <;> rfl) (by simp only [maxLen]; omega) (by omega) (by have := G2.out.size; simp; omega) ?_)
  intro v2 w4 r1 r2 r3 r4
  have FM : ∃ b cap, v2 = .slice (some ⟨b, 0, none⟩) (n + 1) cap ∧ n + 1 ≤ cap := by
    rcases r1.2 with ⟨_, z⟩ | ⟨b, cap, cur, e, hb, hh, hc, _⟩
    · omega
    · exact ⟨b, cap, e, hc⟩
  obtain ⟨b, cap, rfl, hcap⟩ := FM
  have O4 : Aside (w4.ownsRow w1.heap.size 26 3 (.slice (some ⟨b, 0, none⟩) (n + 1) cap) (n + 1) (ecs k v g n ++ [.int .u64 77, .int .u64 0, .bool false])) := r1
  have G4 : Aside (Gw w1 w4) := (G2.out.alloc _ _).grown r2 (fun j hj => (O2.out.lt j hj).1)
  have E4 : Aside (ES w4 (some ⟨b, 0, none⟩) n k v g) := es_row O4.out (by omega) (fun j hj => by rw [List.getElem?_append_left (by rw [ecs_len]; exact hj)]; exact ecs_at k v g hj) HE.out.bd
  have C4 : Aside (w4.cell? ⟨b, n * 3, none⟩ = some (.int .u64 77)) := by
    have := O4.out.cellAt (n * 3) (by omega)
    rw [List.getElem?_append_right (by rw [ecs_len]; omega), ecs_len, Nat.sub_self] at this
    exact this
  have B4 : Aside (w1.heap.size ≤ b ∧ b < w4.heap.size) := O4.out.lt b rfl
  clear r1 r2 r3 r4 O2 G2
  have nn : n ≤ cap := by omega
  go_wp2_with fail
  refine Calls.mono (NW.out _ b cap (by omega) E4.out) ?_
  rintro e w5 ⟨⟨E, ne, x⟩, g5⟩
  have G5 : Aside (Gw w4 w5) := g5
  have NE : Aside (NewE eps k v g n E) := ne
  clear g5 ne NW
  rcases x with ⟨x0, rfl⟩ | ⟨rfl, p, S, L, rfl, hS, br, hr⟩
  · have X0 : Aside (E ≠ 0) := x0
    clear x0
    go_wp2_with fail
    refine Calls.mono (DN.out _ ((G1.out.trans G4.out).trans G5.out)) ?_
    rintro e w6 ⟨⟨E', ne', x⟩, g6⟩
    have ee := ne'.one NE.out
    subst ee
    rcases x with ⟨_, rfl⟩ | ⟨x, _⟩
    case inr => exact absurd x X0.out
    have G6 : Aside (Gw w w6) := ((G1.out.trans G4.out).trans G5.out).trans g6
    have E6 : Aside (ES w6 (some ⟨b, 0, none⟩) n k v g) := E4.out.gw (G5.out.trans g6)
    have C6 : Aside (w6.cell? ⟨b, n * 3, none⟩ = some (.int .u64 77) ∧ b < w6.heap.size) := ⟨((G5.out.trans g6).cell _ _ B4.out.2).trans C4.out, Nat.lt_of_lt_of_le B4.out.2 (G5.out.trans g6).size⟩
    clear g6 ne' DN
    go_wp2_with fail
    refine Calls.mono (SL.out _ b cap G6.out E6.out) ?_
    rintro e w7 ⟨rfl, g7⟩
    have G7 : Aside (Gw w w7) := G6.out.trans g7
    have c7 : w7.cell? ⟨b, n * 3, none⟩ = some (.int .u64 77) := (g7.cell _ _ C6.out.2).trans C6.out.1
    have l7 : b < w7.heap.size := Nat.lt_of_lt_of_le C6.out.2 g7.size
    clear g7 E6 C6 G6
    go_wp2_with fail
    go_ret
    exact ⟨rfl, G7.out⟩
  have R5 : Aside (HR w5 p S eps k v g n L ∧ (∀ q, S q → w4.heap.size ≤ q) ∧ BuildR eps k n L) := ⟨hr, hS, br⟩
  clear hr hS br
  go_wp2_with fail
  refine Calls.mono (DN.out _ ((G1.out.trans G4.out).trans G5.out)) ?_
  rintro e w6 ⟨⟨E', ne', x⟩, g6⟩
  have ee := ne'.one NE.out
  subst ee
  rcases x with ⟨x, _⟩ | ⟨_, px, Sx, L', rfl, hSx, br', hd⟩
  · exact absurd rfl x
  have eL := br'.one R5.out.2.2
  rw [eL] at hd
  have G6 : Aside (Gw w w6) := ((G1.out.trans G4.out).trans G5.out).trans g6
  have E6 : Aside (ES w6 (some ⟨b, 0, none⟩) n k v g) := E4.out.gw (G5.out.trans g6)
  have RD : Aside ((HR w6 p S eps k v g n L ∧ ∀ q, S q → w4.heap.size ≤ q) ∧ HDoc w6 px Sx eps k v g n L ∧ ∀ q, Sx q → w4.heap.size ≤ q) := ⟨⟨HH.out.gw R5.out.1 g6, R5.out.2.1⟩, hd, fun q hq => Nat.le_trans G5.out.size (hSx q hq)⟩
  have H46 : Aside (Gw w4 w6) := G5.out.trans g6
  clear g6 ne' DN hd hSx R5 br' eL
  go_wp2_with fail
  refine Calls.mono (SL.out _ b cap G6.out E6.out) ?_
  rintro e w7 ⟨rfl, g7⟩
  have H7 : Aside (Gw w4 w7) := H46.out.trans g7
  have c7 : w7.cell? ⟨b, n * 3, none⟩ = some (.int .u64 77) := (H7.out.cell _ _ B4.out.2).trans C4.out
  have l7 : b < w7.heap.size := Nat.lt_of_lt_of_le B4.out.2 H7.out.size
  have O7 : Aside (w7.ownsRow w1.heap.size 26 3 (.slice (some ⟨b, 0, none⟩) (n + 1) cap) (n + 1) (ecs k v g n ++ [.int .u64 77, .int .u64 0, .bool false])) := own_kept O4.out fun q hq => H7.out.below.block q (O4.out.lt q hq).2
  have RD7 : Aside ((HR w7 p S eps k v g n L ∧ ∀ q, S q → w4.heap.size ≤ q) ∧ HDoc w7 px Sx eps k v g n L ∧ ∀ q, Sx q → w4.heap.size ≤ q) := ⟨⟨HH.out.gw RD.out.1.1 g7, RD.out.1.2⟩, RD.out.2.1.gw g7, RD.out.2.2⟩
  have G17 : Aside (Gw w1 w7) := G4.out.trans H7.out
  have K7 : Aside (Gs (fun q => w1.heap.size ≤ q ∧ q < w4.heap.size) w7 w7) := (Gw.refl w7).gs _
  clear g7 E6 RD G6 H46 E4 O4 C4 SL H7
  go_wp2_with fail
  clear c7 l7
  go_loopg [11] (n + 1) (fun gg s11 wr => ∃ (i : Nat) (xs : List Value), s11 = .int .i64 (i : Int) ∧ i ≤ n + 1 ∧ n + 1 - i ≤ gg ∧ Aside (wr.ownsRow w1.heap.size 26 3 (.slice (some ⟨b, 0, none⟩) (n + 1) cap) (n + 1) xs) ∧ Aside (Gs (fun q => w1.heap.size ≤ q ∧ q < w4.heap.size) w7 wr))
  case atStart => exact ⟨0, _, rfl, Nat.zero_le _, by omega, O7, K7⟩
  case round =>
    clear O7 K7
    obtain ⟨i, xs, rfl, a1, a2, OO, KK⟩ := hrel
    obtain ⟨wS, hwS⟩ : ∃ wx, wx = wr := ⟨_, rfl⟩
    subst hwS
    by_cases hlt : i < n + 1
    · have hlt' : (i : Int) < ((n + 1 : Nat) : Int) := by omega
      have hlt2 : (i : Int) < (n : Int) + 1 := by omega
      obtain ⟨y0, c0⟩ := row_cells OO.out (j := i * 3) (by omega)
      obtain ⟨y1, c1⟩ := row_cells OO.out (j := i * 3 + 1) (by omega)
      obtain ⟨y2, c2⟩ := row_cells OO.out (j := i * 3 + 2) (by omega)
      have z0 := World.ownsRow.frozenAt OO.out (i * 3)
      have z1 := World.ownsRow.frozenAt OO.out (i * 3 + 1)
      have z2 := World.ownsRow.frozenAt OO.out (i * 3 + 2)
      have bl : b < wS.heap.size := (OO.out.lt b rfl).2
      have O9 : Aside (World.ownsRow (((wS.setCell ⟨b, i * 3, none⟩ (.int .u64 5)).setCell ⟨b, i * 3 + 1, none⟩ (.int .u64 5)).setCell ⟨b, i * 3 + 2, none⟩ (.bool false)) w1.heap.size 26 3 (.slice (some ⟨b, 0, none⟩) (n + 1) cap) (n + 1) (((xs.set (i * 3) (.int .u64 5)).set (i * 3 + 1) (.int .u64 5)).set (i * 3 + 2) (.bool false))) := (((OO.out.stored (i * 3) _).1.stored (i * 3 + 1) _).1.stored (i * 3 + 2) _).1
      have K9 : Aside (Gs (fun q => w1.heap.size ≤ q ∧ q < w4.heap.size) w7 (((wS.setCell ⟨b, i * 3, none⟩ (.int .u64 5)).setCell ⟨b, i * 3 + 1, none⟩ (.int .u64 5)).setCell ⟨b, i * 3 + 2, none⟩ (.bool false))) := ((KK.out.set B4.out _ _).set B4.out _ _).set B4.out _ _
      clear OO KK
      go_wp2_with fail
      go_roundg (n + 1 - (i + 1))
      case measure => omega
      case rel => exact ⟨i + 1, _, by go_num, by omega, Nat.le_refl _, O9, K9⟩
    · have ei : i = n + 1 := by omega
      subst ei
      have kp : ∀ q, w4.heap.size ≤ q → q < w7.heap.size → wS.heap[q]? = w7.heap[q]? := fun q h1 h2 => KK.out.block q h2 (fun x => absurd x.2 (Nat.not_lt.2 h1))
      have RS : Aside (HR wS p S eps k v g n L ∧ HDoc wS px Sx eps k v g n L) := ⟨HH.out.keep RD7.out.1.1 fun q hq => kp q (RD7.out.1.2 q hq) (HH.out.lt RD7.out.1.1 q hq), RD7.out.2.1.keep fun q hq => kp q (RD7.out.2.2 q hq) (RD7.out.2.1.lt q hq)⟩
      have GS9 : Aside (Gw w wS) := G1.out.trans (gs_gwd G17.out KK.out fun q hq => hq.1)
      have AL : Hid (∀ W, HR W p S eps k v g n L → HDoc W px Sx eps k v g n L → Calls Tryz.prog 13 #[.pointer (some ⟨p, 0, none⟩), .pointer (some ⟨px, 0, none⟩)] W fun e w' => e = .returned (.bool true) ∧ Gw W w') := fun W a c => alike11 HH.out a c
      clear kp OO KK RD7 G17
      go_wp2_with fail
      refine Calls.mono (AL.out _ RS.out.1 RS.out.2) ?_
      rintro e w9 ⟨rfl, g9⟩
      have G9 : Aside (Gw w w9) := GS9.out.trans g9
      have R9 : Aside (HR w9 p S eps k v g n L ∧ HDoc w9 px Sx eps k v g n L) := ⟨HH.out.gw RS.out.1 g9, RS.out.2.gw g9⟩
      clear g9 GS9 RS
      go_wp2_with fail
      refine Calls.mono (HH.out.list R9.out.1) ?_
      rintro e w10 ⟨⟨lo2, c2, rfl, er⟩, g10⟩
      have O10 : Aside (w10.ownsRow w9.heap.size 26 3 (.slice lo2 n c2) n (ecs k v g n)) := er
      have G10 : Aside (Gw w9 w10) := g10
      clear er g10
      go_wp2_with fail
      go_loopg [13] n (fun gg s13 wr => ∃ (i : Nat) (xs : List Value), s13 = .int .i64 (i : Int) ∧ i ≤ n ∧ n - i ≤ gg ∧ Aside (wr.ownsRow w9.heap.size 26 3 (.slice lo2 n c2) n xs) ∧ Aside (Gw w9 wr))
      case atStart => exact ⟨0, _, rfl, Nat.zero_le _, by omega, O10, G10⟩
      case round =>
        clear O10 G10
        obtain ⟨i, xs, rfl, a1, a2, OO, KK⟩ := hrel
        obtain ⟨wT, hwT⟩ : ∃ wx, wx = wr := ⟨_, rfl⟩
        subst hwT
        by_cases hlt : i < n
        · have hlt' : (i : Int) < (n : Int) := by omega
          obtain ⟨d, rfl⟩ := row_some OO.out (by omega)
          obtain ⟨y0, c0⟩ := row_cells OO.out (j := i * 3) (by omega)
          obtain ⟨y1, c1⟩ := row_cells OO.out (j := i * 3 + 1) (by omega)
          obtain ⟨y2, c2'⟩ := row_cells OO.out (j := i * 3 + 2) (by omega)
          have z0 := World.ownsRow.frozenAt OO.out (i * 3)
          have z1 := World.ownsRow.frozenAt OO.out (i * 3 + 1)
          have z2 := World.ownsRow.frozenAt OO.out (i * 3 + 2)
          obtain ⟨bb, bl⟩ := OO.out.lt d rfl
          have O9 : Aside (World.ownsRow (((wT.setCell ⟨d, i * 3, none⟩ (.int .u64 6)).setCell ⟨d, i * 3 + 1, none⟩ (.int .u64 0)).setCell ⟨d, i * 3 + 2, none⟩ (.bool false)) w9.heap.size 26 3 (.slice (some ⟨d, 0, none⟩) n c2) n (((xs.set (i * 3) (.int .u64 6)).set (i * 3 + 1) (.int .u64 0)).set (i * 3 + 2) (.bool false))) := (((OO.out.stored (i * 3) _).1.stored (i * 3 + 1) _).1.stored (i * 3 + 2) _).1
          have K9 : Aside (Gw w9 (((wT.setCell ⟨d, i * 3, none⟩ (.int .u64 6)).setCell ⟨d, i * 3 + 1, none⟩ (.int .u64 0)).setCell ⟨d, i * 3 + 2, none⟩ (.bool false))) := ((KK.out.setCell bb _).setCell bb _).setCell bb _
          clear OO KK bb
          go_wp2_with fail
          go_roundg (n - (i + 1))
          case measure => omega
          case rel => exact ⟨i + 1, _, by go_num, by omega, Nat.le_refl _, O9, K9⟩
        · have ei : i = n := by omega
          subst ei
          have OA : Aside ((wT.alloc (.cells #[.int .u64 8, .int .u64 0, .bool false, .int .u64 8, .int .u64 0, .bool false] 26)).ownsRow w9.heap.size 26 3 (.slice lo2 i c2) i xs) := World.ownsRow.alloc OO.out _
          have N6 : Hid (∀ j u, [Value.int .u64 8, .int .u64 0, .bool false, .int .u64 8, .int .u64 0, .bool false][j]? = some u → (wT.alloc (.cells #[.int .u64 8, .int .u64 0, .bool false, .int .u64 8, .int .u64 0, .bool false] 26)).cell? ((⟨wT.heap.size, 0, none⟩ : Addr).add j) = some u) := World.news_of_block (heap_alloc_new wT _)
          go_wp2_with (at_builtin; refine wpList_append_own_at _ rfl _ _ 22 rfl w9.heap.size 26 ii (.agg #[.int .u64 0, .int .u64 0, .bool false]) 3 24 Tryz.underlying22 hii iz is iby rfl (by decide) _ i _ rfl OA.out ⟨wT.heap.size, 0, none⟩ 2 2 [.int .u64 8, .int .u64 0, .bool false, .int .u64 8, .int .u64 0, .bool false] rfl rfl N6.out (fun u hu => by simp at hu; rcases hu with rfl | rfl | rfl | rfl | rfl | rfl <;> rfl) (by simp only [maxLen]; omega) (by omega) (by have := KK.out.size; simp; omega) ?_)
          intro v12 w12 r1 r2 r3 r4
          have FM : ∃ mb mc, v12 = .slice (some ⟨mb, 0, none⟩) (i + 2) mc := by
            rcases r1.2 with ⟨_, z⟩ | ⟨b, cap, cur, e, hb, hh, hc, _⟩
            · omega
            · exact ⟨b, cap, e⟩
          obtain ⟨mb, mc, rfl⟩ := FM
          have xl : xs.length = i * 3 := OO.out.1
          have M12 : Aside (w12.cell? ⟨mb, i * 3, none⟩ = some (.int .u64 8) ∧ mb < w12.heap.size) := by
            refine ⟨?_, (r1.lt mb rfl).2⟩
            have := r1.cellAt (i * 3) (by omega)
            rw [List.getElem?_append_right (by omega), xl, Nat.sub_self] at this
            exact this
          have G12 : Aside (Gw w9 w12) := (KK.out.alloc _ _).grown r2 (fun j hj => (OO.out.lt j hj).1)
          clear r1 r2 r3 r4 OA N6 OO KK xl
          have R12 : Aside (HR w12 p S eps k v g i L) := HH.out.gw R9.out.1 G12.out
          obtain ⟨ln, hln⟩ : ∃ ln, L.length = ln := ⟨_, rfl⟩
          have LN : Aside (L.length = ln) := hln
          have LV : Hid (Calls Tryz.prog 15 #[.pointer (some ⟨p, 0, none⟩)] w12 fun e w' => (∃ lo lc vals, e = .returned (.slice lo ln lc) ∧ OwnV w' w12.heap.size (.slice lo ln lc) L vals) ∧ Gw w12 w') := (HH.out.levels R12.out).mono fun e w' ⟨⟨lo, lc, vals, a, ow, lok, hl⟩, b⟩ => ⟨⟨lo, lc, vals, by rw [← LN.out]; exact a, by rw [← LN.out]; exact ow⟩, b⟩
          have SHO : Aside (Short L) := (HH.out.ready R12.out).sh
          have ln1 : ln ≤ 2000000 := by rw [← hln]; exact SHO.out.1
          clear hln
          go_wp2_with fail
          refine Calls.mono LV.out ?_
          rintro e w13 ⟨⟨lo, lc, vals, rfl, ow⟩, g13⟩
          have OV13 : Aside (OwnV w13 w12.heap.size (.slice lo ln lc) L vals ∧ L.length = ln ∧ ∀ j, 0 ≤ j → (L.getD j []).length ≤ 2000000) := ⟨ow, LN.out, fun j _ => by
            by_cases hj : j < L.length
            · exact SHO.out.2 j hj
            · rw [List.getD_eq_getElem?_getD, List.getElem?_eq_none (by omega)]; simp⟩
          have G13 : Aside (Gw w12 w13) := g13
          clear ow g13 LV
          obtain ⟨jj, hjj, jz, js, jby⟩ := info_parts info_sg
          go_wp2_with fail
          go_loopg [16] ln (fun gg s16 wr => ∃ (j : Nat) (L' : List (List Sg)) (vs : List Value), s16 = .int .i64 (j : Int) ∧ j ≤ ln ∧ ln - j ≤ gg ∧ Aside (OwnV wr w12.heap.size (.slice lo ln lc) L' vs ∧ L'.length = ln ∧ ∀ t, j ≤ t → (L'.getD t []).length ≤ 2000000) ∧ Aside (Gw w12 wr))
          case atStart => exact ⟨0, L, vals, rfl, Nat.zero_le _, by omega, OV13, G13⟩
          case round =>
            clear OV13 G13
            obtain ⟨j, L', vs, rfl, b1, b2, OV, KK⟩ := hrel
            obtain ⟨wU, hwU⟩ : ∃ wx, wx = wr := ⟨_, rfl⟩
            subst hwU
            by_cases jlt : j < ln
            · have jlt' : (j : Int) < (ln : Int) := by omega
              obtain ⟨gA, rfl⟩ : ∃ gA, lo = some ⟨gA, 0, none⟩ := by
                have := OV.out.1.outer
                rw [OV.out.2.1] at this
                exact row_some this (by omega)
              obtain ⟨so, sc, e1, slc, sz, sb⟩ := sr_form (OV.out.1.rows j (by rw [OV.out.2.1]; exact jlt))
              obtain ⟨sn, hsn⟩ : ∃ sn, (L'.getD j []).length = sn := ⟨_, rfl⟩
              have SN : Aside ((L'.getD j []).length = sn) := hsn
              have sn1 : sn ≤ 2000000 := by rw [← hsn]; exact OV.out.2.2 j (Nat.le_refl _)
              rw [hsn] at e1 sz slc
              have EV : Aside (vs.getD j nilS = .slice so sn sc ∧ (so = none → sn = 0) ∧ ∀ a, so = some a → a = ⟨a.block, 0, none⟩) := ⟨e1, fun q => (sz q).1, fun a q => (sb a q).1⟩
              have CA : Aside (∀ W, (∃ L2, OwnV W w12.heap.size (.slice (some ⟨gA, 0, none⟩) ln lc) L2 vs ∧ L2.length = ln) → (W.cell? ⟨gA, j, none⟩ = some (.slice so sn sc) ∧ W.frozen? ⟨gA, j, none⟩ = false) ∧ gA < W.heap.size) := fun W ⟨L2, o2, l2⟩ => by
                have vl := o2.len
                have o := o2.outer
                rw [l2] at o vl
                have := o.cellAt j (by omega)
                rw [List.getElem?_eq_getElem (by omega)] at this
                refine ⟨⟨this.trans ?_, World.ownsRow.frozenAt o j⟩, (o.lt gA rfl).2⟩
                rw [← EV.out.1, List.getD_eq_getElem?_getD, List.getElem?_eq_getElem (by omega)]
                rfl
              have bA : Aside (w12.heap.size ≤ gA) := (OV.out.1.outer.lt gA rfl).1
              have OV2 : Aside (OwnV wU w12.heap.size (.slice (some ⟨gA, 0, none⟩) ln lc) L' vs ∧ L'.length = ln ∧ (L'.getD j []).length = sn ∧ ∀ t, j ≤ t → (L'.getD t []).length ≤ 2000000) := ⟨OV.out.1, OV.out.2.1, SN.out, OV.out.2.2⟩
              clear e1 sz sb hsn SN OV slc
              go_wp2_with fail
              go_loopg [17] sn (fun gg s17 wr => ∃ (t : Nat) (L2 : List (List Sg)), s17 = .int .i64 (t : Int) ∧ t ≤ sn ∧ sn - t ≤ gg ∧ Aside (OwnV wr w12.heap.size (.slice (some ⟨gA, 0, none⟩) ln lc) L2 vs ∧ L2.length = ln ∧ (L2.getD j []).length = sn ∧ ∀ t, j ≤ t → (L2.getD t []).length ≤ 2000000) ∧ Aside (Gw w12 wr))
              case atStart => exact ⟨0, L', rfl, Nat.zero_le _, by omega, OV2, KK⟩
              case round =>
                clear OV2 KK
                obtain ⟨t, L2, rfl, d1, d2, OV, KK⟩ := hrel
                obtain ⟨wV, hwV⟩ : ∃ wx, wx = wr := ⟨_, rfl⟩
                subst hwV
                obtain ⟨⟨cA, fA⟩, lA⟩ := CA.out _ ⟨L2, OV.out.1, OV.out.2.1⟩
                by_cases tlt : t < sn
                · have tlt' : (t : Int) < (sn : Int) := by omega
                  obtain ⟨d, rfl⟩ : ∃ b, so = some ⟨b, 0, none⟩ := by
                    cases so with
                    | none => have := EV.out.2.1 rfl; omega
                    | some a => exact ⟨a.block, by rw [← EV.out.2.2 a rfl]⟩
                  have jl : j < L2.length := by rw [OV.out.2.1]; exact jlt
                  have ev : vs.getD j nilS = .slice (some ⟨d, 0, none⟩) (L2.getD j []).length sc := by rw [OV.out.2.2.1]; exact EV.out.1
                  have rw5 : wV.ownsRow w12.heap.size 42 5 (.slice (some ⟨d, 0, none⟩) sn sc) sn ((L2.getD j []).flatMap sgc) := by
                    have := OV.out.1.rows j jl
                    rw [ev] at this
                    have th : wV.ownsRow w12.heap.size 42 5 (.slice (some ⟨d, 0, none⟩) (L2.getD j []).length sc) (L2.getD j []).length ((L2.getD j []).flatMap sgc) := this
                    rw [OV.out.2.2.1] at th
                    exact th
                  obtain ⟨y0, c0⟩ := row_cells rw5 (j := t * 5) (by omega)
                  obtain ⟨y1, c1⟩ := row_cells rw5 (j := t * 5 + 1) (by omega)
                  obtain ⟨y2, c2'⟩ := row_cells rw5 (j := t * 5 + 2) (by omega)
                  obtain ⟨y3, c3⟩ := row_cells rw5 (j := t * 5 + 3) (by omega)
                  obtain ⟨y4, c4⟩ := row_cells rw5 (j := t * 5 + 4) (by omega)
                  have z0 := World.ownsRow.frozenAt rw5 (t * 5)
                  have z1 := World.ownsRow.frozenAt rw5 (t * 5 + 1)
                  have z2 := World.ownsRow.frozenAt rw5 (t * 5 + 2)
                  have z3 := World.ownsRow.frozenAt rw5 (t * 5 + 3)
                  have z4 := World.ownsRow.frozenAt rw5 (t * 5 + 4)
                  obtain ⟨db, bl⟩ := rw5.lt d rfl
                  have nb : ¬ gA = d := fun e => (OV.out.1.apart j jl d (by rw [ev]; rfl)).1 (by rw [← e]; rfl)
                  have nb' : ¬ d = gA := fun e => nb e.symm
                  have O9 : Aside (OwnV (put5 wV d (t * 5) ⟨0, 0, 0, -6, 0⟩) w12.heap.size (.slice (some ⟨gA, 0, none⟩) ln lc) (L2.set j ((L2.getD j []).set t ⟨0, 0, 0, -6, 0⟩)) vs ∧ (L2.set j ((L2.getD j []).set t ⟨0, 0, 0, -6, 0⟩)).length = ln ∧ ((L2.set j ((L2.getD j []).set t ⟨0, 0, 0, -6, 0⟩)).getD j []).length = sn ∧ ∀ u, j ≤ u → ((L2.set j ((L2.getD j []).set t ⟨0, 0, 0, -6, 0⟩)).getD u []).length ≤ 2000000) := by
                    have LL := (Lens.refl L2).put j t ⟨0, 0, 0, -6, 0⟩
                    exact ⟨OV.out.1.put1 jl ev (by rw [OV.out.2.2.1]; exact tlt) _, LL.1.trans OV.out.2.1, (LL.2 j).trans OV.out.2.2.1, fun u hu => by rw [LL.2 u]; exact OV.out.2.2.2 u hu⟩
                  have K9 : Aside (Gw w12 (put5 wV d (t * 5) ⟨0, 0, 0, -6, 0⟩)) := put5_gw KK.out db
                  clear OV KK ev rw5 jl db fA
                  go_wp2_with fail
                  go_roundg (sn - (t + 1))
                  case measure => omega
                  case rel => exact ⟨t + 1, _, by go_num, by omega, Nat.le_refl _, O9, K9⟩
                · have et : t = sn := by omega
                  subst et
                  have jl : j < L2.length := by rw [OV.out.2.1]; exact jlt
                  have RWs : Hid ((wV.alloc (.cells #[.int .u64 0, .float .f64 0, .float .f64 0, .int .i64 (-8), .int .i64 0] 42)).ownsRow w12.heap.size 42 5 (.slice so t sc) t ((L2.getD j []).flatMap sgc)) := by
                    have := OV.out.1.rows j jl
                    rw [EV.out.1] at this
                    have th : wV.ownsRow w12.heap.size 42 5 (.slice so t sc) (L2.getD j []).length ((L2.getD j []).flatMap sgc) := this
                    rw [OV.out.2.2.1] at th
                    exact World.ownsRow.alloc th _
                  have RWs2 : Hid (∃ ys, ys = (L2.getD j []).flatMap sgc) := ⟨_, rfl⟩
                  obtain ⟨ys, hys⟩ := RWs2.out
                  have YS : Aside (ys = (L2.getD j []).flatMap sgc) := hys
                  rw [← hys] at RWs
                  clear hys RWs2
                  have N5 : Hid (∀ q u, (sgc ⟨0, 0, 0, -8, 0⟩)[q]? = some u → (wV.alloc (.cells #[.int .u64 0, .float .f64 0, .float .f64 0, .int .i64 (-8), .int .i64 0] 42)).cell? ((⟨wV.heap.size, 0, none⟩ : Addr).add q) = some u) := new_sg wV ⟨0, 0, 0, -8, 0⟩
                  go_wp2_with (at_builtin; refine wpList_append_own_at _ rfl _ _ 39 rfl w12.heap.size 42 jj (.agg #[.int .u64 0, .float .f64 0, .float .f64 0, .int .i64 0, .int .i64 0]) 5 40 Tryz.underlying39 hjj jz js jby rfl (by decide) _ t _ rfl RWs.out ⟨wV.heap.size, 0, none⟩ 1 1 (sgc ⟨0, 0, 0, -8, 0⟩) rfl rfl N5.out (sgc_one _) (by simp only [maxLen]; omega) (by omega) (by have := KK.out.size; simp; omega) ?_)
                  intro v7 w7' r1 r2 r3 r4
                  have O9 := OwnV.app (lc := lc) (gA := gA) (s := ⟨0, 0, 0, -8, 0⟩) (o := .cells #[.int .u64 0, .float .f64 0, .float .f64 0, .int .i64 (-8), .int .i64 0] 42) (by rw [OV.out.2.1]; exact OV.out.1) jl (by rw [OV.out.2.2.1, ← YS.out]; exact r1) (by rw [EV.out.1]; exact r2) (by rw [EV.out.1]; simpa using r4)
                  have keep7 : w7'.heap[gA]? = wV.heap[gA]? := (r2.block gA (by simp; omega) (fun e => (OV.out.1.apart j jl gA (by rw [EV.out.1]; exact e.symm)).1 rfl)).trans (heap_alloc_old _ _ lA)
                  have cA7 : w7'.cell? ⟨gA, j, none⟩ = some (.slice so t sc) := (World.cell?_of_block (a := ⟨gA, j, none⟩) keep7).trans cA
                  have fA7 : w7'.frozen? ⟨gA, j, none⟩ = false := by
                    unfold World.frozen? at fA ⊢
                    rw [keep7]
                    exact fA
                  have lA7 : gA < w7'.heap.size := by have := r2.size; simp at this; omega
                  have K9 : Aside (Gw w12 (w7'.setCell ⟨gA, j, none⟩ v7)) := ((KK.out.alloc _ _).grown r2 (fun q hq => by
                    have := sr_lt (OV.out.1.rows j jl) q (by rw [EV.out.1]; exact hq)
                    exact this.1)).setCell bA.out _
                  have P9 : Aside (OwnV (w7'.setCell ⟨gA, j, none⟩ v7) w12.heap.size (.slice (some ⟨gA, 0, none⟩) ln lc) (L2.set j (L2.getD j [] ++ [⟨0, 0, 0, -8, 0⟩])) (vs.set j v7) ∧ (L2.set j (L2.getD j [] ++ [⟨0, 0, 0, -8, 0⟩])).length = ln ∧ ∀ u, j + 1 ≤ u → ((L2.set j (L2.getD j [] ++ [⟨0, 0, 0, -8, 0⟩])).getD u []).length ≤ 2000000) := by
                    refine ⟨?_, by rw [List.length_set]; exact OV.out.2.1, fun u hu => ?_⟩
                    · rw [List.length_set, OV.out.2.1] at O9
                      exact O9
                    · have := OV.out.2.2.2 u (by omega)
                      rw [List.getD_eq_getElem?_getD, List.getElem?_set_ne (by omega), ← List.getD_eq_getElem?_getD]
                      exact this
                  obtain ⟨b8, cap8, ev8⟩ : ∃ b8 cap8, v7 = .slice (some ⟨b8, 0, none⟩) (t + 1) cap8 := by
                    rcases r1.2 with ⟨_, z⟩ | ⟨b, cap, cur, e, hb, hh, hc, _⟩
                    · omega
                    · exact ⟨b, cap, e⟩
                  subst ev8
                  clear r1 r2 r3 r4 O9 OV KK RWs N5 keep7 cA fA lA jl YS
                  go_wp2_with fail
                  go_roundg (ln - (j + 1))
                  case measure => omega
                  case rel => exact ⟨j + 1, _, _, by go_num, by omega, Nat.le_refl _, P9, K9⟩
            · have ej : j = ln := by omega
              subst ej
              have RU : Aside (HR wU p S eps k v g i L ∧ HDoc wU px Sx eps k v g i L) := ⟨HH.out.gw R12.out KK.out, (R9.out.2.gw G12.out).gw KK.out⟩
              have GU : Aside (Gw w wU) := (G9.out.trans G12.out).trans KK.out
              have MU : Aside (wU.cell? ⟨mb, i * 3, none⟩ = some (.int .u64 8) ∧ mb < wU.heap.size) := ⟨(KK.out.cell _ _ M12.out.2).trans M12.out.1, Nat.lt_of_lt_of_le M12.out.2 KK.out.size⟩
              clear OV KK
              go_wp2_with fail
              refine Calls.mono (AL.out _ RU.out.1 RU.out.2) ?_
              rintro e w20 ⟨rfl, g20⟩
              have G20 : Aside (Gw w w20) := GU.out.trans g20
              have m1 : w20.cell? ⟨mb, i * 3, none⟩ = some (.int .u64 8) := (g20.cell _ _ MU.out.2).trans MU.out.1
              have m2 : mb < w20.heap.size := Nat.lt_of_lt_of_le MU.out.2 g20.size
              have il : (i : Int) < ((i + 2 : Nat) : Int) := by omega
              clear g20
              go_wp2_with fail
              go_ret
              exact ⟨rfl, G20.out⟩

end Go.Proofs.YtdikiaeagcokdaaGreat
