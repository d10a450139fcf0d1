/- ScriptParses: the walk. -/
import Derived.Test.YtocnmdabilaccaaDoorS1Shown
import Derived.Test.YtocnmdabilaccaaDoorS1WBack
namespace Go.Proofs.YtocnmdabilaccaaDoor
open Go.RowKit
set_option linter.unusedVariables false

theorem CO.keepx {w w' : World} {base : Nat} {v : Value} {L : List Cd} {V : List Value} (h : CO w base v L V) (k : ∀ q, base ≤ q → q < w.heap.size → w'.heap[q]? = w.heap[q]?) : CO w' base v L V :=
  ⟨own_keep h.row fun q hq => k q (World.ownsRow.lt h.row q hq).1 (World.ownsRow.lt h.row q hq).2, h.len, fun i c u h1 h2 => own_keep (h.nums i c u h1 h2) fun q hq => k q (World.ownsRow.lt (h.nums i c u h1 h2) q hq).1 (World.ownsRow.lt (h.nums i c u h1 h2) q hq).2, h.apart, h.away, h.ok⟩
theorem own_set1 {w : World} {base e g n cap : Nat} {xs : List Value} (h : w.ownsRow base e 1 (.slice (some ⟨g, 0, none⟩) n cap) n xs) {k : Nat} (hk : k < n) (u : Value) : (w.setCell ⟨g, k, none⟩ u).ownsRow base e 1 (.slice (some ⟨g, 0, none⟩) n cap) n (xs.set k u) := by
  refine ⟨by rw [List.length_set]; exact h.1, ?_⟩
  rcases h.2 with ⟨q, _⟩ | ⟨g', cap', cur, q, hb, hh, h1, h2, h3, h4⟩
  · cases q
  · cases q
    refine .inr ⟨g, cap, cur.setIfInBounds k u, rfl, hb, by simp [World.setCell, Array.getElem?_modify, hh], h1, h2, by simpa using h3, ?_⟩
    rw [← h4, Array.toList_setIfInBounds, List.take_set]
/-- A list that is written over: from place i on its numbers stand as a call's own. -/
structure AW (w : World) (base ab n i : Nat) (V : List Value) (ms : Nat → Nat) : Prop where
  blk : ∃ cur, w.heap[ab]? = some (.cells cur 30 (0, 0)) ∧ ∀ j, j < n → (∃ s, cur[j * 2]? = some (.string s)) ∧ cur[j * 2 + 1]? = V[j]?
  len : V.length = n
  nums : ∀ (j : Nat) (u : Value), i ≤ j → V[j]? = some u → ∃ ns : List Int, ns.length = ms j ∧ NUO w base u ns
  apart : ∀ (j : Nat) (u : Value) (q : Nat), V[j]? = some u → u.ownBlock = some q → q ≠ ab
  away : ∀ (i j : Nat) (u u' : Value) (q : Nat), V[i]? = some u → V[j]? = some u' → u.ownBlock = some q → u'.ownBlock = some q → i = j
theorem CO.aw {w : World} {base ab n cap : Nat} {L : List Cd} {V : List Value} (h : CO w base (.slice (some ⟨ab, 0, none⟩) n cap) L V) (hn : n = L.length) : AW w base ab n 0 V (fun j => ((L[j]?).map (fun c => c.nums.length)).getD 0) := by
  subst hn
  refine ⟨?_, h.len, fun j u _ hu => ?_, fun j u q hu hq e => h.apart j u q hu hq (by rw [e]; rfl), h.away⟩
  · rcases h.row.2 with ⟨q, _⟩ | ⟨g, cp, cur, q, _, hh, hc, _, hs, ht⟩
    · cases q
    · cases q
      refine ⟨cur, hh, fun j hj => ?_⟩
      obtain ⟨c, hc'⟩ : ∃ c, L[j]? = some c := ⟨L[j], List.getElem?_eq_getElem hj⟩
      obtain ⟨u, hu⟩ : ∃ u, V[j]? = some u := ⟨V[j]'(by rw [h.len]; exact hj), List.getElem?_eq_getElem _⟩
      have cell : ∀ k, k < 2 → cur[j * 2 + k]? = (cd2 c u)[k]? := fun k hk => by
        rw [← cds_at L V j c u hc' hu k hk, ← ht, List.getElem?_take, if_pos (by omega)]
        simp
      refine ⟨⟨Bs c.word, ?_⟩, ?_⟩
      · have := cell 0 (by decide); simpa [cd2] using this
      · rw [hu]; have := cell 1 (by decide); simpa [cd2] using this
  · have hj : j < L.length := by rw [← h.len]; exact (List.getElem?_eq_some_iff.1 hu).1
    refine ⟨L[j].nums, ?_, h.nums j L[j] u (List.getElem?_eq_getElem hj) hu⟩
    simp [hj]
theorem AW.keep {w w' : World} {base ab n i i' : Nat} {V : List Value} {ms : Nat → Nat} (h : AW w base ab n i V ms) (hi : i ≤ i') (kb : w'.heap[ab]? = w.heap[ab]?) (kn : ∀ (j : Nat) (u : Value) (q : Nat), i' ≤ j → V[j]? = some u → u.ownBlock = some q → w'.heap[q]? = w.heap[q]?) : AW w' base ab n i' V ms :=
  ⟨by obtain ⟨cur, h1, h2⟩ := h.blk; exact ⟨cur, kb.trans h1, h2⟩, h.len, fun j u hj hu => by
    obtain ⟨ns, h1, h2⟩ := h.nums j u (by omega) hu
    exact ⟨ns, h1, own_keep h2 fun q hq => kn j u q hj hu hq⟩, h.apart, h.away⟩
theorem AW.word {w : World} {base ab n i : Nat} {V : List Value} {ms : Nat → Nat} (h : AW w base ab n i V ms) {j : Nat} (hj : j < n) (s : ByteArray) : AW (w.setCell ⟨ab, j * 2, none⟩ (.string s)) base ab n i V ms := by
  obtain ⟨cur, h1, h2⟩ := h.blk
  refine ⟨⟨cur.setIfInBounds (j * 2) (.string s), by simp [World.setCell, Array.getElem?_modify, h1], fun k hk => ?_⟩, h.len, fun k u hk hu => ?_, h.apart, h.away⟩
  · obtain ⟨⟨s', e1⟩, e2⟩ := h2 k hk
    refine ⟨?_, ?_⟩
    · by_cases q : k = j
      · subst q
        have : k * 2 < cur.size := (Array.getElem?_eq_some_iff.1 e1).1
        exact ⟨s, by simp [this]⟩
      · exact ⟨s', by rw [Array.getElem?_setIfInBounds_ne (by omega)]; exact e1⟩
    · rw [Array.getElem?_setIfInBounds_ne (by omega)]; exact e2
  · obtain ⟨ns, k1, k2⟩ := h.nums k u hk hu
    exact ⟨ns, k1, own_keep k2 fun q hq => Go.Deep.blk_setCell_other _ _ _ _ (h.apart k u q hu hq)⟩
theorem AW.num {w : World} {base ab n i g m cap : Nat} {V : List Value} {ms : Nat → Nat} (h : AW w base ab n i V ms) (hu : V[i]? = some (.slice (some ⟨g, 0, none⟩) m cap)) (hm : ms i = m) {k : Nat} (hk : k < m) (x : Int) : AW (w.setCell ⟨g, k, none⟩ (.int .u64 x)) base ab n i V ms := by
  have ga := h.apart i _ g hu rfl
  refine ⟨?_, h.len, fun j u hj hju => ?_, h.apart, h.away⟩
  · obtain ⟨cur, h1, h2⟩ := h.blk
    exact ⟨cur, (Go.Deep.blk_setCell_other _ _ _ _ (Ne.symm ga)).trans h1, h2⟩
  · obtain ⟨ns, k1, k2⟩ := h.nums j u hj hju
    by_cases e : j = i
    · subst e
      rw [hu] at hju
      cases hju
      have hns : ns.length = m := k1.trans hm
      refine ⟨ns.set k x, by rw [List.length_set]; exact k1, ?_⟩
      unfold NUO at k2 ⊢
      rw [hns] at k2
      rw [List.length_set, hns, show nus (ns.set k x) = (nus ns).set k (.int .u64 x) by simp [nus, List.map_set]]
      exact own_set1 k2 hk _
    · exact ⟨ns, k1, own_keep k2 fun q hq => Go.Deep.blk_setCell_other _ _ _ _ (fun z => e (h.away j i u _ q hju hu hq (by rw [z]; rfl)))⟩
theorem AW.cells {w : World} {base ab n i : Nat} {V : List Value} {ms : Nat → Nat} (h : AW w base ab n i V ms) {j : Nat} (hj : j < n) : (∃ s u, w.cell? ⟨ab, j * 2, none⟩ = some (.string s) ∧ w.cell? ⟨ab, j * 2 + 1, none⟩ = some u ∧ V[j]? = some u) ∧ (∀ o, w.frozen? ⟨ab, o, none⟩ = false) ∧ ab < w.heap.size := by
  obtain ⟨cur, h1, h2⟩ := h.blk
  obtain ⟨⟨s, e1⟩, e2⟩ := h2 j hj
  obtain ⟨u, hu⟩ : ∃ u, V[j]? = some u := ⟨V[j]'(by rw [h.len]; exact hj), List.getElem?_eq_getElem _⟩
  exact ⟨⟨s, u, blkc h1 e1, blkc h1 (e2.trans hu), hu⟩, fun o => blkf h1, blkl h1⟩
set_option maxRecDepth 100000 in
set_option maxHeartbeats 8000000 in
theorem parses_walk (C : ScriptC) (t : List UInt8) (ht : t.length ≤ 2000000) (w : World) (T : Tab w) :
    Calls Tryd.prog 3 #[.string (Bs t)] w fun e w' => e = .returned (.bool true) ∧ Gw w w' := by
  have SH : Hid (∀ W, Gw w W → Calls Tryd.prog 9 #[] W fun e w' => e = .returned (.bool true) ∧ Gw W w') := fun W g => shown21 C W (T.gw g)
  obtain ⟨⟨L, a, er⟩, hr⟩ : ∃ r, parse t = r := ⟨_, rfl⟩
  have PA : Hid (∀ W, Calls Tryd.prog 10 #[.string (Bs t)] W fun e w' => ParO W w' e (L, a, er) ∧ Gw W w') := fun W => by have := C.parse t W ht; rw [hr] at this; exact this
  have RA : Hid (∀ W, Calls Tryd.prog 11 #[.string (Bs t)] W fun e w' => ParO W w' e (L, a, er) ∧ Gw W w') := fun W => by have := parse21 t ht W; rw [hr] at this; exact this
  have FS1 : L.length ≤ 4096 ∧ ∀ c ∈ L, c.nums.length ≤ 3 := by
    by_cases q : er = 0
    · obtain ⟨_, _, f3, f4, _, _⟩ := parse_facts (t := t) (l := L) (a := a) (by rw [hr, q])
      exact ⟨f3, fun c hc => by have h1 := chk_ok f4 c hc; have h2 := takes_bd c.word; omega⟩
    · have := parse_err (t := t) (by rw [hr]; exact q)
      rw [hr] at this
      have e : L = [] := this.1
      rw [e]
      exact ⟨by simp, fun c hc => by cases hc⟩
  obtain ⟨n, hn⟩ : ∃ n, L.length = n := ⟨_, rfl⟩
  have LN : Aside (L.length = n) := hn
  have N3 : Hid (∀ c ∈ L, c.nums.length ≤ 3) := FS1.2
  have n4 : n ≤ 4096 := by rw [← hn]; exact FS1.1
  have SM : Hid (∀ W ao ca bo cb, CS W ao L → CS W bo L → Calls Tryd.prog 12 #[.slice ao n ca, .slice bo n cb] W fun e w' => e = .returned (.bool true) ∧ Gw W w') := fun W ao ca bo cb h1 h2 => by have := same21 ao bo ca cb L (by omega) (fun c hc => by have := N3.out c hc; omega) W h1 h2; rw [hn] at this; exact this
  clear hr hn FS1 C ht
  go_enter Tryd.func3, Tryd.ntmps3
  go_wp2_with fail
  refine (SH.out _ (by first | exact Gw.refl _ | exact (Gw.refl _).alloc _ _ | exact ((Gw.refl _).alloc _ _).alloc _ _)).mono ?_
  rintro e w1 ⟨rfl, g1⟩
  have G1 : Hid (Gw w w1) := g1
  clear g1
  dsimp only
  go_wp2_with fail
  refine (PA.out _).mono ?_
  rintro e w2 ⟨⟨ao, na, ca, V, rfl, hna, c2⟩, g2⟩
  dsimp only at hna c2
  have e1 : na = n := by rw [← LN.out]; exact hna
  subst e1
  have C2 : Hid (CO w2 w1.heap.size (.slice ao na ca) L V) := c2
  have G2 : Hid (Gw w1 w2) := g2
  clear hna c2 g2
  dsimp only
  go_wp2_with fail
  refine (RA.out _).mono ?_
  rintro e w3 ⟨⟨bo, nb, cb, V3, rfl, hnb, c3⟩, g3⟩
  dsimp only at hnb c3
  have e1 : nb = na := by rw [← LN.out]; exact hnb
  subst e1
  have C3 : Hid (CO w3 w2.heap.size (.slice bo nb cb) L V3) := c3
  have G3 : Hid (Gw w2 w3) := g3
  clear hnb c3 g3
  dsimp only
  go_wp2_with fail
  refine (SM.out _ _ _ _ _ (C2.out.gw G3.out).cs2 C3.out.cs2).mono ?_
  rintro e w4 ⟨rfl, g4⟩
  have G4 : Hid (Gw w3 w4) := g4
  have C4 : Hid (CO w4 w1.heap.size (.slice ao nb ca) L V) := (C2.out.gw G3.out).gw g4
  clear g4
  dsimp only
  obtain ⟨ms, hms⟩ : ∃ ms : Nat → Nat, ms = fun j => ((L[j]?).map (fun c => c.nums.length)).getD 0 := ⟨_, rfl⟩
  have M3 : Hid (∀ j, ms j ≤ 3) := fun j => by
    rw [hms]
    show ((L[j]?).map (fun c => c.nums.length)).getD 0 ≤ 3
    cases e : L[j]? with
    | none => simp
    | some c => simpa using N3.out c (List.mem_of_getElem? e)
  have A4 : Hid (nb = 0 ∨ ∃ ab, ao = some ⟨ab, 0, none⟩ ∧ AW w4 w1.heap.size ab nb 0 V ms) := by
    show _ ∨ _
    by_cases z : nb = 0
    · exact .inl z
    · rcases C4.out.row.2 with ⟨e, e2⟩ | ⟨g, cp, cur, e, _⟩
      · rw [LN.out] at e2; exact absurd e2 z
      · cases e
        right
        rw [hms]
        exact ⟨g, rfl, C4.out.aw LN.out.symm⟩
  have VB : Hid (∀ (j : Nat) (u : Value) (q : Nat), V[j]? = some u → u.ownBlock = some q → w1.heap.size ≤ q ∧ q < w2.heap.size) := fun j u q hu hq => by
    have hj : j < L.length := by rw [← C2.out.len]; exact (List.getElem?_eq_some_iff.1 hu).1
    exact World.ownsRow.lt (C2.out.nums j L[j] u (List.getElem?_eq_getElem hj) hu) q hq
  have AB : Hid (∀ ab, ao = some ⟨ab, 0, none⟩ → w1.heap.size ≤ ab ∧ ab < w2.heap.size) := fun ab e => World.ownsRow.lt C2.out.row ab (by rw [e]; rfl)
  have g34 : w2.heap.size ≤ w4.heap.size := Nat.le_trans G3.out.size G4.out.size
  have S12 : Hid (w1.heap.size ≤ w4.heap.size) := Nat.le_trans G2.out.size g34
  obtain ⟨kk, hkk, kz, ks, kby⟩ := info_parts info_u64
  clear hms C4
  go_wp2_with fail
  go_loopg [10] nb (fun gg s10 wr => ∃ i : Nat, s10 = .int .i64 i ∧ i ≤ nb ∧ nb - i ≤ gg ∧ Hid (nb = 0 ∨ ∃ ab, ao = some ⟨ab, 0, none⟩ ∧ AW wr w1.heap.size ab nb i V ms) ∧ Hid (Gx (fun q => w1.heap.size ≤ q ∧ q < w2.heap.size) w4 wr))
  case atStart => exact ⟨0, rfl, Nat.zero_le _, by omega, A4, Gx.refl _ _⟩
  case round =>
    obtain ⟨i, rfl, i1, i2, AH, G⟩ := hrel
    by_cases ilt : i < nb
    · have ilt' : (i : Int) < (nb : Int) := by omega
      obtain ⟨ab, rfl, aw⟩ : ∃ ab, ao = some ⟨ab, 0, none⟩ ∧ AW wr w1.heap.size ab nb i V ms := by
        rcases AH.out with z | z
        · omega
        · exact z
      obtain ⟨⟨s0, u, _, _, hu⟩, _, _⟩ := aw.cells ilt
      have HU : Hid (V[i]? = some u) := hu
      obtain ⟨ns, hns, hNU⟩ := aw.nums i u (Nat.le_refl _) hu
      obtain ⟨uo, uc, rfl, unil⟩ := nu_slice hNU
      obtain ⟨m, hm⟩ : ∃ m, ms i = m := ⟨_, rfl⟩
      rw [hns, hm] at HU
      have mb : m ≤ 3 := by rw [← hm]; exact M3.out i
      have MI : Hid (ms i = m) := hm
      have AWH : Hid (AW wr w1.heap.size ab nb i V ms) := aw
      obtain ⟨wI, hwI⟩ : ∃ wI, wI = wr := ⟨_, rfl⟩
      subst hwI
      have abb : Hid (w1.heap.size ≤ ab ∧ ab < w2.heap.size) := AB.out ab rfl
      clear aw hu hns hNU hm unil AH
      go_wp2_with fail
      go_loopg [11] m (fun gg s11 wr => ∃ k : Nat, s11 = .int .i64 k ∧ k ≤ m ∧ m - k ≤ gg ∧ Hid (AW wr w1.heap.size ab nb i V ms) ∧ Hid (Gx (fun q => w1.heap.size ≤ q ∧ q < w2.heap.size) w4 wr))
      case atStart => exact ⟨0, rfl, Nat.zero_le _, by omega, AWH, G⟩
      case round =>
        obtain ⟨k, rfl, k1, k2, A2, GJ⟩ := hrel
        obtain ⟨⟨s1, u1, d0, d1, hu1⟩, fz, abl⟩ := A2.out.cells ilt
        rw [HU.out] at hu1
        cases hu1
        by_cases klt : k < m
        · have klt' : (k : Int) < (m : Int) := by omega
          obtain ⟨ns2, hns2, NU2⟩ := A2.out.nums i _ (Nat.le_refl _) HU.out
          rw [MI.out] at hns2
          obtain ⟨g, rfl⟩ : ∃ g, uo = some ⟨g, 0, none⟩ := by
            rcases NU2.2 with ⟨e, e2⟩ | ⟨g, _, _, e, _⟩
            · omega
            · cases e; exact ⟨g, rfl⟩
          have NU3 : wr.ownsRow w1.heap.size 31 1 (.slice (some ⟨g, 0, none⟩) m uc) m (nus ns2) := by unfold NUO at NU2; rw [hns2] at NU2; exact NU2
          have ce : ∃ x, wr.cell? ⟨g, k, none⟩ = some (.int .u64 x) := by
            have := World.ownsRow.cellAt NU3 k (by omega)
            rw [this]
            exact ⟨ns2[k]'(by omega), by simp [nus, hns2, klt]⟩
          obtain ⟨x, cx⟩ := ce
          have fx : wr.frozen? ⟨g, k, none⟩ = false := by
            rcases NU3.2 with ⟨e, _⟩ | ⟨g', _, cur, e, _, hh, _⟩
            · cases e
            · cases e; exact blkf hh
          have gl : g < wr.heap.size := (World.ownsRow.lt NU3 g rfl).2
          have A3 : Hid (AW (wr.setCell ⟨g, k, none⟩ (.int .u64 9)) w1.heap.size ab nb i V ms) := A2.out.num HU.out MI.out klt 9
          have G3' : Hid (Gx (fun q => w1.heap.size ≤ q ∧ q < w2.heap.size) w4 (wr.setCell ⟨g, k, none⟩ (.int .u64 9))) := GJ.out.set (.inl (VB.out i _ g HU.out rfl)) _ _
          clear NU2 NU3
          go_wp2_with fail
          go_roundg (m - (k + 1))
          case measure => omega
          case rel => exact ⟨k + 1, by go_num, by omega, Nat.le_refl _, A3, G3'⟩
        · obtain ⟨ns2, hns2, NU2⟩ := A2.out.nums i _ (Nat.le_refl _) HU.out
          rw [MI.out] at hns2
          have NU3 : Hid (wr.ownsRow w1.heap.size 31 1 (.slice uo m uc) m (nus ns2)) := by unfold NUO at NU2; rw [hns2] at NU2; exact NU2
          have NL : Hid ((nus ns2).length = m) := by show _ = _; simp [nus, hns2]
          have sz := GJ.out.size
          have s12 := S12.out
          have c0 : wr.cell? ⟨ab, i * 2 + 1, none⟩ = some (.slice uo m uc) := d1
          clear NU2 hns2
          go_wp2_with (at_builtin; refine wpList_append_own_at _ rfl _ _ 28 rfl w1.heap.size 31 kk (.int .u64 0) 1 8 Tryd.underlying28 hkk kz ks kby rfl (by decide) (.slice uo m uc) m _ rfl (NU3.out.alloc _) ⟨wr.heap.size, 0, none⟩ 1 1 [.int .u64 8] rfl rfl (new_one wr 8) (nus_one [8]) (by simp only [maxLen]; omega) (by omega) (by simp; omega) ?_)
          intro v' w7 r1 r2 r3 r4
          obtain ⟨b8, cap8, rfl, hb8, _, b8l⟩ := own_slice r1 (by simpa using r3)
          have A7 : Hid (AW w7 w1.heap.size ab nb (i + 1) V ms) := A2.out.keep (by omega) ((r2.block ab (by simp; omega) (fun e => A2.out.apart i _ ab HU.out e.symm rfl)).trans (heap_alloc_old _ _ abl)) (fun j u q hj hu hq => by
            obtain ⟨ns', _, hN⟩ := A2.out.nums j u (by omega) hu
            have ql := (World.ownsRow.lt hN q hq).2
            refine (r2.block q (by simp; omega) (fun e => ?_)).trans (heap_alloc_old _ _ ql)
            have := A2.out.away j i u _ q hu HU.out hq e.symm
            omega)
          have G7 : Hid (Gx (fun q => w1.heap.size ≤ q ∧ q < w2.heap.size) w4 w7) := (GJ.out.alloc _ _).grown r2 (fun q hq => .inl (VB.out i _ q HU.out hq))
          have c8 : w7.cell? ⟨b8, m, none⟩ = some (.int .u64 8) := by
            have := World.ownsRow.cellAt r1 m (by omega)
            rw [this, List.getElem?_append_right (by rw [NL.out]; exact Nat.le_refl _), NL.out]
            simp
          obtain ⟨⟨s7, u7, e0, e1, hu7⟩, fz7, abl7⟩ := A7.out.cells ilt
          rw [HU.out] at hu7
          cases hu7
          have f0 := fz7 (i * 2)
          have A8 : Hid (AW (w7.setCell ⟨ab, i * 2, none⟩ (.string (Bs [120]))) w1.heap.size ab nb (i + 1) V ms) := A7.out.word ilt (Bs [120])
          have G8 : Hid (Gx (fun q => w1.heap.size ≤ q ∧ q < w2.heap.size) w4 (w7.setCell ⟨ab, i * 2, none⟩ (.string (Bs [120])))) := G7.out.set (.inl abb.out) _ _
          have m1 : (m : Int) < (m : Int) + 1 := by omega
          clear r1 r2 r3 r4 d0 d1 fz fz7 abl c0
          go_wp2_with fail
          go_roundg (nb - (i + 1))
          case measure => omega
          case rel => exact ⟨i + 1, by go_num, by omega, Nat.le_refl _, .inr ⟨ab, rfl, A8.out⟩, G8⟩
    · have C5 : Hid (CO wr w2.heap.size (.slice bo nb cb) L V3) := (C3.out.gw G4.out).keepx fun q h1 h2 => G.out.block q h2 (fun z => by have := z.2; omega)
      have GW5 : Hid (Gw w wr) := Gx.gw ((G1.out.trans G2.out).trans (G3.out.trans G4.out)) G.out (fun q hq => Nat.le_trans G1.out.size hq.1)
      go_wp2_with fail
      refine (PA.out _).mono ?_
      rintro e w9 ⟨⟨do_, nd, cd, V9, rfl, hnd, c9⟩, g9⟩
      dsimp only at hnd c9
      have e1 : nd = nb := by rw [← LN.out]; exact hnd
      subst e1
      have S9 : Hid (Calls Tryd.prog 12 #[.slice do_ nd cd, .slice bo nd cb] w9 fun e w' => e = .returned (.bool true) ∧ Gw w9 w') := SM.out _ _ _ _ _ c9.cs2 (C5.out.gw g9).cs2
      have G9 : Hid (Gw w w9) := GW5.out.trans g9
      clear hnd c9 g9
      dsimp only
      go_wp2_with fail
      refine S9.out.mono ?_
      rintro e w10 ⟨rfl, g10⟩
      have G10 : Hid (Gw w w10) := G9.out.trans g10
      clear g10
      dsimp only
      go_wp2_with fail
      refine bodyPost_ret (v := .bool true) (by simp [results, Tryd.results3, go_sem]) rfl ⟨rfl, G10.out⟩
end Go.Proofs.YtocnmdabilaccaaDoor
