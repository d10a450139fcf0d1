/- Layer 21's statements' own: copied. -/
import Derived.Test.YtocnmdabilaccaaDoorS1Shown
namespace Go.Proofs.YtocnmdabilaccaaDoor
open Go.RowKit
set_option linter.unusedVariables false

theorem nus_ks (ns : List Int) : (List.range ns.length).map (fun i => Value.int .u64 (ns.getD i 0)) = nus ns := by
  apply List.ext_getElem
  · simp [nus]
  · intro i h1 h2
    have : i < ns.length := by simpa using h1
    simp [nus, List.getD, this]
/-- What 'copied' answers. -/
def CopO (w w' : World) (e : Ending) (L : List Cd) : Prop := ∃ b cp V, e = .returned (.slice (some ⟨b, 0, none⟩) L.length cp) ∧ CO w' w.heap.size (.slice (some ⟨b, 0, none⟩) L.length cp) L V
set_option maxRecDepth 100000 in
set_option maxHeartbeats 8000000 in
theorem copied21 (ao : Option Addr) (ca : Nat) (L : List Cd) (hl : L.length ≤ 2000000) (hn : ∀ c ∈ L, c.nums.length ≤ 2000000) (w : World) (h : CS w ao L) :
    Calls Tryd.prog 13 #[.slice ao L.length ca] w fun e w' => CopO w w' e L ∧ Gw w w' := by
  have EA : Hid (CS w ao L) := h
  have HN : Hid (∀ c ∈ L, c.nums.length ≤ 2000000) := hn
  have HO : Hid (∀ c ∈ L, NumsOk c) := h.ok
  obtain ⟨n, hln⟩ : ∃ n, L.length = n := ⟨_, rfl⟩
  have LN : Aside (L.length = n) := hln
  rw [hln] at hl ⊢
  obtain ⟨ii, hii, hz, hs, hby⟩ := info_parts info_u64
  obtain ⟨jj, hjj, jz, js, jby⟩ := info_parts info_cmd
  clear h hln hn
  go_enter Tryd.func13, Tryd.ntmps13
  go_wp2_with fail
  go_loopg [3, 4] n (fun gg s3 s4 wr => ∃ (i b cap : Nat) (V : List Value), s3 = .slice (some ⟨b, 0, none⟩) i cap ∧ s4 = .int .i64 i ∧ i ≤ n ∧ n - i ≤ gg ∧ Hid (CO wr w.heap.size (.slice (some ⟨b, 0, none⟩) i cap) (L.take i) V) ∧ Hid (Gw w wr))
  case atStart => exact ⟨0, _, _, [], rfl, rfl, Nat.zero_le _, by omega, CO.made w, (Gw.refl w).alloc _ _⟩
  case round =>
    obtain ⟨i, b, cap, V, rfl, rfl, h1, h2, CH, G⟩ := hrel
    by_cases ilt : i < n
    · have il : i < L.length := by rw [LN.out]; exact ilt
      obtain ⟨c, hc⟩ : ∃ c, L[i]? = some c := ⟨L[i], List.getElem?_eq_getElem il⟩
      have ilt' : (i : Int) < (n : Int) := by omega
      obtain ⟨ab, af, rfl, hab, hac⟩ := (EA.out.gw G.out).cells (by omega)
      obtain ⟨ko, kc, a1, a2, a3, a4⟩ := hac i c hc
      have K3 : Hid (KS wr ko c.nums.length (fun j => c.nums.getD j 0)) := a3
      have K4 : Hid (ko = none → c.nums.length = 0 ∧ kc = 0) := fun e => by
        refine ⟨?_, a4 e⟩
        rcases Nat.eq_zero_or_pos c.nums.length with z | z
        · exact z
        · obtain ⟨_, _, e', _⟩ := a3.cells z
          rw [e] at e'
          cases e'
      have nb := HN.out c (List.mem_of_getElem? hc)
      have OKC : Hid (NumsOk c) := HO.out c (List.mem_of_getElem? hc)
      have TK : Hid (L.take (i + 1) = L.take i ++ [c]) := by show _ = _; rw [List.take_add_one, hc]; rfl
      have TL : Hid ((L.take i).length = i) := by show _ = _; rw [List.length_take]; omega
      obtain ⟨cw, cn⟩ := c
      dsimp only at a1 a2 a3 nb K3 K4
      obtain ⟨m, hm⟩ : ∃ m, cn.length = m := ⟨_, rfl⟩
      have CM : Hid (cn.length = m) := hm
      rw [hm] at a2 nb
      have OW : Hid (wr.ownsRow w.heap.size 30 2 (.slice (some ⟨b, 0, none⟩) i cap) i (cds (L.take i) V)) := by have := CH.out.row; rw [TL.out] at this; exact this
      have gz := G.out.size
      clear hac hc a3 a4 hm
      have bw : Hid (w.heap.size ≤ b ∧ b < wr.heap.size) := World.ownsRow.lt OW.out b rfl
      have abw : Hid (ab < w.heap.size) := by
        obtain ⟨ab', af', e', hb', _⟩ := EA.out.cells (by omega)
        cases e'
        exact hb'
      have HX : Hid (∀ w' : World, (∀ q, q < wr.heap.size → q ≠ b → w'.heap[q]? = wr.heap[q]?) → (∀ q, q < wr.heap.size → q ≠ b → w'.heap[q]? = wr.heap[q]?) ∧ w'.cell? ⟨ab, af + i * 2, none⟩ = some (.string (Bs cw)) ∧ w'.cell? ⟨ab, af + i * 2 + 1, none⟩ = some (.slice ko m kc)) := fun w' hx => by
        have ke := hx ab hab (by have := abw.out; have := bw.out; omega)
        exact ⟨hx, (cell_keep ke _).trans a1, (cell_keep ke _).trans a2⟩
      have NWS : Hid (∀ (W : World), Gw wr W → ∀ ad, ko = some ad → ∀ j u, (nus cn)[j]? = some u → W.cell? (ad.add j) = some u) := fun W g ad e j u hu => by
        have := ks_news (K3.out.gw g) ad e j u
        rw [nus_ks] at this
        exact this hu
      have H0 : Hid (∀ q, q < wr.heap.size → q ≠ b → wr.heap[q]? = wr.heap[q]?) := fun _ _ _ => rfl
      have K5 : Hid (ko = none → m = 0 ∧ kc = 0) := by rw [← CM.out]; exact K4.out
      have nl : Hid ((nus cn).length = m * 1) := by show _ = _; rw [Nat.mul_one, ← CM.out]; simp [nus]
      clear a1 a2
      go_wp2_with fail
      go_region_held3 (fun w' => (∀ q, q < wr.heap.size → q ≠ b → w'.heap[q]? = wr.heap[q]?) ∧ w'.cell? ⟨ab, af + i * 2, none⟩ = some (.string (Bs cw)) ∧ w'.cell? ⟨ab, af + i * 2 + 1, none⟩ = some (.slice ko m kc))
        ((refine HX.out _ ?_; (first | exact And.left (by assumption) | exact Hid.out (by assumption) | (intro q hq hn; rfl) | (intro q hq hn; exact heap_alloc_old _ _ hq) | (intro q hq hn; exact A7.out _ q hq hn)); done))
        (first
          | (refine step_append_any _ rfl (.tmp 18) (.tmp 23) 28 rfl wr.heap.size 31 ii _ 1 8 Tryd.underlying28 hii hz hs hby rfl (by decide) wr.heap.size 0 0 [] (by simp [Act.eval]) (own_new0 wr _ _ _ rfl (Nat.le_refl _)) ko m kc (nus cn) (by simp [Act.eval]) K5.out nl.out (NWS.out _ ((Gw.refl wr).alloc _ _).drew) (nus_one cn) (by simp only [maxLen]; omega) (by omega) (by simp <;> omega) ?_; intro g1 cap1 w7 q1 q2 q3 q4; have X7 : Hid (∀ q, q < wr.heap.size → w7.heap[q]? = wr.heap[q]?) := (fun q hq => (q2.block q (by simp; omega) (fun e => by cases e; omega)).trans (heap_alloc_old _ _ hq)); have N7 : Hid (NUO w7 wr.heap.size (.slice (some ⟨g1, 0, none⟩) m cap1) cn) := (by have := q1; simp only [Nat.zero_add, List.nil_append] at this; show w7.ownsRow _ _ _ _ _ _; rw [CM.out]; exact this); have Z7 : Hid (wr.heap.size ≤ w7.heap.size) := (by have := q2.size; simp at this; show _ ≤ _; omega); have Y7 : Hid (∀ q, q < wr.heap.size → q ≠ b → w7.heap[q]? = wr.heap[q]?) := (fun q hq _ => X7.out q hq); have A7 : Hid (∀ (o : Obj) (q : Nat), q < wr.heap.size → q ≠ b → (w7.alloc o).heap[q]? = wr.heap[q]?) := (fun o q hq _ => (heap_alloc_old w7 o (Nat.lt_of_lt_of_le hq Z7.out)).trans (X7.out q hq)); have O7 : Hid (∀ o : Obj, (w7.alloc o).ownsRow w.heap.size 30 2 (.slice (some ⟨b, 0, none⟩) i cap) i (cds (L.take i) V)) := (fun o => World.ownsRow.alloc (own_keep OW.out (fun q hq => by cases hq; exact X7.out b bw.out.2)) o); have P7 : Hid (g1 < w7.heap.size) := q4; have OS7 : Hid (w7.os = wr.os ∧ w7.tape = wr.tape ∧ w7.output = wr.output) := ⟨q2.os, q2.tape, q2.output⟩; clear q1 q2 q3 q4)
          | (refine step_append_any _ rfl (.tmp 12) (.tmp 26) 23 rfl w.heap.size 30 jj _ 2 40 Tryd.underlying23 hjj jz js jby rfl (by decide) b i cap (cds (L.take i) V) (by simp [Act.eval]) (O7.out _) (some ⟨w7.heap.size, 0, none⟩) 1 1 (cd2 ⟨cw, cn⟩ (.slice (some ⟨g1, 0, none⟩) m cap1)) (by simp [Act.eval]) (fun q => by cases q) rfl (fun ad e' => by cases e'; exact new_cmd w7 ⟨cw, cn⟩ _) (cd2_one _ _ _ _) (by simp only [maxLen]; omega) (by omega) (by have := Z7.out; simp <;> omega) ?_; intro g2 cap2 w8 r1 r2 r3 r4; have R8 : Hid (w8.ownsRow w.heap.size 30 2 (.slice (some ⟨g2, 0, none⟩) (i + 1) cap2) (i + 1) (cds (L.take i) V ++ cd2 ⟨cw, cn⟩ (.slice (some ⟨g1, 0, none⟩) m cap1)) ∧ (w7.alloc (.cells #[.string (Bs cw), .slice (some ⟨g1, 0, none⟩) m cap1] 30)).grownBy w8 (some b) ∧ (g2 = b ∨ g2 = w7.heap.size + 1)) := ⟨r1, r2, (by simpa using r3)⟩; have Y8 : Hid (∀ q, q < wr.heap.size → q ≠ b → w8.heap[q]? = wr.heap[q]?) := (fun q hq hn => (r2.block q (by have := Z7.out; simp; omega) (fun e => hn (by cases e; rfl))).trans (A7.out _ q hq hn)); clear r1 r2 r3 r4))
      obtain ⟨r1, r2, r3⟩ := R8.out
      obtain ⟨W6, hW6⟩ : ∃ W6, w7.alloc (.cells #[.string (Bs cw), .slice (some ⟨g1, 0, none⟩) m cap1] 30) = W6 := ⟨_, rfl⟩
      have z6 : W6.heap.size = w7.heap.size + 1 := by rw [← hW6]; simp
      have k6 : ∀ q, q < w7.heap.size → W6.heap[q]? = w7.heap[q]? := fun q hq => by rw [← hW6]; exact heap_alloc_old _ _ hq
      rw [hW6] at r2
      have Z := Z7.out
      have C8 : Hid (CO w8 w.heap.size (.slice (some ⟨g2, 0, none⟩) (i + 1) cap2) (L.take (i + 1)) (V ++ [.slice (some ⟨g1, 0, none⟩) m cap1])) := by
        rw [TK.out]
        exact CO.more (w2 := W6) (B := wr.heap.size) CH.out (by omega) (fun q hq => (k6 q (by omega)).trans (X7.out q hq))
          (fun q hq => (World.ownsRow.lt CH.out.row q hq).2) (fun j y q hy hq => (World.ownsRow.lt (CH.out.nums j ((L.take i)[j]'(by have := (List.getElem?_eq_some_iff.1 hy).1; rw [← CH.out.len]; exact this)) y (List.getElem?_eq_getElem _) hy) q hq).2) gz
          (own_keep N7.out (fun q hq => by cases hq; exact k6 g1 P7.out)) OKC.out (by rw [TL.out]; exact r1) (fun q h1 h2 => r2.block q h1 (fun e => h2 e.symm)) (by
            rcases r3 with e | e
            · left; rw [e]; rfl
            · right
              intro q hq
              have : g2 = q := by simpa [Value.ownBlock] using hq
              omega)
      have G8 : Hid (Gw w w8) := by
        refine ⟨⟨?_, ?_, ?_, ?_, fun q hq => ?_⟩⟩
        · rw [r2.os, ← hW6]; exact OS7.out.1.trans G.out.below.os
        · rw [r2.tape, ← hW6]; exact OS7.out.2.1.trans G.out.below.tape
        · rw [r2.output, ← hW6]; exact OS7.out.2.2.trans G.out.below.output
        · have := r2.size; omega
        · have hb := bw.out
          rw [r2.block q (by omega) (fun e => by cases e; omega), k6 q (by omega), X7.out q (by omega)]
          exact G.out.below.block q hq
      clear r1 r2 r3 R8 hW6 z6 k6 Z
      go_wp2_with fail
      go_roundg (n - (i + 1))
      case measure => omega
      case rel => exact ⟨i + 1, g2, cap2, _, rfl, by go_num, by omega, Nat.le_refl _, C8, G8⟩
    · go_wp2_with fail
      go_ret
      have TA : L.take i = L := List.take_of_length_le (by rw [LN.out]; omega)
      have e : i = n := by omega
      subst e
      refine ⟨⟨b, cap, V, by rw [LN.out]; rfl, ?_⟩, G.out⟩
      have := CH.out
      rw [TA] at this
      rw [LN.out]
      exact this
set_option maxRecDepth 100000 in
set_option maxHeartbeats 8000000 in
theorem prints_walk (C : ScriptC) (ao : Option Addr) (cp : Nat) (L : List Cd) (hl : L.length ≤ 2000000) (hn : ∀ c ∈ L, c.nums.length ≤ 2000000) (w : World) (T : Tab w) (h : CS w ao L) :
    Calls Tryd.prog 4 #[.slice ao L.length cp] w fun e w' => e = .returned (.bool true) ∧ Gw w w' := by
  have SH : Hid (∀ W, Gw w W → Calls Tryd.prog 9 #[] W fun e w' => e = .returned (.bool true) ∧ Gw W w') := fun W g => shown21 C W (T.gw g)
  obtain ⟨⟨S, er⟩, hr⟩ : ∃ r, print L = r := ⟨_, rfl⟩
  have PR : Hid (∀ W bo cb, CS W bo L → Tab W → Calls Tryd.prog 14 #[.slice bo L.length cb] W fun e w' => e = .returned (.tuple #[.string (Bs S), .int .i64 er]) ∧ Gw W w') := fun W bo cb k t => by have := C.print bo cb L W hl hn k t; rw [hr] at this; exact this
  have RP : Hid (∀ W, Gw w W → Calls Tryd.prog 15 #[.slice ao L.length cp] W fun e w' => e = .returned (.tuple #[.string (Bs S), .int .i64 er]) ∧ Gw W w') := fun W g => by have := print21 ao cp L hl hn W (h.gw g); rw [hr] at this; exact this
  have CP : Hid (∀ W, Gw w W → Calls Tryd.prog 13 #[.slice ao L.length cp] W fun e w' => CopO W w' e L ∧ Gw W w') := fun W g => copied21 ao cp L hl hn W (h.gw g)
  have SM : Hid (∀ W bo cb, Gw w W → CS W bo L → Calls Tryd.prog 12 #[.slice bo L.length cb, .slice ao L.length cp] W fun e w' => e = .returned (.bool true) ∧ Gw W w') := fun W bo cb g k => same21 bo ao cb cp L hl hn W k (h.gw g)
  obtain ⟨n, hln⟩ : ∃ n, L.length = n := ⟨_, rfl⟩
  have LN : Aside (L.length = n) := hln
  rw [hln] at PR RP CP SM ⊢
  clear h hn hr hln C hl
  go_enter Tryd.func4, Tryd.ntmps4
  go_wp2_with fail
  refine (SH.out _ (by first | exact Gw.refl _ | exact (Gw.refl _).alloc _ _ | exact ((Gw.refl _).alloc _ _).alloc _ _)).mono ?_
  rintro e w1 ⟨rfl, g1⟩
  have G1 : Hid (Gw w w1) := g1
  clear g1
  dsimp only
  go_wp2_with fail
  refine (CP.out _ G1.out).mono ?_
  rintro e w2 ⟨⟨b2, c2, V, rfl, k2⟩, g2⟩
  rw [LN.out] at k2 ⊢
  have C2 : Hid (CO w2 w1.heap.size (.slice (some ⟨b2, 0, none⟩) n c2) L V) := k2
  have G2 : Hid (Gw w w2) := G1.out.trans g2
  clear k2 g2
  dsimp only
  go_wp2_with fail
  refine (PR.out _ _ _ C2.out.cs2 (T.gw G2.out)).mono ?_
  rintro e w3 ⟨rfl, g3⟩
  have G3 : Hid (Gw w w3) := G2.out.trans g3
  have C3 : Hid (CO w3 w1.heap.size (.slice (some ⟨b2, 0, none⟩) n c2) L V) := C2.out.gw g3
  clear g3
  dsimp only
  go_wp2_with fail
  refine (RP.out _ G3.out).mono ?_
  rintro e w4 ⟨rfl, g4⟩
  have G4 : Hid (Gw w w4) := G3.out.trans g4
  have C4 : Hid (CO w4 w1.heap.size (.slice (some ⟨b2, 0, none⟩) n c2) L V) := C3.out.gw g4
  clear g4
  dsimp only
  go_wp2_with fail
  refine (SM.out _ _ _ G4.out C4.out.cs2).mono ?_
  rintro e w5 ⟨rfl, g5⟩
  have G5 : Hid (Gw w w5) := G4.out.trans g5
  clear g5
  dsimp only
  go_wp2_with fail
  refine bodyPost_ret (v := .bool true) (by simp [results, Tryd.results4, go_sem]) rfl ⟨rfl, G5.out⟩
end Go.Proofs.YtocnmdabilaccaaDoor
