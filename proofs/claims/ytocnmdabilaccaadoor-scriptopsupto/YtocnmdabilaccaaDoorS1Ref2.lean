/- The document's layer 21: the pieces of a text. -/
import Derived.Test.YtocnmdabilaccaaDoorS1Ref1
namespace Go.Proofs.YtocnmdabilaccaaDoor
open Go.RowKit
set_option linter.unusedVariables false

/-- The pieces told so far, the next one begun at 'f', 'i' the next byte. -/
def SplI (c : UInt8) (s : List UInt8) (O : List (List UInt8)) (f i : Nat) : Prop :=
  (i ≤ s.length → f ≤ i ∧ O ++ spl c ((s.drop f).take (i - f)) (s.drop i) = spl c [] s) ∧ (s.length < i → O = spl c [] s) ∧ O.length ≤ i
theorem SplI.start (c : UInt8) (s : List UInt8) : SplI c s [] 0 0 := ⟨fun _ => ⟨Nat.le_refl _, by simp⟩, fun h => by omega, Nat.le_refl _⟩
theorem SplI.last {c : UInt8} {s : List UInt8} {O : List (List UInt8)} {f i : Nat} (h : SplI c s O f i) (e : i = s.length) : SplI c s (O ++ [(s.drop f).take (i - f)]) (i + 1) (i + 1) := by
  refine ⟨fun q => by omega, fun _ => ?_, by have := h.2.2; simp; omega⟩
  have := (h.1 (by omega)).2
  rw [e, List.drop_length, spl] at this
  rw [e]
  exact this
theorem SplI.at {c : UInt8} {s : List UInt8} {O : List (List UInt8)} {f i : Nat} (h : SplI c s O f i) (e : s[i]? = some c) : SplI c s (O ++ [(s.drop f).take (i - f)]) (i + 1) (i + 1) := by
  obtain ⟨hi, e'⟩ := List.getElem?_eq_some_iff.1 e
  refine ⟨fun q => ⟨Nat.le_refl _, ?_⟩, fun q => by omega, by have := h.2.2; simp; omega⟩
  have := (h.1 (by omega)).2
  rw [List.drop_eq_getElem_cons hi, e', spl_at] at this
  rw [← this]
  simp
theorem SplI.past {c b : UInt8} {s : List UInt8} {O : List (List UInt8)} {f i : Nat} (h : SplI c s O f i) (e : s[i]? = some b) (ne : b ≠ c) : SplI c s O f (i + 1) := by
  obtain ⟨hi, e'⟩ := List.getElem?_eq_some_iff.1 e
  obtain ⟨h1, h2⟩ := h.1 (by omega)
  refine ⟨fun q => ⟨by omega, ?_⟩, fun q => by omega, by have := h.2.2; omega⟩
  rw [List.drop_eq_getElem_cons hi, spl, if_neg (by rw [e']; exact ne)] at h2
  rw [← h2, show i + 1 - f = (i - f) + 1 by omega, List.take_add_one]
  have : (s.drop f)[i - f]? = some s[i] := by
    rw [List.getElem?_drop, show f + (i - f) = i by omega]
    exact List.getElem?_eq_getElem hi
  rw [this]
  rfl

/-- A row of texts of a call's own. -/
def txs (L : List (List UInt8)) : List Value := L.map fun l => .string (Bs l)
theorem txs_one (L : List (List UInt8)) : ∀ u ∈ txs L, u.oneCell' = true := by
  intro u hu
  obtain ⟨_, _, rfl⟩ := List.mem_map.1 hu
  rfl
def TXO (w : World) (base : Nat) (v : Value) (L : List (List UInt8)) : Prop := w.ownsRow base 9 1 v L.length (txs L)
theorem TXO.more {w : World} {base : Nat} {v : Value} {L : List (List UInt8)} {l : List UInt8} (h : w.ownsRow base 9 1 v (L.length + 1) (txs L ++ [.string (Bs l)])) : TXO w base v (L ++ [l]) := by
  unfold TXO txs
  rw [List.length_append, List.map_append]
  exact h
theorem new_text (w : World) (l : List UInt8) : ∀ j u, [Value.string (Bs l)][j]? = some u → (w.alloc (.cells #[.string (Bs l)] 9)).cell? ((⟨w.heap.size, 0, none⟩ : Addr).add j) = some u := by
  intro j u hu
  cases j with
  | zero =>
    simp only [List.getElem?_cons_zero, Option.some.injEq] at hu
    subst hu
    simp [Addr.add, go_sem]
  | succ j => simp at hu
theorem info_text : (Tryd.prog.info? 9).map (fun i => (i.zero, i.size, i.bytes)) = some (some (.string (Bs [])), 1, 16) := by kernel_rfl
theorem own_gw {w w' : World} {base e size n : Nat} {v : Value} {xs : List Value} (h : w.ownsRow base e size v n xs) (g : Gw w w') : w'.ownsRow base e size v n xs := by
  refine ⟨h.1, ?_⟩
  rcases h.2 with q | ⟨b, cap, cur, rfl, hb, hh, r⟩
  · exact .inl q
  · exact .inr ⟨b, cap, cur, rfl, hb, (g.below.block b (Array.getElem?_eq_some_iff.1 hh).1).trans hh, r⟩
theorem TXO.gw {w w' : World} {base : Nat} {v : Value} {L : List (List UInt8)} (h : TXO w base v L) (g : Gw w w') : TXO w' base v L := own_gw h g
theorem TXO.cell {w : World} {base b cap n : Nat} {L : List (List UInt8)} (h : TXO w base (.slice (some ⟨b, 0, none⟩) n cap) L) (hn : n = L.length) {i : Nat} {l : List UInt8} (hi : L[i]? = some l) : w.cell? ⟨b, i, none⟩ = some (.string (Bs l)) := by
  subst hn
  have hl := (List.getElem?_eq_some_iff.1 hi).1
  have := World.ownsRow.cellAt h i (by omega)
  rw [this]
  simp [txs, hi]
def TXv (w w' : World) (e : Ending) (L : List (List UInt8)) : Prop := ∃ b cap, e = .returned (.slice (some ⟨b, 0, none⟩) L.length cap) ∧ TXO w' w.heap.size (.slice (some ⟨b, 0, none⟩) L.length cap) L
set_option maxRecDepth 100000 in
set_option maxHeartbeats 4000000 in
theorem split21 (s : List UInt8) (c : UInt8) (hs : s.length ≤ 2000000) (w : World) : Calls Tryd.prog 24 #[.string (Bs s), .int .u8 (c.toNat : Int)] w fun e w' => TXv w w' e (spl c [] s) ∧ Gw w w' := by
  obtain ⟨n, hn⟩ : ∃ n, s.length = n := ⟨_, rfl⟩
  have LN : Aside (s.length = n) := hn
  rw [hn] at hs
  obtain ⟨cn, hcn⟩ : ∃ cn : Nat, c.toNat = cn := ⟨_, rfl⟩
  have CN : Aside (c.toNat = cn) := hcn
  rw [hcn]
  clear hcn
  obtain ⟨ii, hii, hz, hsz, hby⟩ := info_parts info_text
  go_enter Tryd.func24, Tryd.ntmps24
  go_wp2
  go_loopg [5, 6, 7] (n + 1) (fun gg s5 s6 s7 wr => ∃ (b cap k f i : Nat) (O : List (List UInt8)), s5 = .slice (some ⟨b, 0, none⟩) k cap ∧ s6 = .int .i64 (f : Int) ∧ s7 = .int .i64 (i : Int) ∧ i ≤ n + 1 ∧ f ≤ i ∧ k ≤ i ∧ n + 1 - i ≤ gg ∧ Aside (SplI c s O f i ∧ O.length = k) ∧ Hid (TXO wr w.heap.size (.slice (some ⟨b, 0, none⟩) k cap) O) ∧ Hid (Gw w wr))
  case atStart => exact ⟨_, _, 0, 0, 0, [], rfl, rfl, rfl, by omega, by omega, by omega, by omega, ⟨SplI.start c s, rfl⟩, World.ownsRow_made w #[] 0 (Nat.le_refl _) (Nat.zero_le _) rfl, (Gw.refl w).alloc _ _⟩
  case round =>
    obtain ⟨b, cap, k, f, i, O, rfl, rfl, rfl, hi, hf, hk, hg, SI, T, G⟩ := hrel
    have gz := G.out.size
    by_cases ilt : i ≤ n
    · have ilt' : (i : Int) ≤ (n : Int) := by omega
      have T2 : Hid (wr.ownsRow w.heap.size 9 1 (.slice (some ⟨b, 0, none⟩) k cap) k (txs O)) := by have := T.out; unfold TXO at this; rw [SI.out.2] at this; exact this
      have fi : (f : Int) ≤ (i : Int) := by omega
      obtain ⟨p, hp⟩ : ∃ p, (s.drop f).take (i - f) = p := ⟨_, rfl⟩
      have PP : Aside ((s.drop f).take (i - f) = p) := hp
      by_cases en : i = n
      · obtain rfl := en
        have NX := SI.out.1.last LN.out.symm
        rw [hp] at NX
        have NXH : Aside (SplI c s (O ++ [p]) (i + 1) (i + 1)) := NX
        clear NX
        go_wp2_with (at_builtin; refine wpList_append_own _ rfl _ _ 52 rfl w.heap.size 9 ii (.string (Bs [])) 1 16 Tryd.underlying52 hii hz hsz hby rfl (by decide) _ k _ rfl (T2.out.alloc _) ⟨wr.heap.size, 0, none⟩ 1 1 [.string (Bs p)] rfl rfl (new_text wr p) (txs_one [p]) (by simp only [maxLen]; omega) (by omega) (by simp; omega) ?_)
        intro v' w5 r1 r2 r3
        obtain ⟨b5, cap5, rfl, hb5, _, _⟩ := own_slice r1 (by simpa using r3)
        have T5 : Hid (TXO w5 w.heap.size (.slice (some ⟨b5, 0, none⟩) (k + 1) cap5) (O ++ [p])) := TXO.more (by rw [SI.out.2]; exact r1)
        have G5 : Hid (Gw w w5) := (G.out.alloc _ _).grown r2 (fun q hq => (World.ownsRow.lt T2.out q hq).1)
        clear r1 r2 r3 hp
        go_wp2
        go_roundg (i + 1 - (i + 1))
        case measure => omega
        case rel => exact ⟨b5, cap5, k + 1, i + 1, i + 1, O ++ [p], rfl, by go_num, by go_num, by omega, by omega, by omega, by omega, ⟨NXH.out, by rw [List.length_append, SI.out.2]; rfl⟩, T5, G5⟩
      · have il : i < s.length := by rw [LN.out]; omega
        have ne : ((i : Int) == (n : Int)) = false := by simp; omega
        obtain ⟨x, hx⟩ : ∃ x, s[i]? = some x := ⟨s[i], List.getElem?_eq_getElem il⟩
        have ix := index_bs s i x hx
        obtain ⟨xn, hxn⟩ : ∃ xn : Nat, x.toNat = xn := ⟨_, rfl⟩
        rw [hxn] at ix
        by_cases ec : x = c
        · have ecn : xn = cn := by rw [← hxn, ec]; exact CN.out
          subst ecn
          have NX := SI.out.1.at (by rw [hx, ec])
          rw [hp] at NX
          have NXH : Aside (SplI c s (O ++ [p]) (i + 1) (i + 1)) := NX
          clear NX hx hxn
          go_wp2_with (at_builtin; refine wpList_append_own _ rfl _ _ 52 rfl w.heap.size 9 ii (.string (Bs [])) 1 16 Tryd.underlying52 hii hz hsz hby rfl (by decide) _ k _ rfl (T2.out.alloc _) ⟨wr.heap.size, 0, none⟩ 1 1 [.string (Bs p)] rfl rfl (new_text wr p) (txs_one [p]) (by simp only [maxLen]; omega) (by omega) (by simp; omega) ?_)
          intro v' w5 r1 r2 r3
          obtain ⟨b5, cap5, rfl, hb5, _, _⟩ := own_slice r1 (by simpa using r3)
          have T5 : Hid (TXO w5 w.heap.size (.slice (some ⟨b5, 0, none⟩) (k + 1) cap5) (O ++ [p])) := TXO.more (by rw [SI.out.2]; exact r1)
          have G5 : Hid (Gw w w5) := (G.out.alloc _ _).grown r2 (fun q hq => (World.ownsRow.lt T2.out q hq).1)
          clear r1 r2 r3 hp
          go_wp2
          go_roundg (n + 1 - (i + 1))
          case measure => omega
          case rel => exact ⟨b5, cap5, k + 1, i + 1, i + 1, O ++ [p], rfl, by go_num, by go_num, by omega, by omega, by omega, by omega, ⟨NXH.out, by rw [List.length_append, SI.out.2]; rfl⟩, T5, G5⟩
        · have ecn : ((xn : Int) == (cn : Int)) = false := by
            simp only [beq_eq_false_iff_ne, ne_eq]
            intro q
            apply ec
            apply UInt8.toNat_inj.1
            rw [hxn, CN.out]
            omega
          have NXH : Aside (SplI c s O f (i + 1)) := SI.out.1.past hx ec
          clear hx hxn hp
          go_wp2
          go_roundg (n + 1 - (i + 1))
          case measure => omega
          case rel => exact ⟨b, cap, k, f, i + 1, O, rfl, rfl, by go_num, by omega, by omega, by omega, by omega, ⟨NXH.out, SI.out.2⟩, T, G⟩
    · have EO : Aside (O = spl c [] s) := SI.out.1.2.1 (by rw [LN.out]; omega)
      go_wp2
      go_ret
      refine ⟨⟨b, cap, ?_, ?_⟩, G.out⟩
      · rw [← EO.out, SI.out.2]; rfl
      · rw [← EO.out, SI.out.2]; exact T.out
end Go.Proofs.YtocnmdabilaccaaDoor
