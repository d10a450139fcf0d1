/- HullFits returns true, over whatever keeps what is asked of package hull. -/
import Derived.Test.YtocahgiabeifeaaHC
import Derived.Test.YtocahgiabeifeaaHStep
import Derived.Deep.RegionHeld3
import Derived.Deep.DeepCutAuto
namespace Go.Proofs.Ytocahgiabeifeaa
open Go.RowKit
set_option linter.unusedVariables false

theorem new_second (w : World) (o o' : Obj) : ((w.alloc o).alloc o').drew.heap[w.heap.size + 1]? = some o' := by
  have := heap_alloc_new (w.alloc o) o'
  rw [show (w.alloc o).heap.size = w.heap.size + 1 by simp] at this
  exact this
theorem new_first (w : World) (o o' : Obj) : ((w.alloc o).alloc o').drew.heap[w.heap.size]? = some o :=
  (heap_alloc_old (w.alloc o) o' (by simp)).trans (heap_alloc_new w o)

/-- What is asked of the document's Near. -/
def NearC : Prop := ∀ (a b e : Int) (ao : Option Addr) (n c : Nat) (f : Nat → Int), 0 ≤ a → a < 10000 → 1 ≤ b → b < 18446744073709551616 → 0 ≤ e → e ≤ 63 → n ≤ 4000 → ∀ w : World, KS w ao n f → Up f n →
    Calls Try.prog 23 #[.agg #[.int .u64 a, .int .u64 b], .slice ao n c, .int .i64 e] w fun ex w' => (∃ r : Bool, ex = .returned (.bool r) ∧ (r = true ↔ NearR e f n a b)) ∧ Gw w w'

theorem low_num {e : Int} {f : Nat → Int} {n : Nat} {a b : Int} (he : 0 ≤ e) (h : LowOn e f (Prs n) a b) : a ≤ n := by
  rcases h.att with q | ⟨i, j, s, m0, r⟩
  · omega
  · have hd : a ∣ ((j : Int) - i - 2 * e) := by
      have h1 : Int.gcd b a = 1 := by rw [Int.gcd_comm]; exact h.low
      exact cop_dvd h1 ⟨f j - f i, by rw [Int.mul_comm b, r]⟩
    have := Int.le_of_dvd m0 hd
    have := s.1; have := s.2
    omega
theorem top_num {e : Int} {f : Nat → Int} {n : Nat} {a b : Int} (he : 0 ≤ e) (h : TopOn e f (Prs n) a b) : a ≤ n + 2 * e + 1 := by
  rcases h with ⟨rfl, _⟩ | ⟨a1, b1, hg, _, i, j, s, r⟩
  · omega
  · have hd : a ∣ ((j : Int) - i + 2 * e) := by
      have h1 : Int.gcd b a = 1 := by rw [Int.gcd_comm]; exact hg
      exact cop_dvd h1 ⟨f j - f i, by rw [Int.mul_comm b, ← r]⟩
    have := Int.le_of_dvd (by have := s.1; omega) hd
    have := s.1; have := s.2
    omega

theorem near_low' {e : Int} {f : Nat → Int} {n : Nat} {a b : Int} (he : 0 ≤ e) (u : Up f n) (h : LowOn e f (Prs n) a b) (hF : FitsOn e f (Prs n)) : NearR e f n a b := by
  have p := prs_pairs u
  have b1 := h.b1
  refine near_mk he h.b1 h.bound fun i j s => ?_
  have D := p.pos i j s
  rcases h.att with q | ⟨i0, j0, s0, m0, r⟩
  · rw [q, Int.zero_mul]
    exact Int.mul_nonneg (by have := s.1; omega) (by omega)
  · have D0 := p.pos i0 j0 s0
    have k := hF i0 j0 i j s0 s
    have k1 : ((j0 : Int) - i0 - 2 * e) * (f j - f i) * b ≤ ((j : Int) - i + 2 * e) * (f j0 - f i0) * b := Int.mul_le_mul_of_nonneg_right k (by omega)
    rw [Int.mul_right_comm _ (f j - f i) b, r, Int.mul_right_comm _ (f j0 - f i0) b, Int.mul_right_comm a (f j0 - f i0) (f j - f i)] at k1
    exact Int.le_of_mul_le_mul_right k1 D0
theorem near_top' {e : Int} {f : Nat → Int} {n : Nat} {c d : Int} (he : 0 ≤ e) (hn2 : 2 ≤ n) (u : Up f n) (h : TopOn e f (Prs n) c d) (hF : FitsOn e f (Prs n)) : NearR e f n c d := by
  have p := prs_pairs u
  have d1 := top_two hn2 h
  rcases h with ⟨_, q, _⟩ | ⟨c1, _, _, bound, i1, j1, s1, r⟩
  · omega
  · refine near_mk he d1 (fun i j s => ?_) bound
    have D1 := p.pos i1 j1 s1
    have k := hF i j i1 j1 s s1
    have k1 : ((j : Int) - i - 2 * e) * (f j1 - f i1) * d ≤ ((j1 : Int) - i1 + 2 * e) * (f j - f i) * d := Int.mul_le_mul_of_nonneg_right k (by omega)
    rw [Int.mul_right_comm _ (f j - f i) d, ← r, Int.mul_right_comm _ (f j1 - f i1) d, Int.mul_right_comm c (f j1 - f i1) (f j - f i)] at k1
    exact Int.le_of_mul_le_mul_right k1 D1

theorem upd_keys {m : Nat} {fk : Nat → Int} {x : Int} : (List.range (m + 1)).map (fun j => Value.int .u64 (upd fk m x j)) = (List.range m).map (fun j => Value.int .u64 (fk j)) ++ [.int .u64 x] := by
  rw [List.range_succ, List.map_append]
  congr 1
  · refine List.map_congr_left fun j hj => ?_
    rw [upd_lo (List.mem_range.1 hj)]
  · simp [upd_at]
theorem ks_row {w : World} {base g n cap : Nat} {f : Nat → Int} (h : w.ownsRow base 31 1 (.slice (some ⟨g, 0, none⟩) n cap) n ((List.range n).map fun j => Value.int .u64 (f j))) (bd : ∀ i, i < n → 0 ≤ f i ∧ f i < 18446744073709551616) : KS w (some ⟨g, 0, none⟩) n f :=
  ks_own h (Nat.le_refl _) (fun i hi => by simp [hi]) bd
theorem row_keep {w w' : World} {base e size n : Nat} {v : Value} {xs : List Value} (own : w.ownsRow base e size v n xs) (k : ∀ q, v.ownBlock = some q → w'.heap[q]? = w.heap[q]?) : w'.ownsRow base e size v n xs := by
  refine ⟨own.1, ?_⟩
  rcases own.2 with q | ⟨g, cap, cur, rfl, hb, hh, r⟩
  · exact .inl q
  · exact .inr ⟨g, cap, cur, rfl, hb, (k g rfl).trans hh, r⟩
theorem row_weak {w : World} {base base' e size n : Nat} {v : Value} {xs : List Value} (h : w.ownsRow base e size v n xs) (hb : base' ≤ base) : w.ownsRow base' e size v n xs := by
  refine ⟨h.1, ?_⟩
  rcases h.2 with q | ⟨g, cap, cur, rfl, hg, r⟩
  · exact .inl q
  · exact .inr ⟨g, cap, cur, rfl, by omega, r⟩

set_option maxRecDepth 100000 in
set_option maxHeartbeats 16000000 in
theorem hfits_walk {HF : World → Nat → (Nat → Prop) → Int → Nat → (Nat → Int) → Prop} (H : HullC HF) (NR : NearC) (eps : Int) (ao : Option Addr) (n c : Nat) (f : Nat → Int) (p0 : -9223372036854775808 ≤ eps) (p1 : eps < 9223372036854775808) (hn : n * 8 ≤ 140737488351232) (w : World) (h : KS w ao n f) :
    Calls Try.prog 7 #[.int .i64 eps, .slice ao n c] w fun e w' => e = .returned (.bool true) ∧ Gw w w' := by
  have HH : Aside (HullC HF) := H
  clear H
  have NE : Aside NearC := NR
  clear NR
  have HK : Aside (KS w ao n f) := h
  clear h
  by_cases hok : 2 ≤ eps ∧ eps ≤ 64
  · obtain ⟨k1, k2⟩ := hok
    have ew : IntKind.i64.wrap (eps - 1) = eps - 1 := by rw [IntKind.wrap_i64]; omega
    go_enter Try.func7, Try.ntmps7
    go_wp2_with fail
    refine (hshown HH.out w).mono ?_
    rintro e w1 ⟨rfl, g1⟩
    have G1 : Hid (Gw w w1) := g1
    clear g1
    go_wp2_with fail
    refine (HH.out.new eps k1 k2 _).mono ?_
    rintro e w2 ⟨⟨p, S, rfl, hS, h2⟩, g2⟩
    have H2 : Aside (HF (w2.alloc (.cells #[] 31)) p S (eps - 1) 0 (fun _ => 0)) := HH.out.gw h2 ((Gw.refl w2).alloc _ _)
    have G2 : Aside (Gw w (w2.alloc (.cells #[] 31))) := (G1.out.trans g2).alloc _ _
    have S2 : Aside (∀ q, S q → w.heap.size ≤ q) := fun q hq => Nat.le_trans G1.out.size (hS q hq)
    have R2 : Aside ((w2.alloc (.cells #[] 31)).ownsRow w.heap.size 31 1 (.slice (some ⟨w2.heap.size, 0, none⟩) 0 0) 0 ((List.range 0).map fun j => Value.int .u64 ((fun _ => (0 : Int)) j))) := own_new0 w2 _ _ _ rfl (G1.out.trans g2).size
    have N2 : Aside (¬ S w2.heap.size) := fun s => Nat.lt_irrefl _ (HH.out.lt h2 _ s)
    clear h2 g2 hS G1
    go_wp2_with fail
    go_loopg [8, 9] n (fun gg s8 s9 wr => ∃ (i m g cap : Nat) (S' : Nat → Prop) (fk : Nat → Int), s8 = .slice (some ⟨g, 0, none⟩) m cap ∧ s9 = .int .i64 i ∧ i ≤ n ∧ n - i ≤ gg ∧ m ≤ 400 ∧ Aside (HF wr p S' (eps - 1) m fk) ∧ Aside (∀ q, S' q → w.heap.size ≤ q) ∧ Aside (wr.ownsRow w.heap.size 31 1 (.slice (some ⟨g, 0, none⟩) m cap) m ((List.range m).map fun j => Value.int .u64 (fk j))) ∧ Aside (¬ S' g) ∧ Aside (Gw w wr))
    case atStart => exact ⟨0, 0, w2.heap.size, 0, S, _, rfl, rfl, Nat.zero_le _, by omega, by omega, H2, S2, R2, N2, G2⟩
    case round =>
      obtain ⟨i, m, g, cap, S', fk, rfl, rfl, h1, h2, h3, HI, SI, RI, NI, GI⟩ := hrel
      clear H2 G2 S2 R2 N2
      have FE : Aside ((∀ a b, LowOn (eps - 1) fk (Prs m) a b → a < 10000) ∧ (∀ a b, TopOn (eps - 1) fk (Prs m) a b → a < 10000)) := ⟨fun a b q => (by have := low_num (by omega) q; omega), fun a b q => (by have := top_num (by omega) q; omega)⟩
      by_cases hlt : i < n
      · by_cases hm : m < 400
        · have hm' : (m : Int) < 400 := by omega
          have hlt' : (i : Int) < n := by omega
          obtain ⟨bk, off, rfl, hb, hc⟩ := (HK.out.gw GI.out).cells (by omega)
          have c1 := hc i hlt
          obtain ⟨x0, x1⟩ := HK.out.bd i hlt
          have CK : Hid (∀ w5, Gw w w5 → w5.cell? ⟨bk, off + i, none⟩ = some (.int .u64 (f i))) := by
            show ∀ w5, Gw w w5 → w5.cell? ⟨bk, off + i, none⟩ = some (.int .u64 (f i))
            intro w5 g5
            obtain ⟨b', off', e', _, hc'⟩ := (HK.out.gw g5).cells (by omega)
            cases e'
            exact hc' i hlt
          have BL : Hid (bk < w.heap.size) := by
            show bk < w.heap.size
            obtain ⟨b', off', e', hb', _⟩ := HK.out.cells (by omega)
            cases e'
            exact hb'
          clear hc
          generalize f i = x at c1 x0 x1 CK
          go_wp2_with fail
          refine (HH.out.add HI.out x x0 x1 (by omega)).mono ?_
          rintro ex w5 ⟨⟨ok, err, S5, rfl, hA, hF, hsub⟩, g5⟩
          have SS5 : Hid (∀ q, S5 q → w.heap.size ≤ q) := fun q hq => by
            rcases hsub q hq with r | r
            · exact SI.out q r
            · have := GI.out.size; omega
          have G5 : Hid (Gw w w5) := Gs.gw GI.out g5 SI.out
          have gl := (RI.out.lt g rfl).2
          have R5 : Hid (w5.ownsRow w.heap.size 31 1 (.slice (some ⟨g, 0, none⟩) m cap) m ((List.range m).map fun j => Value.int .u64 (fk j))) := row_keep RI.out fun q hq => (by cases hq; exact g5.block _ gl NI.out)
          have N5 : Hid (¬ S5 g) := fun s => (by
            rcases hsub g s with r | r
            · exact NI.out r
            · omega)
          have HF5 : Hid (HF w5 p S5 (eps - 1) (if ok then m + 1 else m) (if ok then upd fk m x else fk)) := hF
          have HA : Hid (AddR (eps - 1) m fk x ok err) := hA
          have ER : err = 40 ∨ err = 0 := by
            rcases hA with ⟨_, _, _, q⟩ | ⟨_, q, _⟩
            · exact .inl q
            · exact .inr q
          have OK40 : Hid (err = 40 → ok = false) := by
            rcases hA with ⟨_, _, q, _⟩ | ⟨_, q, _⟩
            · exact fun _ => q
            · exact fun r => by omega
          have KF := HH.out.facts HI.out
          have KF' : Hid (Up fk m ∧ (∀ i, i < m → 0 ≤ fk i ∧ fk i < 18446744073709551616)) := ⟨KF.1, KF.2.1⟩
          clear hA hF hsub g5 gl KF HI SI RI NI GI c1
          rcases ER with rfl | rfl
          · obtain rfl := OK40.out rfl
            go_wp2_with fail
            go_roundg (n - (i + 1))
            case measure => omega
            case rel => exact ⟨i + 1, m, g, cap, S5, fk, rfl, by go_num, by omega, Nat.le_refl _, by omega, (show Aside _ from HF5.out), (show Aside _ from SS5.out), (show Aside _ from R5.out), (show Aside _ from N5.out), (show Aside _ from G5.out)⟩
          · clear OK40
            have K5 : Hid (KS w5 (some ⟨g, 0, none⟩) m fk) := ks_row R5.out KF'.out.2
            have c5 := CK.out w5 G5.out
            have HKV : Hid (∀ w', Gw w5 w' → Gw w5 w' ∧ w'.cell? ⟨bk, off + i, none⟩ = some (.int .u64 x)) := fun w' gg => ⟨gg, CK.out w' (G5.out.trans gg)⟩
            have lb5 : bk < w5.heap.size := Nat.lt_of_lt_of_le BL.out G5.out.size
            obtain ⟨ii, hii, hz, hs, hby⟩ := info_parts info_k
            go_wp2_with fail
            go_cut [12] (fun s12 wc => ∃ (g2 cap2 : Nat), s12 = .slice (some ⟨g2, 0, none⟩) (m + 1) cap2 ∧ Aside (wc.ownsRow w5.heap.size 31 1 (.slice (some ⟨g2, 0, none⟩) (m + 1) cap2) (m + 1) (((List.range m).map fun j => Value.int .u64 (fk j)) ++ [.int .u64 x])) ∧ Aside (Gw w5 wc))
            case first =>
              go_region_held3 (fun w' => Gw w5 w' ∧ w'.cell? ⟨bk, off + i, none⟩ = some (.int .u64 x))
                ((refine HKV.out _ ?_; (repeat (first | exact Gw.refl _ | assumption | exact And.left (by assumption) | refine Gw.drew ?_ | refine Gw.alloc ?_ _ _)); done))
                (first
                  | (refine step_append_any _ rfl (.tmp 59) (.tmp 60) 42 rfl w5.heap.size 31 ii _ 1 8 Try.underlying42 hii hz hs hby rfl (by decide) (w5.heap.size) 0 0 [] (by simp [Act.eval]) (own_new0 w5 _ _ _ rfl (Nat.le_refl _)) (some ⟨g, 0, none⟩) m cap ((List.range m).map fun j => Value.int .u64 (fk j)) (by simp [Act.eval]) (fun q => by cases q) (by simp) (ks_news (K5.out.gw (((Gw.refl w5).alloc _ _).drew))) (keys_one m fk) (by simp only [maxLen]; omega) (by omega) (by simp <;> omega) ?_; intro g1 cap1 w7 q1 q2 q3 q4; have G7 : Gw w5 w7 := ((((Gw.refl w5).alloc _ _).drew).grown q2 (fun k hk => by cases hk; omega)); have Q1 : Hid (w7.ownsRow w5.heap.size 31 1 (.slice (some ⟨g1, 0, none⟩) m cap1) m ((List.range m).map fun j => Value.int .u64 (fk j))) := (by have := q1; simp only [Nat.zero_add, List.nil_append] at this; exact this); skip; clear q1 q2 q3)
                  | (refine step_append_any _ rfl (.tmp 59) (.tmp 60) 42 rfl w5.heap.size 31 ii _ 1 8 Try.underlying42 hii hz hs hby rfl (by decide) (w5.heap.size) 0 0 [] (by simp [Act.eval]) ((own_new0 w5 _ _ _ rfl (Nat.le_refl _)).alloc (.cells #[.int .u64 x] 31)) (some ⟨g, 0, none⟩) m cap ((List.range m).map fun j => Value.int .u64 (fk j)) (by simp [Act.eval]) (fun q => by cases q) (by simp) (ks_news (K5.out.gw ((((Gw.refl w5).alloc _ _).alloc _ _).drew))) (keys_one m fk) (by simp only [maxLen]; omega) (by omega) (by simp <;> omega) ?_; intro g1 cap1 w7 q1 q2 q3 q4; have G7 : Gw w5 w7 := (((((Gw.refl w5).alloc _ _).alloc _ _).drew).grown q2 (fun k hk => by cases hk; omega)); have Q1 : Hid (w7.ownsRow w5.heap.size 31 1 (.slice (some ⟨g1, 0, none⟩) m cap1) m ((List.range m).map fun j => Value.int .u64 (fk j))) := (by have := q1; simp only [Nat.zero_add, List.nil_append] at this; exact this); have N7 : Hid (w7.heap[w5.heap.size + 1]? = some (.cells #[.int .u64 x] 31 (0, 0))) := ((q2.block (w5.heap.size + 1) (by simp) (fun r => by simp at r)).trans (new_second w5 (.cells #[] 31) (.cells #[.int .u64 x] 31))); clear q1 q2 q3)
                  | (refine step_append_any _ rfl (.tmp 59) (.tmp 60) 42 rfl w5.heap.size 31 ii _ 1 8 Try.underlying42 hii hz hs hby rfl (by decide) (w5.heap.size + 1) 0 0 [] (by simp [Act.eval]) (own_new0 (w5.alloc (.cells #[.int .u64 x] 31)) _ _ _ (by simp) (Nat.le_succ _)) (some ⟨g, 0, none⟩) m cap ((List.range m).map fun j => Value.int .u64 (fk j)) (by simp [Act.eval]) (fun q => by cases q) (by simp) (ks_news (K5.out.gw ((((Gw.refl w5).alloc _ _).alloc _ _).drew))) (keys_one m fk) (by simp only [maxLen]; omega) (by omega) (by simp <;> omega) ?_; intro g1 cap1 w7 q1 q2 q3 q4; have G7 : Gw w5 w7 := (((((Gw.refl w5).alloc _ _).alloc _ _).drew).grown q2 (fun k hk => by cases hk; omega)); have Q1 : Hid (w7.ownsRow w5.heap.size 31 1 (.slice (some ⟨g1, 0, none⟩) m cap1) m ((List.range m).map fun j => Value.int .u64 (fk j))) := (by have := q1; simp only [Nat.zero_add, List.nil_append] at this; exact this); have N7 : Hid (w7.heap[w5.heap.size]? = some (.cells #[.int .u64 x] 31 (0, 0))) := ((q2.block w5.heap.size (by simp <;> omega) (fun r => by simp at r)).trans (new_first w5 (.cells #[.int .u64 x] 31) (.cells #[] 31))); clear q1 q2 q3)
                  | (refine step_append_any _ rfl (.tmp 61) (.tmp 66) 42 rfl w5.heap.size 31 ii _ 1 8 Try.underlying42 hii hz hs hby rfl (by decide) g1 m cap1 ((List.range m).map fun j => Value.int .u64 (fk j)) (by simp [Act.eval]) (Q1.out.alloc _) (some ⟨w7.heap.size, 0, none⟩) 1 1 [.int .u64 x] (by simp [Act.eval]) (fun q => by cases q) rfl (fun ad e' => (by cases e'; exact new_one w7 x)) (ints_oneCell .u64 [x]) (by simp only [maxLen]; omega) (by omega) (by have := G7.size; simp <;> omega) ?_; intro g2 cap2 w8 r1 r2 r3 r4; have G8 : Gw w5 w8 := (Gw.grown (by repeat (first | exact G7 | refine Gw.drew ?_ | refine Gw.alloc ?_ _ _)) r2 (fun k hk => by cases hk; exact (Q1.out.lt g1 rfl).1)); have Q2 : Hid (w8.ownsRow w5.heap.size 31 1 (.slice (some ⟨g2, 0, none⟩) (m + 1) cap2) (m + 1) (((List.range m).map fun j => Value.int .u64 (fk j)) ++ [.int .u64 x])) := r1; clear r1 r2 r3)
                  | (refine step_append_any _ rfl (.tmp 61) (.tmp 66) 42 rfl w5.heap.size 31 ii _ 1 8 Try.underlying42 hii hz hs hby rfl (by decide) g1 m cap1 ((List.range m).map fun j => Value.int .u64 (fk j)) (by simp [Act.eval]) (Q1.out) (some ⟨w5.heap.size + 1, 0, none⟩) 1 1 [.int .u64 x] (by simp [Act.eval]) (fun q => by cases q) rfl (fun ad e' => (by cases e'; exact World.news_of_block N7.out)) (ints_oneCell .u64 [x]) (by simp only [maxLen]; omega) (by omega) (by have := G7.size; simp <;> omega) ?_; intro g2 cap2 w8 r1 r2 r3 r4; have G8 : Gw w5 w8 := (Gw.grown (by repeat (first | exact G7 | refine Gw.drew ?_ | refine Gw.alloc ?_ _ _)) r2 (fun k hk => by cases hk; exact (Q1.out.lt g1 rfl).1)); have Q2 : Hid (w8.ownsRow w5.heap.size 31 1 (.slice (some ⟨g2, 0, none⟩) (m + 1) cap2) (m + 1) (((List.range m).map fun j => Value.int .u64 (fk j)) ++ [.int .u64 x])) := r1; clear r1 r2 r3)
                  | (refine step_append_any _ rfl (.tmp 61) (.tmp 66) 42 rfl w5.heap.size 31 ii _ 1 8 Try.underlying42 hii hz hs hby rfl (by decide) g1 m cap1 ((List.range m).map fun j => Value.int .u64 (fk j)) (by simp [Act.eval]) (Q1.out) (some ⟨w5.heap.size, 0, none⟩) 1 1 [.int .u64 x] (by simp [Act.eval]) (fun q => by cases q) rfl (fun ad e' => (by cases e'; exact World.news_of_block N7.out)) (ints_oneCell .u64 [x]) (by simp only [maxLen]; omega) (by omega) (by have := G7.size; simp <;> omega) ?_; intro g2 cap2 w8 r1 r2 r3 r4; have G8 : Gw w5 w8 := (Gw.grown (by repeat (first | exact G7 | refine Gw.drew ?_ | refine Gw.alloc ?_ _ _)) r2 (fun k hk => by cases hk; exact (Q1.out.lt g1 rfl).1)); have Q2 : Hid (w8.ownsRow w5.heap.size 31 1 (.slice (some ⟨g2, 0, none⟩) (m + 1) cap2) (m + 1) (((List.range m).map fun j => Value.int .u64 (fk j)) ++ [.int .u64 x])) := r1; clear r1 r2 r3))
              all_goals go_wp2_with fail
              all_goals go_meet
              all_goals
                case rel => exact ⟨g2, cap2, rfl, (show Aside _ from Q2.out), (show Aside _ from And.left (by assumption))⟩
            case rest =>
              obtain ⟨W6, hwx⟩ : ∃ wx, wx = wc := ⟨_, rfl⟩
              subst hwx
              obtain ⟨g2, cap2, rfl, Q2, G6⟩ := hcut
              have gl2 := Q2.out.lt g2 rfl
              have R6 : Hid (W6.ownsRow w.heap.size 31 1 (.slice (some ⟨g2, 0, none⟩) (m + 1) cap2) (m + 1) ((List.range (m + 1)).map fun j => Value.int .u64 (upd fk m x j))) := by
                have := row_weak Q2.out G5.out.size
                rw [← upd_keys] at this
                exact this
              have N6 : Hid (¬ S5 g2) := fun s => (by have := HH.out.lt HF5.out g2 s; have := gl2.1; omega)
              have HF6 : Hid (HF W6 p S5 (eps - 1) (if ok then m + 1 else m) (if ok then upd fk m x else fk)) := HH.out.gw HF5.out G6.out
              have GW6 : Hid (Gw w W6) := G5.out.trans G6.out
              have R56 : Hid (W6.ownsRow w.heap.size 31 1 (.slice (some ⟨g, 0, none⟩) m cap) m ((List.range m).map fun j => Value.int .u64 (fk j))) := row_keep R5.out fun q hq => G6.out.below.block q (R5.out.lt q hq).2
              have UPF : Hid (¬ (0 < m ∧ x ≤ fk (m - 1)) ∧ (ok = true ↔ FitsOn (eps - 1) (upd fk m x) (Prs (m + 1)))) := by
                rcases HA.out with ⟨_, _, _, q⟩ | ⟨q1, _, q2⟩
                · omega
                · exact ⟨q1, q2⟩
              clear Q2 G6 gl2 R5 HF5 G5 HA K5 HKV hii hz hs hby c5
              cases ok with
              | true =>
                go_wp2_with fail
                go_roundg (n - (i + 1))
                case measure => omega
                case rel => exact ⟨i + 1, m + 1, g2, cap2, S5, upd fk m x, rfl, by go_num, by omega, Nat.le_refl _, by omega, (show Aside _ from HF6.out), (show Aside _ from SS5.out), (show Aside _ from R6.out), (show Aside _ from N6.out), (show Aside _ from GW6.out)⟩
              | false =>
                have HV0 : Hid (HF W6 p S5 (eps - 1) m fk) := HF6.out
                have NF : Hid (¬ FitsOn (eps - 1) (upd fk m x) (Prs (m + 1))) := fun q => Bool.noConfusion (UPF.out.2.2 q)
                have UU : Hid (Up (upd fk m x) (m + 1)) := up_upd KF'.out.1 (fun h0 => by
                  rcases Int.lt_or_le (fk (m - 1)) x with q | q
                  · exact q
                  · exact absurd ⟨h0, q⟩ UPF.out.1)
                have RR : Hid (∀ W, Gw W6 W → KS W (some ⟨g2, 0, none⟩) (m + 1) (upd fk m x)) := fun W G => (ks_row R6.out (fun i hi => by
                  by_cases q : i = m
                  · rw [q, upd_at]; exact ⟨x0, x1⟩
                  · rw [upd_lo (by omega)]; exact KF'.out.2 i (by omega))).gw G
                clear HF6 UPF
                go_wp2_with fail
                refine (HH.out.least HV0.out (by omega)).mono ?_
                rintro ex v1 ⟨⟨a, b, rfl, hlo, wa, wb⟩, g1⟩
                have a0 := hlo.a0
                have b1 := hlo.b1
                have HV1 : Hid (HF v1 p S5 (eps - 1) m fk) := HH.out.gw HV0.out g1
                have GV1 : Hid (Gw W6 v1) := g1
                have A1 : a < 10000 := FE.out.1 a b hlo
                clear hlo g1
                go_wp2_with fail
                refine (NE.out a b (eps - 1) (some ⟨g2, 0, none⟩) (m + 1) cap2 (upd fk m x) a0 A1 b1 wb (by omega) (by omega) (by omega) _ (RR.out _ GV1.out) UU.out).mono ?_
                rintro ex v2 ⟨⟨r, rfl, hr⟩, gg2⟩
                obtain rfl : r = false := by
                  cases r with
                  | false => rfl
                  | true => exact absurd (near_fits UU.out b1 (hr.1 rfl)) NF.out
                have HV2 : Hid (HF v2 p S5 (eps - 1) m fk) := HH.out.gw HV1.out gg2
                have GV2 : Hid (Gw W6 v2) := GV1.out.trans gg2
                clear hr gg2 HV1 GV1
                go_wp2_with fail
                refine (HH.out.count HV2.out (by omega)).mono ?_
                rintro ex v3 ⟨rfl, gg3⟩
                have HV3 : Hid (HF v3 p S5 (eps - 1) m fk) := HH.out.gw HV2.out gg3
                have GV3 : Hid (Gw W6 v3) := GV2.out.trans gg3
                clear gg3 HV2 GV2
                by_cases h1m : 1 < m
                · have h1m' : (1 : Int) < m := by omega
                  go_wp2_with fail
                  refine (HH.out.most HV3.out (by omega)).mono ?_
                  rintro ex v4 ⟨⟨a', b', rfl, hto, wa', wb0, wb'⟩, gg4⟩
                  have A3 : a' < 10000 := FE.out.2 a' b' hto
                  have a3 := top_pos hto
                  have b3 := top_two (by omega) hto
                  have HV4 : Hid (HF v4 p S5 (eps - 1) m fk) := HH.out.gw HV3.out gg4
                  have GV4 : Hid (Gw W6 v4) := GV3.out.trans gg4
                  clear hto gg4 HV3 GV3
                  go_wp2_with fail
                  refine (NE.out a' b' (eps - 1) (some ⟨g2, 0, none⟩) (m + 1) cap2 (upd fk m x) (by omega) A3 b3 wb' (by omega) (by omega) (by omega) _ (RR.out _ GV4.out) UU.out).mono ?_
                  rintro ex v5 ⟨⟨r, rfl, hr⟩, gg5⟩
                  obtain rfl : r = false := by
                    cases r with
                    | false => rfl
                    | true => exact absurd (near_fits UU.out b3 (hr.1 rfl)) NF.out
                  have HV5 : Hid (HF v5 p S5 (eps - 1) m fk) := HH.out.gw HV4.out gg5
                  have GV5 : Hid (Gw W6 v5) := GV4.out.trans gg5
                  clear hr gg5 HV4 GV4
                  go_wp2_with fail
                  go_roundg (n - (i + 1))
                  case measure => omega
                  case rel => exact ⟨i + 1, m, g, cap, S5, fk, rfl, by go_num, by omega, Nat.le_refl _, by omega, (show Aside _ from HV5.out), (show Aside _ from SS5.out), (show Aside _ from row_keep R56.out fun q hq => GV5.out.below.block q (R56.out.lt q hq).2), (show Aside _ from N5.out), (show Aside _ from GW6.out.trans GV5.out)⟩
                · have h1m' : ¬ (1 : Int) < m := by omega
                  go_wp2_with fail
                  go_roundg (n - (i + 1))
                  case measure => omega
                  case rel => exact ⟨i + 1, m, g, cap, S5, fk, rfl, by go_num, by omega, Nat.le_refl _, by omega, (show Aside _ from HV3.out), (show Aside _ from SS5.out), (show Aside _ from row_keep R56.out fun q hq => GV3.out.below.block q (R56.out.lt q hq).2), (show Aside _ from N5.out), (show Aside _ from GW6.out.trans GV3.out)⟩
        · have hm' : ¬ (m : Int) < 400 := by omega
          have hlt' : (i : Int) < n := by omega
          have gl := (RI.out.lt g rfl).2
          have KF := HH.out.facts HI.out
          have KF' : Hid (Up fk m ∧ (∀ i, i < m → 0 ≤ fk i ∧ fk i < 18446744073709551616) ∧ FitsOn (eps - 1) fk (Prs m)) := ⟨KF.1, KF.2.1, KF.2.2.1⟩
          have RR : Hid (∀ W, Gw wr W → KS W (some ⟨g, 0, none⟩) m fk) := fun W G => (ks_row RI.out KF.2.1).gw G
          clear KF
          go_wp2_with fail
          refine (HH.out.least HI.out (by omega)).mono ?_
          rintro ex v1 ⟨⟨a, b, rfl, hlo, wa, wb⟩, g1⟩
          have a0 := hlo.a0
          have b1 := hlo.b1
          have HV1 : Hid (HF v1 p S' (eps - 1) m fk) := HH.out.gw HI.out g1
          have GV1 : Hid (Gw wr v1) := g1
          have N1 : Hid (NearR (eps - 1) fk m a b) := near_low' (by omega) KF'.out.1 hlo KF'.out.2.2
          have A1 : a < 10000 := FE.out.1 a b hlo
          clear hlo g1
          go_wp2_with fail
          refine (NE.out a b (eps - 1) (some ⟨g, 0, none⟩) m cap fk a0 A1 b1 wb (by omega) (by omega) (by omega) _ (RR.out _ GV1.out) KF'.out.1).mono ?_
          rintro ex v2 ⟨⟨r, rfl, hr⟩, g2⟩
          obtain rfl : r = true := hr.2 N1.out
          have HV2 : Hid (HF v2 p S' (eps - 1) m fk) := HH.out.gw HV1.out g2
          have GV2 : Hid (Gw wr v2) := GV1.out.trans g2
          clear hr g2 HV1 GV1
          by_cases h2m : m < 2
          · have h2m' : (m : Int) < 2 := by omega
            go_wp2_with fail
            go_ret
            exact ⟨by simp, GI.out.trans GV2.out⟩
          · have h2m' : ¬ (m : Int) < 2 := by omega
            go_wp2_with fail
            refine (HH.out.most HV2.out (by omega)).mono ?_
            rintro ex v3 ⟨⟨a', b', rfl, hto, wa', wb0, wb'⟩, g3⟩
            have N3 : Hid (NearR (eps - 1) fk m a' b') := near_top' (by omega) (by omega) KF'.out.1 hto KF'.out.2.2
            have A3 : a' < 10000 := FE.out.2 a' b' hto
            have a3 := top_pos hto
            have b3 := top_two (by omega) hto
            have GV3 : Hid (Gw wr v3) := GV2.out.trans g3
            clear hto g3
            go_wp2_with fail
            refine (NE.out a' b' (eps - 1) (some ⟨g, 0, none⟩) m cap fk (by omega) A3 b3 wb' (by omega) (by omega) (by omega) _ (RR.out _ GV3.out) KF'.out.1).mono ?_
            rintro ex v4 ⟨⟨r, rfl, hr⟩, g4⟩
            obtain rfl : r = true := hr.2 N3.out
            have GV4 : Hid (Gw w v4) := (GI.out.trans GV3.out).trans g4
            clear hr g4
            go_wp2_with fail
            go_ret
            exact ⟨by simp, GV4.out⟩

      · have hlt' : ¬ (i : Int) < n := by omega
        have gl := (RI.out.lt g rfl).2
        have KF := HH.out.facts HI.out
        have KF' : Hid (Up fk m ∧ (∀ i, i < m → 0 ≤ fk i ∧ fk i < 18446744073709551616) ∧ FitsOn (eps - 1) fk (Prs m)) := ⟨KF.1, KF.2.1, KF.2.2.1⟩
        have RR : Hid (∀ W, Gw wr W → KS W (some ⟨g, 0, none⟩) m fk) := fun W G => (ks_row RI.out KF.2.1).gw G
        clear KF
        go_wp2_with fail
        refine (HH.out.least HI.out (by omega)).mono ?_
        rintro ex v1 ⟨⟨a, b, rfl, hlo, wa, wb⟩, g1⟩
        have a0 := hlo.a0
        have b1 := hlo.b1
        have HV1 : Hid (HF v1 p S' (eps - 1) m fk) := HH.out.gw HI.out g1
        have GV1 : Hid (Gw wr v1) := g1
        have N1 : Hid (NearR (eps - 1) fk m a b) := near_low' (by omega) KF'.out.1 hlo KF'.out.2.2
        have A1 : a < 10000 := FE.out.1 a b hlo
        clear hlo g1
        go_wp2_with fail
        refine (NE.out a b (eps - 1) (some ⟨g, 0, none⟩) m cap fk a0 A1 b1 wb (by omega) (by omega) (by omega) _ (RR.out _ GV1.out) KF'.out.1).mono ?_
        rintro ex v2 ⟨⟨r, rfl, hr⟩, g2⟩
        obtain rfl : r = true := hr.2 N1.out
        have HV2 : Hid (HF v2 p S' (eps - 1) m fk) := HH.out.gw HV1.out g2
        have GV2 : Hid (Gw wr v2) := GV1.out.trans g2
        clear hr g2 HV1 GV1
        by_cases h2m : m < 2
        · have h2m' : (m : Int) < 2 := by omega
          go_wp2_with fail
          go_ret
          exact ⟨by simp, GI.out.trans GV2.out⟩
        · have h2m' : ¬ (m : Int) < 2 := by omega
          go_wp2_with fail
          refine (HH.out.most HV2.out (by omega)).mono ?_
          rintro ex v3 ⟨⟨a', b', rfl, hto, wa', wb0, wb'⟩, g3⟩
          have N3 : Hid (NearR (eps - 1) fk m a' b') := near_top' (by omega) (by omega) KF'.out.1 hto KF'.out.2.2
          have A3 : a' < 10000 := FE.out.2 a' b' hto
          have a3 := top_pos hto
          have b3 := top_two (by omega) hto
          have GV3 : Hid (Gw wr v3) := GV2.out.trans g3
          clear hto g3
          go_wp2_with fail
          refine (NE.out a' b' (eps - 1) (some ⟨g, 0, none⟩) m cap fk (by omega) A3 b3 wb' (by omega) (by omega) (by omega) _ (RR.out _ GV3.out) KF'.out.1).mono ?_
          rintro ex v4 ⟨⟨r, rfl, hr⟩, g4⟩
          obtain rfl : r = true := hr.2 N3.out
          have GV4 : Hid (Gw w v4) := (GI.out.trans GV3.out).trans g4
          clear hr g4
          go_wp2_with fail
          go_ret
          exact ⟨by simp, GV4.out⟩

  · have alt : eps < 2 ∨ (¬ eps < 2 ∧ 64 < eps) := by omega
    rcases alt with q | ⟨q, q'⟩
    · go_enter Try.func7, Try.ntmps7
      go_wp2_with fail
      refine (hshown HH.out w).mono ?_
      rintro e w1 ⟨rfl, g1⟩
      go_wp2_with fail
      refine (HH.out.bad eps hok _).mono ?_
      rintro e w2 ⟨rfl, g2⟩
      clear hok
      go_wp2_with fail
      go_ret
      exact ⟨by simp, g1.trans g2⟩
    · go_enter Try.func7, Try.ntmps7
      go_wp2_with fail
      refine (hshown HH.out w).mono ?_
      rintro e w1 ⟨rfl, g1⟩
      go_wp2_with fail
      refine (HH.out.bad eps hok _).mono ?_
      rintro e w2 ⟨rfl, g2⟩
      clear hok
      go_wp2_with fail
      go_ret
      exact ⟨by simp, g1.trans g2⟩

end Go.Proofs.Ytocahgiabeifeaa
