/- The document's Find of layer 9. -/
import Derived.Test.YtapjipinceoaoaaGreatZRef
namespace Go.Proofs.YtapjipinceoaoaaGreat
open Go.RowKit
set_option linter.unusedVariables false

set_option maxRecDepth 10000 in
set_option maxHeartbeats 4000000 in
theorem rfind_any (ao : Option Addr) (n cp : Nat) (f : Nat → Int) (eps : Int) (lo : Option Addr) (lc : Nat) (L : List (List Sg)) (q : Int) (e0 : 2 ≤ eps) (e1 : eps ≤ 64) (q0 : 0 ≤ q) (q1 : q < 18446744073709551616) (hn : n ≤ 2000000) (hcp : n ≤ cp) (hL : L.length ≤ 2000000) (hl : ∀ i, i < L.length → (L.getD i []).length ≤ 2000000) (R : Lvs eps f n L) (n0 : L.length = 0 → n = 0) (w : World) (h : KS w ao n f) (hv : VS w lo L) :
    Calls Tryz.prog 12 #[.slice ao n cp, .int .i64 eps, .slice lo L.length lc, .int .u64 q] w fun e w' => e = .returned (.tuple #[.int .i64 (cntb f q n), .bool (decide (cntb f q n < n ∧ f (cntb f q n) = q))]) ∧ Gw w w' := by
  have HK : Aside (KS w ao n f) := h
  have PA : Hid _ := fun _ : Unit => rpath_any ao n cp f eps lo lc L q e0 e1 q0 q1 hcp hL hl R w h hv
  have cl := cntb_le f q n
  have VL : Aside (0 < L.length → ((pathL eps q f n L).getD (L.length - 1) vis0).rk = cntb f q n) := fun h0 => by
    have e : (pathL eps q f n L).getD (L.length - 1) vis0 = visAt eps q f n L 0 := by
      unfold pathL
      rw [List.getD_eq_getElem?_getD, List.getElem?_map, List.getElem?_range (by omega)]
      show visAt eps q f n L (L.length - 1 - (L.length - 1)) = _
      rw [Nat.sub_self]
    rw [e]
    rfl
  obtain ⟨k, hk⟩ : ∃ k, cntb f q n = k := ⟨_, rfl⟩
  rw [hk] at cl VL ⊢
  obtain ⟨bv, hbv⟩ : ∃ bv : Bool, decide (k < n ∧ f k = q) = bv := ⟨_, rfl⟩
  have BV : Aside (bv = true ↔ (k < n ∧ f k = q)) := by rw [← hbv]; exact decide_eq_true_iff
  rw [hbv]
  clear hbv hk h hv R hl
  obtain ⟨hh, hhl⟩ : ∃ hh, L.length = hh := ⟨_, rfl⟩
  have PL : Aside ((pathL eps q f n L).length = hh) := by rw [pathL_len]; exact hhl
  rw [hhl] at hL PA VL n0 ⊢
  clear hhl
  go_enter Tryz.func12, Tryz.ntmps12
  go_wp2_with fail
  refine (PA.out ()).mono ?_
  rintro e w1 ⟨⟨bo, c, rfl, P⟩, g1⟩
  have G1 : Aside (Gw w w1) := g1
  by_cases z : hh = 0
  · have nz := n0 z
    subst z
    subst nz
    obtain rfl : k = 0 := by omega
    obtain rfl : bv = false := by
      cases bv with
      | false => rfl
      | true => have := (BV.out.1 rfl).1; omega
    clear g1 P cl VL n0 BV
    go_wp2_with fail
    exact bodyPost_ret (v := .tuple #[.int .i64 0, .bool false]) (by simp [results, Tryz.results12, go_sem]) rfl ⟨rfl, G1.out⟩
  · have tz : ((hh : Int) == 0) = false := by simp; omega
    obtain ⟨b, off, rfl, hb, hc⟩ := P.cells (by rw [PL.out]; omega)
    have C := (hc (hh - 1) (by rw [PL.out]; omega)).c5
    rw [VL.out (by omega)] at C
    have wz : IntKind.i64.wrap ((hh : Int) - 1) = ((hh - 1 : Nat) : Int) := by rw [IntKind.wrap_i64]; omega
    obtain ⟨h1, hh1⟩ : ∃ h1, hh - 1 = h1 := ⟨_, rfl⟩
    rw [hh1] at C wz
    have hl1 : (h1 : Int) < (hh : Int) := by omega
    have hl1' : h1 < hh := by omega
    clear hc P VL hh1 n0 g1
    by_cases kn : k < n
    · obtain ⟨bk, of, rfl, hbk, hkc⟩ := (HK.out.gw G1.out).cells (by omega)
      have kc := hkc k kn
      have tk : (k : Int) < (n : Int) := by omega
      by_cases fq : f k = q
      · obtain rfl : bv = true := BV.out.2 ⟨kn, fq⟩
        rw [fq] at kc
        clear hkc fq BV
        go_wp2_with fail
        first
          | (go_quiet (fail)
             go_wp2_with fail
             exact bodyPost_ret (v := .tuple #[.int .i64 (k : Int), .bool true]) (by simp [results, Tryz.results12, go_sem]) rfl ⟨rfl, G1.out.drewN _⟩)
          | exact bodyPost_ret (v := .tuple #[.int .i64 (k : Int), .bool true]) (by simp [results, Tryz.results12, go_sem]) rfl ⟨rfl, G1.out⟩
      · obtain rfl : bv = false := by
          cases bv with
          | false => rfl
          | true => exact absurd (BV.out.1 rfl).2 fq
        obtain ⟨y, hy⟩ : ∃ y, f k = y := ⟨_, rfl⟩
        rw [hy] at kc fq
        have ty : (y == q) = false := by simpa using fq
        clear hkc hy BV
        go_wp2_with fail
        first
          | (go_quiet (fail)
             go_wp2_with fail
             exact bodyPost_ret (v := .tuple #[.int .i64 (k : Int), .bool false]) (by simp [results, Tryz.results12, go_sem]) rfl ⟨rfl, G1.out.drewN _⟩)
          | exact bodyPost_ret (v := .tuple #[.int .i64 (k : Int), .bool false]) (by simp [results, Tryz.results12, go_sem]) rfl ⟨rfl, G1.out⟩
    · obtain rfl : bv = false := by
        cases bv with
        | false => rfl
        | true => exact absurd (BV.out.1 rfl).1 kn
      have tk : ¬ (k : Int) < (n : Int) := by omega
      clear BV
      go_wp2_with fail
      first
        | (go_quiet (fail)
           go_wp2_with fail
           exact bodyPost_ret (v := .tuple #[.int .i64 (k : Int), .bool false]) (by simp [results, Tryz.results12, go_sem]) rfl ⟨rfl, G1.out.drewN _⟩)
        | exact bodyPost_ret (v := .tuple #[.int .i64 (k : Int), .bool false]) (by simp [results, Tryz.results12, go_sem]) rfl ⟨rfl, G1.out⟩

end Go.Proofs.YtapjipinceoaoaaGreat
