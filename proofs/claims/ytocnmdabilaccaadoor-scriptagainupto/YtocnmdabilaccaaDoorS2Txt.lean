/- Package script: numbers in digits. -/
import Derived.Test.YtocnmdabilaccaaDoorShelf
import Derived.Test.YtocnmdabilaccaaDoorS2Tab
import Derived.Test.YtocnmdabilaccaaDoorS1Ref1
namespace Go.Proofs.YtocnmdabilaccaaDoor
open Go.RowKit
set_option linter.unusedVariables false

theorem zeros_at0 (w : World) (T : TypeId) (nd : Nat) (hs : nd ≤ 24) : Sort.Holds (fun (b : UInt8) => Value.int .u8 (b.toNat : Int)) (w.alloc (.cells Lib.zeros24 T)) w.heap.size 0 (Array.replicate nd (0 : UInt8)) := fun j hj => by
  have hj' : j < nd := by simpa using hj
  refine ⟨?_, World.frozen?_alloc_new _ _ _ _⟩
  rw [World.cell?_alloc_new, Nat.zero_add, Lib.zeros24_at _ (by omega), getElem!_pos _ j hj]
  simp
theorem gw_put (w : World) (o : Obj) (dk : Array UInt8) (k : Nat) : Gw w ((Sort.putRow (fun (b : UInt8) => Value.int .u8 (b.toNat : Int)) (w.alloc o) w.heap.size 0 dk).drewN k) := by
  rw [Sort.alloc_eq_grow]
  obtain ⟨os', _, e⟩ := Sort.putRow_grow_new (fun (b : UInt8) => Value.int .u8 (b.toNat : Int)) w #[o] w.heap.size 0 dk (Nat.le_refl _)
  rw [e]
  exact gw_grow w k os'
set_option maxRecDepth 100000 in
set_option maxHeartbeats 8000000 in
theorem fuint_any (x : Int) (h0 : 0 ≤ x) (hx : x < 18446744073709551616) (w : World) (T : Tab w) : Calls Tryd.prog 60 #[.int .u64 x, .int .i64 10] w fun e w' => e = .returned (.string (Bs (digits x.toNat))) ∧ Gw w w' := by
  obtain ⟨u, rfl⟩ : ∃ u : Nat, x = u := ⟨x.toNat, by omega⟩
  have hu64 : u < 18446744073709551616 := by omega
  rw [Int.toNat_natCast, ← dec_digits]
  by_cases hs : u < 100
  · have c : (u : Int) < 100 := by omega
    have cw : IntKind.i64.wrap (u : Int) = u := by rw [IntKind.wrap_i64]; omega
    go_enter Tryd.func60, Tryd.ntmps60
    go_wp2_with (go_at_call 64; refine (Tryd.internal_strconv_small u hs _).mono ?_; rintro e w' ⟨rfl, rfl⟩)
    go_ret
    exact ⟨rfl, Gw.refl _⟩
  · have c : ¬ (u : Int) < 100 := by omega
    have hu1 : 1 ≤ u := by omega
    have hnd20 : Lib.nDigits u ≤ 20 := by have := Lib.numDigits_eq u hu1 hu64; split at this <;> omega
    have hal : Tryd.prog.arrayLen 100 = 24 := by kernel_rfl
    have hsl : ∀ W, (Instr.sliceAt 100 (.pointer (some ⟨w.heap.size, 0, none⟩)) none (some (.int .i64 (Lib.nDigits u : Int))) none).run Tryd.prog W = .ok (.slice (some ⟨w.heap.size, 0, none⟩) (Lib.nDigits u) 24) W := fun W => by
      rw [run_sliceAt_array_h W 100 ⟨w.heap.size, 0, none⟩ (by kernel_rfl) .i64 (Lib.nDigits u : Int) (by omega) (by rw [hal]; omega)]
      go_simp
      try omega
    have hH0 := zeros_at0 w 100 (Lib.nDigits u) (by omega)
    have hfmt := Tryd.internal_strconv_formatBase10 w.heap.size 0 24 u (Array.replicate (Lib.nDigits u) 0) (w.alloc (.cells Lib.zeros24 100)) hH0 (by rw [Array.size_replicate]; exact Lib.lt_pow_nDigits u) hu64 (by rw [Array.size_replicate]; omega)
    rw [Array.size_replicate] at hfmt
    have HH0 := Lib.hid hH0
    have TW : Hid (Tab w) := T
    clear hH0 hal T hs
    go_enter Tryd.func60, Tryd.ntmps60
    go_wp2_with (go_at_call 65; refine (Tryd.internal_strconv_numDigits u hu1 hu64 _ (Lib.tabIs_alloc TW.out _)).mono ?_; rintro e w' ⟨rfl, rfl⟩)
    go_at_call 66
    refine hfmt.mono ?_
    rintro e w' ⟨rfl, k, v', dk, rfl, hF⟩
    have hcv : (convert 61 9 (.slice (some ⟨w.heap.size, 0, none⟩) (Lib.nDigits u) 24)).run Tryd.prog ((Sort.putRow (fun (b : UInt8) => Value.int .u8 (b.toNat : Int)) (w.alloc (.cells Lib.zeros24 100)) w.heap.size 0 dk).drewN k) = .ok (.string ⟨(Lib.decDigits u).toArray⟩) ((Sort.putRow (fun (b : UInt8) => Value.int .u8 (b.toNat : Int)) (w.alloc (.cells Lib.zeros24 100)) w.heap.size 0 dk).drewN k) := by
      have h := run_convert_bytes_back (P := Tryd.prog) ((Sort.putRow (fun (b : UInt8) => Value.int .u8 (b.toNat : Int)) (w.alloc (.cells Lib.zeros24 100)) w.heap.size 0 dk).drewN k) 61 9 5 ⟨w.heap.size, 0, none⟩ 24 (Lib.decDigits u) under_bytes under_byte under_text (fun j hj => by
        rw [Lib.row_is_numeral hF j hj, Lib.add_plain, World.cell?_drewN]
        exact Sort.cell?_putRow (fun (b : UInt8) => Value.int .u8 (b.toNat : Int)) _ w.heap.size 0 _ dk HH0.out (by rw [hF.size, Array.size_replicate]) j (by rw [hF.size]; rw [Lib.decDigits_length] at hj; exact hj))
      rw [Lib.decDigits_length] at h
      exact h
    have GP := gw_put w (.cells Lib.zeros24 100) dk k
    go_wp2
    go_ret
    exact ⟨rfl, GP⟩
theorem itoa_any (n : Int) (h0 : -9223372036854775808 ≤ n) (h1 : n < 9223372036854775808) (w : World) (T : Tab w) : Calls Tryd.prog 34 #[.int .i64 n] w fun e w' => e = .returned (.string (Bs (signed n))) ∧ Gw w w' := by
  refine (Tryd.strconv_Itoa n h0 (by omega) w T).mono ?_
  rintro e w' ⟨rfl, k, os, rfl⟩
  rw [itoa_signed]
  exact ⟨rfl, gw_grow w k os⟩
set_option maxRecDepth 100000 in
set_option maxHeartbeats 4000000 in
theorem digits_any (x : Int) (h0 : 0 ≤ x) (hx : x < 18446744073709551616) (w : World) (T : Tab w) : Calls Tryd.prog 36 #[.int .u64 x] w fun e w' => e = .returned (.string (Bs (digits x.toNat))) ∧ Gw w w' := by
  have F : Hid (Calls Tryd.prog 52 #[.int .u64 x, .int .i64 10] w fun e w' => e = .returned (.string (Bs (digits x.toNat))) ∧ Gw w w') := by
    have F0 : Hid _ := fuint_any x h0 hx w T
    clear h0 hx T
    show Calls _ _ _ _ _
    go_enter Tryd.func52, Tryd.ntmps52
    go_wp2_with fail
    refine Calls.mono F0.out ?_
    rintro e w1 ⟨rfl, g1⟩
    go_wp2
    go_ret
    exact ⟨rfl, g1⟩
  clear h0 hx T
  go_enter Tryd.func36, Tryd.ntmps36
  go_wp2_with fail
  refine F.out.mono ?_
  rintro e w1 ⟨rfl, g1⟩
  go_wp2
  go_ret
  exact ⟨rfl, g1⟩
set_option maxRecDepth 100000 in
set_option maxHeartbeats 4000000 in
theorem pair_any (k v : Int) (k0 : 0 ≤ k) (k1 : k < 18446744073709551616) (v0 : 0 ≤ v) (v1 : v < 18446744073709551616) (w : World) (T : Tab w) : Calls Tryd.prog 37 #[.int .u64 k, .int .u64 v] w fun e w' => e = .returned (.string (Bs (digits k.toNat ++ 32 :: digits v.toNat))) ∧ Gw w w' := by
  have DK : Hid _ := digits_any k k0 k1 w T
  have DV : Hid (∀ W, Gw w W → Calls Tryd.prog 36 #[.int .u64 v] W fun e w' => e = .returned (.string (Bs (digits v.toNat))) ∧ Gw W w') := fun W g => digits_any v v0 v1 W (T.gw g)
  have lk : (digits k.toNat).length ≤ 20 := digits_len20 (by omega)
  have lv : (digits v.toNat).length ≤ 20 := digits_len20 (by omega)
  obtain ⟨K, hK⟩ : ∃ K, digits k.toNat = K := ⟨_, rfl⟩
  obtain ⟨V, hV⟩ : ∃ V, digits v.toNat = V := ⟨_, rfl⟩
  rw [hK] at DK lk ⊢
  rw [hV] at DV lv ⊢
  clear hK hV k0 k1 v0 v1 T
  go_enter Tryd.func37, Tryd.ntmps37
  go_wp2_with fail
  refine Calls.mono DK.out ?_
  rintro e w1 ⟨rfl, g1⟩
  go_wp2_with fail
  refine (DV.out _ g1).mono ?_
  rintro e w2 ⟨rfl, g2⟩
  go_wp2_with fail
  go_ret
  exact ⟨by simp, g1.trans g2⟩
set_option maxRecDepth 100000 in
set_option maxHeartbeats 4000000 in
theorem either_any (b : Bool) (x y : List UInt8) (w : World) : Calls Tryd.prog 35 #[.bool b, .string (Bs x), .string (Bs y)] w fun e w' => e = .returned (.string (Bs (if b = true then x else y))) ∧ w' = w := by
  cases b <;>
    (go_enter Tryd.func35, Tryd.ntmps35; go_wp2; go_ret; exact ⟨rfl, rfl⟩)
end Go.Proofs.YtocnmdabilaccaaDoor
