/- The document's own quotient, bit by bit. -/
import Derived.Test.YtapjipinceoaoaaNMul
import Derived.Test.YtapjipinceoaoaaPDg
namespace Go.Proofs.Ytapjipinceoaoaa
open Go.RowKit
set_option linter.unusedVariables false

attribute [local go_sem] frozen?_alloc_cells frozen?_new setCell_drewN alloc_drewN World.drewN_drewN

theorem H8.congr {w : World} {b : Nat} {x y : Int} (h : H8 w b x) (e : ∀ k, k < 8 → dg x k = dg y k) : H8 w b y :=
  ⟨h.lt, fun k hk => (h.c k hk).trans (by rw [e k hk])⟩
theorem H8.put {w : World} {b : Nat} {V V' z : Int} (h : H8 w b V) (i : Nat) (hi : i < 8) (hv : ∀ k, k < 8 → dg V' k = if k = i then z else dg V k) : H8 (w.setCell ⟨b, i, none⟩ (.int .i64 z)) b V' := by
  refine ⟨by simpa [World.setCell] using h.lt, fun k hk => ?_⟩
  rw [hv k hk]
  by_cases e : k = i
  · subst e; rw [if_pos rfl]; exact World.cell?_setCell_same _ _ _ (h.c k hk)
  · rw [if_neg e, ← h.c k hk]; exact World.cell?_setCell_other _ _ _ _ (by simp)
theorem H2.far {w : World} {b b' o' : Nat} {u v : Value} (h : H2 w b u v) (z : Value) (hb : b ≠ b') : H2 (w.setCell ⟨b', o', none⟩ z) b u v :=
  ⟨by simpa [World.setCell] using h.lt, (cell_far w b 0 b' o' z hb).trans h.c0, (cell_far w b 1 b' o' z hb).trans h.c1⟩
theorem dg_sv (x : Int) (k : Nat) (h : k < 8) : dg x k = dg (sv x) k := by
  obtain ⟨t, ht⟩ : ∃ t : Int, x = sv x + t * 65536 ^ 8 := ⟨(x + 170141183460469231731687303715884105728) / 340282366920938463463374607431768211456, by rw [sv_eq]; omega⟩
  rw [ht, dg_mod _ _ _ h, ← ht]
theorem dg_neg (x : Int) (k : Nat) (h : k < 8) : dg (-x) k = dg (-sv x) k := by
  obtain ⟨t, ht⟩ : ∃ t : Int, -x = -sv x + t * 65536 ^ 8 := ⟨-((x + 170141183460469231731687303715884105728) / 340282366920938463463374607431768211456), by rw [sv_eq]; omega⟩
  rw [ht, dg_mod _ _ _ h]

theorem H2.far8 {w : World} {b b' : Nat} {u v : Value} (h : H2 w b u v) (hb : b ≠ b') (v0 v1 v2 v3 v4 v5 v6 v7 : Value) :
    H2 ((((((((w.setCell ⟨b', 0, none⟩ v0).setCell ⟨b', 1, none⟩ v1).setCell ⟨b', 2, none⟩ v2).setCell ⟨b', 3, none⟩ v3).setCell ⟨b', 4, none⟩ v4).setCell ⟨b', 5, none⟩ v5).setCell ⟨b', 6, none⟩ v6).setCell ⟨b', 7, none⟩ v7) b u v :=
  (((((((h.far v0 hb).far v1 hb).far v2 hb).far v3 hb).far v4 hb).far v5 hb).far v6 hb).far v7 hb
theorem neg_even (u d : Int) (hd : 0 < d) (h : u % d = 0) : -u / d = -(u / d) ∧ -u % d = 0 := by
  have e := Int.mul_ediv_add_emod u d
  have e2 : -u = 0 + -(u / d) * d := by rw [Int.neg_mul, Int.mul_comm]; omega
  rw [e2, Int.add_mul_ediv_right _ _ (by omega), Int.add_mul_emod_self_right]; simp
theorem neg_odd (u d : Int) (hd : 0 < d) (h : ¬ u % d = 0) : -u / d = -(u / d + 1) ∧ -u % d = d - u % d := by
  have e := Int.mul_ediv_add_emod u d
  have m0 := Int.emod_nonneg u (b := d) (by omega)
  have m1 := Int.emod_lt_of_pos u hd
  have e2 : -u = (d - u % d) + -(u / d + 1) * d := by rw [Int.neg_mul, Int.add_mul, Int.mul_comm (u / d)]; omega
  have e3 : (d - u % d) / d = 0 := Int.ediv_eq_zero_of_lt (by omega) (by omega)
  constructor
  · rw [e2, Int.add_mul_ediv_right _ _ (by omega), e3]; omega
  · rw [e2, Int.add_mul_emod_self_right, Int.emod_eq_of_lt (by omega) (by omega)]

/-- What holds at the head of each round. -/
structure DS (w w' : World) (bn bq : Nat) (u v : Int) : Prop where
  gb : Gb w w'
  qn : H8 w' bn u
  qq : H8 w' bq v
  q1 : H2 w' (w.heap.size + 1) (.int .i64 0) (.int .u64 0)
  nb : bn ≠ bq
  n1 : w.heap.size + 1 ≠ bq
  hq : w.heap.size ≤ bq
theorem DS.put {w w' : World} {bn bq : Nat} {u V V' z : Int} (h : DS w w' bn bq u V) (i : Nat) (hi : i < 8) (hv : ∀ k, k < 8 → dg V' k = if k = i then z else dg V k) :
    DS w (w'.setCell ⟨bq, i, none⟩ (.int .i64 z)) bn bq u V' :=
  ⟨h.gb.setCell h.hq _, h.qn.far _ h.nb, h.qq.put i hi hv, h.q1.far _ h.n1, h.nb, h.n1, h.hq⟩

set_option maxRecDepth 10000 in
set_option maxHeartbeats 8000000 in
theorem rdiv_pos (x d : Int) (hx : 0 ≤ sv x) (d0 : 0 < d) (d1 : d < 18446744073709551616) (w : World) :
    Calls Try.prog 75 #[.agg #[.int .i64 (hiv (x)), .int .u64 (lov (x))], .int .u64 d] w fun e w' => e = .returned (.tuple #[.agg #[.int .i64 (hiv (sv x / d)), .int .u64 (lov (sv x / d))], .int .u64 (sv x % d), .int .i64 0]) ∧ Gb w w' := by
  have hd : (d == 0) = false := by simp; omega
  have bx := below_dg x
  have v1 : decide (32768 ≤ dg x 7) = false := by simp; omega
  clear bx
  obtain ⟨u, hu⟩ : ∃ u, Hid (sv x = u) := ⟨_, rfl⟩
  have u0 : 0 ≤ u := by rw [← hu.out]; exact hx
  have u1 : u < 2 ^ 128 := by rw [← hu.out, sv_eq]; omega
  obtain ⟨Q, hQ⟩ : ∃ Q, Hid (u / d = Q) := ⟨_, rfl⟩
  rw [hu.out, hQ.out]
  go_enter Try.func75, Try.ntmps75
  go_wp2_with fail
  have q1 := (H2.new (w.alloc (.cells #[.int .i64 (hiv x), .int .u64 (lov x)] 124)) (.int .i64 0) (.int .u64 0) 124).at (w.heap.size + 1) (by simp)
  have G : Gb w _ := ((Gb.refl w).alloc #[.int .i64 (hiv x), .int .u64 (lov x)] 124).alloc #[.int .i64 0, .int .u64 0] 124
  refine (rof_any x _).mono ?_
  rintro e w1 ⟨rfl, g1⟩
  replace G := (G.trans g1.gb).alloc #[.int .i64 (dg x 0), .int .i64 (dg x 1), .int .i64 (dg x 2), .int .i64 (dg x 3), .int .i64 (dg x 4), .int .i64 (dg x 5), .int .i64 (dg x 6), .int .i64 (dg x 7)] 134
  replace q1 := (q1.gb g1.gb).alloc (.cells #[.int .i64 (dg x 0), .int .i64 (dg x 1), .int .i64 (dg x 2), .int .i64 (dg x 3), .int .i64 (dg x 4), .int .i64 (dg x 5), .int .i64 (dg x 6), .int .i64 (dg x 7)] 134)
  have qn := H8.new w1 x 134
  have s1 : w.heap.size + 1 < w1.heap.size := by (have := g1.grew; simp at this; omega)
  clear g1
  go_wp2_with fail
  refine (below_any x _).mono ?_
  rintro e w2 ⟨rfl, g2⟩
  replace G := (G.trans g2.gb).alloc #[.int .i64 0, .int .i64 0, .int .i64 0, .int .i64 0, .int .i64 0, .int .i64 0, .int .i64 0, .int .i64 0] 134
  replace q1 := (q1.gb g2.gb).alloc (.cells #[.int .i64 0, .int .i64 0, .int .i64 0, .int .i64 0, .int .i64 0, .int .i64 0, .int .i64 0, .int .i64 0] 134)
  replace qn := ((qn.gb g2.gb).alloc #[.int .i64 0, .int .i64 0, .int .i64 0, .int .i64 0, .int .i64 0, .int .i64 0, .int .i64 0, .int .i64 0] 134).congr (y := u) (fun k hk => by rw [dg_sv x k hk, hu.out])
  have qq := (H8.new0 w2 134).congr (y := qp Q 128) (fun k hk => by rw [qp_top Q (by rw [← hQ.out]; exact Int.ediv_nonneg u0 (by omega)) (by rw [← hQ.out]; exact Int.lt_of_le_of_lt (Int.ediv_le_self _ u0) u1)])
  have s2 : w1.heap.size < w2.heap.size := by (have := g2.grew; simp at this; omega)
  have D0 : Hid (DS w (w2.alloc (.cells #[.int .i64 0, .int .i64 0, .int .i64 0, .int .i64 0, .int .i64 0, .int .i64 0, .int .i64 0, .int .i64 0] 134)) w1.heap.size w2.heap.size u (qp Q 128)) := ⟨G, qn, qq, q1, by omega, by omega, by omega⟩
  clear G q1 qn qq g2
  have k0 : Hid (rp u d 128 = 0) := rp_top u d u0 u1
  go_wp2
  go_loopw [10, 11] (fun r i w' => ∃ m : Nat, m ≤ 8 ∧ i = .int .i64 ((m : Int) - 1) ∧ r = .int .u64 (rp u d (16 * m)) ∧ Hid (DS w w' w1.heap.size w2.heap.size u (qp Q (16 * m)))) (fun _ i _ => (intOf i + 1).toNat)
  case atStart => exact ⟨8, by decide, rfl, by rw [k0.out], D0⟩
  case round =>
    obtain ⟨m, hm, rfl, rfl, hD⟩ := hrel
    rename World => wr
    cases m with
    | zero =>
      have qq := hD.out.qq
      rw [Nat.mul_zero, qp_end] at qq
      rw [Nat.mul_zero, rp_end]
      obtain ⟨r1, r2, r3⟩ := hD.out.q1
      have fr : ∀ k, wr.frozen? ⟨w.heap.size + 1, k, none⟩ = false := fun k => (hD.out.gb.frozen _).trans (frozen?_new w _ k (by omega))
      have o0 := qq.c 0 (by decide)
      have o1 := qq.c 1 (by decide)
      have o2 := qq.c 2 (by decide)
      have o3 := qq.c 3 (by decide)
      have o4 := qq.c 4 (by decide)
      have o5 := qq.c 5 (by decide)
      have o6 := qq.c 6 (by decide)
      have o7 := qq.c 7 (by decide)
      go_wp2_with fail
      refine (told_any Q _).mono ?_
      rintro e w3 ⟨rfl, g3⟩
      obtain ⟨k3, f3⟩ := g3.gb.facts
      go_wp2
      refine bodyPost_ret (v := .tuple #[.agg #[.int .i64 (hiv (Q)), .int .u64 (lov (Q))], .int .u64 (u % d), .int .i64 0]) (by simp [results, Try.results75, go_sem, *]) rfl ⟨rfl, ?_⟩
      exact ((hD.out.gb.trans g3.gb).setCell (by simp) _).setCell (by simp) _
    | succ i =>
      have e0 : ((i + 1 : Nat) : Int) - 1 = (i : Int) := by omega
      rw [e0]
      have hi8 : i < 8 := by omega
      have i1 : (0 : Int) ≤ (i : Int) := by omega
      have i2 : (i : Int) < 8 := by omega
      go_wp2
      go_loopw [10, 12] (fun r k w' => ∃ b : Nat, b ≤ 16 ∧ k = .int .i64 ((2 : Int) ^ b / 2) ∧ r = .int .u64 (rp u d (16 * i + b)) ∧ Hid (DS w w' w1.heap.size w2.heap.size u (qp Q (16 * i + b)))) (fun _ k _ => (intOf k).toNat)
      case atStart => exact ⟨16, by decide, by simp, rfl, hD⟩
      case round =>
        clear hD
        obtain ⟨b, hb, rfl, rfl, hD⟩ := hrel
        cases b with
        | zero =>
          go_wp2
          go_roundw
          case rel => exact ⟨i, by omega, by go_num, rfl, hD⟩
          case measure => simp [intOf]
        | succ e =>
          rw [half_next e]
          have K1 := p2 e
          have K2 := p2_le e (by omega)
          have st := quo_step u d (16 * i + e) d0
          obtain ⟨R0, R1⟩ := rp_bd u d (16 * i + e + 1) d0
          have eb := bt_dg u i e (by omega)
          have b01 := bt_01 u (16 * i + e)
          have hbit := dg_bit Q i e (by omega)
          rw [hQ.out] at st
          have cn := hD.out.qn.c i hi8
          have cq := hD.out.qq.c i hi8
          have fq := (hD.out.gb.frozen ⟨w2.heap.size, i, none⟩).trans (frozen?_new w _ i hD.out.hq)
          rw [show 16 * i + (e + 1) = 16 * i + e + 1 by omega] at *
          have ST : Hid _ := st
          have HB : Hid _ := hbit
          clear st hbit
          obtain ⟨a0, a1⟩ := dg_bd u i
          obtain ⟨c0, c1⟩ := dg_bd (qp Q (16 * i + e + 1)) i
          obtain ⟨K, hK⟩ : ∃ K : Int, Hid ((2 : Int) ^ e = K) := ⟨(2 : Int) ^ e, Eq.refl ((2 : Int) ^ e)⟩
          rw [hK.out] at K1 K2 eb ⊢
          obtain ⟨R, hR⟩ : ∃ R : Int, Hid (rp u d (16 * i + e + 1) = R) := ⟨_, rfl⟩
          rw [hR.out] at R0 R1 ⊢
          have kz : ¬ K = 0 := by omega
          have pk : 0 ≤ dg u i / K := Int.ediv_nonneg a0 (by omega)
          have EB : Hid _ := eb
          clear eb
          have eb := EB
          clear EB
          by_cases o : 9223372036854775808 ≤ R
          · have t1 : decide (9223372036854775808 ≤ R) = true := by simpa using o
            have tw : IntKind.u64.wrap (2 * R) = 2 * R - 18446744073709551616 := by rw [IntKind.wrap_u64]; omega
            rcases b01 with b01 | b01
            · have tb : (dg u i / K % 2 == 1) = false := by rw [eb.out, b01]; decide
              have ts : IntKind.u64.wrap (2 * R - 18446744073709551616 - d) = 2 * R - d := by rw [IntKind.wrap_u64]; omega
              have st := ST.out
              rw [hR.out, b01] at st
              obtain ⟨F1, F2⟩ := st.1 (by omega)
              have E1 : Hid (rp u d (16 * i + e) = 2 * R - d) := by show _ = _; omega
              have DN := hD.out.put i hi8 (z := dg (qp Q (16 * i + e + 1)) i + K) (V' := qp Q (16 * i + e)) (fun k hk => by rw [F2, HB.out k, hK.out])
              have DM : Hid _ := DN
              clear st F1 F2 DN b01
              go_wp2
              go_roundw
              case rel => exact ⟨e, by omega, by rw [hK.out], by rw [E1.out], DM⟩
              case measure => simp [intOf]; omega
            · have tb : (dg u i / K % 2 == 1) = true := by rw [eb.out, b01]; decide
              have ts : IntKind.u64.wrap (2 * R - 18446744073709551616 + 1 - d) = 2 * R + 1 - d := by rw [IntKind.wrap_u64]; omega
              have st := ST.out
              rw [hR.out, b01] at st
              obtain ⟨F1, F2⟩ := st.1 (by omega)
              have E1 : Hid (rp u d (16 * i + e) = 2 * R + 1 - d) := by show _ = _; omega
              have DN := hD.out.put i hi8 (z := dg (qp Q (16 * i + e + 1)) i + K) (V' := qp Q (16 * i + e)) (fun k hk => by rw [F2, HB.out k, hK.out])
              have DM : Hid _ := DN
              clear st F1 F2 DN b01
              go_wp2
              go_roundw
              case rel => exact ⟨e, by omega, by rw [hK.out], by rw [E1.out], DM⟩
              case measure => simp [intOf]; omega
          · have t1 : decide (9223372036854775808 ≤ R) = false := by simpa using o
            rcases b01 with b01 | b01
            · by_cases o2 : d ≤ 2 * R
              · have tb : (dg u i / K % 2 == 1) = false := by rw [eb.out, b01]; decide
                have t3 : decide (d ≤ 2 * R) = true := by simp; omega
                have st := ST.out
                rw [hR.out, b01] at st
                obtain ⟨F1, F2⟩ := st.1 (by omega)
                have E1 : Hid (rp u d (16 * i + e) = 2 * R - d) := by show _ = _; omega
                have DN := hD.out.put i hi8 (z := dg (qp Q (16 * i + e + 1)) i + K) (V' := qp Q (16 * i + e)) (fun k hk => by rw [F2, HB.out k, hK.out])
                have DM : Hid _ := DN
                clear st F1 F2 DN b01
                go_wp2
                go_roundw
                case rel => exact ⟨e, by omega, by rw [hK.out], by rw [E1.out], DM⟩
                case measure => simp [intOf]; omega
              · have tb : (dg u i / K % 2 == 1) = false := by rw [eb.out, b01]; decide
                have t3 : decide (d ≤ 2 * R) = false := by simp; omega
                have st := ST.out
                rw [hR.out, b01] at st
                obtain ⟨F1, F2⟩ := st.2 (by omega)
                have E1 : Hid (rp u d (16 * i + e) = 2 * R) := by show _ = _; omega
                have DN := hD.out
                rw [← F2] at DN
                have DM : Hid _ := DN
                clear st F1 F2 DN b01
                go_wp2
                go_roundw
                case rel => exact ⟨e, by omega, by rw [hK.out], by rw [E1.out], DM⟩
                case measure => simp [intOf]; omega
            · by_cases o2 : d ≤ 2 * R + 1
              · have tb : (dg u i / K % 2 == 1) = true := by rw [eb.out, b01]; decide
                have t3 : decide (d ≤ 2 * R + 1) = true := by simp; omega
                have st := ST.out
                rw [hR.out, b01] at st
                obtain ⟨F1, F2⟩ := st.1 (by omega)
                have E1 : Hid (rp u d (16 * i + e) = 2 * R + 1 - d) := by show _ = _; omega
                have DN := hD.out.put i hi8 (z := dg (qp Q (16 * i + e + 1)) i + K) (V' := qp Q (16 * i + e)) (fun k hk => by rw [F2, HB.out k, hK.out])
                have DM : Hid _ := DN
                clear st F1 F2 DN b01
                go_wp2
                go_roundw
                case rel => exact ⟨e, by omega, by rw [hK.out], by rw [E1.out], DM⟩
                case measure => simp [intOf]; omega
              · have tb : (dg u i / K % 2 == 1) = true := by rw [eb.out, b01]; decide
                have t3 : decide (d ≤ 2 * R + 1) = false := by simp; omega
                have st := ST.out
                rw [hR.out, b01] at st
                obtain ⟨F1, F2⟩ := st.2 (by omega)
                have E1 : Hid (rp u d (16 * i + e) = 2 * R + 1) := by show _ = _; omega
                have DN := hD.out
                rw [← F2] at DN
                have DM : Hid _ := DN
                clear st F1 F2 DN b01
                go_wp2
                go_roundw
                case rel => exact ⟨e, by omega, by rw [hK.out], by rw [E1.out], DM⟩
                case measure => simp [intOf]; omega


set_option maxRecDepth 10000 in
set_option maxHeartbeats 8000000 in
theorem rdiv_neg (x d : Int) (hx : sv x < 0) (d0 : 0 < d) (d1 : d < 18446744073709551616) (w : World) :
    Calls Try.prog 75 #[.agg #[.int .i64 (hiv (x)), .int .u64 (lov (x))], .int .u64 d] w fun e w' => e = .returned (.tuple #[.agg #[.int .i64 (hiv (sv x / d)), .int .u64 (lov (sv x / d))], .int .u64 (sv x % d), .int .i64 0]) ∧ Gb w w' := by
  have hd : (d == 0) = false := by simp; omega
  have bx := below_dg x
  have v1 : decide (32768 ≤ dg x 7) = true := by simp; omega
  clear bx
  obtain ⟨u, hu⟩ : ∃ u, Hid (-sv x = u) := ⟨_, rfl⟩
  have u0 : 0 ≤ u := by rw [← hu.out]; omega
  have u1 : u < 2 ^ 128 := by rw [← hu.out, sv_eq]; omega
  obtain ⟨Q, hQ⟩ : ∃ Q, Hid (u / d = Q) := ⟨_, rfl⟩
  obtain ⟨Z, hZ⟩ : ∃ Z, Hid (sv x / d = Z) := ⟨_, rfl⟩
  obtain ⟨S, hS⟩ : ∃ S, Hid (sv x % d = S) := ⟨_, rfl⟩
  rw [hZ.out, hS.out]
  have hX : Hid (sv x = -u) := by show _ = _; have := hu.out; omega
  go_enter Try.func75, Try.ntmps75
  go_wp2_with fail
  have q1 := (H2.new (w.alloc (.cells #[.int .i64 (hiv x), .int .u64 (lov x)] 124)) (.int .i64 0) (.int .u64 0) 124).at (w.heap.size + 1) (by simp)
  have G : Gb w _ := ((Gb.refl w).alloc #[.int .i64 (hiv x), .int .u64 (lov x)] 124).alloc #[.int .i64 0, .int .u64 0] 124
  refine (rof_any x _).mono ?_
  rintro e w1 ⟨rfl, g1⟩
  replace G := (G.trans g1.gb).alloc #[.int .i64 (dg x 0), .int .i64 (dg x 1), .int .i64 (dg x 2), .int .i64 (dg x 3), .int .i64 (dg x 4), .int .i64 (dg x 5), .int .i64 (dg x 6), .int .i64 (dg x 7)] 134
  replace q1 := (q1.gb g1.gb).alloc (.cells #[.int .i64 (dg x 0), .int .i64 (dg x 1), .int .i64 (dg x 2), .int .i64 (dg x 3), .int .i64 (dg x 4), .int .i64 (dg x 5), .int .i64 (dg x 6), .int .i64 (dg x 7)] 134)
  have qn := H8.new w1 x 134
  have s1 : w.heap.size + 1 < w1.heap.size := by (have := g1.grew; simp at this; omega)
  clear g1
  go_wp2_with fail
  refine (below_any x _).mono ?_
  rintro e w2 ⟨rfl, g2⟩
  replace G := G.trans g2.gb
  replace q1 := q1.gb g2.gb
  replace qn := qn.gb g2.gb
  have tt0 := qn.c 0 (by decide)
  have tt1 := qn.c 1 (by decide)
  have tt2 := qn.c 2 (by decide)
  have tt3 := qn.c 3 (by decide)
  have tt4 := qn.c 4 (by decide)
  have tt5 := qn.c 5 (by decide)
  have tt6 := qn.c 6 (by decide)
  have tt7 := qn.c 7 (by decide)
  have s2 : w1.heap.size < w2.heap.size := by (have := g2.grew; simp at this; omega)
  have fn : ∀ k, w2.frozen? ⟨w1.heap.size, k, none⟩ = false := fun k => (G.frozen _).trans (frozen?_new w _ k (by omega))
  clear g2
  go_wp2_with fail
  refine (less_any x _).mono ?_
  rintro e w3 ⟨rfl, g3⟩
  obtain ⟨k3, f3⟩ := g3.gb.facts
  have n1 : w.heap.size + 1 ≠ w1.heap.size := by omega
  replace G := (((G.trans g3.gb).set8 (b := w1.heap.size) (by omega) (.int .i64 (dg (-x) 0)) (.int .i64 (dg (-x) 1)) (.int .i64 (dg (-x) 2)) (.int .i64 (dg (-x) 3)) (.int .i64 (dg (-x) 4)) (.int .i64 (dg (-x) 5)) (.int .i64 (dg (-x) 6)) (.int .i64 (dg (-x) 7))).alloc #[.int .i64 0, .int .i64 0, .int .i64 0, .int .i64 0, .int .i64 0, .int .i64 0, .int .i64 0, .int .i64 0] 134)
  replace q1 := ((q1.gb g3.gb).far8 n1 (.int .i64 (dg (-x) 0)) (.int .i64 (dg (-x) 1)) (.int .i64 (dg (-x) 2)) (.int .i64 (dg (-x) 3)) (.int .i64 (dg (-x) 4)) (.int .i64 (dg (-x) 5)) (.int .i64 (dg (-x) 6)) (.int .i64 (dg (-x) 7))).alloc (.cells #[.int .i64 0, .int .i64 0, .int .i64 0, .int .i64 0, .int .i64 0, .int .i64 0, .int .i64 0, .int .i64 0] 134)
  replace qn := (((qn.gb g3.gb).set (z := -x)).alloc #[.int .i64 0, .int .i64 0, .int .i64 0, .int .i64 0, .int .i64 0, .int .i64 0, .int .i64 0, .int .i64 0] 134).congr (y := u) (fun k hk => by rw [dg_neg x k hk, hu.out])
  have qq := (H8.new0 (((((((((w3.setCell ⟨w1.heap.size, 0, none⟩ (.int .i64 (dg (-x) 0))).setCell ⟨w1.heap.size, 1, none⟩ (.int .i64 (dg (-x) 1))).setCell ⟨w1.heap.size, 2, none⟩ (.int .i64 (dg (-x) 2))).setCell ⟨w1.heap.size, 3, none⟩ (.int .i64 (dg (-x) 3))).setCell ⟨w1.heap.size, 4, none⟩ (.int .i64 (dg (-x) 4))).setCell ⟨w1.heap.size, 5, none⟩ (.int .i64 (dg (-x) 5))).setCell ⟨w1.heap.size, 6, none⟩ (.int .i64 (dg (-x) 6))).setCell ⟨w1.heap.size, 7, none⟩ (.int .i64 (dg (-x) 7)))) 134).congr (y := qp Q 128) (fun k hk => by rw [qp_top Q (by rw [← hQ.out]; exact Int.ediv_nonneg u0 (by omega)) (by rw [← hQ.out]; exact Int.lt_of_le_of_lt (Int.ediv_le_self _ u0) u1)])
  have s3 : w2.heap.size < w3.heap.size := by (have := g3.grew; omega)
  replace qq := qq.at w3.heap.size _ (by simp [World.setCell]) rfl
  have D0 : Hid (DS w ((((((((((w3.setCell ⟨w1.heap.size, 0, none⟩ (.int .i64 (dg (-x) 0))).setCell ⟨w1.heap.size, 1, none⟩ (.int .i64 (dg (-x) 1))).setCell ⟨w1.heap.size, 2, none⟩ (.int .i64 (dg (-x) 2))).setCell ⟨w1.heap.size, 3, none⟩ (.int .i64 (dg (-x) 3))).setCell ⟨w1.heap.size, 4, none⟩ (.int .i64 (dg (-x) 4))).setCell ⟨w1.heap.size, 5, none⟩ (.int .i64 (dg (-x) 5))).setCell ⟨w1.heap.size, 6, none⟩ (.int .i64 (dg (-x) 6))).setCell ⟨w1.heap.size, 7, none⟩ (.int .i64 (dg (-x) 7)))).alloc (.cells #[.int .i64 0, .int .i64 0, .int .i64 0, .int .i64 0, .int .i64 0, .int .i64 0, .int .i64 0, .int .i64 0] 134)) w1.heap.size w3.heap.size u (qp Q 128)) := ⟨G, qn, qq, q1, by omega, by omega, by omega⟩
  clear G q1 qn qq
  have k0 : Hid (rp u d 128 = 0) := rp_top u d u0 u1
  go_wp2
  clear tt0 tt1 tt2 tt3 tt4 tt5 tt6 tt7 g3 k3 f3 fn
  go_loopw [10, 11] (fun r i w' => ∃ m : Nat, m ≤ 8 ∧ i = .int .i64 ((m : Int) - 1) ∧ r = .int .u64 (rp u d (16 * m)) ∧ Hid (DS w w' w1.heap.size w3.heap.size u (qp Q (16 * m)))) (fun _ i _ => (intOf i + 1).toNat)
  case atStart => exact ⟨8, by decide, rfl, by rw [k0.out], D0⟩
  case round =>
    obtain ⟨m, hm, rfl, rfl, hD⟩ := hrel
    rename World => wr
    cases m with
    | zero =>
      have qq := hD.out.qq
      rw [Nat.mul_zero, qp_end] at qq
      rw [Nat.mul_zero, rp_end]
      obtain ⟨r1, r2, r3⟩ := hD.out.q1
      have fr : ∀ k, wr.frozen? ⟨w.heap.size + 1, k, none⟩ = false := fun k => (hD.out.gb.frozen _).trans (frozen?_new w _ k (by omega))
      have o0 := qq.c 0 (by decide)
      have o1 := qq.c 1 (by decide)
      have o2 := qq.c 2 (by decide)
      have o3 := qq.c 3 (by decide)
      have o4 := qq.c 4 (by decide)
      have o5 := qq.c 5 (by decide)
      have o6 := qq.c 6 (by decide)
      have o7 := qq.c 7 (by decide)
      have hq1 : w3.heap.size < wr.heap.size := hD.out.qq.lt
      have hq2 : w3.heap.size < wr.heap.size + 1 := by omega
      have fb : ∀ k, wr.frozen? ⟨w3.heap.size, k, none⟩ = false := fun k => (hD.out.gb.frozen _).trans (frozen?_new w _ k hD.out.hq)
      obtain ⟨m0, m1⟩ := rp_bd u d 0 d0
      rw [rp_end] at m0 m1
      by_cases hr : u % d = 0
      · obtain ⟨N1, N2⟩ := neg_even u d d0 hr
        rw [hQ.out] at N1
        obtain rfl : Z = -Q := by rw [← hZ.out, hX.out, N1]
        obtain rfl : S = 0 := by rw [← hS.out, hX.out, N2]
        rw [hr]
        clear N1 N2
        go_wp2_with fail
        refine (less_any Q _).mono ?_
        rintro e w4 ⟨rfl, g4⟩
        obtain ⟨k4, f4⟩ := g4.gb.facts
        have p4 := (H2.mk r1 r2 r3).gb g4.gb
        go_wp2_with fail
        refine (told_any (-Q) _).mono ?_
        rintro e w5 ⟨rfl, g5⟩
        have f5 := g5.gb.frozen
        obtain ⟨p5, p6, p7⟩ := p4.gb g5.gb
        go_wp2
        refine bodyPost_ret (v := .tuple #[.agg #[.int .i64 (hiv (-Q)), .int .u64 (lov (-Q))], .int .u64 0, .int .i64 0]) (by simp [results, Try.results75, go_sem, *]) rfl ⟨rfl, ?_⟩
        exact (((hD.out.gb.trans g4.gb).trans g5.gb).setCell (by simp) _).setCell (by simp) _
      · obtain ⟨N1, N2⟩ := neg_odd u d d0 hr
        rw [hQ.out] at N1
        obtain rfl : Z = -(Q + 1) := by rw [← hZ.out, hX.out, N1]
        obtain rfl : S = d - u % d := by rw [← hS.out, hX.out, N2]
        clear N1 N2
        have m2 : 0 < u % d := by omega
        have m3 : decide (0 < u % d) = true := by simpa using m2
        clear hr
        go_wp2_with fail
        refine (plus_one Q (Q + 1) rfl _).mono ?_
        rintro e w4 ⟨rfl, g4⟩
        obtain ⟨k4, f4⟩ := g4.gb.facts
        have p4 := (((H2.mk r1 r2 r3).alloc (.cells #[.int .i64 1, .int .i64 0, .int .i64 0, .int .i64 0, .int .i64 0, .int .i64 0, .int .i64 0, .int .i64 0] 134)).gb g4.gb).far8 hD.out.n1 (.int .i64 (dg (Q + 1) 0)) (.int .i64 (dg (Q + 1) 1)) (.int .i64 (dg (Q + 1) 2)) (.int .i64 (dg (Q + 1) 3)) (.int .i64 (dg (Q + 1) 4)) (.int .i64 (dg (Q + 1) 5)) (.int .i64 (dg (Q + 1) 6)) (.int .i64 (dg (Q + 1) 7))
        have G4 := ((hD.out.gb.alloc #[.int .i64 1, .int .i64 0, .int .i64 0, .int .i64 0, .int .i64 0, .int .i64 0, .int .i64 0, .int .i64 0] 134).trans g4.gb).set8 hD.out.hq (.int .i64 (dg (Q + 1) 0)) (.int .i64 (dg (Q + 1) 1)) (.int .i64 (dg (Q + 1) 2)) (.int .i64 (dg (Q + 1) 3)) (.int .i64 (dg (Q + 1) 4)) (.int .i64 (dg (Q + 1) 5)) (.int .i64 (dg (Q + 1) 6)) (.int .i64 (dg (Q + 1) 7))
        go_wp2_with fail
        refine (less_any (Q + 1) _).mono ?_
        rintro e w5 ⟨rfl, g5⟩
        have f5 := g5.gb.frozen
        have p5 := p4.gb g5.gb
        go_wp2_with fail
        refine (told_any (-(Q + 1)) _).mono ?_
        rintro e w6 ⟨rfl, g6⟩
        have f6 := g6.gb.frozen
        obtain ⟨p6, p7, p8⟩ := p5.gb g6.gb
        go_wp2
        refine bodyPost_ret (v := .tuple #[.agg #[.int .i64 (hiv (-(Q + 1))), .int .u64 (lov (-(Q + 1)))], .int .u64 (d - u % d), .int .i64 0]) (by simp [results, Try.results75, go_sem, p7, p8]) rfl ⟨rfl, ?_⟩
        exact (((G4.trans g5.gb).trans g6.gb).setCell (by simp) _).setCell (by simp) _
    | succ i =>
      have e0 : ((i + 1 : Nat) : Int) - 1 = (i : Int) := by omega
      rw [e0]
      have hi8 : i < 8 := by omega
      have i1 : (0 : Int) ≤ (i : Int) := by omega
      have i2 : (i : Int) < 8 := by omega
      go_wp2
      go_loopw [10, 12] (fun r k w' => ∃ b : Nat, b ≤ 16 ∧ k = .int .i64 ((2 : Int) ^ b / 2) ∧ r = .int .u64 (rp u d (16 * i + b)) ∧ Hid (DS w w' w1.heap.size w3.heap.size u (qp Q (16 * i + b)))) (fun _ k _ => (intOf k).toNat)
      case atStart => exact ⟨16, by decide, by simp, rfl, hD⟩
      case round =>
        clear hD
        obtain ⟨b, hb, rfl, rfl, hD⟩ := hrel
        cases b with
        | zero =>
          go_wp2
          go_roundw
          case rel => exact ⟨i, by omega, by go_num, rfl, hD⟩
          case measure => simp [intOf]
        | succ e =>
          rw [half_next e]
          have K1 := p2 e
          have K2 := p2_le e (by omega)
          have st := quo_step u d (16 * i + e) d0
          obtain ⟨R0, R1⟩ := rp_bd u d (16 * i + e + 1) d0
          have eb := bt_dg u i e (by omega)
          have b01 := bt_01 u (16 * i + e)
          have hbit := dg_bit Q i e (by omega)
          rw [hQ.out] at st
          have cn := hD.out.qn.c i hi8
          have cq := hD.out.qq.c i hi8
          have fq := (hD.out.gb.frozen ⟨w3.heap.size, i, none⟩).trans (frozen?_new w _ i hD.out.hq)
          rw [show 16 * i + (e + 1) = 16 * i + e + 1 by omega] at *
          have ST : Hid _ := st
          have HB : Hid _ := hbit
          clear st hbit
          obtain ⟨a0, a1⟩ := dg_bd u i
          obtain ⟨c0, c1⟩ := dg_bd (qp Q (16 * i + e + 1)) i
          obtain ⟨K, hK⟩ : ∃ K : Int, Hid ((2 : Int) ^ e = K) := ⟨(2 : Int) ^ e, Eq.refl ((2 : Int) ^ e)⟩
          rw [hK.out] at K1 K2 eb ⊢
          obtain ⟨R, hR⟩ : ∃ R : Int, Hid (rp u d (16 * i + e + 1) = R) := ⟨_, rfl⟩
          rw [hR.out] at R0 R1 ⊢
          have kz : ¬ K = 0 := by omega
          have pk : 0 ≤ dg u i / K := Int.ediv_nonneg a0 (by omega)
          have EB : Hid _ := eb
          clear eb
          have eb := EB
          clear EB
          by_cases o : 9223372036854775808 ≤ R
          · have t1 : decide (9223372036854775808 ≤ R) = true := by simpa using o
            have tw : IntKind.u64.wrap (2 * R) = 2 * R - 18446744073709551616 := by rw [IntKind.wrap_u64]; omega
            rcases b01 with b01 | b01
            · have tb : (dg u i / K % 2 == 1) = false := by rw [eb.out, b01]; decide
              have ts : IntKind.u64.wrap (2 * R - 18446744073709551616 - d) = 2 * R - d := by rw [IntKind.wrap_u64]; omega
              have st := ST.out
              rw [hR.out, b01] at st
              obtain ⟨F1, F2⟩ := st.1 (by omega)
              have E1 : Hid (rp u d (16 * i + e) = 2 * R - d) := by show _ = _; omega
              have DN := hD.out.put i hi8 (z := dg (qp Q (16 * i + e + 1)) i + K) (V' := qp Q (16 * i + e)) (fun k hk => by rw [F2, HB.out k, hK.out])
              have DM : Hid _ := DN
              clear st F1 F2 DN b01
              go_wp2
              go_roundw
              case rel => exact ⟨e, by omega, by rw [hK.out], by rw [E1.out], DM⟩
              case measure => simp [intOf]; omega
            · have tb : (dg u i / K % 2 == 1) = true := by rw [eb.out, b01]; decide
              have ts : IntKind.u64.wrap (2 * R - 18446744073709551616 + 1 - d) = 2 * R + 1 - d := by rw [IntKind.wrap_u64]; omega
              have st := ST.out
              rw [hR.out, b01] at st
              obtain ⟨F1, F2⟩ := st.1 (by omega)
              have E1 : Hid (rp u d (16 * i + e) = 2 * R + 1 - d) := by show _ = _; omega
              have DN := hD.out.put i hi8 (z := dg (qp Q (16 * i + e + 1)) i + K) (V' := qp Q (16 * i + e)) (fun k hk => by rw [F2, HB.out k, hK.out])
              have DM : Hid _ := DN
              clear st F1 F2 DN b01
              go_wp2
              go_roundw
              case rel => exact ⟨e, by omega, by rw [hK.out], by rw [E1.out], DM⟩
              case measure => simp [intOf]; omega
          · have t1 : decide (9223372036854775808 ≤ R) = false := by simpa using o
            rcases b01 with b01 | b01
            · by_cases o2 : d ≤ 2 * R
              · have tb : (dg u i / K % 2 == 1) = false := by rw [eb.out, b01]; decide
                have t3 : decide (d ≤ 2 * R) = true := by simp; omega
                have st := ST.out
                rw [hR.out, b01] at st
                obtain ⟨F1, F2⟩ := st.1 (by omega)
                have E1 : Hid (rp u d (16 * i + e) = 2 * R - d) := by show _ = _; omega
                have DN := hD.out.put i hi8 (z := dg (qp Q (16 * i + e + 1)) i + K) (V' := qp Q (16 * i + e)) (fun k hk => by rw [F2, HB.out k, hK.out])
                have DM : Hid _ := DN
                clear st F1 F2 DN b01
                go_wp2
                go_roundw
                case rel => exact ⟨e, by omega, by rw [hK.out], by rw [E1.out], DM⟩
                case measure => simp [intOf]; omega
              · have tb : (dg u i / K % 2 == 1) = false := by rw [eb.out, b01]; decide
                have t3 : decide (d ≤ 2 * R) = false := by simp; omega
                have st := ST.out
                rw [hR.out, b01] at st
                obtain ⟨F1, F2⟩ := st.2 (by omega)
                have E1 : Hid (rp u d (16 * i + e) = 2 * R) := by show _ = _; omega
                have DN := hD.out
                rw [← F2] at DN
                have DM : Hid _ := DN
                clear st F1 F2 DN b01
                go_wp2
                go_roundw
                case rel => exact ⟨e, by omega, by rw [hK.out], by rw [E1.out], DM⟩
                case measure => simp [intOf]; omega
            · by_cases o2 : d ≤ 2 * R + 1
              · have tb : (dg u i / K % 2 == 1) = true := by rw [eb.out, b01]; decide
                have t3 : decide (d ≤ 2 * R + 1) = true := by simp; omega
                have st := ST.out
                rw [hR.out, b01] at st
                obtain ⟨F1, F2⟩ := st.1 (by omega)
                have E1 : Hid (rp u d (16 * i + e) = 2 * R + 1 - d) := by show _ = _; omega
                have DN := hD.out.put i hi8 (z := dg (qp Q (16 * i + e + 1)) i + K) (V' := qp Q (16 * i + e)) (fun k hk => by rw [F2, HB.out k, hK.out])
                have DM : Hid _ := DN
                clear st F1 F2 DN b01
                go_wp2
                go_roundw
                case rel => exact ⟨e, by omega, by rw [hK.out], by rw [E1.out], DM⟩
                case measure => simp [intOf]; omega
              · have tb : (dg u i / K % 2 == 1) = true := by rw [eb.out, b01]; decide
                have t3 : decide (d ≤ 2 * R + 1) = false := by simp; omega
                have st := ST.out
                rw [hR.out, b01] at st
                obtain ⟨F1, F2⟩ := st.2 (by omega)
                have E1 : Hid (rp u d (16 * i + e) = 2 * R + 1) := by show _ = _; omega
                have DN := hD.out
                rw [← F2] at DN
                have DM : Hid _ := DN
                clear st F1 F2 DN b01
                go_wp2
                go_roundw
                case rel => exact ⟨e, by omega, by rw [hK.out], by rw [E1.out], DM⟩
                case measure => simp [intOf]; omega


theorem rdiv_zero (x : Int) (w : World) :
    Calls Try.prog 75 #[.agg #[.int .i64 (hiv (x)), .int .u64 (lov (x))], .int .u64 0] w fun e w' => e = .returned (.tuple #[.agg #[.int .i64 0, .int .u64 0], .int .u64 0, .int .i64 10]) ∧ Gb w w' := by
  go_enter Try.func75, Try.ntmps75
  go_wp2
  refine bodyPost_ret (v := .tuple #[.agg #[.int .i64 0, .int .u64 0], .int .u64 0, .int .i64 10]) (by simp [results, Try.results75, go_sem]) rfl ⟨rfl, ?_⟩
  exact ((Gb.refl _).alloc _ _).alloc _ _
theorem rdiv_any (x d : Int) (d0 : 0 < d) (d1 : d < 18446744073709551616) (w : World) :
    Calls Try.prog 75 #[.agg #[.int .i64 (hiv (x)), .int .u64 (lov (x))], .int .u64 d] w fun e w' => e = .returned (.tuple #[.agg #[.int .i64 (hiv (sv x / d)), .int .u64 (lov (sv x / d))], .int .u64 (sv x % d), .int .i64 0]) ∧ Gb w w' := by
  by_cases hx : 0 ≤ sv x
  · exact rdiv_pos x d hx d0 d1 w
  · exact rdiv_neg x d (by omega) d0 d1 w


end Go.Proofs.Ytapjipinceoaoaa
