/- lay: the walk. -/
import Derived.Test.YtlocnkoeffoflaaCLay
import Derived.Deep.DeepCutAuto
namespace Go.Proofs.Ytlocnkoeffoflaa
open Go.RowKit
set_option linter.unusedVariables false

theorem pt_one (x y : Int) : ∀ u ∈ [Value.int .u64 x, .int .i64 y], u.oneCell' = true := by
  intro u hu
  rcases List.mem_cons.1 hu with rfl | hu
  · rfl
  · rcases List.mem_cons.1 hu with rfl | hu
    · rfl
    · cases hu
theorem Mid.len1 {w wc : World} {p o : Nat} {B : Array Value} {T : TypeId} {v : Value} {m : Nat} {xs : List Value} {x y : Int} (M : Mid w wc p o B T v m xs x y) : m + 1 ≤ maxLen := by have := M.ml; simp [maxLen]; omega
theorem Mid.len2 {w wc : World} {p o : Nat} {B : Array Value} {T : TypeId} {v : Value} {m : Nat} {xs : List Value} {x y : Int} (M : Mid w wc p o B T v m xs x y) : (m + 1) * 16 ≤ 140737488355328 := by have := M.ml; omega

/-- What lay leaves. -/
def Laid (w w' : World) (p o : Nat) (B : Array Value) (T : TypeId) (v : Value) (f : Nat → Int) (n : Nat) (x s h : Int) : Prop :=
  (∃ v' m' c', Blk w' p (B.setIfInBounds (o + 1) v') T ∧ w'.ownsRow 0 64 2 v' m' (pcells (upd f n x) c' h m') ∧ Chn (upd f n x) (fun j => s * (j : Int)) (n + 1) m' c' ∧ (∀ q, v'.ownBlock = some q → (v.ownBlock = some q ∨ w.heap.size ≤ q) ∧ q ≠ p)) ∧ Gs (fun q => q = p ∨ v.ownBlock = some q) w w'

theorem laid_mk {w wc w7 : World} {p o : Nat} {B B2 : Array Value} {T : TypeId} {v v0 : Value} {m : Nat} {xs : List Value} {x y s h : Int} {f : Nat → Int} {n : Nat} {c' : Nat → Nat} {g cap : Nat} (M : Mid w wc p o B2 T v m xs x y) (G : Gs (fun q => q = p ∨ v0.ownBlock = some q) w wc) (hv : v.ownBlock = v0.ownBlock)
    (q1 : w7.ownsRow 0 64 2 (.slice (some ⟨g, 0, none⟩) (m + 1) cap) (m + 1) (xs ++ [.int .u64 x, .int .i64 y])) (q2 : (wc.drew.alloc (.cells #[.int .u64 x, .int .i64 y] 64)).grownBy w7 v.ownBlock) (q3 : v.ownBlock = some g ∨ g = (wc.drew.alloc (.cells #[.int .u64 x, .int .i64 y] 64)).heap.size)
    (hc : Chn (upd f n x) (fun j => s * (j : Int)) (n + 1) (m + 1) c') (hp : xs ++ [.int .u64 x, .int .i64 y] = pcells (upd f n x) c' h (m + 1)) (hB : ∀ u, B2.setIfInBounds (o + 1) u = B.setIfInBounds (o + 1) u) :
    Laid w (w7.setCell ⟨p, o + 1, none⟩ (.slice (some ⟨g, 0, none⟩) (m + 1) cap)) p o B T v0 f n x s h := by
  have B7 := M.after q2
  have gp : g ≠ p := by
    rcases q3 with r | r
    · intro e; rw [e] at r; exact M.ne r
    · have := M.blk.lt; simp at r; omega
  refine ⟨⟨.slice (some ⟨g, 0, none⟩) (m + 1) cap, m + 1, c', ?_, ?_, hc, ?_⟩, M.gs G hv q2 _⟩
  · rw [← hB]; exact B7.set _ _
  · rw [← hp]
    refine own_keep q1 fun q hq => ?_
    cases hq
    exact Go.Deep.blk_setCell_other _ _ _ _ gp
  · intro q hq
    cases hq
    refine ⟨?_, gp⟩
    rcases q3 with r | r
    · exact .inl (by rw [← hv]; exact r)
    · right
      have := G.size
      simp at r
      show w.heap.size ≤ g
      omega

theorem mid_cut {w w4 : World} {p o g m cap t : Nat} {B : Array Value} {T : TypeId} {f : Nat → Int} {c : Nat → Nat} {x y h : Int} (F1 : Blk w4 p B T) (F2 : Bx w4 w.heap.size 64 (.int .u64 x) (.int .i64 y)) (F3 : w4.ownsRow 0 64 2 (.slice (some ⟨g, 0, none⟩) m cap) m (pcells f c h m)) (tm : t < m) (m4 : m ≤ 4000000) (gp : g ≠ p) (bo : ∀ u : Value, (B.setIfInBounds (o + 1) u)[o + 1]? = some u) (lp : p < w.heap.size) :
    Mid w (w4.setCell ⟨p, o + 1, none⟩ (.slice (some ⟨g, 0, none⟩) (t + 1) cap)) p o (B.setIfInBounds (o + 1) (.slice (some ⟨g, 0, none⟩) (t + 1) cap)) T (.slice (some ⟨g, 0, none⟩) (t + 1) cap) (t + 1) (pcells f c h (t + 1)) x y :=
  ⟨F1.set _ _, bo _, own_keep (own_cut F3 (by omega)) (fun q hq => by cases hq; exact Go.Deep.blk_setCell_other _ _ _ _ gp), (fun q => by cases q; exact gp rfl), F2.far _ (by omega), by omega⟩

set_option maxHeartbeats 4000000 in
theorem lay_first {w : World} {p o : Nat} {B : Array Value} {T : TypeId} {s h : Int} {f : Nat → Int} (h0 : -63 ≤ h) (h1 : h ≤ 63) (x : Int) (x0 : 0 ≤ x) (x1 : x < 18446744073709551616)
    (hb : Blk w p B T) (hB1 : B[o + 1]? = some (.slice none 0 0)) :
    Calls Try.prog 28 #[.pointer (some ⟨p, o, none⟩), .agg #[.int .u64 x, .int .i64 h]] w fun e w' => e = .returned (.tuple #[]) ∧ Laid w w' p o B T (.slice none 0 0) f 0 x s h := by
  have M : Mid w (w.alloc (.cells #[.int .u64 x, .int .i64 h] 64)) p o B T (.slice none 0 0) 0 [] x h :=
    ⟨hb.gw ((Gw.refl w).alloc _ _), hB1, World.ownsRow_nil _ _ _ _, by simp [Value.ownBlock], Bx.new _ _ _ _, by omega⟩
  have G0 : Gs (fun q => q = p ∨ (Value.slice none 0 0).ownBlock = some q) w (w.alloc (.cells #[.int .u64 x, .int .i64 h] 64)) := ((Gw.refl w).alloc _ _).gs _
  have PC : Hid ([] ++ [.int .u64 x, .int .i64 h] = pcells (upd f 0 x) (fun _ => 0) h (0 + 1)) := by
    show _ = [] ++ [Value.int .u64 (upd f 0 x 0), .int .i64 (((0 : Nat) : Int) + h)]
    rw [upd_at]
    simp
  have c1 := hb.cell hB1
  have lp := hb.lt
  obtain ⟨ii, hii, hz, hs, hby⟩ := info_parts info_pt
  clear hb
  go_enter Try.func28, Try.ntmps28
  go_wp2_with fail
  generalize w.alloc (.cells #[.int .u64 x, .int .i64 h] 64) = wc at M G0 ⊢
  clear c1
  have M' : Hid (Mid w wc p o (B) T (.slice none 0 0) (0) ([]) x (h)) := M
  have G' : Hid (Gs (fun q => q = p ∨ (Value.slice none 0 0).ownBlock = some q) w wc) := G0
  have d1 := M'.out.blk.cell M'.out.bo
  have d2 := M'.out.bx.c0
  have d3 := M'.out.bx.c1
  have d4 := M'.out.blk.fz (o + 1)
  have d5 := M'.out.blk.lt
  have ONE : Hid (∀ u ∈ [Value.int .u64 x, .int .i64 (h)], u.oneCell' = true) := pt_one x (h)
  clear M G0
  go_region_law (refine step_append_lies _ rfl (.tmp 26) (.tmp 28) 53 rfl 0 64 ii _ 2 16 Try.underlying53 hii hz hs hby rfl (by decide) (.slice none 0 0) (0) ([]) (by simp [Act.eval]) M'.out.own1 ⟨wc.heap.size, 0, none⟩ 1 1 [.int .u64 x, .int .i64 (h)] (by simp [Act.eval]) rfl M'.out.news ONE.out (by decide) (M'.out.len1) (M'.out.len2) (by omega) _ rfl ?_; intro g' cap' w7 q1 q2 q3 q4; have B7 : Hid (Blk w7 p (B) T) := M'.out.after q2; have e1 := B7.out.cell M'.out.bo; have e2 := B7.out.fz (o + 1); have FIN : Hid (Laid w (w7.setCell ⟨p, o + 1, none⟩ (.slice (some ⟨g', 0, none⟩) (0 + 1) cap')) p o B T (Value.slice none 0 0) f (0) x s h) := (laid_mk M'.out G'.out rfl q1 q2 q3 (chn_one _ _) PC.out (fun _ => rfl)); clear q1 q2 q3)
  all_goals
    clear d1 d2 d3 d4 d5
    go_wp2
    go_end0
    exact ⟨rfl, FIN.out⟩

set_option maxHeartbeats 8000000 in
theorem lay_more {w : World} {p o g m cap : Nat} {B : Array Value} {T : TypeId} {s h : Int} {f : Nat → Int} {n : Nat} {c : Nat → Nat} (kb : KB f n) (hn : 0 < n) (hs' : s = 1 ∨ s = -1) (h0 : -63 ≤ h) (h1 : h ≤ 63) (x : Int) (hx : f (n - 1) < x) (x1 : x < 18446744073709551616)
    (hb : Blk w p B T) (hB0 : B[o]? = some (.int .i64 s)) (hB1 : B[o + 1]? = some (.slice (some ⟨g, 0, none⟩) m cap)) (own : w.ownsRow 0 64 2 (.slice (some ⟨g, 0, none⟩) m cap) m (pcells f c h m)) (gp : g ≠ p) (ch : Chn f (fun j => s * (j : Int)) n m c) :
    Calls Try.prog 28 #[.pointer (some ⟨p, o, none⟩), .agg #[.int .u64 x, .int .i64 ((n : Int) + h)]] w fun e w' => e = .returned (.tuple #[]) ∧ Laid w w' p o B T (.slice (some ⟨g, 0, none⟩) m cap) f n x s h := by
  have nl := kb.len
  have CC : CH w p o g m cap s h f n c := ⟨hb.lt, hb.cell hB0, hb.cell hB1, ps_own own, ch⟩
  have TA : Hid (∀ W, Gw w W → Calls Try.prog 32 #[.pointer (some ⟨p, o, none⟩), .agg #[.int .u64 x, .int .i64 ((n : Int) + h)]] W fun e w' => (∃ t : Nat, e = .returned (.int .i64 t) ∧ Tch f (fun j => s * (j : Int)) m c x (s * (n : Int)) t) ∧ Gw W w') := by
    show ∀ W, Gw w W → Calls Try.prog 32 #[.pointer (some ⟨p, o, none⟩), .agg #[.int .u64 x, .int .i64 ((n : Int) + h)]] W fun e w' => (∃ t : Nat, e = .returned (.int .i64 t) ∧ Tch f (fun j => s * (j : Int)) m c x (s * (n : Int)) t) ∧ Gw W w'
    intro W G
    have := touch_any kb hs' h0 h1 x ((n : Int) + h) hx x1 (by omega) (by omega) W (CC.gw G)
    rw [show (n : Int) + h - h = n by omega] at this
    exact this
  have ML := own_cap own
  have m4 : m ≤ 4000000 := by have := ch.len; omega
  have m0 : 0 < m := ch.pos
  have FX : Hid (∀ W, Gw (w.alloc (.cells #[.int .u64 x, .int .i64 ((n : Int) + h)] 64)) W → Blk W p B T ∧ Bx W w.heap.size 64 (.int .u64 x) (.int .i64 ((n : Int) + h)) ∧ W.ownsRow 0 64 2 (.slice (some ⟨g, 0, none⟩) m cap) m (pcells f c h m) ∧ Gw w W) := by
    intro W G
    have G1 := ((Gw.refl w).alloc #[.int .u64 x, .int .i64 ((n : Int) + h)] 64).trans G
    exact ⟨hb.gw G1, (Bx.new _ _ _ _).gw G, own_keep own fun q hq => G1.below.block q (own.lt q hq).2, G1⟩
  have CHN : Hid (∀ t, Tch f (fun j => s * (j : Int)) m c x (s * (n : Int)) t → Chn (upd f n x) (fun j => s * (j : Int)) (n + 1) (t + 1 + 1) (cput c (t + 1) n) ∧ pcells f c h (t + 1) ++ [.int .u64 x, .int .i64 ((n : Int) + h)] = pcells (upd f n x) (cput c (t + 1) n) h (t + 1 + 1)) := by
    intro t ht
    refine ⟨ch.lay kb.up hx ht, ?_⟩
    have e : pcells (upd f n x) (cput c (t + 1) n) h (t + 1 + 1) = pcells (upd f n x) (cput c (t + 1) n) h (t + 1) ++ [.int .u64 (upd f n x (cput c (t + 1) n (t + 1))), .int .i64 ((cput c (t + 1) n (t + 1) : Int) + h)] := rfl
    rw [e, cput_at, upd_at]
    congr 1
    refine pcells_congr h fun i hi => ?_
    have tl := ht.lt
    have bd := ch.bd (show i < m by omega)
    rw [cput_lo hi, upd_lo bd]
    exact ⟨rfl, rfl⟩
  have BO : Hid (∀ u : Value, (B.setIfInBounds (o + 1) u)[o + 1]? = some u) := by
    intro u
    have : o + 1 < B.size := (Array.getElem?_eq_some_iff.1 hB1).1
    simp [this]
  have c1 := hb.cell hB1
  have lp := hb.lt
  have f1 := hb.fz (o + 1)
  obtain ⟨ii, hii, hz, hs, hby⟩ := info_parts info_pt
  have HH : Hid (Try.prog.info? 64 = some ii ∧ ii.zero = some (.agg #[.int .u64 0, .int .i64 0]) ∧ ii.size = 2 ∧ ii.bytes = 16) := ⟨hii, hz, hs, hby⟩
  clear hb CC own ch hii hz hs hby kb
  go_enter Try.func28, Try.ntmps28
  go_wp2_with fail
  go_cut [] (fun wc => ∃ t : Nat, Aside (Tch f (fun j => s * (j : Int)) m c x (s * (n : Int)) t) ∧ Aside (Mid w wc p o (B.setIfInBounds (o + 1) (.slice (some ⟨g, 0, none⟩) (t + 1) cap)) T (.slice (some ⟨g, 0, none⟩) (t + 1) cap) (t + 1) (pcells f c h (t + 1)) x ((n : Int) + h)) ∧ Aside (Gs (fun q => q = p ∨ (Value.slice (some ⟨g, 0, none⟩) m cap).ownBlock = some q) w wc))
  case first =>
    go_region_with (go_at_call 32; refine (TA.out _ ((Gw.refl w).alloc _ _).drew).mono ?_; rintro e w4 ⟨⟨t, rfl, ht⟩, g4⟩; obtain ⟨F1, F2, F3, F4⟩ := FX.out w4 ((Gw.drew (Gw.refl _)).trans g4); have j1 := F1.cell hB1; have j2 := F1.fz (o + 1); have j5 : (t : Int) + 1 ≤ cap := (by have := ht.lt; omega); have j6 : IntKind.i64.wrap ((t : Int) + 1) = (t : Int) + 1 := (by rw [IntKind.wrap_i64]; have := ht.lt; omega); have j7 : 0 ≤ (t : Int) + 1 := (by omega); have RR : Hid (Mid w (w4.setCell ⟨p, o + 1, none⟩ (.slice (some ⟨g, 0, none⟩) (t + 1) cap)) p o (B.setIfInBounds (o + 1) (.slice (some ⟨g, 0, none⟩) (t + 1) cap)) T (.slice (some ⟨g, 0, none⟩) (t + 1) cap) (t + 1) (pcells f c h (t + 1)) x ((n : Int) + h)) := (mid_cut F1 F2 F3 ht.lt m4 gp BO.out lp); have GG : Hid (Gs (fun q => q = p ∨ (Value.slice (some ⟨g, 0, none⟩) m cap).ownBlock = some q) w (w4.setCell ⟨p, o + 1, none⟩ (.slice (some ⟨g, 0, none⟩) (t + 1) cap))) := ((F4.gs _).set (.inl rfl) _ _); have ht' : Hid (Tch f (fun j => s * (j : Int)) m c x (s * (n : Int)) t) := ht; clear F1 F2 F3 F4 ht g4)
    all_goals
      clear j1 j2 j5 j6 j7 c1 f1
      go_wp2_with fail
      go_meet
      case rel => exact ⟨t, ht'.out, RR.out, GG.out⟩
  case rest =>
    obtain ⟨wx, hwx⟩ : ∃ wx, wx = wc := ⟨_, rfl⟩
    subst hwx
    obtain ⟨t, ht, M, G0⟩ := hcut
    obtain ⟨hii, hz, hs, hby⟩ := HH.out
    clear c1 f1
    go_wp2_with fail
    have BE : Hid (∀ u, (B.setIfInBounds (o + 1) (.slice (some ⟨g, 0, none⟩) (t + 1) cap)).setIfInBounds (o + 1) u = B.setIfInBounds (o + 1) u) := fun u => by simp
    generalize B.setIfInBounds (o + 1) (.slice (some ⟨g, 0, none⟩) (t + 1) cap) = B2 at M BE
    have M' : Hid (Mid w wx p o (B2) T (.slice (some ⟨g, 0, none⟩) (t + 1) cap) (t + 1) (pcells f c h (t + 1)) x ((n : Int) + h)) := M
    have G' : Hid (Gs (fun q => q = p ∨ (Value.slice (some ⟨g, 0, none⟩) m cap).ownBlock = some q) w wx) := G0
    have d1 := M'.out.blk.cell M'.out.bo
    have d2 := M'.out.bx.c0
    have d3 := M'.out.bx.c1
    have d4 := M'.out.blk.fz (o + 1)
    have d5 := M'.out.blk.lt
    have ONE : Hid (∀ u ∈ [Value.int .u64 x, .int .i64 ((n : Int) + h)], u.oneCell' = true) := pt_one x ((n : Int) + h)
    clear M G0
    go_region_law (refine step_append_lies _ rfl (.tmp 26) (.tmp 28) 53 rfl 0 64 ii _ 2 16 Try.underlying53 hii hz hs hby rfl (by decide) (.slice (some ⟨g, 0, none⟩) (t + 1) cap) (t + 1) (pcells f c h (t + 1)) (by simp [Act.eval]) M'.out.own1 ⟨wx.heap.size, 0, none⟩ 1 1 [.int .u64 x, .int .i64 ((n : Int) + h)] (by simp [Act.eval]) rfl M'.out.news ONE.out (by decide) (M'.out.len1) (M'.out.len2) (by omega) _ rfl ?_; intro g' cap' w7 q1 q2 q3 q4; have B7 : Hid (Blk w7 p (B2) T) := M'.out.after q2; have e1 := B7.out.cell M'.out.bo; have e2 := B7.out.fz (o + 1); have FIN : Hid (Laid w (w7.setCell ⟨p, o + 1, none⟩ (.slice (some ⟨g', 0, none⟩) (t + 1 + 1) cap')) p o B T (Value.slice (some ⟨g, 0, none⟩) m cap) f (n) x s h) := (laid_mk M'.out G'.out rfl q1 q2 q3 (CHN.out t ht.out).1 (CHN.out t ht.out).2 BE.out); clear q1 q2 q3)
    all_goals
      clear d1 d2 d3 d4 d5
      go_wp2
      go_end0
      exact ⟨rfl, FIN.out⟩

end Go.Proofs.Ytlocnkoeffoflaa
