/- Rows of bytes of a call's own, marked as a conversion's or not. -/
import Derived.Test.YtocnmdabilaccabDoorS1Mem
import Derived.Test.YtocnmdabilaccabDoorS1Ref1
import Derived.Lib.AppendStr
import Derived.Laws.IdiomCopy
import Derived.Deep.Upon
namespace Go.Proofs.YtocnmdabilaccabDoor
open Go.RowKit
set_option linter.unusedVariables false

/-- Bytes as cells. -/
def bcs (l : List UInt8) : List Value := l.map fun b => .int .u8 (b.toNat : Int)
theorem bcs_one (l : List UInt8) : ∀ u ∈ bcs l, u.oneCell' = true := by
  intro u hu
  obtain ⟨_, _, rfl⟩ := List.mem_map.1 hu
  rfl
theorem bcs_str (l : List UInt8) : Lib.strCells (Bs l) = bcs l := by simp [Lib.strCells, Bs, bcs]
/-- A row of bytes of a call's own. -/
def BR (w : World) (base : Nat) (v : Value) (l : List UInt8) : Prop :=
  ∃ g cap, v = .slice (some ⟨g, 0, none⟩) l.length cap ∧ base ≤ g ∧ g < w.heap.size ∧ l.length ≤ cap ∧ cap ≤ maxLen ∧ (∀ j, j < cap → (w.cell? ⟨g, j, none⟩).isSome = true) ∧ (∀ j, j < cap → w.frozen? ⟨g, j, none⟩ = false) ∧ ∀ j b, l[j]? = some b → w.cell? ⟨g, j, none⟩ = some (.int .u8 (b.toNat : Int))
theorem cell_keep {w w' : World} {g : Nat} (k : w'.heap[g]? = w.heap[g]?) (j : Nat) : w'.cell? ⟨g, j, none⟩ = w.cell? ⟨g, j, none⟩ := by simp [World.cell?, k]
theorem frozen_keep {w w' : World} {g : Nat} (k : w'.heap[g]? = w.heap[g]?) (j : Nat) : w'.frozen? ⟨g, j, none⟩ = w.frozen? ⟨g, j, none⟩ := by simp [World.frozen?, k]
theorem BR.keep {w w' : World} {base : Nat} {v : Value} {l : List UInt8} (h : BR w base v l) (hs : w.heap.size ≤ w'.heap.size) (k : ∀ q, v.ownBlock = some q → w'.heap[q]? = w.heap[q]?) : BR w' base v l := by
  obtain ⟨g, cap, rfl, h1, h2, h3, h4, h5, h6, h7⟩ := h
  have kg := k g rfl
  exact ⟨g, cap, rfl, h1, Nat.lt_of_lt_of_le h2 hs, h3, h4, fun j hj => by rw [cell_keep kg]; exact h5 j hj, fun j hj => by rw [frozen_keep kg]; exact h6 j hj, fun j b hb => by rw [cell_keep kg]; exact h7 j b hb⟩
theorem BR.gw {w w' : World} {base : Nat} {v : Value} {l : List UInt8} (h : BR w base v l) (g : Gw w w') : BR w' base v l := by
  obtain ⟨b, cap, rfl, h1, h2, r⟩ := id h
  exact h.keep g.size fun q hq => by cases hq; exact g.below.block b h2
theorem BR.lt {w : World} {base : Nat} {v : Value} {l : List UInt8} (h : BR w base v l) : ∀ q, v.ownBlock = some q → base ≤ q ∧ q < w.heap.size := by
  obtain ⟨g, cap, rfl, h1, h2, _⟩ := h
  intro q hq
  cases hq
  exact ⟨h1, h2⟩
theorem BR.shape {w : World} {base : Nat} {v : Value} {l : List UInt8} (h : BR w base v l) : ∃ g m cap, v = .slice (some ⟨g, 0, none⟩) m cap := by
  obtain ⟨g, cap, rfl, _⟩ := h
  exact ⟨g, _, cap, rfl⟩
theorem size_setCells (g : Nat) : ∀ (vs : List Value) (o : Nat) (w : World), (w.setCells g o vs).heap.size = w.heap.size := by
  intro vs
  induction vs with
  | nil => intro o w; rfl
  | cons v vs ih => intro o w; rw [World.setCells, ih]; simp [World.setCell]
/-- There is room. -/
theorem BR.room {w : World} {base g cap : Nat} {l m : List UInt8} (h : BR w base (.slice (some ⟨g, 0, none⟩) l.length cap) l) (hr : l.length + m.length ≤ cap) : BR (w.setCells g l.length (bcs m)) base (.slice (some ⟨g, 0, none⟩) (l.length + m.length) cap) (l ++ m) := by
  obtain ⟨g', cap', e, h1, h2, h3, h4, h5, h6, h7⟩ := h
  cases e
  refine ⟨g, cap, by simp, h1, by rw [size_setCells]; exact h2, by simp; omega, h4, fun j hj => ?_, fun j hj => by rw [World.frozen?_setCells]; exact h6 j hj, fun j b hb => ?_⟩
  · by_cases q : l.length ≤ j ∧ j < l.length + m.length
    · have := World.cell?_setCells_in g (bcs m) l.length w (fun i hi => h5 _ (by simp [bcs] at hi; omega)) (j - l.length) (by simp [bcs]; omega)
      rw [show l.length + (j - l.length) = j by omega] at this
      rw [this]; rfl
    · rw [World.cell?_setCells_out g (bcs m) l.length w _ (fun _ _ => by simp [bcs]; omega)]
      exact h5 j hj
  · have hj : j < (l ++ m).length := (List.getElem?_eq_some_iff.1 hb).1
    by_cases q : j < l.length
    · rw [List.getElem?_append_left q] at hb
      rw [World.cell?_setCells_out g (bcs m) l.length w _ (fun _ _ => .inl q)]
      exact h7 j b hb
    · rw [List.getElem?_append_right (by omega)] at hb
      have hm : j - l.length < m.length := (List.getElem?_eq_some_iff.1 hb).1
      have := World.cell?_setCells_in g (bcs m) l.length w (fun i hi => h5 _ (by simp [bcs] at hi; omega)) (j - l.length) (by simp [bcs]; omega)
      rw [show l.length + (j - l.length) = j by omega] at this
      rw [this]
      simp only [bcs, List.getElem_map, Option.some.injEq, Value.int.injEq, true_and]
      rw [List.getElem?_eq_getElem hm] at hb
      rw [Option.some.inj hb]
/-- A new row. -/
theorem BR.new (w : World) (base : Nat) (hb : base ≤ w.heap.size) (l : List UInt8) (cap : Nat) (hc : l.length ≤ cap) (hm : cap ≤ maxLen) (C : Array Value) (hC : C.size = cap) (hl : ∀ (j : Nat) (b : UInt8), l[j]? = some b → C[j]? = some (Value.int .u8 (b.toNat : Int))) (fz : Nat × Nat) (hf : fz = (0, 0) ∨ cap ≤ fz.1) :
    BR (w.alloc (.cells C 5 fz)) base (.slice (some ⟨w.heap.size, 0, none⟩) l.length cap) l := by
  have hh : (w.alloc (.cells C 5 fz)).heap[w.heap.size]? = some (.cells C 5 fz) := heap_alloc_new w _
  refine ⟨_, _, rfl, hb, by simp, hc, hm, fun j hj => ?_, fun j hj => ?_, fun j b hj => ?_⟩
  · unfold World.cell?
    rw [hh]
    simp [hC, hj]
  · obtain ⟨lo, hi⟩ := fz
    simp only [World.frozen?, hh]
    rcases hf with e | e
    · cases e; simp
    · simp at e ⊢; omega
  · unfold World.cell?
    rw [hh]
    simp [hl j b hj]
theorem info_byte : (Tryd.prog.info? 5).map (fun i => (i.zero, i.size, i.bytes)) = some (some (.int .u8 0), 1, 1) := by kernel_rfl
theorem grown_set (w : World) (g o : Nat) (vs : List Value) : w.grownBy (w.setCells g o vs) (some g) :=
  ⟨World.os_setCells w g o vs, by
    have : ∀ (vs : List Value) (o : Nat) (w : World), (w.setCells g o vs).tape = w.tape := by
      intro vs
      induction vs with
      | nil => intro o w; rfl
      | cons v vs ih => intro o w; rw [World.setCells, ih]; rfl
    exact this vs o w, World.output_setCells w g o vs, by rw [size_setCells]; exact Nat.le_refl _, fun k hk hn => World.heap_setCells_other w g o vs hk (fun e => hn (by rw [e]))⟩
/-- Bytes behind bytes: of a text, or of a slice that is there. -/
theorem run_append_br (w : World) (ty : TypeId) (base : Nat) (v : Value) (l m : List UInt8) (h : BR w base v l) (hb : base ≤ w.heap.size) (hs : l.length + m.length ≤ 100000000) (x : Value) (tx : TypeId)
    (hx : (x = .string (Bs m) ∧ tx = 9) ∨ (∃ a c, x = .slice (some a) m.length c ∧ tx = 23 ∧ ∀ j u, (bcs m)[j]? = some u → w.cell? (a.add j) = some u)) :
    ∃ v' w', (Builtin.append_ #[23, tx] ty #[v, x]).run Tryd.prog w = .ok v' w' ∧ BR w' base v' (l ++ m) ∧ w.grownBy w' v.ownBlock := by
  obtain ⟨ii, hii, hz, hsz, hby⟩ := info_parts info_byte
  obtain ⟨g, cap, rfl, h1, h2, h3, h4, h5, h6, h7⟩ := id h
  have hst : l.length + m.length ≤ cap → (storeCells ⟨g, l.length, none⟩ (bcs m)).run Tryd.prog w = .ok () (w.setCells g l.length (bcs m)) := fun hr => by
    have := run_storeCells_cells (P := Tryd.prog) g l.length (bcs m) 0 w (fun j hj => h5 _ (by simp [bcs] at hj; omega)) (fun j hj => h6 _ (by simp [bcs] at hj; omega)) (bcs_one m)
    simpa using this
  have olds : ∀ j u, (bcs l)[j]? = some u → w.cell? ((⟨g, 0, none⟩ : Addr).add j) = some u := fun j u hu => by
    simp only [bcs, List.getElem?_map, Option.map_eq_some_iff] at hu
    obtain ⟨b, hb, rfl⟩ := hu
    rw [Addr.add_lit, Nat.zero_add]
    exact h7 j b hb
  have row : ∀ (cp : Nat), l.length + m.length ≤ cp → cp ≤ maxLen → BR (w.drew.alloc (.cells ((bcs l).toArray ++ (bcs m).toArray ++ Builtin.zeroCells (Value.int .u8 0).cells (cp - (l.length + m.length))) 5)) base (.slice (some ⟨w.heap.size, 0, none⟩) (l.length + m.length) cp) (l ++ m) := fun cp hc hm => by
    have := BR.new w.drew base hb (l ++ m) cp (by simpa using hc) hm ((bcs l).toArray ++ (bcs m).toArray ++ Builtin.zeroCells (Value.int .u8 0).cells (cp - (l.length + m.length))) (by
      have hz1 : (Value.int IntKind.u8 0).cells.size = 1 := rfl
      simp only [Array.size_append, List.size_toArray, size_zeroCells, hz1]
      simp [bcs]; omega) (fun j b hj => by
      have hl := (List.getElem?_eq_some_iff.1 hj).1
      rw [Array.getElem?_append_left (by simp [bcs] at hl ⊢; omega)]
      have : (bcs l).toArray ++ (bcs m).toArray = (bcs (l ++ m)).toArray := by simp [bcs]
      rw [this, List.getElem?_toArray]
      unfold bcs
      rw [List.getElem?_map, hj]
      rfl) (0, 0) (.inl rfl)
    simpa using this
  have hge := grownCap_ge w (l.length + m.length) cap 5
  have hle := grownCap_le_maxLen w (l.length + m.length) cap 5 (by simp only [maxLen]; omega)
  by_cases room : l.length + m.length ≤ cap
  · refine ⟨_, _, ?_, h.room room, grown_set w g _ _⟩
    rcases hx with ⟨rfl, rfl⟩ | ⟨a, c, rfl, rfl, hn⟩
    · have hf := Lib.run_firstCells_string (P := Tryd.prog) w 1 (Bs m)
      rw [bcs_str, Bs_size] at hf
      simp [Builtin.append_, run_underlying under_bytes, run_underlying under_text, sizeOf, typeInfo, hii, hsz, Builtin.lenOf, Bs_size, room, hf, Addr.add_lit, hst room]
    · have hf := run_firstCells_some (P := Tryd.prog) w 1 m.length a m.length c (bcs m) (by simp [bcs]) hn
      simp [Builtin.append_, run_underlying under_bytes, sizeOf, typeInfo, hii, hsz, Builtin.lenOf, room, hf, Addr.add_lit, hst room]
  · rcases hx with ⟨rfl, rfl⟩ | ⟨a, c, rfl, rfl, hn⟩
    · have hr := Lib.run_append_grow_string (P := Tryd.prog) w 23 9 ty 5 ii (.int .u8 0) under_bytes under_text hii hz ⟨g, 0, none⟩ l.length cap (bcs l) (by rw [hsz]; simp [bcs]) olds (Bs m) (by rw [Bs_size]; omega) (by rw [Bs_size]; omega) (by rw [hby, Bs_size]; exact growslice_fits (by omega) (by omega))
      rw [bcs_str, Bs_size] at hr
      exact ⟨_, _, hr, row _ hge hle, ⟨rfl, rfl, rfl, by simp, fun k hk _ => heap_alloc_old w.drew _ hk⟩⟩
    · have hr := run_append_grow (P := Tryd.prog) w 23 ty 5 ii (.int .u8 0) under_bytes hii hz ⟨g, 0, none⟩ l.length cap (bcs l) (by rw [hsz]; simp [bcs]) olds a m.length c (bcs m) (by rw [hsz]; simp [bcs]) hn (by omega) (by omega) (by rw [hby]; exact growslice_fits (by omega) (by omega))
      exact ⟨_, _, hr, row _ hge hle, ⟨rfl, rfl, rfl, by simp, fun k hk _ => heap_alloc_old w.drew _ hk⟩⟩
theorem wpList_append_br {ops : Array Oper} {rest : List Oper} {o : Oper} {a : Act} {Q : Exit → Act → World → Prop} (w : World) (hgd : o.guard = none) (sl x : Operand) (tx : TypeId)
    (ho : o.op = .call { callee := .builtin .append, args := #[sl, x], argTypes := #[23, tx] })
    (base : Nat) (v : Value) (l m : List UInt8) (hs : a.eval sl = v) (hown : BR w base v l) (xv : Value) (hx : a.eval x = xv) (hb : base ≤ w.heap.size) (hl : l.length + m.length ≤ 100000000)
    (hxv : (xv = .string (Bs m) ∧ tx = 9) ∨ (∃ a c, xv = .slice (some a) m.length c ∧ tx = 23 ∧ ∀ j u, (bcs m)[j]? = some u → w.cell? (a.add j) = some u))
    (h : ∀ v' w', BR w' base v' (l ++ m) → w.grownBy w' v.ownBlock → wpList Tryd.prog ops Q rest (a.put o.dst v') w') : wpList Tryd.prog ops Q (o :: rest) a w := by
  refine wpList_plain hgd fun K hK => ?_
  obtain ⟨v', w', hr, h2, h3⟩ := run_append_br w o.type base v l m hown hb hl xv tx hxv
  unfold Oper.wp execOp
  simp only [ho, resolve, invoke, builtin, Sem.run_bind, Sem.run_pure, Result.andThen_ok, List.map_toArray, List.map_cons, List.map_nil, hs, hx, hr]
  exact hK _ _ (h v' w' h2 h3)
/-- 'string(b)'. -/
theorem conv_br (w : World) (base : Nat) (v : Value) (l : List UInt8) (h : BR w base v l) : (convert 23 9 v).run Tryd.prog w = .ok (.string (Bs l)) w := by
  obtain ⟨g, cap, rfl, _, _, _, _, _, _, h7⟩ := h
  exact run_convert_bytes_back (P := Tryd.prog) w 23 9 5 ⟨g, 0, none⟩ cap l under_bytes under_byte under_text (fun j hj => by
    rw [Addr.add_lit, Nat.zero_add]
    exact h7 j _ (List.getElem?_eq_getElem hj))
/-- '[]byte(s)'. -/
theorem conv_str (w : World) (l : List UInt8) (hl : l.length ≤ 100000000) : ∃ v w', (convert 9 23 (.string (Bs l))).run Tryd.prog w = .ok v w' ∧ BR w' w.heap.size v l ∧ Gw w w' := by
  have hr := run_bytes_of_string (P := Tryd.prog) w 9 23 5 (Bs l) under_text under_bytes under_byte
  rw [Bs_size] at hr
  have hge := grownCap_ge w l.length 0 5
  have hle := grownCap_le_maxLen w l.length 0 5 (by simp only [maxLen]; omega)
  have hsz : (bytesRow (Bs l) (grownCap w l.length 0 5)).size = grownCap w l.length 0 5 := by simp [bytesRow, Bs, ByteArray.size]; omega
  refine ⟨_, _, hr, ?_, ⟨(Below.refl _ _).drew.alloc (Nat.le_refl _) _⟩⟩
  exact BR.new w.drew w.heap.size (Nat.le_refl _) l _ hge hle _ hsz (fun j b hj => by
    obtain ⟨h1, h2⟩ := List.getElem?_eq_some_iff.1 hj
    rw [bytesRow_at (Bs l) _ j (by simpa [Bs] using h1)]
    simp [Bs, h2]) _ (.inr (by rw [hsz]; exact Nat.le_refl _))
end Go.Proofs.YtocnmdabilaccabDoor
