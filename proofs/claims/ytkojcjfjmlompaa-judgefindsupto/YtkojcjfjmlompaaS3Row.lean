/- Rows of a call's own, of whatever things. -/
import Derived.Test.YtkojcjfjmlompaaS3Law
namespace Go.Proofs.Ytkojcjfjmlompaa
open Go.RowKit
set_option linter.unusedVariables false

theorem fm_len {α : Type} (m : Nat) (f : α → List Value) (hm : ∀ x, (f x).length = m) (l : List α) : (l.flatMap f).length = l.length * m := by
  induction l with
  | nil => simp
  | cons x l ih => rw [List.flatMap_cons, List.length_append, ih, hm, List.length_cons, Nat.succ_mul]; omega
theorem fm_at {α : Type} (m : Nat) (f : α → List Value) (hm : ∀ x, (f x).length = m) : ∀ (l : List α) (i : Nat) (x : α), l[i]? = some x → ∀ (j : Nat) (u : Value), (f x)[j]? = some u → (l.flatMap f)[i * m + j]? = some u := by
  intro l
  induction l with
  | nil => intro i x h; simp at h
  | cons y l ih =>
    intro i x h j u hu
    have jl : j < m := by rw [← hm x]; exact (List.getElem?_eq_some_iff.1 hu).1
    rw [List.flatMap_cons]
    cases i with
    | zero =>
      simp only [List.getElem?_cons_zero, Option.some.injEq] at h
      subst h
      rw [Nat.zero_mul, Nat.zero_add, List.getElem?_append_left (by rw [hm]; exact jl)]
      exact hu
    | succ i =>
      rw [List.getElem?_cons_succ] at h
      have e : (i + 1) * m + j = m + (i * m + j) := by rw [Nat.succ_mul]; omega
      rw [e, List.getElem?_append_right (by rw [hm]; omega), hm, Nat.add_sub_cancel_left]
      exact ih i x h j u hu
theorem LsR.news {α : Type} {m : Nat} {f : α → List Value} (hm : ∀ x, (f x).length = m) (h0 : 0 < m) {w : World} {ao : Option Addr} {L : List α} (h : LsR m f w ao L) : ∀ ad, ao = some ad → ∀ j u, (L.flatMap f)[j]? = some u → w.cell? (ad.add j) = some u := by
  intro ad e j u hu
  have hj := (List.getElem?_eq_some_iff.1 hu).1
  rw [fm_len m f hm] at hj
  have hi : j / m < L.length := Nat.div_lt_of_lt_mul (by rw [Nat.mul_comm]; exact hj)
  have hr : j % m < m := Nat.mod_lt _ h0
  obtain ⟨b, off, e', _, hc⟩ := h.cells (Nat.lt_of_le_of_lt (Nat.zero_le _) hi)
  rw [e] at e'
  cases e'
  have hx : L[j / m]? = some L[j / m] := List.getElem?_eq_getElem hi
  have ej : j / m * m + j % m = j := Nat.div_add_mod' j m
  have hu' : (f L[j / m])[j % m]? = some ((f L[j / m])[j % m]'(by rw [hm]; exact hr)) := List.getElem?_eq_getElem _
  have k1 := fm_at m f hm L (j / m) _ hx (j % m) _ hu'
  rw [ej, hu] at k1
  have k2 := hc (j / m) _ hx (j % m) _ hu'
  rw [Nat.add_assoc, ej, ← k1] at k2
  rw [Addr.add_lit]
  exact k2
theorem LsR.take {α : Type} {m : Nat} {f : α → List Value} {w : World} {ao : Option Addr} {L : List α} (h : LsR m f w ao L) (n : Nat) : LsR m f w ao (L.take n) :=
  ⟨fun h0 => by
    rw [List.length_take] at h0
    obtain ⟨b, off, e, hb, hc⟩ := h.cells (by omega)
    refine ⟨b, off, e, hb, fun i x hx j u hu => hc i x ?_ j u hu⟩
    rw [List.getElem?_take] at hx
    split at hx
    · exact hx
    · cases hx⟩
/-- A row of m cells a thing, in block g. -/
structure RowG {α : Type} (t : TypeId) (m : Nat) (f : α → List Value) (w : World) (base g n cap : Nat) (L : List α) : Prop where
  len : L.length = n
  row : w.ownsRow base t m (.slice (some ⟨g, 0, none⟩) n cap) n (L.flatMap f)
theorem RowG.lt {α : Type} {t : TypeId} {m : Nat} {f : α → List Value} {w : World} {base g n cap : Nat} {L : List α} (h : RowG t m f w base g n cap L) : base ≤ g ∧ g < w.heap.size := World.ownsRow.lt h.row g rfl
theorem RowG.keep {α : Type} {t : TypeId} {m : Nat} {f : α → List Value} {w w' : World} {base g n cap : Nat} {L : List α} (h : RowG t m f w base g n cap L) (k : w'.heap[g]? = w.heap[g]?) : RowG t m f w' base g n cap L :=
  ⟨h.len, own_keep3 h.row (Nat.le_refl _) (fun q hq => by cases hq; exact k)⟩
theorem RowG.gw {α : Type} {t : TypeId} {m : Nat} {f : α → List Value} {w w' : World} {base g n cap : Nat} {L : List α} (h : RowG t m f w base g n cap L) (k : Gw w w') : RowG t m f w' base g n cap L := h.keep (k.below.block _ h.lt.2)
theorem RowG.cap {α : Type} {t : TypeId} {m : Nat} {f : α → List Value} {w : World} {base g n cap : Nat} {L : List α} (h : RowG t m f w base g n cap L) : n ≤ cap := by
  rcases h.row.2 with ⟨q, _⟩ | ⟨g', cap', cur, q, _, _, hc, _⟩
  · cases q
  · cases q; exact hc
theorem RowG.ls {α : Type} {t : TypeId} {m : Nat} {f : α → List Value} {w : World} {base g n cap : Nat} {L : List α} (h : RowG t m f w base g n cap L) (hm : ∀ x, (f x).length = m) : LsR m f w (some ⟨g, 0, none⟩) L :=
  ⟨fun _ => ⟨g, 0, rfl, h.lt.2, fun i x hx j u hu => by
    have il := (List.getElem?_eq_some_iff.1 hx).1
    have jl : j < m := by rw [← hm x]; exact (List.getElem?_eq_some_iff.1 hu).1
    have e := fm_at m f hm L i x hx j u hu
    have el := (List.getElem?_eq_some_iff.1 e).1
    have hl := h.len
    rw [Nat.zero_add, World.ownsRow.cellAt h.row (i * m + j) (by rw [fm_len m f hm, hl] at el; exact el), e]⟩⟩
theorem RowG.fz {α : Type} {t : TypeId} {m : Nat} {f : α → List Value} {w : World} {base g n cap : Nat} {L : List α} (h : RowG t m f w base g n cap L) (o : Nat) : w.frozen? ⟨g, o, none⟩ = false := by
  rcases h.row.2 with ⟨q, _⟩ | ⟨g', cap', cur, q, _, hh, _⟩
  · cases q
  · cases q; simp [World.frozen?, hh]
theorem RowG.new {α : Type} (t : TypeId) (m : Nat) (f : α → List Value) (w : World) (base g : Nat) (hg : w.heap.size = g) (hb : base ≤ g) : RowG t m f (w.alloc (.cells #[] t)) base g 0 0 ([] : List α) := by
  subst hg
  refine ⟨rfl, ?_⟩
  have := World.ownsRow_made (base := base) (e := t) (size := m) w #[] 0 hb (Nat.zero_le _) (by simp)
  exact this
theorem newc (w : World) (arr : Array Value) (t : TypeId) : ∀ (j : Nat) (u : Value), arr.toList[j]? = some u → (w.alloc (.cells arr t)).cell? ((⟨w.heap.size, 0, none⟩ : Addr).add j) = some u := by
  intro j u hu
  rw [Addr.add_lit, Nat.zero_add]
  have h := heap_alloc_new w (.cells arr t)
  exact blkc h (by simpa using hu)
/-- An append onto a row of one's own, as a step of a list of operations; where it lies behind it. -/
theorem app4_w {P : Program} (w : World) {ops : Array Oper} {rest : List Oper} {o : Oper} {a : Act} {Q : Exit → Act → World → Prop} (hgd : o.guard = none) (s x : Operand) (t : TypeId)
    (ho : o.op = .call { callee := .builtin .append, args := #[s, x], argTypes := #[t, t] })
    (base : Nat) (e : TypeId) (i : TypeInfo) (z : Value) (size bytes : Nat) (ht : P.underlying t = some (.slice e)) (hi : P.info? e = some i) (hz : i.zero = some z)
    (hsize : i.size = size) (hby : i.bytes = bytes) (hzs : z.cells.size = size) (hsz : 0 < size)
    {α : Type} (f : α → List Value) (hf : ∀ x, (f x).length = size) (k n cap0 : Nat) (L : List α) (hs : a.eval s = .slice (some ⟨k, 0, none⟩) n cap0) (hown : RowG e size f w base k n cap0 L)
    (ao : Option Addr) (m c : Nat) (N : List α) (hx : a.eval x = .slice ao m c) (hnone : ao = none → m = 0 ∧ c = 0) (hN : N.length = m) (hnews : ∀ ad, ao = some ad → ∀ j u, (N.flatMap f)[j]? = some u → w.cell? (ad.add j) = some u) (h1 : ∀ u ∈ N.flatMap f, u.oneCell' = true)
    (h63 : n + m ≤ maxLen) (hbytes : (n + m) * bytes ≤ 140737488355328)
    (h : ∀ g cap w', RowG e size f w' base g (n + m) cap (L ++ N) → w.grownBy w' (some k) → (g = k ∨ g = w.heap.size) → wpList P ops Q rest (a.put o.dst (.slice (some ⟨g, 0, none⟩) (n + m) cap)) w') : wpList P ops Q (o :: rest) a w := by
  refine wpList_plain hgd fun K hK => ?_
  have hb : base ≤ w.heap.size := Nat.le_trans hown.lt.1 (Nat.le_of_lt hown.lt.2)
  obtain ⟨g, cap, w', hr, h2, h3, h4, h5⟩ := run_append_any (P := P) w t o.type base e i z size bytes ht hi hz hsize hby hzs hsz k n cap0 _ hown.row ao m c (N.flatMap f) hnone (by rw [fm_len size f hf, hN]) hnews h1 h63 hbytes hb
  unfold Oper.wp execOp
  simp only [ho, resolve, invoke, builtin, Sem.run_bind, Sem.run_pure, Result.andThen_ok, List.map_toArray, List.map_cons, List.map_nil, hs, hx, hr]
  exact hK _ _ (h g cap w' ⟨by rw [List.length_append, hown.len, hN], by rw [List.flatMap_append]; exact h2⟩ h3 h4)
end Go.Proofs.Ytkojcjfjmlompaa
