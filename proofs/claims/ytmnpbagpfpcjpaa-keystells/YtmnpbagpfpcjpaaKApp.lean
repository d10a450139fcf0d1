/- Lists put behind a row of the call's own: whatever list, nil too. -/
import Derived.Test.YtmnpbagpfpcjpaaKMake
namespace Go.Proofs.Ytmnpbagpfpcjpaa
open Go.RowKit
set_option linter.unusedVariables false

theorem wpList_append_src {P : Program} (w : World) {ops : Array Oper} {rest : List Oper} {o : Oper} {a : Act} {Q : Exit → Act → World → Prop} (hgd : o.guard = none) (s x : Operand) (t : TypeId)
    (ho : o.op = .call { callee := .builtin .append, args := #[s, x], argTypes := #[t, t] })
    (base : Nat) (e : TypeId) (i : TypeInfo) (z : Value) (size bytes : Nat) (ht : P.underlying t = some (.slice e)) (hi : P.info? e = some i) (hz : i.zero = some z)
    (hsize : i.size = size) (hby : i.bytes = bytes) (hzs : z.cells.size = size) (hsz : 0 < size)
    (v : Value) (n : Nat) (xs : List Value) (hs : a.eval s = v) (hown : w.ownsRow base e size v n xs)
    (ao : Option Addr) (m c : Nat) (news : List Value) (hx : a.eval x = .slice ao m c) (hnone : ao = none → m = 0 ∧ c = 0) (hl : news.length = m * size) (hnews : ∀ ad, ao = some ad → ∀ j u, news[j]? = some u → w.cell? (ad.add j) = some u) (h1 : ∀ u ∈ news, u.oneCell' = true)
    (h63 : n + m ≤ maxLen) (hbytes : (n + m) * bytes ≤ 140737488355328) (hbase : base ≤ w.heap.size)
    (h : ∀ v' w', w'.ownsRow base e size v' (n + m) (xs ++ news) → w.grownBy w' v.ownBlock → (v' = .slice none 0 0 ↔ v = .slice none 0 0 ∧ m = 0) → wpList P ops Q rest (a.put o.dst v') w') : wpList P ops Q (o :: rest) a w := by
  cases ao with
  | some ad => exact wpList_append_own w hgd s x t ho base e i z size bytes ht hi hz hsize hby hzs hsz v n xs hs hown ad m c news hx hl (hnews ad rfl) h1 h63 hbytes hbase h
  | none =>
    obtain ⟨rfl, rfl⟩ := hnone rfl
    have hn : news = [] := List.eq_nil_of_length_eq_zero (by simpa using hl)
    subst hn
    refine wpList_plain hgd fun K hK' => ?_
    have hrun := run_append_owned_none (P := P) w base t o.type e i size ht hi v n xs hown
    unfold Oper.wp
    simp [execOp, ho, resolve, invoke, builtin, hs, hx, hrun, Result.andThen]
    exact hK' _ _ (by simpa using h v w (by simpa using hown) (World.grownBy.refl _ _) (by simp))

theorem ks_news {w : World} {ao : Option Addr} {n : Nat} {f : Nat → Int} (h : KS w ao n f) : ∀ ad, ao = some ad → ∀ j u, ((List.range n).map fun i => Value.int .u64 (f i))[j]? = some u → w.cell? (ad.add j) = some u := by
  intro ad e j u hu
  have hj : j < n := by
    have := (List.getElem?_eq_some_iff.1 hu).1
    simpa using this
  obtain ⟨b, off, e', _, hc⟩ := h.cells (by omega)
  rw [e] at e'
  cases e'
  rw [Addr.add_lit, hc j hj]
  simpa [hj] using hu
theorem es_news {w : World} {ao : Option Addr} {n : Nat} {k v : Nat → Int} {g : Nat → Bool} (h : ES w ao n k v g) : ∀ ad, ao = some ad → ∀ j u, ((List.range (n * 3)).map (ecell k v g))[j]? = some u → w.cell? (ad.add j) = some u := by
  intro ad e j u hu
  have hj : j < n * 3 := by
    have := (List.getElem?_eq_some_iff.1 hu).1
    simpa using this
  obtain ⟨b, off, e', _, hc⟩ := h.flat (by omega)
  rw [e] at e'
  cases e'
  rw [Addr.add_lit, hc j hj]
  simpa [hj] using hu
theorem keys_one (n : Nat) (f : Nat → Int) : ∀ u ∈ (List.range n).map (fun i => Value.int .u64 (f i)), u.oneCell' = true := by
  intro u hu
  obtain ⟨_, _, rfl⟩ := List.mem_map.1 hu
  rfl
theorem ecells_one (n : Nat) (k v : Nat → Int) (g : Nat → Bool) : ∀ u ∈ (List.range n).map (ecell k v g), u.oneCell' = true := by
  intro u hu
  obtain ⟨j, _, rfl⟩ := List.mem_map.1 hu
  exact ecell_one k v g j

theorem own_slice {w : World} {base e size n : Nat} {v : Value} {xs : List Value} (h : w.ownsRow base e size v n xs) (hv : ¬ v = .slice none 0 0) : ∃ g cap, v = .slice (some ⟨g, 0, none⟩) n cap ∧ base ≤ g ∧ n ≤ cap ∧ g < w.heap.size := by
  rcases h.2 with ⟨e, _⟩ | ⟨g, cap, cur, rfl, hg, hh, hnc, _⟩
  · exact absurd e hv
  · exact ⟨g, cap, rfl, hg, hnc, (Array.getElem?_eq_some_iff.1 hh).1⟩

/-- What was appended stands there. -/
theorem ks_own {w : World} {base g n cap : Nat} {f : Nat → Int} {xs : List Value} {m : Nat} (h : w.ownsRow base 33 1 (.slice (some ⟨g, 0, none⟩) m cap) m xs) (hn : n ≤ m) (hx : ∀ i, i < n → xs[i]? = some (.int .u64 (f i))) (bd : ∀ i, i < n → 0 ≤ f i ∧ f i < 18446744073709551616) : KS w (some ⟨g, 0, none⟩) n f :=
  ⟨fun h0 => ⟨g, 0, rfl, (h.lt g rfl).2, fun i hi => by rw [Nat.zero_add, h.cellAt i (by omega), hx i hi]⟩, bd⟩
theorem es_own {w : World} {base b n cap : Nat} {k v : Nat → Int} {g : Nat → Bool} {xs : List Value} (h : w.ownsRow base 35 3 (.slice (some ⟨b, 0, none⟩) n cap) n xs) (hx : ∀ j, j < n * 3 → xs[j]? = some (ecell k v g j)) (bd : ∀ i, i < n → (0 ≤ k i ∧ k i < 18446744073709551616) ∧ (0 ≤ v i ∧ v i < 18446744073709551616)) : ES w (some ⟨b, 0, none⟩) n k v g :=
  ⟨fun h0 => ⟨b, 0, rfl, (h.lt b rfl).2, fun i hi => by
    refine ⟨?_, ?_, ?_⟩
    · rw [show 0 + i * 3 = i * 3 by omega, h.cellAt _ (by omega), hx _ (by omega), ecell_0]
    · rw [show 0 + i * 3 + 1 = i * 3 + 1 by omega, h.cellAt _ (by omega), hx _ (by omega), ecell_1]
    · rw [show 0 + i * 3 + 2 = i * 3 + 2 by omega, h.cellAt _ (by omega), hx _ (by omega), ecell_2]⟩, bd⟩

end Go.Proofs.Ytmnpbagpfpcjpaa
