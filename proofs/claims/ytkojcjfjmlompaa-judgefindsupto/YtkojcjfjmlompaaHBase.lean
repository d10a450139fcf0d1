/- What every walk of layer 4 keeps: old memory as it was; lists of keys in memory. -/
import Derived.Test.YtkojcjfjmlompaaNBase
import Derived.Test.YtkojcjfjmlompaaKPlain
import Derived.Deep.OwnRows
import Derived.Laws.CopyRow
import Derived.OwnWalk
import Derived.Deep.LoopGhost
import Derived.Deep.QuietTactic
import Derived.BigQuiet
namespace Go.Proofs.Ytkojcjfjmlompaa
open Go.RowKit
set_option linter.unusedVariables false

/-- Old memory is as it was (what is frozen among new blocks is not said). -/
structure Gw (w w' : World) : Prop where
  below : Below w.heap.size w w'

theorem Gw.refl (w : World) : Gw w w := ⟨Below.refl _ _⟩
theorem Gw.trans {a b c : World} (h : Gw a b) (k : Gw b c) : Gw a c :=
  ⟨h.below.trans (k.below.mono h.below.size)⟩
theorem Gw.alloc {a w : World} (h : Gw a w) (c : Array Value) (t : TypeId) : Gw a (w.alloc (.cells c t)) :=
  ⟨h.below.alloc h.below.size _⟩
theorem Gw.setCell {a w : World} (h : Gw a w) {p : Addr} (hp : a.heap.size ≤ p.block) (v : Value) : Gw a (w.setCell p v) :=
  ⟨h.below.setCell hp v⟩
theorem Gw.drew {a w : World} (h : Gw a w) : Gw a w.drew := ⟨h.below.drew⟩
theorem Gw.drewN {a w : World} (h : Gw a w) (n : Nat) : Gw a (w.drewN n) := by
  obtain ⟨q1⟩ := h
  exact ⟨q1.trans ⟨rfl, rfl, rfl, Nat.le_refl _, fun _ _ => rfl⟩⟩
theorem Gw.grown {a w w' : World} {row : Option Nat} (h : Gw a w) (g : w.grownBy w' row) (hr : ∀ k, row = some k → a.heap.size ≤ k) : Gw a w' :=
  ⟨h.below.grown g h.below.size hr⟩
theorem Gw.cell {w w' : World} (h : Gw w w') (b o : Nat) (hb : b < w.heap.size) : w'.cell? ⟨b, o, none⟩ = w.cell? ⟨b, o, none⟩ := h.below.cell (p := ⟨b, o, none⟩) hb
theorem Gw.size {w w' : World} (h : Gw w w') : w.heap.size ≤ w'.heap.size := h.below.size

theorem Gb.gw {w w' : World} (h : Gb w w') : Gw w w' := ⟨h.below⟩

/-- A list of n keys: in memory from some place on, one cell a key; where there is none, nothing is said of the address. -/
structure KS (w : World) (ao : Option Addr) (n : Nat) (f : Nat → Int) : Prop where
  cells : 0 < n → ∃ b off, ao = some ⟨b, off, none⟩ ∧ b < w.heap.size ∧ ∀ i, i < n → w.cell? ⟨b, off + i, none⟩ = some (.int .u64 (f i))
  bd : ∀ i, i < n → 0 ≤ f i ∧ f i < 18446744073709551616

theorem KS.gw {w w' : World} {ao : Option Addr} {n : Nat} {f : Nat → Int} (h : KS w ao n f) (g : Gw w w') : KS w' ao n f :=
  ⟨fun hn => by
    obtain ⟨b, off, e, hb, hc⟩ := h.cells hn
    exact ⟨b, off, e, Nat.lt_of_lt_of_le hb g.size, fun i hi => (g.cell b (off + i) hb).trans (hc i hi)⟩, h.bd⟩

theorem wrap_nat (m : Nat) (h : m < 4611686018427387904) : IntKind.i64.wrap (m : Int) = m := by rw [IntKind.wrap_i64]; omega

theorem ks_of_row {w : World} {b m n : Nat} {f : Nat → Int} (h : w.rowIs b 31 m (fun i => .int .u64 (f i))) (hn : n ≤ m) (bd : ∀ i, i < n → 0 ≤ f i ∧ f i < 18446744073709551616) :
    KS w (some ⟨b, 0, none⟩) n f :=
  ⟨fun h0 => ⟨b, 0, rfl, h.lt, fun i hi => by rw [Nat.zero_add, h.cell (by omega)]⟩, bd⟩

theorem rowIs_gb {w w' : World} {b t n : Nat} {f : Nat → Value} (h : w.rowIs b t n f) (g : Gw w w') : w'.rowIs b t n f := h.of_block (g.below.block _ h.lt)

theorem info_k : (Try.prog.info? 31).map (fun i => (i.zero, i.size, i.bytes)) = some (some (.int .u64 0), 1, 8) := by kernel_rfl

theorem wpList_append_src {P : Program} (w : World) {ops : Array Oper} {rest : List Oper} {o : Oper} {a : Act} {Q : Exit → Act → World → Prop} (hgd : o.guard = none) (s x : Operand) (t : TypeId)
    (ho : o.op = .call { callee := .builtin .append, args := #[s, x], argTypes := #[t, t] })
    (base : Nat) (e : TypeId) (i : TypeInfo) (z : Value) (size bytes : Nat) (ht : P.underlying t = some (.slice e)) (hi : P.info? e = some i) (hz : i.zero = some z)
    (hsize : i.size = size) (hby : i.bytes = bytes) (hzs : z.cells.size = size) (hsz : 0 < size)
    (v : Value) (n : Nat) (xs : List Value) (hs : a.eval s = v) (hown : w.ownsRow base e size v n xs)
    (ao : Option Addr) (m c : Nat) (news : List Value) (hx : a.eval x = .slice ao m c) (hnone : ao = none → m = 0 ∧ c = 0) (hl : news.length = m * size) (hnews : ∀ ad, ao = some ad → ∀ j u, news[j]? = some u → w.cell? (ad.add j) = some u) (h1 : ∀ u ∈ news, u.oneCell' = true)
    (h63 : n + m ≤ maxLen) (hbytes : (n + m) * bytes ≤ 140737488355328) (hbase : base ≤ w.heap.size)
    (h : ∀ v' w', w'.ownsRow base e size v' (n + m) (xs ++ news) → w.grownBy w' v.ownBlock → (v' = .slice none 0 0 ↔ v = .slice none 0 0 ∧ m = 0) → wpList P ops Q rest (a.put o.dst v') w') : wpList P ops Q (o :: rest) a w := by
  cases ao with
  | some ad => exact wpList_append_own w hgd s x t ho base e i z size bytes ht hi hz hsize hby hzs hsz v n xs hs hown ad m c news hx hl (hnews ad rfl) h1 h63 hbytes hbase h
  | none =>
    obtain ⟨rfl, rfl⟩ := hnone rfl
    have hn : news = [] := List.eq_nil_of_length_eq_zero (by simpa using hl)
    subst hn
    refine wpList_plain hgd fun K hK' => ?_
    have hrun := run_append_owned_none (P := P) w base t o.type e i size ht hi v n xs hown
    unfold Oper.wp
    simp [execOp, ho, resolve, invoke, builtin, hs, hx, hrun, Result.andThen]
    exact hK' _ _ (by simpa using h v w (by simpa using hown) (World.grownBy.refl _ _) (by simp))

theorem ks_news {w : World} {ao : Option Addr} {n : Nat} {f : Nat → Int} (h : KS w ao n f) : ∀ ad, ao = some ad → ∀ j u, ((List.range n).map fun i => Value.int .u64 (f i))[j]? = some u → w.cell? (ad.add j) = some u := by
  intro ad e j u hu
  have hj : j < n := by
    have := (List.getElem?_eq_some_iff.1 hu).1
    simpa using this
  obtain ⟨b, off, e', _, hc⟩ := h.cells (by omega)
  rw [e] at e'
  cases e'
  rw [Addr.add_lit, hc j hj]
  simpa [hj] using hu
theorem keys_one (n : Nat) (f : Nat → Int) : ∀ u ∈ (List.range n).map (fun i => Value.int .u64 (f i)), u.oneCell' = true := by
  intro u hu
  obtain ⟨_, _, rfl⟩ := List.mem_map.1 hu
  rfl
theorem own_slice {w : World} {base e size n : Nat} {v : Value} {xs : List Value} (h : w.ownsRow base e size v n xs) (hv : ¬ v = .slice none 0 0) : ∃ g cap, v = .slice (some ⟨g, 0, none⟩) n cap ∧ base ≤ g ∧ n ≤ cap ∧ g < w.heap.size := by
  rcases h.2 with ⟨e, _⟩ | ⟨g, cap, cur, rfl, hg, hh, hnc, _⟩
  · exact absurd e hv
  · exact ⟨g, cap, rfl, hg, hnc, (Array.getElem?_eq_some_iff.1 hh).1⟩

/-- What was appended stands there. -/
theorem ks_own {w : World} {base g n cap : Nat} {f : Nat → Int} {xs : List Value} {m : Nat} (h : w.ownsRow base 31 1 (.slice (some ⟨g, 0, none⟩) m cap) m xs) (hn : n ≤ m) (hx : ∀ i, i < n → xs[i]? = some (.int .u64 (f i))) (bd : ∀ i, i < n → 0 ≤ f i ∧ f i < 18446744073709551616) : KS w (some ⟨g, 0, none⟩) n f :=
  ⟨fun h0 => ⟨g, 0, rfl, (h.lt g rfl).2, fun i hi => by rw [Nat.zero_add, h.cellAt i (by omega), hx i hi]⟩, bd⟩
theorem new_one (w : World) (x : Int) : ∀ j u, [Value.int .u64 x][j]? = some u → (w.alloc (.cells #[.int .u64 x] 31)).cell? ((⟨w.heap.size, 0, none⟩ : Addr).add j) = some u := by
  intro j u hu
  cases j with
  | zero =>
    simp only [List.getElem?_cons_zero, Option.some.injEq] at hu
    subst hu
    simp [Addr.add, go_sem]
  | succ j => simp at hu

end Go.Proofs.Ytkojcjfjmlompaa
