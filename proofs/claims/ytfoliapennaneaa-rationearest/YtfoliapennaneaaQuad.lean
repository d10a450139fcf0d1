/- An argument that is an array of four words, opened and shut. -/
import Derived.Test.YtfoliapennaneaaRows
import Derived.WalkKit
import Derived.ProofKit
import Derived.OpenShut
import Derived.Lib.SmallJoins
namespace Go.Proofs.Ytfoliapennaneaa
open Go.ChangeShapes Go.WideShapes Go.ChangeAt Go.RowKit Go.Joins
set_option linter.unusedVariables false

theorem open_quad {H : Type} {enc : TypeId × Value → H} {P : Program} {k e : TypeId} {q : IntKind} {W : World} {base : Nat} {sp : Nat → Bool} {held : Bool} (hu : P.underlying k = some (.array 4 e)) (one : P.cellsOf e = 1) (size : P.cellsOf k = 4) (he : P.underlying e = some (.int q)) {r : Reach} {b0 : Nat} {v : Value} {d : DataW H} {ps : List MemPlace}
    (hval : Value.okWide P W r b0 k v) (hd : DataW.Trod enc P W base sp held k v d ps) :
    ∃ a0 a1 a2 a3 : Int, v = .agg #[.int q a0, .int q a1, .int q a2, .int q a3] ∧ d = .agg [.lit (.int q a0), .lit (.int q a1), .lit (.int q a2), .lit (.int q a3)] ∧ ps = [] ∧
      (Lit.int q a0).wf = true ∧ (Lit.int q a1).wf = true ∧ (Lit.int q a2).wf = true ∧ (Lit.int q a3).wf = true := by
  simp only [Value.okWide, hu] at hval
  obtain ⟨cs, rfl, hn, -⟩ := hval
  rw [size] at hn
  obtain ⟨l⟩ := cs
  match l, hn with
  | [c0, c1, c2, c3], _ =>
    obtain ⟨fuel, hf⟩ := hd
    cases fuel with
    | zero => simp [DataW.trod] at hf
    | succ n =>
      rw [DataW.trod_step] at hf
      unfold DataW.trodStep at hf
      simp only [hu, Value.cells] at hf
      rw [if_pos (by rw [size]; rfl)] at hf
      simp only [Option.map_eq_some_iff] at hf
      obtain ⟨xs, hx, e1⟩ := hf
      rw [show List.range 4 = [0, 1, 2, 3] from rfl, List.mapM_cons, List.mapM_cons, List.mapM_cons, List.mapM_cons, List.mapM_nil] at hx
      simp only [bind, Option.bind_eq_some_iff, pure, Option.some.injEq, one] at hx
      obtain ⟨y0, h0, _, ⟨y1, h1, _, ⟨y2, h2, _, ⟨y3, h3, _, rfl, rfl⟩, rfl⟩, rfl⟩, rfl⟩ := hx
      obtain ⟨a0, ea0, rfl, w0⟩ := DataW.trod_int he h0
      obtain ⟨a1, ea1, rfl, w1⟩ := DataW.trod_int he h1
      obtain ⟨a2, ea2, rfl, w2⟩ := DataW.trod_int he h2
      obtain ⟨a3, ea3, rfl, w3⟩ := DataW.trod_int he h3
      simp at ea0 ea1 ea2 ea3
      subst ea0 ea1 ea2 ea3
      simp only [Prod.mk.injEq] at e1
      exact ⟨a0, a1, a2, a3, rfl, by rw [← e1.1]; rfl, by rw [← e1.2]; rfl, w0, w1, w2, w3⟩

theorem shut_quad {H : Type} {enc : TypeId × Value → H} {P : Program} {k e : TypeId} {q : IntKind} {W : World} {base : Nat} {sp : Nat → Bool} {held : Bool} (hu : P.underlying k = some (.array 4 e)) (one : P.cellsOf e = 1) (size : P.cellsOf k = 4) (he : P.underlying e = some (.int q)) {a0 a1 a2 a3 : Int}
    (w0 : (Lit.int q a0).wf = true) (w1 : (Lit.int q a1).wf = true) (w2 : (Lit.int q a2).wf = true) (w3 : (Lit.int q a3).wf = true) :
    DataW.Trod enc P W base sp held k (.agg #[.int q a0, .int q a1, .int q a2, .int q a3]) (.agg [.lit (.int q a0), .lit (.int q a1), .lit (.int q a2), .lit (.int q a3)]) [] :=
  ⟨2, by
    show DataW.trod enc P W base sp held (1 + 1) k [.int q a0, .int q a1, .int q a2, .int q a3] = _
    rw [DataW.trod_step]
    unfold DataW.trodStep
    simp only [hu]
    rw [if_pos (by rw [size]; rfl), show List.range 4 = [0, 1, 2, 3] from rfl, List.mapM_cons, List.mapM_cons, List.mapM_cons, List.mapM_cons, List.mapM_nil]
    simp [one, DataW.trod, he, w0, w1, w2, w3]⟩
end Go.Proofs.Ytfoliapennaneaa
