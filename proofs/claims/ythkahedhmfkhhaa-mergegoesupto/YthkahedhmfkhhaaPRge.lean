/- Within a round: a list's thing laid behind the others, in whatever order. -/
import Derived.Test.YthkahedhmfkhhaaPGaC
namespace Go.Proofs.Ythkahedhmfkhhaa
open Go.RowKit Go.Shelf
set_option linter.unusedVariables false

attribute [local go_sem] Oper.semAt_some

set_option maxRecDepth 100000 in
set_option maxHeartbeats 8000000 in
theorem reg8_e (l n N i ab ba bi pl vc b8 cap8 : Nat) (xk xv : Int) (xg : Bool) (bx : Nat) (vo : Option Addr) (W2 W3 w7 : World) (Q : Exit → Act → World → Prop) (t0 t1 t2 t5 t7 t8 t9 t10 t11 t12 t13 t14 t15 t16 t17 t18 t19 t20 t21 t22 t23 t24 t25 t26 t27 t28 t29 t30 t31 t32 : Value) (il : i < N)
    (cb : W2.cell? ⟨ba, 0, none⟩ = some (.slice (some ⟨ab, 0, none⟩) N N)) (cI : W2.cell? ⟨bi, 0, none⟩ = some (.int .i64 (i : Int))) (cv : W2.cell? ⟨ab, i, none⟩ = some (.slice vo pl vc))
    (cb3 : W3.cell? ⟨ba, 0, none⟩ = some (.slice (some ⟨ab, 0, none⟩) N N)) (cI3 : W3.cell? ⟨bi, 0, none⟩ = some (.int .i64 (i : Int))) (cv3 : W3.cell? ⟨ab, i, none⟩ = some (.slice vo pl vc))
    (x0 : W2.cell? ⟨bx, 0, none⟩ = some (.int .u64 xk)) (x1 : W2.cell? ⟨bx, 1, none⟩ = some (.int .u64 xv)) (x2 : W2.cell? ⟨bx, 2, none⟩ = some (.bool xg))
    (E3 : W2.drew.alloc (.cells #[.int .u64 xk, .int .u64 xv, .bool xg] 32) = W3) (hrun : (Builtin.append_ #[24, 24] 24 #[.slice vo pl vc, .slice (some ⟨W2.heap.size, 0, none⟩) 1 1]).run Try.prog W3 = .ok (.slice (some ⟨b8, 0, none⟩) (pl + 1) cap8) w7)
    (cb7 : w7.cell? ⟨ba, 0, none⟩ = some (.slice (some ⟨ab, 0, none⟩) N N)) (cI7 : w7.cell? ⟨bi, 0, none⟩ = some (.int .i64 (i : Int))) (k7 : w7.cell? ⟨ab, i, none⟩ = some (.slice vo pl vc)) (f7 : w7.frozen? ⟨ab, i, none⟩ = false) (l7 : ab < w7.heap.size)
    (hQ : Q .normal (⟨#[t0, t1, t2, .pointer (some ⟨ba, 0, none⟩), .pointer (some ⟨bi, 0, none⟩), t5, .pointer (some ⟨bx, 0, none⟩), t7, t8, t9, t10, t11, t12, t13, t14, t15, t16, t17, t18, t19, t20, .slice (some ⟨ab, 0, none⟩) N N, .int .i64 (i : Int), .slice (some ⟨ab, 0, none⟩) N N, .int .i64 (i : Int), .pointer (some ⟨ab, i, none⟩), .slice vo pl vc, .agg #[.int .u64 xk, .int .u64 xv, .bool xg], .slice (some ⟨W2.heap.size, 0, none⟩) 1 1, .slice (some ⟨b8, 0, none⟩) (pl + 1) cap8, .pointer (some ⟨ab, i, none⟩), t31, t32], []⟩ : Act) (w7.setCell ⟨ab, i, none⟩ (.slice (some ⟨b8, 0, none⟩) (pl + 1) cap8)))
    {ops : Array Oper} (rdy : (tbl8.all fun m => decide (Region.ready .any ops m.1 = m.2)) = true)
    {p0 : String} {f0 : Array Edge} (h0 : ops[(0 : Nat)]? = some ({ dst := some 21, op := .load 22 (.tmp 3), type := 22, pos := p0, after := f0, guard := none } : Oper))
    {p1 : String} {f1 : Array Edge} (h1 : ops[(1 : Nat)]? = some ({ dst := some 22, op := .load 3 (.tmp 4), type := 3, pos := p1, after := f1, guard := none } : Oper))
    {p2 : String} {f2 : Array Edge} (h2 : ops[(2 : Nat)]? = some ({ dst := some 23, op := .load 22 (.tmp 3), type := 22, pos := p2, after := f2, guard := none } : Oper))
    {p3 : String} {f3 : Array Edge} (h3 : ops[(3 : Nat)]? = some ({ dst := some 24, op := .load 3 (.tmp 4), type := 3, pos := p3, after := f3, guard := none } : Oper))
    {p4 : String} {f4 : Array Edge} (h4 : ops[(4 : Nat)]? = some ({ dst := some 25, op := .indexAddr 22 (.tmp 23) (.tmp 24), type := 0, pos := p4, after := f4, guard := none } : Oper))
    {p5 : String} {f5 : Array Edge} (h5 : ops[(5 : Nat)]? = some ({ dst := some 26, op := .load 24 (.tmp 25), type := 24, pos := p5, after := f5, guard := none } : Oper))
    {p6 : String} {f6 : Array Edge} (h6 : ops[(6 : Nat)]? = some ({ dst := some 27, op := .load 32 (.tmp 6), type := 32, pos := p6, after := f6, guard := none } : Oper))
    {p7 : String} {f7 : Array Edge} (h7 : ops[(7 : Nat)]? = some ({ dst := some 28, op := .buildSlice 24 1 #[(0, .tmp 27)], type := 24, pos := p7, after := f7, guard := none } : Oper))
    {p8 : String} {f8 : Array Edge} (h8 : ops[(8 : Nat)]? = some ({ dst := some 29, op := .call { callee := .builtin .append, args := #[.tmp 26, .tmp 28], argTypes := #[24, 24] }, type := 24, pos := p8, after := f8, guard := none } : Oper))
    {p9 : String} {f9 : Array Edge} (h9 : ops[(9 : Nat)]? = some ({ dst := some 30, op := .indexAddr 22 (.tmp 21) (.tmp 22), type := 0, pos := p9, after := f9, guard := none } : Oper))
    {p10 : String} {f10 : Array Edge} (h10 : ops[(10 : Nat)]? = some ({ dst := none, op := .store 24 (.tmp 30) (.tmp 29), type := 0, pos := p10, after := f10, guard := none } : Oper))
    : wpAnyIn (Fence.wide.inRound l) n Try.prog .any ops Q 11 #[false, false, false, false, false, false, false, false, false, false, false] (⟨#[t0, t1, t2, .pointer (some ⟨ba, 0, none⟩), .pointer (some ⟨bi, 0, none⟩), t5, .pointer (some ⟨bx, 0, none⟩), t7, t8, t9, t10, t11, t12, t13, t14, t15, t16, t17, t18, t19, t20, t21, t22, t23, t24, t25, t26, t27, t28, t29, t30, t31, t32], []⟩ : Act) W2.drew := by
  have E4 : (W2.alloc (.cells #[.int .u64 xk, .int .u64 xv, .bool xg] 32)).drew = W3 := E3
  have il' : (i : Int) < (N : Int) := by omega
  have RD : ∀ m ∈ tbl8, Region.ready .any ops m.1 = m.2 := fun m hm => by
    have := List.all_eq_true.1 rdy m hm
    exact of_decide_eq_true this
  have RDH : Hid _ := RD
  have HR : Hid _ := hrun
  clear hrun RD rdy
  have sabcdefghijk : Hid (wpAnyIn (Fence.wide.inRound l) n Try.prog .any ops Q 0 #[true, true, true, true, true, true, true, true, true, true, true] (⟨#[t0, t1, t2, .pointer (some ⟨ba, 0, none⟩), .pointer (some ⟨bi, 0, none⟩), t5, .pointer (some ⟨bx, 0, none⟩), t7, t8, t9, t10, t11, t12, t13, t14, t15, t16, t17, t18, t19, t20, .slice (some ⟨ab, 0, none⟩) N N, .int .i64 (i : Int), .slice (some ⟨ab, 0, none⟩) N N, .int .i64 (i : Int), .pointer (some ⟨ab, i, none⟩), .slice vo pl vc, .agg #[.int .u64 xk, .int .u64 xv, .bool xg], .slice (some ⟨W2.heap.size, 0, none⟩) 1 1, .slice (some ⟨b8, 0, none⟩) (pl + 1) cap8, .pointer (some ⟨ab, i, none⟩), t31, t32], []⟩ : Act) (w7.setCell ⟨ab, i, none⟩ (.slice (some ⟨b8, 0, none⟩) (pl + 1) cap8))) := by
    exact wpAnyIn_done (RDH.out (#[true, true, true, true, true, true, true, true, true, true, true], []) (by unfold tbl8; repeat (first | exact List.mem_cons_self .. | refine List.mem_cons_of_mem _ ?_))) hQ _
  have sabcdefghij : Hid (wpAnyIn (Fence.wide.inRound l) n Try.prog .any ops Q 1 #[true, true, true, true, true, true, true, true, true, true, false] (⟨#[t0, t1, t2, .pointer (some ⟨ba, 0, none⟩), .pointer (some ⟨bi, 0, none⟩), t5, .pointer (some ⟨bx, 0, none⟩), t7, t8, t9, t10, t11, t12, t13, t14, t15, t16, t17, t18, t19, t20, .slice (some ⟨ab, 0, none⟩) N N, .int .i64 (i : Int), .slice (some ⟨ab, 0, none⟩) N N, .int .i64 (i : Int), .pointer (some ⟨ab, i, none⟩), .slice vo pl vc, .agg #[.int .u64 xk, .int .u64 xv, .bool xg], .slice (some ⟨W2.heap.size, 0, none⟩) 1 1, .slice (some ⟨b8, 0, none⟩) (pl + 1) cap8, .pointer (some ⟨ab, i, none⟩), t31, t32], []⟩ : Act) (w7)) := by
    refine wpAnyIn_ready (rs := [10]) (RDH.out (#[true, true, true, true, true, true, true, true, true, true, false], [10]) (by unfold tbl8; repeat (first | exact List.mem_cons_self .. | refine List.mem_cons_of_mem _ ?_))) (by simp) ?_
    refine AllReadyIn.cons h10 (fun K hK => ?_) ?_
    · go_simp
      exact hK _ _ sabcdefghijk.out
    exact AllReadyIn.nil
  have sabcdefghi : Hid (wpAnyIn (Fence.wide.inRound l) n Try.prog .any ops Q 2 #[true, true, true, true, true, true, true, true, true, false, false] (⟨#[t0, t1, t2, .pointer (some ⟨ba, 0, none⟩), .pointer (some ⟨bi, 0, none⟩), t5, .pointer (some ⟨bx, 0, none⟩), t7, t8, t9, t10, t11, t12, t13, t14, t15, t16, t17, t18, t19, t20, .slice (some ⟨ab, 0, none⟩) N N, .int .i64 (i : Int), .slice (some ⟨ab, 0, none⟩) N N, .int .i64 (i : Int), .pointer (some ⟨ab, i, none⟩), .slice vo pl vc, .agg #[.int .u64 xk, .int .u64 xv, .bool xg], .slice (some ⟨W2.heap.size, 0, none⟩) 1 1, .slice (some ⟨b8, 0, none⟩) (pl + 1) cap8, t30, t31, t32], []⟩ : Act) (w7)) := by
    refine wpAnyIn_ready (rs := [9]) (RDH.out (#[true, true, true, true, true, true, true, true, true, false, false], [9]) (by unfold tbl8; repeat (first | exact List.mem_cons_self .. | refine List.mem_cons_of_mem _ ?_))) (by simp) ?_
    refine AllReadyIn.cons h9 (fun K hK => ?_) ?_
    · go_simp
      exact hK _ _ sabcdefghij.out
    exact AllReadyIn.nil
  have sabcdefgh : Hid (wpAnyIn (Fence.wide.inRound l) n Try.prog .any ops Q 3 #[true, true, true, true, true, true, true, true, false, false, false] (⟨#[t0, t1, t2, .pointer (some ⟨ba, 0, none⟩), .pointer (some ⟨bi, 0, none⟩), t5, .pointer (some ⟨bx, 0, none⟩), t7, t8, t9, t10, t11, t12, t13, t14, t15, t16, t17, t18, t19, t20, .slice (some ⟨ab, 0, none⟩) N N, .int .i64 (i : Int), .slice (some ⟨ab, 0, none⟩) N N, .int .i64 (i : Int), .pointer (some ⟨ab, i, none⟩), .slice vo pl vc, .agg #[.int .u64 xk, .int .u64 xv, .bool xg], .slice (some ⟨W2.heap.size, 0, none⟩) 1 1, t29, t30, t31, t32], []⟩ : Act) (W3)) := by
    refine wpAnyIn_ready (rs := [8]) (RDH.out (#[true, true, true, true, true, true, true, true, false, false, false], [8]) (by unfold tbl8; repeat (first | exact List.mem_cons_self .. | refine List.mem_cons_of_mem _ ?_))) (by simp) ?_
    refine AllReadyIn.cons h8 (fun K hK => ?_) ?_
    · exact app_in13 (fun _ => trivial) rfl (.tmp 26) (.tmp 28) 24 rfl (by rfl) (by rfl) HR.out (hK _ _ sabcdefghi.out)
    exact AllReadyIn.nil
  have sacdefghi : Hid (wpAnyIn (Fence.wide.inRound l) n Try.prog .any ops Q 3 #[true, false, true, true, true, true, true, true, true, false, false] (⟨#[t0, t1, t2, .pointer (some ⟨ba, 0, none⟩), .pointer (some ⟨bi, 0, none⟩), t5, .pointer (some ⟨bx, 0, none⟩), t7, t8, t9, t10, t11, t12, t13, t14, t15, t16, t17, t18, t19, t20, .slice (some ⟨ab, 0, none⟩) N N, t22, .slice (some ⟨ab, 0, none⟩) N N, .int .i64 (i : Int), .pointer (some ⟨ab, i, none⟩), .slice vo pl vc, .agg #[.int .u64 xk, .int .u64 xv, .bool xg], .slice (some ⟨W2.heap.size, 0, none⟩) 1 1, .slice (some ⟨b8, 0, none⟩) (pl + 1) cap8, t30, t31, t32], []⟩ : Act) (w7)) := by
    refine wpAnyIn_ready (rs := [1]) (RDH.out (#[true, false, true, true, true, true, true, true, true, false, false], [1]) (by unfold tbl8; repeat (first | exact List.mem_cons_self .. | refine List.mem_cons_of_mem _ ?_))) (by simp) ?_
    refine AllReadyIn.cons h1 (fun K hK => ?_) ?_
    · go_simp
      exact hK _ _ sabcdefghi.out
    exact AllReadyIn.nil
  have sbcdefghi : Hid (wpAnyIn (Fence.wide.inRound l) n Try.prog .any ops Q 3 #[false, true, true, true, true, true, true, true, true, false, false] (⟨#[t0, t1, t2, .pointer (some ⟨ba, 0, none⟩), .pointer (some ⟨bi, 0, none⟩), t5, .pointer (some ⟨bx, 0, none⟩), t7, t8, t9, t10, t11, t12, t13, t14, t15, t16, t17, t18, t19, t20, t21, .int .i64 (i : Int), .slice (some ⟨ab, 0, none⟩) N N, .int .i64 (i : Int), .pointer (some ⟨ab, i, none⟩), .slice vo pl vc, .agg #[.int .u64 xk, .int .u64 xv, .bool xg], .slice (some ⟨W2.heap.size, 0, none⟩) 1 1, .slice (some ⟨b8, 0, none⟩) (pl + 1) cap8, t30, t31, t32], []⟩ : Act) (w7)) := by
    refine wpAnyIn_ready (rs := [0]) (RDH.out (#[false, true, true, true, true, true, true, true, true, false, false], [0]) (by unfold tbl8; repeat (first | exact List.mem_cons_self .. | refine List.mem_cons_of_mem _ ?_))) (by simp) ?_
    refine AllReadyIn.cons h0 (fun K hK => ?_) ?_
    · go_simp
      exact hK _ _ sabcdefghi.out
    exact AllReadyIn.nil
  have sabcdefg : Hid (wpAnyIn (Fence.wide.inRound l) n Try.prog .any ops Q 4 #[true, true, true, true, true, true, true, false, false, false, false] (⟨#[t0, t1, t2, .pointer (some ⟨ba, 0, none⟩), .pointer (some ⟨bi, 0, none⟩), t5, .pointer (some ⟨bx, 0, none⟩), t7, t8, t9, t10, t11, t12, t13, t14, t15, t16, t17, t18, t19, t20, .slice (some ⟨ab, 0, none⟩) N N, .int .i64 (i : Int), .slice (some ⟨ab, 0, none⟩) N N, .int .i64 (i : Int), .pointer (some ⟨ab, i, none⟩), .slice vo pl vc, .agg #[.int .u64 xk, .int .u64 xv, .bool xg], t28, t29, t30, t31, t32], []⟩ : Act) (W2.drew)) := by
    refine wpAnyIn_ready (rs := [7]) (RDH.out (#[true, true, true, true, true, true, true, false, false, false, false], [7]) (by unfold tbl8; repeat (first | exact List.mem_cons_self .. | refine List.mem_cons_of_mem _ ?_))) (by simp) ?_
    refine AllReadyIn.cons h7 (fun K hK => ?_) ?_
    · go_simp
      exact hK _ _ sabcdefgh.out
    exact AllReadyIn.nil
  have sabcdegh : Hid (wpAnyIn (Fence.wide.inRound l) n Try.prog .any ops Q 4 #[true, true, true, true, true, false, true, true, false, false, false] (⟨#[t0, t1, t2, .pointer (some ⟨ba, 0, none⟩), .pointer (some ⟨bi, 0, none⟩), t5, .pointer (some ⟨bx, 0, none⟩), t7, t8, t9, t10, t11, t12, t13, t14, t15, t16, t17, t18, t19, t20, .slice (some ⟨ab, 0, none⟩) N N, .int .i64 (i : Int), .slice (some ⟨ab, 0, none⟩) N N, .int .i64 (i : Int), .pointer (some ⟨ab, i, none⟩), t26, .agg #[.int .u64 xk, .int .u64 xv, .bool xg], .slice (some ⟨W2.heap.size, 0, none⟩) 1 1, t29, t30, t31, t32], []⟩ : Act) (W3)) := by
    refine wpAnyIn_ready (rs := [5]) (RDH.out (#[true, true, true, true, true, false, true, true, false, false, false], [5]) (by unfold tbl8; repeat (first | exact List.mem_cons_self .. | refine List.mem_cons_of_mem _ ?_))) (by simp) ?_
    refine AllReadyIn.cons h5 (fun K hK => ?_) ?_
    · go_simp
      exact hK _ _ sabcdefgh.out
    exact AllReadyIn.nil
  have sacdefgh : Hid (wpAnyIn (Fence.wide.inRound l) n Try.prog .any ops Q 4 #[true, false, true, true, true, true, true, true, false, false, false] (⟨#[t0, t1, t2, .pointer (some ⟨ba, 0, none⟩), .pointer (some ⟨bi, 0, none⟩), t5, .pointer (some ⟨bx, 0, none⟩), t7, t8, t9, t10, t11, t12, t13, t14, t15, t16, t17, t18, t19, t20, .slice (some ⟨ab, 0, none⟩) N N, t22, .slice (some ⟨ab, 0, none⟩) N N, .int .i64 (i : Int), .pointer (some ⟨ab, i, none⟩), .slice vo pl vc, .agg #[.int .u64 xk, .int .u64 xv, .bool xg], .slice (some ⟨W2.heap.size, 0, none⟩) 1 1, t29, t30, t31, t32], []⟩ : Act) (W3)) := by
    refine wpAnyIn_ready (rs := [1, 8]) (RDH.out (#[true, false, true, true, true, true, true, true, false, false, false], [1, 8]) (by unfold tbl8; repeat (first | exact List.mem_cons_self .. | refine List.mem_cons_of_mem _ ?_))) (by simp) ?_
    refine AllReadyIn.cons h1 (fun K hK => ?_) ?_
    · go_simp
      exact hK _ _ sabcdefgh.out
    refine AllReadyIn.cons h8 (fun K hK => ?_) ?_
    · exact app_in13 (fun _ => trivial) rfl (.tmp 26) (.tmp 28) 24 rfl (by rfl) (by rfl) HR.out (hK _ _ sacdefghi.out)
    exact AllReadyIn.nil
  have sbcdefgh : Hid (wpAnyIn (Fence.wide.inRound l) n Try.prog .any ops Q 4 #[false, true, true, true, true, true, true, true, false, false, false] (⟨#[t0, t1, t2, .pointer (some ⟨ba, 0, none⟩), .pointer (some ⟨bi, 0, none⟩), t5, .pointer (some ⟨bx, 0, none⟩), t7, t8, t9, t10, t11, t12, t13, t14, t15, t16, t17, t18, t19, t20, t21, .int .i64 (i : Int), .slice (some ⟨ab, 0, none⟩) N N, .int .i64 (i : Int), .pointer (some ⟨ab, i, none⟩), .slice vo pl vc, .agg #[.int .u64 xk, .int .u64 xv, .bool xg], .slice (some ⟨W2.heap.size, 0, none⟩) 1 1, t29, t30, t31, t32], []⟩ : Act) (W3)) := by
    refine wpAnyIn_ready (rs := [0, 8]) (RDH.out (#[false, true, true, true, true, true, true, true, false, false, false], [0, 8]) (by unfold tbl8; repeat (first | exact List.mem_cons_self .. | refine List.mem_cons_of_mem _ ?_))) (by simp) ?_
    refine AllReadyIn.cons h0 (fun K hK => ?_) ?_
    · go_simp
      exact hK _ _ sabcdefgh.out
    refine AllReadyIn.cons h8 (fun K hK => ?_) ?_
    · exact app_in13 (fun _ => trivial) rfl (.tmp 26) (.tmp 28) 24 rfl (by rfl) (by rfl) HR.out (hK _ _ sbcdefghi.out)
    exact AllReadyIn.nil
  have scdefghi : Hid (wpAnyIn (Fence.wide.inRound l) n Try.prog .any ops Q 4 #[false, false, true, true, true, true, true, true, true, false, false] (⟨#[t0, t1, t2, .pointer (some ⟨ba, 0, none⟩), .pointer (some ⟨bi, 0, none⟩), t5, .pointer (some ⟨bx, 0, none⟩), t7, t8, t9, t10, t11, t12, t13, t14, t15, t16, t17, t18, t19, t20, t21, t22, .slice (some ⟨ab, 0, none⟩) N N, .int .i64 (i : Int), .pointer (some ⟨ab, i, none⟩), .slice vo pl vc, .agg #[.int .u64 xk, .int .u64 xv, .bool xg], .slice (some ⟨W2.heap.size, 0, none⟩) 1 1, .slice (some ⟨b8, 0, none⟩) (pl + 1) cap8, t30, t31, t32], []⟩ : Act) (w7)) := by
    refine wpAnyIn_ready (rs := [0, 1]) (RDH.out (#[false, false, true, true, true, true, true, true, true, false, false], [0, 1]) (by unfold tbl8; repeat (first | exact List.mem_cons_self .. | refine List.mem_cons_of_mem _ ?_))) (by simp) ?_
    refine AllReadyIn.cons h0 (fun K hK => ?_) ?_
    · go_simp
      exact hK _ _ sacdefghi.out
    refine AllReadyIn.cons h1 (fun K hK => ?_) ?_
    · go_simp
      exact hK _ _ sbcdefghi.out
    exact AllReadyIn.nil
  have sabcdef : Hid (wpAnyIn (Fence.wide.inRound l) n Try.prog .any ops Q 5 #[true, true, true, true, true, true, false, false, false, false, false] (⟨#[t0, t1, t2, .pointer (some ⟨ba, 0, none⟩), .pointer (some ⟨bi, 0, none⟩), t5, .pointer (some ⟨bx, 0, none⟩), t7, t8, t9, t10, t11, t12, t13, t14, t15, t16, t17, t18, t19, t20, .slice (some ⟨ab, 0, none⟩) N N, .int .i64 (i : Int), .slice (some ⟨ab, 0, none⟩) N N, .int .i64 (i : Int), .pointer (some ⟨ab, i, none⟩), .slice vo pl vc, t27, t28, t29, t30, t31, t32], []⟩ : Act) (W2.drew)) := by
    refine wpAnyIn_ready (rs := [6]) (RDH.out (#[true, true, true, true, true, true, false, false, false, false, false], [6]) (by unfold tbl8; repeat (first | exact List.mem_cons_self .. | refine List.mem_cons_of_mem _ ?_))) (by simp) ?_
    refine AllReadyIn.cons h6 (fun K hK => ?_) ?_
    · go_simp
      exact hK _ _ sabcdefg.out
    exact AllReadyIn.nil
  have sabcdeg : Hid (wpAnyIn (Fence.wide.inRound l) n Try.prog .any ops Q 5 #[true, true, true, true, true, false, true, false, false, false, false] (⟨#[t0, t1, t2, .pointer (some ⟨ba, 0, none⟩), .pointer (some ⟨bi, 0, none⟩), t5, .pointer (some ⟨bx, 0, none⟩), t7, t8, t9, t10, t11, t12, t13, t14, t15, t16, t17, t18, t19, t20, .slice (some ⟨ab, 0, none⟩) N N, .int .i64 (i : Int), .slice (some ⟨ab, 0, none⟩) N N, .int .i64 (i : Int), .pointer (some ⟨ab, i, none⟩), t26, .agg #[.int .u64 xk, .int .u64 xv, .bool xg], t28, t29, t30, t31, t32], []⟩ : Act) (W2.drew)) := by
    refine wpAnyIn_ready (rs := [5, 7]) (RDH.out (#[true, true, true, true, true, false, true, false, false, false, false], [5, 7]) (by unfold tbl8; repeat (first | exact List.mem_cons_self .. | refine List.mem_cons_of_mem _ ?_))) (by simp) ?_
    refine AllReadyIn.cons h5 (fun K hK => ?_) ?_
    · go_simp
      exact hK _ _ sabcdefg.out
    refine AllReadyIn.cons h7 (fun K hK => ?_) ?_
    · go_simp
      exact hK _ _ sabcdegh.out
    exact AllReadyIn.nil
  have sabcdgh : Hid (wpAnyIn (Fence.wide.inRound l) n Try.prog .any ops Q 5 #[true, true, true, true, false, false, true, true, false, false, false] (⟨#[t0, t1, t2, .pointer (some ⟨ba, 0, none⟩), .pointer (some ⟨bi, 0, none⟩), t5, .pointer (some ⟨bx, 0, none⟩), t7, t8, t9, t10, t11, t12, t13, t14, t15, t16, t17, t18, t19, t20, .slice (some ⟨ab, 0, none⟩) N N, .int .i64 (i : Int), .slice (some ⟨ab, 0, none⟩) N N, .int .i64 (i : Int), t25, t26, .agg #[.int .u64 xk, .int .u64 xv, .bool xg], .slice (some ⟨W2.heap.size, 0, none⟩) 1 1, t29, t30, t31, t32], []⟩ : Act) (W3)) := by
    refine wpAnyIn_ready (rs := [4]) (RDH.out (#[true, true, true, true, false, false, true, true, false, false, false], [4]) (by unfold tbl8; repeat (first | exact List.mem_cons_self .. | refine List.mem_cons_of_mem _ ?_))) (by simp) ?_
    refine AllReadyIn.cons h4 (fun K hK => ?_) ?_
    · go_simp
      exact hK _ _ sabcdegh.out
    exact AllReadyIn.nil
  have sacdefg : Hid (wpAnyIn (Fence.wide.inRound l) n Try.prog .any ops Q 5 #[true, false, true, true, true, true, true, false, false, false, false] (⟨#[t0, t1, t2, .pointer (some ⟨ba, 0, none⟩), .pointer (some ⟨bi, 0, none⟩), t5, .pointer (some ⟨bx, 0, none⟩), t7, t8, t9, t10, t11, t12, t13, t14, t15, t16, t17, t18, t19, t20, .slice (some ⟨ab, 0, none⟩) N N, t22, .slice (some ⟨ab, 0, none⟩) N N, .int .i64 (i : Int), .pointer (some ⟨ab, i, none⟩), .slice vo pl vc, .agg #[.int .u64 xk, .int .u64 xv, .bool xg], t28, t29, t30, t31, t32], []⟩ : Act) (W2.drew)) := by
    refine wpAnyIn_ready (rs := [1, 7]) (RDH.out (#[true, false, true, true, true, true, true, false, false, false, false], [1, 7]) (by unfold tbl8; repeat (first | exact List.mem_cons_self .. | refine List.mem_cons_of_mem _ ?_))) (by simp) ?_
    refine AllReadyIn.cons h1 (fun K hK => ?_) ?_
    · go_simp
      exact hK _ _ sabcdefg.out
    refine AllReadyIn.cons h7 (fun K hK => ?_) ?_
    · go_simp
      exact hK _ _ sacdefgh.out
    exact AllReadyIn.nil
  have sacdegh : Hid (wpAnyIn (Fence.wide.inRound l) n Try.prog .any ops Q 5 #[true, false, true, true, true, false, true, true, false, false, false] (⟨#[t0, t1, t2, .pointer (some ⟨ba, 0, none⟩), .pointer (some ⟨bi, 0, none⟩), t5, .pointer (some ⟨bx, 0, none⟩), t7, t8, t9, t10, t11, t12, t13, t14, t15, t16, t17, t18, t19, t20, .slice (some ⟨ab, 0, none⟩) N N, t22, .slice (some ⟨ab, 0, none⟩) N N, .int .i64 (i : Int), .pointer (some ⟨ab, i, none⟩), t26, .agg #[.int .u64 xk, .int .u64 xv, .bool xg], .slice (some ⟨W2.heap.size, 0, none⟩) 1 1, t29, t30, t31, t32], []⟩ : Act) (W3)) := by
    refine wpAnyIn_ready (rs := [1, 5]) (RDH.out (#[true, false, true, true, true, false, true, true, false, false, false], [1, 5]) (by unfold tbl8; repeat (first | exact List.mem_cons_self .. | refine List.mem_cons_of_mem _ ?_))) (by simp) ?_
    refine AllReadyIn.cons h1 (fun K hK => ?_) ?_
    · go_simp
      exact hK _ _ sabcdegh.out
    refine AllReadyIn.cons h5 (fun K hK => ?_) ?_
    · go_simp
      exact hK _ _ sacdefgh.out
    exact AllReadyIn.nil
  have sbcdefg : Hid (wpAnyIn (Fence.wide.inRound l) n Try.prog .any ops Q 5 #[false, true, true, true, true, true, true, false, false, false, false] (⟨#[t0, t1, t2, .pointer (some ⟨ba, 0, none⟩), .pointer (some ⟨bi, 0, none⟩), t5, .pointer (some ⟨bx, 0, none⟩), t7, t8, t9, t10, t11, t12, t13, t14, t15, t16, t17, t18, t19, t20, t21, .int .i64 (i : Int), .slice (some ⟨ab, 0, none⟩) N N, .int .i64 (i : Int), .pointer (some ⟨ab, i, none⟩), .slice vo pl vc, .agg #[.int .u64 xk, .int .u64 xv, .bool xg], t28, t29, t30, t31, t32], []⟩ : Act) (W2.drew)) := by
    refine wpAnyIn_ready (rs := [0, 7]) (RDH.out (#[false, true, true, true, true, true, true, false, false, false, false], [0, 7]) (by unfold tbl8; repeat (first | exact List.mem_cons_self .. | refine List.mem_cons_of_mem _ ?_))) (by simp) ?_
    refine AllReadyIn.cons h0 (fun K hK => ?_) ?_
    · go_simp
      exact hK _ _ sabcdefg.out
    refine AllReadyIn.cons h7 (fun K hK => ?_) ?_
    · go_simp
      exact hK _ _ sbcdefgh.out
    exact AllReadyIn.nil
  have sbcdegh : Hid (wpAnyIn (Fence.wide.inRound l) n Try.prog .any ops Q 5 #[false, true, true, true, true, false, true, true, false, false, false] (⟨#[t0, t1, t2, .pointer (some ⟨ba, 0, none⟩), .pointer (some ⟨bi, 0, none⟩), t5, .pointer (some ⟨bx, 0, none⟩), t7, t8, t9, t10, t11, t12, t13, t14, t15, t16, t17, t18, t19, t20, t21, .int .i64 (i : Int), .slice (some ⟨ab, 0, none⟩) N N, .int .i64 (i : Int), .pointer (some ⟨ab, i, none⟩), t26, .agg #[.int .u64 xk, .int .u64 xv, .bool xg], .slice (some ⟨W2.heap.size, 0, none⟩) 1 1, t29, t30, t31, t32], []⟩ : Act) (W3)) := by
    refine wpAnyIn_ready (rs := [0, 5]) (RDH.out (#[false, true, true, true, true, false, true, true, false, false, false], [0, 5]) (by unfold tbl8; repeat (first | exact List.mem_cons_self .. | refine List.mem_cons_of_mem _ ?_))) (by simp) ?_
    refine AllReadyIn.cons h0 (fun K hK => ?_) ?_
    · go_simp
      exact hK _ _ sabcdegh.out
    refine AllReadyIn.cons h5 (fun K hK => ?_) ?_
    · go_simp
      exact hK _ _ sbcdefgh.out
    exact AllReadyIn.nil
  have scdefgh : Hid (wpAnyIn (Fence.wide.inRound l) n Try.prog .any ops Q 5 #[false, false, true, true, true, true, true, true, false, false, false] (⟨#[t0, t1, t2, .pointer (some ⟨ba, 0, none⟩), .pointer (some ⟨bi, 0, none⟩), t5, .pointer (some ⟨bx, 0, none⟩), t7, t8, t9, t10, t11, t12, t13, t14, t15, t16, t17, t18, t19, t20, t21, t22, .slice (some ⟨ab, 0, none⟩) N N, .int .i64 (i : Int), .pointer (some ⟨ab, i, none⟩), .slice vo pl vc, .agg #[.int .u64 xk, .int .u64 xv, .bool xg], .slice (some ⟨W2.heap.size, 0, none⟩) 1 1, t29, t30, t31, t32], []⟩ : Act) (W3)) := by
    refine wpAnyIn_ready (rs := [0, 1, 8]) (RDH.out (#[false, false, true, true, true, true, true, true, false, false, false], [0, 1, 8]) (by unfold tbl8; repeat (first | exact List.mem_cons_self .. | refine List.mem_cons_of_mem _ ?_))) (by simp) ?_
    refine AllReadyIn.cons h0 (fun K hK => ?_) ?_
    · go_simp
      exact hK _ _ sacdefgh.out
    refine AllReadyIn.cons h1 (fun K hK => ?_) ?_
    · go_simp
      exact hK _ _ sbcdefgh.out
    refine AllReadyIn.cons h8 (fun K hK => ?_) ?_
    · exact app_in13 (fun _ => trivial) rfl (.tmp 26) (.tmp 28) 24 rfl (by rfl) (by rfl) HR.out (hK _ _ scdefghi.out)
    exact AllReadyIn.nil
  have sabcde : Hid (wpAnyIn (Fence.wide.inRound l) n Try.prog .any ops Q 6 #[true, true, true, true, true, false, false, false, false, false, false] (⟨#[t0, t1, t2, .pointer (some ⟨ba, 0, none⟩), .pointer (some ⟨bi, 0, none⟩), t5, .pointer (some ⟨bx, 0, none⟩), t7, t8, t9, t10, t11, t12, t13, t14, t15, t16, t17, t18, t19, t20, .slice (some ⟨ab, 0, none⟩) N N, .int .i64 (i : Int), .slice (some ⟨ab, 0, none⟩) N N, .int .i64 (i : Int), .pointer (some ⟨ab, i, none⟩), t26, t27, t28, t29, t30, t31, t32], []⟩ : Act) (W2.drew)) := by
    refine wpAnyIn_ready (rs := [5, 6]) (RDH.out (#[true, true, true, true, true, false, false, false, false, false, false], [5, 6]) (by unfold tbl8; repeat (first | exact List.mem_cons_self .. | refine List.mem_cons_of_mem _ ?_))) (by simp) ?_
    refine AllReadyIn.cons h5 (fun K hK => ?_) ?_
    · go_simp
      exact hK _ _ sabcdef.out
    refine AllReadyIn.cons h6 (fun K hK => ?_) ?_
    · go_simp
      exact hK _ _ sabcdeg.out
    exact AllReadyIn.nil
  have sabcdg : Hid (wpAnyIn (Fence.wide.inRound l) n Try.prog .any ops Q 6 #[true, true, true, true, false, false, true, false, false, false, false] (⟨#[t0, t1, t2, .pointer (some ⟨ba, 0, none⟩), .pointer (some ⟨bi, 0, none⟩), t5, .pointer (some ⟨bx, 0, none⟩), t7, t8, t9, t10, t11, t12, t13, t14, t15, t16, t17, t18, t19, t20, .slice (some ⟨ab, 0, none⟩) N N, .int .i64 (i : Int), .slice (some ⟨ab, 0, none⟩) N N, .int .i64 (i : Int), t25, t26, .agg #[.int .u64 xk, .int .u64 xv, .bool xg], t28, t29, t30, t31, t32], []⟩ : Act) (W2.drew)) := by
    refine wpAnyIn_ready (rs := [4, 7]) (RDH.out (#[true, true, true, true, false, false, true, false, false, false, false], [4, 7]) (by unfold tbl8; repeat (first | exact List.mem_cons_self .. | refine List.mem_cons_of_mem _ ?_))) (by simp) ?_
    refine AllReadyIn.cons h4 (fun K hK => ?_) ?_
    · go_simp
      exact hK _ _ sabcdeg.out
    refine AllReadyIn.cons h7 (fun K hK => ?_) ?_
    · go_simp
      exact hK _ _ sabcdgh.out
    exact AllReadyIn.nil
  have sabcgh : Hid (wpAnyIn (Fence.wide.inRound l) n Try.prog .any ops Q 6 #[true, true, true, false, false, false, true, true, false, false, false] (⟨#[t0, t1, t2, .pointer (some ⟨ba, 0, none⟩), .pointer (some ⟨bi, 0, none⟩), t5, .pointer (some ⟨bx, 0, none⟩), t7, t8, t9, t10, t11, t12, t13, t14, t15, t16, t17, t18, t19, t20, .slice (some ⟨ab, 0, none⟩) N N, .int .i64 (i : Int), .slice (some ⟨ab, 0, none⟩) N N, t24, t25, t26, .agg #[.int .u64 xk, .int .u64 xv, .bool xg], .slice (some ⟨W2.heap.size, 0, none⟩) 1 1, t29, t30, t31, t32], []⟩ : Act) (W3)) := by
    refine wpAnyIn_ready (rs := [3]) (RDH.out (#[true, true, true, false, false, false, true, true, false, false, false], [3]) (by unfold tbl8; repeat (first | exact List.mem_cons_self .. | refine List.mem_cons_of_mem _ ?_))) (by simp) ?_
    refine AllReadyIn.cons h3 (fun K hK => ?_) ?_
    · go_simp
      exact hK _ _ sabcdgh.out
    exact AllReadyIn.nil
  have sabdgh : Hid (wpAnyIn (Fence.wide.inRound l) n Try.prog .any ops Q 6 #[true, true, false, true, false, false, true, true, false, false, false] (⟨#[t0, t1, t2, .pointer (some ⟨ba, 0, none⟩), .pointer (some ⟨bi, 0, none⟩), t5, .pointer (some ⟨bx, 0, none⟩), t7, t8, t9, t10, t11, t12, t13, t14, t15, t16, t17, t18, t19, t20, .slice (some ⟨ab, 0, none⟩) N N, .int .i64 (i : Int), t23, .int .i64 (i : Int), t25, t26, .agg #[.int .u64 xk, .int .u64 xv, .bool xg], .slice (some ⟨W2.heap.size, 0, none⟩) 1 1, t29, t30, t31, t32], []⟩ : Act) (W3)) := by
    refine wpAnyIn_ready (rs := [2]) (RDH.out (#[true, true, false, true, false, false, true, true, false, false, false], [2]) (by unfold tbl8; repeat (first | exact List.mem_cons_self .. | refine List.mem_cons_of_mem _ ?_))) (by simp) ?_
    refine AllReadyIn.cons h2 (fun K hK => ?_) ?_
    · go_simp
      exact hK _ _ sabcdgh.out
    exact AllReadyIn.nil
  have sacdef : Hid (wpAnyIn (Fence.wide.inRound l) n Try.prog .any ops Q 6 #[true, false, true, true, true, true, false, false, false, false, false] (⟨#[t0, t1, t2, .pointer (some ⟨ba, 0, none⟩), .pointer (some ⟨bi, 0, none⟩), t5, .pointer (some ⟨bx, 0, none⟩), t7, t8, t9, t10, t11, t12, t13, t14, t15, t16, t17, t18, t19, t20, .slice (some ⟨ab, 0, none⟩) N N, t22, .slice (some ⟨ab, 0, none⟩) N N, .int .i64 (i : Int), .pointer (some ⟨ab, i, none⟩), .slice vo pl vc, t27, t28, t29, t30, t31, t32], []⟩ : Act) (W2.drew)) := by
    refine wpAnyIn_ready (rs := [1, 6]) (RDH.out (#[true, false, true, true, true, true, false, false, false, false, false], [1, 6]) (by unfold tbl8; repeat (first | exact List.mem_cons_self .. | refine List.mem_cons_of_mem _ ?_))) (by simp) ?_
    refine AllReadyIn.cons h1 (fun K hK => ?_) ?_
    · go_simp
      exact hK _ _ sabcdef.out
    refine AllReadyIn.cons h6 (fun K hK => ?_) ?_
    · go_simp
      exact hK _ _ sacdefg.out
    exact AllReadyIn.nil
  have sacdeg : Hid (wpAnyIn (Fence.wide.inRound l) n Try.prog .any ops Q 6 #[true, false, true, true, true, false, true, false, false, false, false] (⟨#[t0, t1, t2, .pointer (some ⟨ba, 0, none⟩), .pointer (some ⟨bi, 0, none⟩), t5, .pointer (some ⟨bx, 0, none⟩), t7, t8, t9, t10, t11, t12, t13, t14, t15, t16, t17, t18, t19, t20, .slice (some ⟨ab, 0, none⟩) N N, t22, .slice (some ⟨ab, 0, none⟩) N N, .int .i64 (i : Int), .pointer (some ⟨ab, i, none⟩), t26, .agg #[.int .u64 xk, .int .u64 xv, .bool xg], t28, t29, t30, t31, t32], []⟩ : Act) (W2.drew)) := by
    refine wpAnyIn_ready (rs := [1, 5, 7]) (RDH.out (#[true, false, true, true, true, false, true, false, false, false, false], [1, 5, 7]) (by unfold tbl8; repeat (first | exact List.mem_cons_self .. | refine List.mem_cons_of_mem _ ?_))) (by simp) ?_
    refine AllReadyIn.cons h1 (fun K hK => ?_) ?_
    · go_simp
      exact hK _ _ sabcdeg.out
    refine AllReadyIn.cons h5 (fun K hK => ?_) ?_
    · go_simp
      exact hK _ _ sacdefg.out
    refine AllReadyIn.cons h7 (fun K hK => ?_) ?_
    · go_simp
      exact hK _ _ sacdegh.out
    exact AllReadyIn.nil
  have sacdgh : Hid (wpAnyIn (Fence.wide.inRound l) n Try.prog .any ops Q 6 #[true, false, true, true, false, false, true, true, false, false, false] (⟨#[t0, t1, t2, .pointer (some ⟨ba, 0, none⟩), .pointer (some ⟨bi, 0, none⟩), t5, .pointer (some ⟨bx, 0, none⟩), t7, t8, t9, t10, t11, t12, t13, t14, t15, t16, t17, t18, t19, t20, .slice (some ⟨ab, 0, none⟩) N N, t22, .slice (some ⟨ab, 0, none⟩) N N, .int .i64 (i : Int), t25, t26, .agg #[.int .u64 xk, .int .u64 xv, .bool xg], .slice (some ⟨W2.heap.size, 0, none⟩) 1 1, t29, t30, t31, t32], []⟩ : Act) (W3)) := by
    refine wpAnyIn_ready (rs := [1, 4]) (RDH.out (#[true, false, true, true, false, false, true, true, false, false, false], [1, 4]) (by unfold tbl8; repeat (first | exact List.mem_cons_self .. | refine List.mem_cons_of_mem _ ?_))) (by simp) ?_
    refine AllReadyIn.cons h1 (fun K hK => ?_) ?_
    · go_simp
      exact hK _ _ sabcdgh.out
    refine AllReadyIn.cons h4 (fun K hK => ?_) ?_
    · go_simp
      exact hK _ _ sacdegh.out
    exact AllReadyIn.nil
  have sbcdef : Hid (wpAnyIn (Fence.wide.inRound l) n Try.prog .any ops Q 6 #[false, true, true, true, true, true, false, false, false, false, false] (⟨#[t0, t1, t2, .pointer (some ⟨ba, 0, none⟩), .pointer (some ⟨bi, 0, none⟩), t5, .pointer (some ⟨bx, 0, none⟩), t7, t8, t9, t10, t11, t12, t13, t14, t15, t16, t17, t18, t19, t20, t21, .int .i64 (i : Int), .slice (some ⟨ab, 0, none⟩) N N, .int .i64 (i : Int), .pointer (some ⟨ab, i, none⟩), .slice vo pl vc, t27, t28, t29, t30, t31, t32], []⟩ : Act) (W2.drew)) := by
    refine wpAnyIn_ready (rs := [0, 6]) (RDH.out (#[false, true, true, true, true, true, false, false, false, false, false], [0, 6]) (by unfold tbl8; repeat (first | exact List.mem_cons_self .. | refine List.mem_cons_of_mem _ ?_))) (by simp) ?_
    refine AllReadyIn.cons h0 (fun K hK => ?_) ?_
    · go_simp
      exact hK _ _ sabcdef.out
    refine AllReadyIn.cons h6 (fun K hK => ?_) ?_
    · go_simp
      exact hK _ _ sbcdefg.out
    exact AllReadyIn.nil
  have sbcdeg : Hid (wpAnyIn (Fence.wide.inRound l) n Try.prog .any ops Q 6 #[false, true, true, true, true, false, true, false, false, false, false] (⟨#[t0, t1, t2, .pointer (some ⟨ba, 0, none⟩), .pointer (some ⟨bi, 0, none⟩), t5, .pointer (some ⟨bx, 0, none⟩), t7, t8, t9, t10, t11, t12, t13, t14, t15, t16, t17, t18, t19, t20, t21, .int .i64 (i : Int), .slice (some ⟨ab, 0, none⟩) N N, .int .i64 (i : Int), .pointer (some ⟨ab, i, none⟩), t26, .agg #[.int .u64 xk, .int .u64 xv, .bool xg], t28, t29, t30, t31, t32], []⟩ : Act) (W2.drew)) := by
    refine wpAnyIn_ready (rs := [0, 5, 7]) (RDH.out (#[false, true, true, true, true, false, true, false, false, false, false], [0, 5, 7]) (by unfold tbl8; repeat (first | exact List.mem_cons_self .. | refine List.mem_cons_of_mem _ ?_))) (by simp) ?_
    refine AllReadyIn.cons h0 (fun K hK => ?_) ?_
    · go_simp
      exact hK _ _ sabcdeg.out
    refine AllReadyIn.cons h5 (fun K hK => ?_) ?_
    · go_simp
      exact hK _ _ sbcdefg.out
    refine AllReadyIn.cons h7 (fun K hK => ?_) ?_
    · go_simp
      exact hK _ _ sbcdegh.out
    exact AllReadyIn.nil
  have sbcdgh : Hid (wpAnyIn (Fence.wide.inRound l) n Try.prog .any ops Q 6 #[false, true, true, true, false, false, true, true, false, false, false] (⟨#[t0, t1, t2, .pointer (some ⟨ba, 0, none⟩), .pointer (some ⟨bi, 0, none⟩), t5, .pointer (some ⟨bx, 0, none⟩), t7, t8, t9, t10, t11, t12, t13, t14, t15, t16, t17, t18, t19, t20, t21, .int .i64 (i : Int), .slice (some ⟨ab, 0, none⟩) N N, .int .i64 (i : Int), t25, t26, .agg #[.int .u64 xk, .int .u64 xv, .bool xg], .slice (some ⟨W2.heap.size, 0, none⟩) 1 1, t29, t30, t31, t32], []⟩ : Act) (W3)) := by
    refine wpAnyIn_ready (rs := [0, 4]) (RDH.out (#[false, true, true, true, false, false, true, true, false, false, false], [0, 4]) (by unfold tbl8; repeat (first | exact List.mem_cons_self .. | refine List.mem_cons_of_mem _ ?_))) (by simp) ?_
    refine AllReadyIn.cons h0 (fun K hK => ?_) ?_
    · go_simp
      exact hK _ _ sabcdgh.out
    refine AllReadyIn.cons h4 (fun K hK => ?_) ?_
    · go_simp
      exact hK _ _ sbcdegh.out
    exact AllReadyIn.nil
  have scdefg : Hid (wpAnyIn (Fence.wide.inRound l) n Try.prog .any ops Q 6 #[false, false, true, true, true, true, true, false, false, false, false] (⟨#[t0, t1, t2, .pointer (some ⟨ba, 0, none⟩), .pointer (some ⟨bi, 0, none⟩), t5, .pointer (some ⟨bx, 0, none⟩), t7, t8, t9, t10, t11, t12, t13, t14, t15, t16, t17, t18, t19, t20, t21, t22, .slice (some ⟨ab, 0, none⟩) N N, .int .i64 (i : Int), .pointer (some ⟨ab, i, none⟩), .slice vo pl vc, .agg #[.int .u64 xk, .int .u64 xv, .bool xg], t28, t29, t30, t31, t32], []⟩ : Act) (W2.drew)) := by
    refine wpAnyIn_ready (rs := [0, 1, 7]) (RDH.out (#[false, false, true, true, true, true, true, false, false, false, false], [0, 1, 7]) (by unfold tbl8; repeat (first | exact List.mem_cons_self .. | refine List.mem_cons_of_mem _ ?_))) (by simp) ?_
    refine AllReadyIn.cons h0 (fun K hK => ?_) ?_
    · go_simp
      exact hK _ _ sacdefg.out
    refine AllReadyIn.cons h1 (fun K hK => ?_) ?_
    · go_simp
      exact hK _ _ sbcdefg.out
    refine AllReadyIn.cons h7 (fun K hK => ?_) ?_
    · go_simp
      exact hK _ _ scdefgh.out
    exact AllReadyIn.nil
  have scdegh : Hid (wpAnyIn (Fence.wide.inRound l) n Try.prog .any ops Q 6 #[false, false, true, true, true, false, true, true, false, false, false] (⟨#[t0, t1, t2, .pointer (some ⟨ba, 0, none⟩), .pointer (some ⟨bi, 0, none⟩), t5, .pointer (some ⟨bx, 0, none⟩), t7, t8, t9, t10, t11, t12, t13, t14, t15, t16, t17, t18, t19, t20, t21, t22, .slice (some ⟨ab, 0, none⟩) N N, .int .i64 (i : Int), .pointer (some ⟨ab, i, none⟩), t26, .agg #[.int .u64 xk, .int .u64 xv, .bool xg], .slice (some ⟨W2.heap.size, 0, none⟩) 1 1, t29, t30, t31, t32], []⟩ : Act) (W3)) := by
    refine wpAnyIn_ready (rs := [0, 1, 5]) (RDH.out (#[false, false, true, true, true, false, true, true, false, false, false], [0, 1, 5]) (by unfold tbl8; repeat (first | exact List.mem_cons_self .. | refine List.mem_cons_of_mem _ ?_))) (by simp) ?_
    refine AllReadyIn.cons h0 (fun K hK => ?_) ?_
    · go_simp
      exact hK _ _ sacdegh.out
    refine AllReadyIn.cons h1 (fun K hK => ?_) ?_
    · go_simp
      exact hK _ _ sbcdegh.out
    refine AllReadyIn.cons h5 (fun K hK => ?_) ?_
    · go_simp
      exact hK _ _ scdefgh.out
    exact AllReadyIn.nil
  have sabcd : Hid (wpAnyIn (Fence.wide.inRound l) n Try.prog .any ops Q 7 #[true, true, true, true, false, false, false, false, false, false, false] (⟨#[t0, t1, t2, .pointer (some ⟨ba, 0, none⟩), .pointer (some ⟨bi, 0, none⟩), t5, .pointer (some ⟨bx, 0, none⟩), t7, t8, t9, t10, t11, t12, t13, t14, t15, t16, t17, t18, t19, t20, .slice (some ⟨ab, 0, none⟩) N N, .int .i64 (i : Int), .slice (some ⟨ab, 0, none⟩) N N, .int .i64 (i : Int), t25, t26, t27, t28, t29, t30, t31, t32], []⟩ : Act) (W2.drew)) := by
    refine wpAnyIn_ready (rs := [4, 6]) (RDH.out (#[true, true, true, true, false, false, false, false, false, false, false], [4, 6]) (by unfold tbl8; repeat (first | exact List.mem_cons_self .. | refine List.mem_cons_of_mem _ ?_))) (by simp) ?_
    refine AllReadyIn.cons h4 (fun K hK => ?_) ?_
    · go_simp
      exact hK _ _ sabcde.out
    refine AllReadyIn.cons h6 (fun K hK => ?_) ?_
    · go_simp
      exact hK _ _ sabcdg.out
    exact AllReadyIn.nil
  have sabcg : Hid (wpAnyIn (Fence.wide.inRound l) n Try.prog .any ops Q 7 #[true, true, true, false, false, false, true, false, false, false, false] (⟨#[t0, t1, t2, .pointer (some ⟨ba, 0, none⟩), .pointer (some ⟨bi, 0, none⟩), t5, .pointer (some ⟨bx, 0, none⟩), t7, t8, t9, t10, t11, t12, t13, t14, t15, t16, t17, t18, t19, t20, .slice (some ⟨ab, 0, none⟩) N N, .int .i64 (i : Int), .slice (some ⟨ab, 0, none⟩) N N, t24, t25, t26, .agg #[.int .u64 xk, .int .u64 xv, .bool xg], t28, t29, t30, t31, t32], []⟩ : Act) (W2.drew)) := by
    refine wpAnyIn_ready (rs := [3, 7]) (RDH.out (#[true, true, true, false, false, false, true, false, false, false, false], [3, 7]) (by unfold tbl8; repeat (first | exact List.mem_cons_self .. | refine List.mem_cons_of_mem _ ?_))) (by simp) ?_
    refine AllReadyIn.cons h3 (fun K hK => ?_) ?_
    · go_simp
      exact hK _ _ sabcdg.out
    refine AllReadyIn.cons h7 (fun K hK => ?_) ?_
    · go_simp
      exact hK _ _ sabcgh.out
    exact AllReadyIn.nil
  have sabdg : Hid (wpAnyIn (Fence.wide.inRound l) n Try.prog .any ops Q 7 #[true, true, false, true, false, false, true, false, false, false, false] (⟨#[t0, t1, t2, .pointer (some ⟨ba, 0, none⟩), .pointer (some ⟨bi, 0, none⟩), t5, .pointer (some ⟨bx, 0, none⟩), t7, t8, t9, t10, t11, t12, t13, t14, t15, t16, t17, t18, t19, t20, .slice (some ⟨ab, 0, none⟩) N N, .int .i64 (i : Int), t23, .int .i64 (i : Int), t25, t26, .agg #[.int .u64 xk, .int .u64 xv, .bool xg], t28, t29, t30, t31, t32], []⟩ : Act) (W2.drew)) := by
    refine wpAnyIn_ready (rs := [2, 7]) (RDH.out (#[true, true, false, true, false, false, true, false, false, false, false], [2, 7]) (by unfold tbl8; repeat (first | exact List.mem_cons_self .. | refine List.mem_cons_of_mem _ ?_))) (by simp) ?_
    refine AllReadyIn.cons h2 (fun K hK => ?_) ?_
    · go_simp
      exact hK _ _ sabcdg.out
    refine AllReadyIn.cons h7 (fun K hK => ?_) ?_
    · go_simp
      exact hK _ _ sabdgh.out
    exact AllReadyIn.nil
  have sabgh : Hid (wpAnyIn (Fence.wide.inRound l) n Try.prog .any ops Q 7 #[true, true, false, false, false, false, true, true, false, false, false] (⟨#[t0, t1, t2, .pointer (some ⟨ba, 0, none⟩), .pointer (some ⟨bi, 0, none⟩), t5, .pointer (some ⟨bx, 0, none⟩), t7, t8, t9, t10, t11, t12, t13, t14, t15, t16, t17, t18, t19, t20, .slice (some ⟨ab, 0, none⟩) N N, .int .i64 (i : Int), t23, t24, t25, t26, .agg #[.int .u64 xk, .int .u64 xv, .bool xg], .slice (some ⟨W2.heap.size, 0, none⟩) 1 1, t29, t30, t31, t32], []⟩ : Act) (W3)) := by
    refine wpAnyIn_ready (rs := [2, 3]) (RDH.out (#[true, true, false, false, false, false, true, true, false, false, false], [2, 3]) (by unfold tbl8; repeat (first | exact List.mem_cons_self .. | refine List.mem_cons_of_mem _ ?_))) (by simp) ?_
    refine AllReadyIn.cons h2 (fun K hK => ?_) ?_
    · go_simp
      exact hK _ _ sabcgh.out
    refine AllReadyIn.cons h3 (fun K hK => ?_) ?_
    · go_simp
      exact hK _ _ sabdgh.out
    exact AllReadyIn.nil
  have sacde : Hid (wpAnyIn (Fence.wide.inRound l) n Try.prog .any ops Q 7 #[true, false, true, true, true, false, false, false, false, false, false] (⟨#[t0, t1, t2, .pointer (some ⟨ba, 0, none⟩), .pointer (some ⟨bi, 0, none⟩), t5, .pointer (some ⟨bx, 0, none⟩), t7, t8, t9, t10, t11, t12, t13, t14, t15, t16, t17, t18, t19, t20, .slice (some ⟨ab, 0, none⟩) N N, t22, .slice (some ⟨ab, 0, none⟩) N N, .int .i64 (i : Int), .pointer (some ⟨ab, i, none⟩), t26, t27, t28, t29, t30, t31, t32], []⟩ : Act) (W2.drew)) := by
    refine wpAnyIn_ready (rs := [1, 5, 6]) (RDH.out (#[true, false, true, true, true, false, false, false, false, false, false], [1, 5, 6]) (by unfold tbl8; repeat (first | exact List.mem_cons_self .. | refine List.mem_cons_of_mem _ ?_))) (by simp) ?_
    refine AllReadyIn.cons h1 (fun K hK => ?_) ?_
    · go_simp
      exact hK _ _ sabcde.out
    refine AllReadyIn.cons h5 (fun K hK => ?_) ?_
    · go_simp
      exact hK _ _ sacdef.out
    refine AllReadyIn.cons h6 (fun K hK => ?_) ?_
    · go_simp
      exact hK _ _ sacdeg.out
    exact AllReadyIn.nil
  have sacdg : Hid (wpAnyIn (Fence.wide.inRound l) n Try.prog .any ops Q 7 #[true, false, true, true, false, false, true, false, false, false, false] (⟨#[t0, t1, t2, .pointer (some ⟨ba, 0, none⟩), .pointer (some ⟨bi, 0, none⟩), t5, .pointer (some ⟨bx, 0, none⟩), t7, t8, t9, t10, t11, t12, t13, t14, t15, t16, t17, t18, t19, t20, .slice (some ⟨ab, 0, none⟩) N N, t22, .slice (some ⟨ab, 0, none⟩) N N, .int .i64 (i : Int), t25, t26, .agg #[.int .u64 xk, .int .u64 xv, .bool xg], t28, t29, t30, t31, t32], []⟩ : Act) (W2.drew)) := by
    refine wpAnyIn_ready (rs := [1, 4, 7]) (RDH.out (#[true, false, true, true, false, false, true, false, false, false, false], [1, 4, 7]) (by unfold tbl8; repeat (first | exact List.mem_cons_self .. | refine List.mem_cons_of_mem _ ?_))) (by simp) ?_
    refine AllReadyIn.cons h1 (fun K hK => ?_) ?_
    · go_simp
      exact hK _ _ sabcdg.out
    refine AllReadyIn.cons h4 (fun K hK => ?_) ?_
    · go_simp
      exact hK _ _ sacdeg.out
    refine AllReadyIn.cons h7 (fun K hK => ?_) ?_
    · go_simp
      exact hK _ _ sacdgh.out
    exact AllReadyIn.nil
  have sacgh : Hid (wpAnyIn (Fence.wide.inRound l) n Try.prog .any ops Q 7 #[true, false, true, false, false, false, true, true, false, false, false] (⟨#[t0, t1, t2, .pointer (some ⟨ba, 0, none⟩), .pointer (some ⟨bi, 0, none⟩), t5, .pointer (some ⟨bx, 0, none⟩), t7, t8, t9, t10, t11, t12, t13, t14, t15, t16, t17, t18, t19, t20, .slice (some ⟨ab, 0, none⟩) N N, t22, .slice (some ⟨ab, 0, none⟩) N N, t24, t25, t26, .agg #[.int .u64 xk, .int .u64 xv, .bool xg], .slice (some ⟨W2.heap.size, 0, none⟩) 1 1, t29, t30, t31, t32], []⟩ : Act) (W3)) := by
    refine wpAnyIn_ready (rs := [1, 3]) (RDH.out (#[true, false, true, false, false, false, true, true, false, false, false], [1, 3]) (by unfold tbl8; repeat (first | exact List.mem_cons_self .. | refine List.mem_cons_of_mem _ ?_))) (by simp) ?_
    refine AllReadyIn.cons h1 (fun K hK => ?_) ?_
    · go_simp
      exact hK _ _ sabcgh.out
    refine AllReadyIn.cons h3 (fun K hK => ?_) ?_
    · go_simp
      exact hK _ _ sacdgh.out
    exact AllReadyIn.nil
  have sadgh : Hid (wpAnyIn (Fence.wide.inRound l) n Try.prog .any ops Q 7 #[true, false, false, true, false, false, true, true, false, false, false] (⟨#[t0, t1, t2, .pointer (some ⟨ba, 0, none⟩), .pointer (some ⟨bi, 0, none⟩), t5, .pointer (some ⟨bx, 0, none⟩), t7, t8, t9, t10, t11, t12, t13, t14, t15, t16, t17, t18, t19, t20, .slice (some ⟨ab, 0, none⟩) N N, t22, t23, .int .i64 (i : Int), t25, t26, .agg #[.int .u64 xk, .int .u64 xv, .bool xg], .slice (some ⟨W2.heap.size, 0, none⟩) 1 1, t29, t30, t31, t32], []⟩ : Act) (W3)) := by
    refine wpAnyIn_ready (rs := [1, 2]) (RDH.out (#[true, false, false, true, false, false, true, true, false, false, false], [1, 2]) (by unfold tbl8; repeat (first | exact List.mem_cons_self .. | refine List.mem_cons_of_mem _ ?_))) (by simp) ?_
    refine AllReadyIn.cons h1 (fun K hK => ?_) ?_
    · go_simp
      exact hK _ _ sabdgh.out
    refine AllReadyIn.cons h2 (fun K hK => ?_) ?_
    · go_simp
      exact hK _ _ sacdgh.out
    exact AllReadyIn.nil
  have sbcde : Hid (wpAnyIn (Fence.wide.inRound l) n Try.prog .any ops Q 7 #[false, true, true, true, true, false, false, false, false, false, false] (⟨#[t0, t1, t2, .pointer (some ⟨ba, 0, none⟩), .pointer (some ⟨bi, 0, none⟩), t5, .pointer (some ⟨bx, 0, none⟩), t7, t8, t9, t10, t11, t12, t13, t14, t15, t16, t17, t18, t19, t20, t21, .int .i64 (i : Int), .slice (some ⟨ab, 0, none⟩) N N, .int .i64 (i : Int), .pointer (some ⟨ab, i, none⟩), t26, t27, t28, t29, t30, t31, t32], []⟩ : Act) (W2.drew)) := by
    refine wpAnyIn_ready (rs := [0, 5, 6]) (RDH.out (#[false, true, true, true, true, false, false, false, false, false, false], [0, 5, 6]) (by unfold tbl8; repeat (first | exact List.mem_cons_self .. | refine List.mem_cons_of_mem _ ?_))) (by simp) ?_
    refine AllReadyIn.cons h0 (fun K hK => ?_) ?_
    · go_simp
      exact hK _ _ sabcde.out
    refine AllReadyIn.cons h5 (fun K hK => ?_) ?_
    · go_simp
      exact hK _ _ sbcdef.out
    refine AllReadyIn.cons h6 (fun K hK => ?_) ?_
    · go_simp
      exact hK _ _ sbcdeg.out
    exact AllReadyIn.nil
  have sbcdg : Hid (wpAnyIn (Fence.wide.inRound l) n Try.prog .any ops Q 7 #[false, true, true, true, false, false, true, false, false, false, false] (⟨#[t0, t1, t2, .pointer (some ⟨ba, 0, none⟩), .pointer (some ⟨bi, 0, none⟩), t5, .pointer (some ⟨bx, 0, none⟩), t7, t8, t9, t10, t11, t12, t13, t14, t15, t16, t17, t18, t19, t20, t21, .int .i64 (i : Int), .slice (some ⟨ab, 0, none⟩) N N, .int .i64 (i : Int), t25, t26, .agg #[.int .u64 xk, .int .u64 xv, .bool xg], t28, t29, t30, t31, t32], []⟩ : Act) (W2.drew)) := by
    refine wpAnyIn_ready (rs := [0, 4, 7]) (RDH.out (#[false, true, true, true, false, false, true, false, false, false, false], [0, 4, 7]) (by unfold tbl8; repeat (first | exact List.mem_cons_self .. | refine List.mem_cons_of_mem _ ?_))) (by simp) ?_
    refine AllReadyIn.cons h0 (fun K hK => ?_) ?_
    · go_simp
      exact hK _ _ sabcdg.out
    refine AllReadyIn.cons h4 (fun K hK => ?_) ?_
    · go_simp
      exact hK _ _ sbcdeg.out
    refine AllReadyIn.cons h7 (fun K hK => ?_) ?_
    · go_simp
      exact hK _ _ sbcdgh.out
    exact AllReadyIn.nil
  have sbcgh : Hid (wpAnyIn (Fence.wide.inRound l) n Try.prog .any ops Q 7 #[false, true, true, false, false, false, true, true, false, false, false] (⟨#[t0, t1, t2, .pointer (some ⟨ba, 0, none⟩), .pointer (some ⟨bi, 0, none⟩), t5, .pointer (some ⟨bx, 0, none⟩), t7, t8, t9, t10, t11, t12, t13, t14, t15, t16, t17, t18, t19, t20, t21, .int .i64 (i : Int), .slice (some ⟨ab, 0, none⟩) N N, t24, t25, t26, .agg #[.int .u64 xk, .int .u64 xv, .bool xg], .slice (some ⟨W2.heap.size, 0, none⟩) 1 1, t29, t30, t31, t32], []⟩ : Act) (W3)) := by
    refine wpAnyIn_ready (rs := [0, 3]) (RDH.out (#[false, true, true, false, false, false, true, true, false, false, false], [0, 3]) (by unfold tbl8; repeat (first | exact List.mem_cons_self .. | refine List.mem_cons_of_mem _ ?_))) (by simp) ?_
    refine AllReadyIn.cons h0 (fun K hK => ?_) ?_
    · go_simp
      exact hK _ _ sabcgh.out
    refine AllReadyIn.cons h3 (fun K hK => ?_) ?_
    · go_simp
      exact hK _ _ sbcdgh.out
    exact AllReadyIn.nil
  have sbdgh : Hid (wpAnyIn (Fence.wide.inRound l) n Try.prog .any ops Q 7 #[false, true, false, true, false, false, true, true, false, false, false] (⟨#[t0, t1, t2, .pointer (some ⟨ba, 0, none⟩), .pointer (some ⟨bi, 0, none⟩), t5, .pointer (some ⟨bx, 0, none⟩), t7, t8, t9, t10, t11, t12, t13, t14, t15, t16, t17, t18, t19, t20, t21, .int .i64 (i : Int), t23, .int .i64 (i : Int), t25, t26, .agg #[.int .u64 xk, .int .u64 xv, .bool xg], .slice (some ⟨W2.heap.size, 0, none⟩) 1 1, t29, t30, t31, t32], []⟩ : Act) (W3)) := by
    refine wpAnyIn_ready (rs := [0, 2]) (RDH.out (#[false, true, false, true, false, false, true, true, false, false, false], [0, 2]) (by unfold tbl8; repeat (first | exact List.mem_cons_self .. | refine List.mem_cons_of_mem _ ?_))) (by simp) ?_
    refine AllReadyIn.cons h0 (fun K hK => ?_) ?_
    · go_simp
      exact hK _ _ sabdgh.out
    refine AllReadyIn.cons h2 (fun K hK => ?_) ?_
    · go_simp
      exact hK _ _ sbcdgh.out
    exact AllReadyIn.nil
  have scdef : Hid (wpAnyIn (Fence.wide.inRound l) n Try.prog .any ops Q 7 #[false, false, true, true, true, true, false, false, false, false, false] (⟨#[t0, t1, t2, .pointer (some ⟨ba, 0, none⟩), .pointer (some ⟨bi, 0, none⟩), t5, .pointer (some ⟨bx, 0, none⟩), t7, t8, t9, t10, t11, t12, t13, t14, t15, t16, t17, t18, t19, t20, t21, t22, .slice (some ⟨ab, 0, none⟩) N N, .int .i64 (i : Int), .pointer (some ⟨ab, i, none⟩), .slice vo pl vc, t27, t28, t29, t30, t31, t32], []⟩ : Act) (W2.drew)) := by
    refine wpAnyIn_ready (rs := [0, 1, 6]) (RDH.out (#[false, false, true, true, true, true, false, false, false, false, false], [0, 1, 6]) (by unfold tbl8; repeat (first | exact List.mem_cons_self .. | refine List.mem_cons_of_mem _ ?_))) (by simp) ?_
    refine AllReadyIn.cons h0 (fun K hK => ?_) ?_
    · go_simp
      exact hK _ _ sacdef.out
    refine AllReadyIn.cons h1 (fun K hK => ?_) ?_
    · go_simp
      exact hK _ _ sbcdef.out
    refine AllReadyIn.cons h6 (fun K hK => ?_) ?_
    · go_simp
      exact hK _ _ scdefg.out
    exact AllReadyIn.nil
  have scdeg : Hid (wpAnyIn (Fence.wide.inRound l) n Try.prog .any ops Q 7 #[false, false, true, true, true, false, true, false, false, false, false] (⟨#[t0, t1, t2, .pointer (some ⟨ba, 0, none⟩), .pointer (some ⟨bi, 0, none⟩), t5, .pointer (some ⟨bx, 0, none⟩), t7, t8, t9, t10, t11, t12, t13, t14, t15, t16, t17, t18, t19, t20, t21, t22, .slice (some ⟨ab, 0, none⟩) N N, .int .i64 (i : Int), .pointer (some ⟨ab, i, none⟩), t26, .agg #[.int .u64 xk, .int .u64 xv, .bool xg], t28, t29, t30, t31, t32], []⟩ : Act) (W2.drew)) := by
    refine wpAnyIn_ready (rs := [0, 1, 5, 7]) (RDH.out (#[false, false, true, true, true, false, true, false, false, false, false], [0, 1, 5, 7]) (by unfold tbl8; repeat (first | exact List.mem_cons_self .. | refine List.mem_cons_of_mem _ ?_))) (by simp) ?_
    refine AllReadyIn.cons h0 (fun K hK => ?_) ?_
    · go_simp
      exact hK _ _ sacdeg.out
    refine AllReadyIn.cons h1 (fun K hK => ?_) ?_
    · go_simp
      exact hK _ _ sbcdeg.out
    refine AllReadyIn.cons h5 (fun K hK => ?_) ?_
    · go_simp
      exact hK _ _ scdefg.out
    refine AllReadyIn.cons h7 (fun K hK => ?_) ?_
    · go_simp
      exact hK _ _ scdegh.out
    exact AllReadyIn.nil
  have scdgh : Hid (wpAnyIn (Fence.wide.inRound l) n Try.prog .any ops Q 7 #[false, false, true, true, false, false, true, true, false, false, false] (⟨#[t0, t1, t2, .pointer (some ⟨ba, 0, none⟩), .pointer (some ⟨bi, 0, none⟩), t5, .pointer (some ⟨bx, 0, none⟩), t7, t8, t9, t10, t11, t12, t13, t14, t15, t16, t17, t18, t19, t20, t21, t22, .slice (some ⟨ab, 0, none⟩) N N, .int .i64 (i : Int), t25, t26, .agg #[.int .u64 xk, .int .u64 xv, .bool xg], .slice (some ⟨W2.heap.size, 0, none⟩) 1 1, t29, t30, t31, t32], []⟩ : Act) (W3)) := by
    refine wpAnyIn_ready (rs := [0, 1, 4]) (RDH.out (#[false, false, true, true, false, false, true, true, false, false, false], [0, 1, 4]) (by unfold tbl8; repeat (first | exact List.mem_cons_self .. | refine List.mem_cons_of_mem _ ?_))) (by simp) ?_
    refine AllReadyIn.cons h0 (fun K hK => ?_) ?_
    · go_simp
      exact hK _ _ sacdgh.out
    refine AllReadyIn.cons h1 (fun K hK => ?_) ?_
    · go_simp
      exact hK _ _ sbcdgh.out
    refine AllReadyIn.cons h4 (fun K hK => ?_) ?_
    · go_simp
      exact hK _ _ scdegh.out
    exact AllReadyIn.nil
  have sabc : Hid (wpAnyIn (Fence.wide.inRound l) n Try.prog .any ops Q 8 #[true, true, true, false, false, false, false, false, false, false, false] (⟨#[t0, t1, t2, .pointer (some ⟨ba, 0, none⟩), .pointer (some ⟨bi, 0, none⟩), t5, .pointer (some ⟨bx, 0, none⟩), t7, t8, t9, t10, t11, t12, t13, t14, t15, t16, t17, t18, t19, t20, .slice (some ⟨ab, 0, none⟩) N N, .int .i64 (i : Int), .slice (some ⟨ab, 0, none⟩) N N, t24, t25, t26, t27, t28, t29, t30, t31, t32], []⟩ : Act) (W2.drew)) := by
    refine wpAnyIn_ready (rs := [3, 6]) (RDH.out (#[true, true, true, false, false, false, false, false, false, false, false], [3, 6]) (by unfold tbl8; repeat (first | exact List.mem_cons_self .. | refine List.mem_cons_of_mem _ ?_))) (by simp) ?_
    refine AllReadyIn.cons h3 (fun K hK => ?_) ?_
    · go_simp
      exact hK _ _ sabcd.out
    refine AllReadyIn.cons h6 (fun K hK => ?_) ?_
    · go_simp
      exact hK _ _ sabcg.out
    exact AllReadyIn.nil
  have sabd : Hid (wpAnyIn (Fence.wide.inRound l) n Try.prog .any ops Q 8 #[true, true, false, true, false, false, false, false, false, false, false] (⟨#[t0, t1, t2, .pointer (some ⟨ba, 0, none⟩), .pointer (some ⟨bi, 0, none⟩), t5, .pointer (some ⟨bx, 0, none⟩), t7, t8, t9, t10, t11, t12, t13, t14, t15, t16, t17, t18, t19, t20, .slice (some ⟨ab, 0, none⟩) N N, .int .i64 (i : Int), t23, .int .i64 (i : Int), t25, t26, t27, t28, t29, t30, t31, t32], []⟩ : Act) (W2.drew)) := by
    refine wpAnyIn_ready (rs := [2, 6]) (RDH.out (#[true, true, false, true, false, false, false, false, false, false, false], [2, 6]) (by unfold tbl8; repeat (first | exact List.mem_cons_self .. | refine List.mem_cons_of_mem _ ?_))) (by simp) ?_
    refine AllReadyIn.cons h2 (fun K hK => ?_) ?_
    · go_simp
      exact hK _ _ sabcd.out
    refine AllReadyIn.cons h6 (fun K hK => ?_) ?_
    · go_simp
      exact hK _ _ sabdg.out
    exact AllReadyIn.nil
  have sabg : Hid (wpAnyIn (Fence.wide.inRound l) n Try.prog .any ops Q 8 #[true, true, false, false, false, false, true, false, false, false, false] (⟨#[t0, t1, t2, .pointer (some ⟨ba, 0, none⟩), .pointer (some ⟨bi, 0, none⟩), t5, .pointer (some ⟨bx, 0, none⟩), t7, t8, t9, t10, t11, t12, t13, t14, t15, t16, t17, t18, t19, t20, .slice (some ⟨ab, 0, none⟩) N N, .int .i64 (i : Int), t23, t24, t25, t26, .agg #[.int .u64 xk, .int .u64 xv, .bool xg], t28, t29, t30, t31, t32], []⟩ : Act) (W2.drew)) := by
    refine wpAnyIn_ready (rs := [2, 3, 7]) (RDH.out (#[true, true, false, false, false, false, true, false, false, false, false], [2, 3, 7]) (by unfold tbl8; repeat (first | exact List.mem_cons_self .. | refine List.mem_cons_of_mem _ ?_))) (by simp) ?_
    refine AllReadyIn.cons h2 (fun K hK => ?_) ?_
    · go_simp
      exact hK _ _ sabcg.out
    refine AllReadyIn.cons h3 (fun K hK => ?_) ?_
    · go_simp
      exact hK _ _ sabdg.out
    refine AllReadyIn.cons h7 (fun K hK => ?_) ?_
    · go_simp
      exact hK _ _ sabgh.out
    exact AllReadyIn.nil
  have sacd : Hid (wpAnyIn (Fence.wide.inRound l) n Try.prog .any ops Q 8 #[true, false, true, true, false, false, false, false, false, false, false] (⟨#[t0, t1, t2, .pointer (some ⟨ba, 0, none⟩), .pointer (some ⟨bi, 0, none⟩), t5, .pointer (some ⟨bx, 0, none⟩), t7, t8, t9, t10, t11, t12, t13, t14, t15, t16, t17, t18, t19, t20, .slice (some ⟨ab, 0, none⟩) N N, t22, .slice (some ⟨ab, 0, none⟩) N N, .int .i64 (i : Int), t25, t26, t27, t28, t29, t30, t31, t32], []⟩ : Act) (W2.drew)) := by
    refine wpAnyIn_ready (rs := [1, 4, 6]) (RDH.out (#[true, false, true, true, false, false, false, false, false, false, false], [1, 4, 6]) (by unfold tbl8; repeat (first | exact List.mem_cons_self .. | refine List.mem_cons_of_mem _ ?_))) (by simp) ?_
    refine AllReadyIn.cons h1 (fun K hK => ?_) ?_
    · go_simp
      exact hK _ _ sabcd.out
    refine AllReadyIn.cons h4 (fun K hK => ?_) ?_
    · go_simp
      exact hK _ _ sacde.out
    refine AllReadyIn.cons h6 (fun K hK => ?_) ?_
    · go_simp
      exact hK _ _ sacdg.out
    exact AllReadyIn.nil
  have sacg : Hid (wpAnyIn (Fence.wide.inRound l) n Try.prog .any ops Q 8 #[true, false, true, false, false, false, true, false, false, false, false] (⟨#[t0, t1, t2, .pointer (some ⟨ba, 0, none⟩), .pointer (some ⟨bi, 0, none⟩), t5, .pointer (some ⟨bx, 0, none⟩), t7, t8, t9, t10, t11, t12, t13, t14, t15, t16, t17, t18, t19, t20, .slice (some ⟨ab, 0, none⟩) N N, t22, .slice (some ⟨ab, 0, none⟩) N N, t24, t25, t26, .agg #[.int .u64 xk, .int .u64 xv, .bool xg], t28, t29, t30, t31, t32], []⟩ : Act) (W2.drew)) := by
    refine wpAnyIn_ready (rs := [1, 3, 7]) (RDH.out (#[true, false, true, false, false, false, true, false, false, false, false], [1, 3, 7]) (by unfold tbl8; repeat (first | exact List.mem_cons_self .. | refine List.mem_cons_of_mem _ ?_))) (by simp) ?_
    refine AllReadyIn.cons h1 (fun K hK => ?_) ?_
    · go_simp
      exact hK _ _ sabcg.out
    refine AllReadyIn.cons h3 (fun K hK => ?_) ?_
    · go_simp
      exact hK _ _ sacdg.out
    refine AllReadyIn.cons h7 (fun K hK => ?_) ?_
    · go_simp
      exact hK _ _ sacgh.out
    exact AllReadyIn.nil
  have sadg : Hid (wpAnyIn (Fence.wide.inRound l) n Try.prog .any ops Q 8 #[true, false, false, true, false, false, true, false, false, false, false] (⟨#[t0, t1, t2, .pointer (some ⟨ba, 0, none⟩), .pointer (some ⟨bi, 0, none⟩), t5, .pointer (some ⟨bx, 0, none⟩), t7, t8, t9, t10, t11, t12, t13, t14, t15, t16, t17, t18, t19, t20, .slice (some ⟨ab, 0, none⟩) N N, t22, t23, .int .i64 (i : Int), t25, t26, .agg #[.int .u64 xk, .int .u64 xv, .bool xg], t28, t29, t30, t31, t32], []⟩ : Act) (W2.drew)) := by
    refine wpAnyIn_ready (rs := [1, 2, 7]) (RDH.out (#[true, false, false, true, false, false, true, false, false, false, false], [1, 2, 7]) (by unfold tbl8; repeat (first | exact List.mem_cons_self .. | refine List.mem_cons_of_mem _ ?_))) (by simp) ?_
    refine AllReadyIn.cons h1 (fun K hK => ?_) ?_
    · go_simp
      exact hK _ _ sabdg.out
    refine AllReadyIn.cons h2 (fun K hK => ?_) ?_
    · go_simp
      exact hK _ _ sacdg.out
    refine AllReadyIn.cons h7 (fun K hK => ?_) ?_
    · go_simp
      exact hK _ _ sadgh.out
    exact AllReadyIn.nil
  have sagh : Hid (wpAnyIn (Fence.wide.inRound l) n Try.prog .any ops Q 8 #[true, false, false, false, false, false, true, true, false, false, false] (⟨#[t0, t1, t2, .pointer (some ⟨ba, 0, none⟩), .pointer (some ⟨bi, 0, none⟩), t5, .pointer (some ⟨bx, 0, none⟩), t7, t8, t9, t10, t11, t12, t13, t14, t15, t16, t17, t18, t19, t20, .slice (some ⟨ab, 0, none⟩) N N, t22, t23, t24, t25, t26, .agg #[.int .u64 xk, .int .u64 xv, .bool xg], .slice (some ⟨W2.heap.size, 0, none⟩) 1 1, t29, t30, t31, t32], []⟩ : Act) (W3)) := by
    refine wpAnyIn_ready (rs := [1, 2, 3]) (RDH.out (#[true, false, false, false, false, false, true, true, false, false, false], [1, 2, 3]) (by unfold tbl8; repeat (first | exact List.mem_cons_self .. | refine List.mem_cons_of_mem _ ?_))) (by simp) ?_
    refine AllReadyIn.cons h1 (fun K hK => ?_) ?_
    · go_simp
      exact hK _ _ sabgh.out
    refine AllReadyIn.cons h2 (fun K hK => ?_) ?_
    · go_simp
      exact hK _ _ sacgh.out
    refine AllReadyIn.cons h3 (fun K hK => ?_) ?_
    · go_simp
      exact hK _ _ sadgh.out
    exact AllReadyIn.nil
  have sbcd : Hid (wpAnyIn (Fence.wide.inRound l) n Try.prog .any ops Q 8 #[false, true, true, true, false, false, false, false, false, false, false] (⟨#[t0, t1, t2, .pointer (some ⟨ba, 0, none⟩), .pointer (some ⟨bi, 0, none⟩), t5, .pointer (some ⟨bx, 0, none⟩), t7, t8, t9, t10, t11, t12, t13, t14, t15, t16, t17, t18, t19, t20, t21, .int .i64 (i : Int), .slice (some ⟨ab, 0, none⟩) N N, .int .i64 (i : Int), t25, t26, t27, t28, t29, t30, t31, t32], []⟩ : Act) (W2.drew)) := by
    refine wpAnyIn_ready (rs := [0, 4, 6]) (RDH.out (#[false, true, true, true, false, false, false, false, false, false, false], [0, 4, 6]) (by unfold tbl8; repeat (first | exact List.mem_cons_self .. | refine List.mem_cons_of_mem _ ?_))) (by simp) ?_
    refine AllReadyIn.cons h0 (fun K hK => ?_) ?_
    · go_simp
      exact hK _ _ sabcd.out
    refine AllReadyIn.cons h4 (fun K hK => ?_) ?_
    · go_simp
      exact hK _ _ sbcde.out
    refine AllReadyIn.cons h6 (fun K hK => ?_) ?_
    · go_simp
      exact hK _ _ sbcdg.out
    exact AllReadyIn.nil
  have sbcg : Hid (wpAnyIn (Fence.wide.inRound l) n Try.prog .any ops Q 8 #[false, true, true, false, false, false, true, false, false, false, false] (⟨#[t0, t1, t2, .pointer (some ⟨ba, 0, none⟩), .pointer (some ⟨bi, 0, none⟩), t5, .pointer (some ⟨bx, 0, none⟩), t7, t8, t9, t10, t11, t12, t13, t14, t15, t16, t17, t18, t19, t20, t21, .int .i64 (i : Int), .slice (some ⟨ab, 0, none⟩) N N, t24, t25, t26, .agg #[.int .u64 xk, .int .u64 xv, .bool xg], t28, t29, t30, t31, t32], []⟩ : Act) (W2.drew)) := by
    refine wpAnyIn_ready (rs := [0, 3, 7]) (RDH.out (#[false, true, true, false, false, false, true, false, false, false, false], [0, 3, 7]) (by unfold tbl8; repeat (first | exact List.mem_cons_self .. | refine List.mem_cons_of_mem _ ?_))) (by simp) ?_
    refine AllReadyIn.cons h0 (fun K hK => ?_) ?_
    · go_simp
      exact hK _ _ sabcg.out
    refine AllReadyIn.cons h3 (fun K hK => ?_) ?_
    · go_simp
      exact hK _ _ sbcdg.out
    refine AllReadyIn.cons h7 (fun K hK => ?_) ?_
    · go_simp
      exact hK _ _ sbcgh.out
    exact AllReadyIn.nil
  have sbdg : Hid (wpAnyIn (Fence.wide.inRound l) n Try.prog .any ops Q 8 #[false, true, false, true, false, false, true, false, false, false, false] (⟨#[t0, t1, t2, .pointer (some ⟨ba, 0, none⟩), .pointer (some ⟨bi, 0, none⟩), t5, .pointer (some ⟨bx, 0, none⟩), t7, t8, t9, t10, t11, t12, t13, t14, t15, t16, t17, t18, t19, t20, t21, .int .i64 (i : Int), t23, .int .i64 (i : Int), t25, t26, .agg #[.int .u64 xk, .int .u64 xv, .bool xg], t28, t29, t30, t31, t32], []⟩ : Act) (W2.drew)) := by
    refine wpAnyIn_ready (rs := [0, 2, 7]) (RDH.out (#[false, true, false, true, false, false, true, false, false, false, false], [0, 2, 7]) (by unfold tbl8; repeat (first | exact List.mem_cons_self .. | refine List.mem_cons_of_mem _ ?_))) (by simp) ?_
    refine AllReadyIn.cons h0 (fun K hK => ?_) ?_
    · go_simp
      exact hK _ _ sabdg.out
    refine AllReadyIn.cons h2 (fun K hK => ?_) ?_
    · go_simp
      exact hK _ _ sbcdg.out
    refine AllReadyIn.cons h7 (fun K hK => ?_) ?_
    · go_simp
      exact hK _ _ sbdgh.out
    exact AllReadyIn.nil
  have sbgh : Hid (wpAnyIn (Fence.wide.inRound l) n Try.prog .any ops Q 8 #[false, true, false, false, false, false, true, true, false, false, false] (⟨#[t0, t1, t2, .pointer (some ⟨ba, 0, none⟩), .pointer (some ⟨bi, 0, none⟩), t5, .pointer (some ⟨bx, 0, none⟩), t7, t8, t9, t10, t11, t12, t13, t14, t15, t16, t17, t18, t19, t20, t21, .int .i64 (i : Int), t23, t24, t25, t26, .agg #[.int .u64 xk, .int .u64 xv, .bool xg], .slice (some ⟨W2.heap.size, 0, none⟩) 1 1, t29, t30, t31, t32], []⟩ : Act) (W3)) := by
    refine wpAnyIn_ready (rs := [0, 2, 3]) (RDH.out (#[false, true, false, false, false, false, true, true, false, false, false], [0, 2, 3]) (by unfold tbl8; repeat (first | exact List.mem_cons_self .. | refine List.mem_cons_of_mem _ ?_))) (by simp) ?_
    refine AllReadyIn.cons h0 (fun K hK => ?_) ?_
    · go_simp
      exact hK _ _ sabgh.out
    refine AllReadyIn.cons h2 (fun K hK => ?_) ?_
    · go_simp
      exact hK _ _ sbcgh.out
    refine AllReadyIn.cons h3 (fun K hK => ?_) ?_
    · go_simp
      exact hK _ _ sbdgh.out
    exact AllReadyIn.nil
  have scde : Hid (wpAnyIn (Fence.wide.inRound l) n Try.prog .any ops Q 8 #[false, false, true, true, true, false, false, false, false, false, false] (⟨#[t0, t1, t2, .pointer (some ⟨ba, 0, none⟩), .pointer (some ⟨bi, 0, none⟩), t5, .pointer (some ⟨bx, 0, none⟩), t7, t8, t9, t10, t11, t12, t13, t14, t15, t16, t17, t18, t19, t20, t21, t22, .slice (some ⟨ab, 0, none⟩) N N, .int .i64 (i : Int), .pointer (some ⟨ab, i, none⟩), t26, t27, t28, t29, t30, t31, t32], []⟩ : Act) (W2.drew)) := by
    refine wpAnyIn_ready (rs := [0, 1, 5, 6]) (RDH.out (#[false, false, true, true, true, false, false, false, false, false, false], [0, 1, 5, 6]) (by unfold tbl8; repeat (first | exact List.mem_cons_self .. | refine List.mem_cons_of_mem _ ?_))) (by simp) ?_
    refine AllReadyIn.cons h0 (fun K hK => ?_) ?_
    · go_simp
      exact hK _ _ sacde.out
    refine AllReadyIn.cons h1 (fun K hK => ?_) ?_
    · go_simp
      exact hK _ _ sbcde.out
    refine AllReadyIn.cons h5 (fun K hK => ?_) ?_
    · go_simp
      exact hK _ _ scdef.out
    refine AllReadyIn.cons h6 (fun K hK => ?_) ?_
    · go_simp
      exact hK _ _ scdeg.out
    exact AllReadyIn.nil
  have scdg : Hid (wpAnyIn (Fence.wide.inRound l) n Try.prog .any ops Q 8 #[false, false, true, true, false, false, true, false, false, false, false] (⟨#[t0, t1, t2, .pointer (some ⟨ba, 0, none⟩), .pointer (some ⟨bi, 0, none⟩), t5, .pointer (some ⟨bx, 0, none⟩), t7, t8, t9, t10, t11, t12, t13, t14, t15, t16, t17, t18, t19, t20, t21, t22, .slice (some ⟨ab, 0, none⟩) N N, .int .i64 (i : Int), t25, t26, .agg #[.int .u64 xk, .int .u64 xv, .bool xg], t28, t29, t30, t31, t32], []⟩ : Act) (W2.drew)) := by
    refine wpAnyIn_ready (rs := [0, 1, 4, 7]) (RDH.out (#[false, false, true, true, false, false, true, false, false, false, false], [0, 1, 4, 7]) (by unfold tbl8; repeat (first | exact List.mem_cons_self .. | refine List.mem_cons_of_mem _ ?_))) (by simp) ?_
    refine AllReadyIn.cons h0 (fun K hK => ?_) ?_
    · go_simp
      exact hK _ _ sacdg.out
    refine AllReadyIn.cons h1 (fun K hK => ?_) ?_
    · go_simp
      exact hK _ _ sbcdg.out
    refine AllReadyIn.cons h4 (fun K hK => ?_) ?_
    · go_simp
      exact hK _ _ scdeg.out
    refine AllReadyIn.cons h7 (fun K hK => ?_) ?_
    · go_simp
      exact hK _ _ scdgh.out
    exact AllReadyIn.nil
  have scgh : Hid (wpAnyIn (Fence.wide.inRound l) n Try.prog .any ops Q 8 #[false, false, true, false, false, false, true, true, false, false, false] (⟨#[t0, t1, t2, .pointer (some ⟨ba, 0, none⟩), .pointer (some ⟨bi, 0, none⟩), t5, .pointer (some ⟨bx, 0, none⟩), t7, t8, t9, t10, t11, t12, t13, t14, t15, t16, t17, t18, t19, t20, t21, t22, .slice (some ⟨ab, 0, none⟩) N N, t24, t25, t26, .agg #[.int .u64 xk, .int .u64 xv, .bool xg], .slice (some ⟨W2.heap.size, 0, none⟩) 1 1, t29, t30, t31, t32], []⟩ : Act) (W3)) := by
    refine wpAnyIn_ready (rs := [0, 1, 3]) (RDH.out (#[false, false, true, false, false, false, true, true, false, false, false], [0, 1, 3]) (by unfold tbl8; repeat (first | exact List.mem_cons_self .. | refine List.mem_cons_of_mem _ ?_))) (by simp) ?_
    refine AllReadyIn.cons h0 (fun K hK => ?_) ?_
    · go_simp
      exact hK _ _ sacgh.out
    refine AllReadyIn.cons h1 (fun K hK => ?_) ?_
    · go_simp
      exact hK _ _ sbcgh.out
    refine AllReadyIn.cons h3 (fun K hK => ?_) ?_
    · go_simp
      exact hK _ _ scdgh.out
    exact AllReadyIn.nil
  have sdgh : Hid (wpAnyIn (Fence.wide.inRound l) n Try.prog .any ops Q 8 #[false, false, false, true, false, false, true, true, false, false, false] (⟨#[t0, t1, t2, .pointer (some ⟨ba, 0, none⟩), .pointer (some ⟨bi, 0, none⟩), t5, .pointer (some ⟨bx, 0, none⟩), t7, t8, t9, t10, t11, t12, t13, t14, t15, t16, t17, t18, t19, t20, t21, t22, t23, .int .i64 (i : Int), t25, t26, .agg #[.int .u64 xk, .int .u64 xv, .bool xg], .slice (some ⟨W2.heap.size, 0, none⟩) 1 1, t29, t30, t31, t32], []⟩ : Act) (W3)) := by
    refine wpAnyIn_ready (rs := [0, 1, 2]) (RDH.out (#[false, false, false, true, false, false, true, true, false, false, false], [0, 1, 2]) (by unfold tbl8; repeat (first | exact List.mem_cons_self .. | refine List.mem_cons_of_mem _ ?_))) (by simp) ?_
    refine AllReadyIn.cons h0 (fun K hK => ?_) ?_
    · go_simp
      exact hK _ _ sadgh.out
    refine AllReadyIn.cons h1 (fun K hK => ?_) ?_
    · go_simp
      exact hK _ _ sbdgh.out
    refine AllReadyIn.cons h2 (fun K hK => ?_) ?_
    · go_simp
      exact hK _ _ scdgh.out
    exact AllReadyIn.nil
  have sab : Hid (wpAnyIn (Fence.wide.inRound l) n Try.prog .any ops Q 9 #[true, true, false, false, false, false, false, false, false, false, false] (⟨#[t0, t1, t2, .pointer (some ⟨ba, 0, none⟩), .pointer (some ⟨bi, 0, none⟩), t5, .pointer (some ⟨bx, 0, none⟩), t7, t8, t9, t10, t11, t12, t13, t14, t15, t16, t17, t18, t19, t20, .slice (some ⟨ab, 0, none⟩) N N, .int .i64 (i : Int), t23, t24, t25, t26, t27, t28, t29, t30, t31, t32], []⟩ : Act) (W2.drew)) := by
    refine wpAnyIn_ready (rs := [2, 3, 6]) (RDH.out (#[true, true, false, false, false, false, false, false, false, false, false], [2, 3, 6]) (by unfold tbl8; repeat (first | exact List.mem_cons_self .. | refine List.mem_cons_of_mem _ ?_))) (by simp) ?_
    refine AllReadyIn.cons h2 (fun K hK => ?_) ?_
    · go_simp
      exact hK _ _ sabc.out
    refine AllReadyIn.cons h3 (fun K hK => ?_) ?_
    · go_simp
      exact hK _ _ sabd.out
    refine AllReadyIn.cons h6 (fun K hK => ?_) ?_
    · go_simp
      exact hK _ _ sabg.out
    exact AllReadyIn.nil
  have sac : Hid (wpAnyIn (Fence.wide.inRound l) n Try.prog .any ops Q 9 #[true, false, true, false, false, false, false, false, false, false, false] (⟨#[t0, t1, t2, .pointer (some ⟨ba, 0, none⟩), .pointer (some ⟨bi, 0, none⟩), t5, .pointer (some ⟨bx, 0, none⟩), t7, t8, t9, t10, t11, t12, t13, t14, t15, t16, t17, t18, t19, t20, .slice (some ⟨ab, 0, none⟩) N N, t22, .slice (some ⟨ab, 0, none⟩) N N, t24, t25, t26, t27, t28, t29, t30, t31, t32], []⟩ : Act) (W2.drew)) := by
    refine wpAnyIn_ready (rs := [1, 3, 6]) (RDH.out (#[true, false, true, false, false, false, false, false, false, false, false], [1, 3, 6]) (by unfold tbl8; repeat (first | exact List.mem_cons_self .. | refine List.mem_cons_of_mem _ ?_))) (by simp) ?_
    refine AllReadyIn.cons h1 (fun K hK => ?_) ?_
    · go_simp
      exact hK _ _ sabc.out
    refine AllReadyIn.cons h3 (fun K hK => ?_) ?_
    · go_simp
      exact hK _ _ sacd.out
    refine AllReadyIn.cons h6 (fun K hK => ?_) ?_
    · go_simp
      exact hK _ _ sacg.out
    exact AllReadyIn.nil
  have sad : Hid (wpAnyIn (Fence.wide.inRound l) n Try.prog .any ops Q 9 #[true, false, false, true, false, false, false, false, false, false, false] (⟨#[t0, t1, t2, .pointer (some ⟨ba, 0, none⟩), .pointer (some ⟨bi, 0, none⟩), t5, .pointer (some ⟨bx, 0, none⟩), t7, t8, t9, t10, t11, t12, t13, t14, t15, t16, t17, t18, t19, t20, .slice (some ⟨ab, 0, none⟩) N N, t22, t23, .int .i64 (i : Int), t25, t26, t27, t28, t29, t30, t31, t32], []⟩ : Act) (W2.drew)) := by
    refine wpAnyIn_ready (rs := [1, 2, 6]) (RDH.out (#[true, false, false, true, false, false, false, false, false, false, false], [1, 2, 6]) (by unfold tbl8; repeat (first | exact List.mem_cons_self .. | refine List.mem_cons_of_mem _ ?_))) (by simp) ?_
    refine AllReadyIn.cons h1 (fun K hK => ?_) ?_
    · go_simp
      exact hK _ _ sabd.out
    refine AllReadyIn.cons h2 (fun K hK => ?_) ?_
    · go_simp
      exact hK _ _ sacd.out
    refine AllReadyIn.cons h6 (fun K hK => ?_) ?_
    · go_simp
      exact hK _ _ sadg.out
    exact AllReadyIn.nil
  have sag : Hid (wpAnyIn (Fence.wide.inRound l) n Try.prog .any ops Q 9 #[true, false, false, false, false, false, true, false, false, false, false] (⟨#[t0, t1, t2, .pointer (some ⟨ba, 0, none⟩), .pointer (some ⟨bi, 0, none⟩), t5, .pointer (some ⟨bx, 0, none⟩), t7, t8, t9, t10, t11, t12, t13, t14, t15, t16, t17, t18, t19, t20, .slice (some ⟨ab, 0, none⟩) N N, t22, t23, t24, t25, t26, .agg #[.int .u64 xk, .int .u64 xv, .bool xg], t28, t29, t30, t31, t32], []⟩ : Act) (W2.drew)) := by
    refine wpAnyIn_ready (rs := [1, 2, 3, 7]) (RDH.out (#[true, false, false, false, false, false, true, false, false, false, false], [1, 2, 3, 7]) (by unfold tbl8; repeat (first | exact List.mem_cons_self .. | refine List.mem_cons_of_mem _ ?_))) (by simp) ?_
    refine AllReadyIn.cons h1 (fun K hK => ?_) ?_
    · go_simp
      exact hK _ _ sabg.out
    refine AllReadyIn.cons h2 (fun K hK => ?_) ?_
    · go_simp
      exact hK _ _ sacg.out
    refine AllReadyIn.cons h3 (fun K hK => ?_) ?_
    · go_simp
      exact hK _ _ sadg.out
    refine AllReadyIn.cons h7 (fun K hK => ?_) ?_
    · go_simp
      exact hK _ _ sagh.out
    exact AllReadyIn.nil
  have sbc : Hid (wpAnyIn (Fence.wide.inRound l) n Try.prog .any ops Q 9 #[false, true, true, false, false, false, false, false, false, false, false] (⟨#[t0, t1, t2, .pointer (some ⟨ba, 0, none⟩), .pointer (some ⟨bi, 0, none⟩), t5, .pointer (some ⟨bx, 0, none⟩), t7, t8, t9, t10, t11, t12, t13, t14, t15, t16, t17, t18, t19, t20, t21, .int .i64 (i : Int), .slice (some ⟨ab, 0, none⟩) N N, t24, t25, t26, t27, t28, t29, t30, t31, t32], []⟩ : Act) (W2.drew)) := by
    refine wpAnyIn_ready (rs := [0, 3, 6]) (RDH.out (#[false, true, true, false, false, false, false, false, false, false, false], [0, 3, 6]) (by unfold tbl8; repeat (first | exact List.mem_cons_self .. | refine List.mem_cons_of_mem _ ?_))) (by simp) ?_
    refine AllReadyIn.cons h0 (fun K hK => ?_) ?_
    · go_simp
      exact hK _ _ sabc.out
    refine AllReadyIn.cons h3 (fun K hK => ?_) ?_
    · go_simp
      exact hK _ _ sbcd.out
    refine AllReadyIn.cons h6 (fun K hK => ?_) ?_
    · go_simp
      exact hK _ _ sbcg.out
    exact AllReadyIn.nil
  have sbd : Hid (wpAnyIn (Fence.wide.inRound l) n Try.prog .any ops Q 9 #[false, true, false, true, false, false, false, false, false, false, false] (⟨#[t0, t1, t2, .pointer (some ⟨ba, 0, none⟩), .pointer (some ⟨bi, 0, none⟩), t5, .pointer (some ⟨bx, 0, none⟩), t7, t8, t9, t10, t11, t12, t13, t14, t15, t16, t17, t18, t19, t20, t21, .int .i64 (i : Int), t23, .int .i64 (i : Int), t25, t26, t27, t28, t29, t30, t31, t32], []⟩ : Act) (W2.drew)) := by
    refine wpAnyIn_ready (rs := [0, 2, 6]) (RDH.out (#[false, true, false, true, false, false, false, false, false, false, false], [0, 2, 6]) (by unfold tbl8; repeat (first | exact List.mem_cons_self .. | refine List.mem_cons_of_mem _ ?_))) (by simp) ?_
    refine AllReadyIn.cons h0 (fun K hK => ?_) ?_
    · go_simp
      exact hK _ _ sabd.out
    refine AllReadyIn.cons h2 (fun K hK => ?_) ?_
    · go_simp
      exact hK _ _ sbcd.out
    refine AllReadyIn.cons h6 (fun K hK => ?_) ?_
    · go_simp
      exact hK _ _ sbdg.out
    exact AllReadyIn.nil
  have sbg : Hid (wpAnyIn (Fence.wide.inRound l) n Try.prog .any ops Q 9 #[false, true, false, false, false, false, true, false, false, false, false] (⟨#[t0, t1, t2, .pointer (some ⟨ba, 0, none⟩), .pointer (some ⟨bi, 0, none⟩), t5, .pointer (some ⟨bx, 0, none⟩), t7, t8, t9, t10, t11, t12, t13, t14, t15, t16, t17, t18, t19, t20, t21, .int .i64 (i : Int), t23, t24, t25, t26, .agg #[.int .u64 xk, .int .u64 xv, .bool xg], t28, t29, t30, t31, t32], []⟩ : Act) (W2.drew)) := by
    refine wpAnyIn_ready (rs := [0, 2, 3, 7]) (RDH.out (#[false, true, false, false, false, false, true, false, false, false, false], [0, 2, 3, 7]) (by unfold tbl8; repeat (first | exact List.mem_cons_self .. | refine List.mem_cons_of_mem _ ?_))) (by simp) ?_
    refine AllReadyIn.cons h0 (fun K hK => ?_) ?_
    · go_simp
      exact hK _ _ sabg.out
    refine AllReadyIn.cons h2 (fun K hK => ?_) ?_
    · go_simp
      exact hK _ _ sbcg.out
    refine AllReadyIn.cons h3 (fun K hK => ?_) ?_
    · go_simp
      exact hK _ _ sbdg.out
    refine AllReadyIn.cons h7 (fun K hK => ?_) ?_
    · go_simp
      exact hK _ _ sbgh.out
    exact AllReadyIn.nil
  have scd : Hid (wpAnyIn (Fence.wide.inRound l) n Try.prog .any ops Q 9 #[false, false, true, true, false, false, false, false, false, false, false] (⟨#[t0, t1, t2, .pointer (some ⟨ba, 0, none⟩), .pointer (some ⟨bi, 0, none⟩), t5, .pointer (some ⟨bx, 0, none⟩), t7, t8, t9, t10, t11, t12, t13, t14, t15, t16, t17, t18, t19, t20, t21, t22, .slice (some ⟨ab, 0, none⟩) N N, .int .i64 (i : Int), t25, t26, t27, t28, t29, t30, t31, t32], []⟩ : Act) (W2.drew)) := by
    refine wpAnyIn_ready (rs := [0, 1, 4, 6]) (RDH.out (#[false, false, true, true, false, false, false, false, false, false, false], [0, 1, 4, 6]) (by unfold tbl8; repeat (first | exact List.mem_cons_self .. | refine List.mem_cons_of_mem _ ?_))) (by simp) ?_
    refine AllReadyIn.cons h0 (fun K hK => ?_) ?_
    · go_simp
      exact hK _ _ sacd.out
    refine AllReadyIn.cons h1 (fun K hK => ?_) ?_
    · go_simp
      exact hK _ _ sbcd.out
    refine AllReadyIn.cons h4 (fun K hK => ?_) ?_
    · go_simp
      exact hK _ _ scde.out
    refine AllReadyIn.cons h6 (fun K hK => ?_) ?_
    · go_simp
      exact hK _ _ scdg.out
    exact AllReadyIn.nil
  have scg : Hid (wpAnyIn (Fence.wide.inRound l) n Try.prog .any ops Q 9 #[false, false, true, false, false, false, true, false, false, false, false] (⟨#[t0, t1, t2, .pointer (some ⟨ba, 0, none⟩), .pointer (some ⟨bi, 0, none⟩), t5, .pointer (some ⟨bx, 0, none⟩), t7, t8, t9, t10, t11, t12, t13, t14, t15, t16, t17, t18, t19, t20, t21, t22, .slice (some ⟨ab, 0, none⟩) N N, t24, t25, t26, .agg #[.int .u64 xk, .int .u64 xv, .bool xg], t28, t29, t30, t31, t32], []⟩ : Act) (W2.drew)) := by
    refine wpAnyIn_ready (rs := [0, 1, 3, 7]) (RDH.out (#[false, false, true, false, false, false, true, false, false, false, false], [0, 1, 3, 7]) (by unfold tbl8; repeat (first | exact List.mem_cons_self .. | refine List.mem_cons_of_mem _ ?_))) (by simp) ?_
    refine AllReadyIn.cons h0 (fun K hK => ?_) ?_
    · go_simp
      exact hK _ _ sacg.out
    refine AllReadyIn.cons h1 (fun K hK => ?_) ?_
    · go_simp
      exact hK _ _ sbcg.out
    refine AllReadyIn.cons h3 (fun K hK => ?_) ?_
    · go_simp
      exact hK _ _ scdg.out
    refine AllReadyIn.cons h7 (fun K hK => ?_) ?_
    · go_simp
      exact hK _ _ scgh.out
    exact AllReadyIn.nil
  have sdg : Hid (wpAnyIn (Fence.wide.inRound l) n Try.prog .any ops Q 9 #[false, false, false, true, false, false, true, false, false, false, false] (⟨#[t0, t1, t2, .pointer (some ⟨ba, 0, none⟩), .pointer (some ⟨bi, 0, none⟩), t5, .pointer (some ⟨bx, 0, none⟩), t7, t8, t9, t10, t11, t12, t13, t14, t15, t16, t17, t18, t19, t20, t21, t22, t23, .int .i64 (i : Int), t25, t26, .agg #[.int .u64 xk, .int .u64 xv, .bool xg], t28, t29, t30, t31, t32], []⟩ : Act) (W2.drew)) := by
    refine wpAnyIn_ready (rs := [0, 1, 2, 7]) (RDH.out (#[false, false, false, true, false, false, true, false, false, false, false], [0, 1, 2, 7]) (by unfold tbl8; repeat (first | exact List.mem_cons_self .. | refine List.mem_cons_of_mem _ ?_))) (by simp) ?_
    refine AllReadyIn.cons h0 (fun K hK => ?_) ?_
    · go_simp
      exact hK _ _ sadg.out
    refine AllReadyIn.cons h1 (fun K hK => ?_) ?_
    · go_simp
      exact hK _ _ sbdg.out
    refine AllReadyIn.cons h2 (fun K hK => ?_) ?_
    · go_simp
      exact hK _ _ scdg.out
    refine AllReadyIn.cons h7 (fun K hK => ?_) ?_
    · go_simp
      exact hK _ _ sdgh.out
    exact AllReadyIn.nil
  have sgh : Hid (wpAnyIn (Fence.wide.inRound l) n Try.prog .any ops Q 9 #[false, false, false, false, false, false, true, true, false, false, false] (⟨#[t0, t1, t2, .pointer (some ⟨ba, 0, none⟩), .pointer (some ⟨bi, 0, none⟩), t5, .pointer (some ⟨bx, 0, none⟩), t7, t8, t9, t10, t11, t12, t13, t14, t15, t16, t17, t18, t19, t20, t21, t22, t23, t24, t25, t26, .agg #[.int .u64 xk, .int .u64 xv, .bool xg], .slice (some ⟨W2.heap.size, 0, none⟩) 1 1, t29, t30, t31, t32], []⟩ : Act) (W3)) := by
    refine wpAnyIn_ready (rs := [0, 1, 2, 3]) (RDH.out (#[false, false, false, false, false, false, true, true, false, false, false], [0, 1, 2, 3]) (by unfold tbl8; repeat (first | exact List.mem_cons_self .. | refine List.mem_cons_of_mem _ ?_))) (by simp) ?_
    refine AllReadyIn.cons h0 (fun K hK => ?_) ?_
    · go_simp
      exact hK _ _ sagh.out
    refine AllReadyIn.cons h1 (fun K hK => ?_) ?_
    · go_simp
      exact hK _ _ sbgh.out
    refine AllReadyIn.cons h2 (fun K hK => ?_) ?_
    · go_simp
      exact hK _ _ scgh.out
    refine AllReadyIn.cons h3 (fun K hK => ?_) ?_
    · go_simp
      exact hK _ _ sdgh.out
    exact AllReadyIn.nil
  have sa : Hid (wpAnyIn (Fence.wide.inRound l) n Try.prog .any ops Q 10 #[true, false, false, false, false, false, false, false, false, false, false] (⟨#[t0, t1, t2, .pointer (some ⟨ba, 0, none⟩), .pointer (some ⟨bi, 0, none⟩), t5, .pointer (some ⟨bx, 0, none⟩), t7, t8, t9, t10, t11, t12, t13, t14, t15, t16, t17, t18, t19, t20, .slice (some ⟨ab, 0, none⟩) N N, t22, t23, t24, t25, t26, t27, t28, t29, t30, t31, t32], []⟩ : Act) (W2.drew)) := by
    refine wpAnyIn_ready (rs := [1, 2, 3, 6]) (RDH.out (#[true, false, false, false, false, false, false, false, false, false, false], [1, 2, 3, 6]) (by unfold tbl8; repeat (first | exact List.mem_cons_self .. | refine List.mem_cons_of_mem _ ?_))) (by simp) ?_
    refine AllReadyIn.cons h1 (fun K hK => ?_) ?_
    · go_simp
      exact hK _ _ sab.out
    refine AllReadyIn.cons h2 (fun K hK => ?_) ?_
    · go_simp
      exact hK _ _ sac.out
    refine AllReadyIn.cons h3 (fun K hK => ?_) ?_
    · go_simp
      exact hK _ _ sad.out
    refine AllReadyIn.cons h6 (fun K hK => ?_) ?_
    · go_simp
      exact hK _ _ sag.out
    exact AllReadyIn.nil
  have sb : Hid (wpAnyIn (Fence.wide.inRound l) n Try.prog .any ops Q 10 #[false, true, false, false, false, false, false, false, false, false, false] (⟨#[t0, t1, t2, .pointer (some ⟨ba, 0, none⟩), .pointer (some ⟨bi, 0, none⟩), t5, .pointer (some ⟨bx, 0, none⟩), t7, t8, t9, t10, t11, t12, t13, t14, t15, t16, t17, t18, t19, t20, t21, .int .i64 (i : Int), t23, t24, t25, t26, t27, t28, t29, t30, t31, t32], []⟩ : Act) (W2.drew)) := by
    refine wpAnyIn_ready (rs := [0, 2, 3, 6]) (RDH.out (#[false, true, false, false, false, false, false, false, false, false, false], [0, 2, 3, 6]) (by unfold tbl8; repeat (first | exact List.mem_cons_self .. | refine List.mem_cons_of_mem _ ?_))) (by simp) ?_
    refine AllReadyIn.cons h0 (fun K hK => ?_) ?_
    · go_simp
      exact hK _ _ sab.out
    refine AllReadyIn.cons h2 (fun K hK => ?_) ?_
    · go_simp
      exact hK _ _ sbc.out
    refine AllReadyIn.cons h3 (fun K hK => ?_) ?_
    · go_simp
      exact hK _ _ sbd.out
    refine AllReadyIn.cons h6 (fun K hK => ?_) ?_
    · go_simp
      exact hK _ _ sbg.out
    exact AllReadyIn.nil
  have sc : Hid (wpAnyIn (Fence.wide.inRound l) n Try.prog .any ops Q 10 #[false, false, true, false, false, false, false, false, false, false, false] (⟨#[t0, t1, t2, .pointer (some ⟨ba, 0, none⟩), .pointer (some ⟨bi, 0, none⟩), t5, .pointer (some ⟨bx, 0, none⟩), t7, t8, t9, t10, t11, t12, t13, t14, t15, t16, t17, t18, t19, t20, t21, t22, .slice (some ⟨ab, 0, none⟩) N N, t24, t25, t26, t27, t28, t29, t30, t31, t32], []⟩ : Act) (W2.drew)) := by
    refine wpAnyIn_ready (rs := [0, 1, 3, 6]) (RDH.out (#[false, false, true, false, false, false, false, false, false, false, false], [0, 1, 3, 6]) (by unfold tbl8; repeat (first | exact List.mem_cons_self .. | refine List.mem_cons_of_mem _ ?_))) (by simp) ?_
    refine AllReadyIn.cons h0 (fun K hK => ?_) ?_
    · go_simp
      exact hK _ _ sac.out
    refine AllReadyIn.cons h1 (fun K hK => ?_) ?_
    · go_simp
      exact hK _ _ sbc.out
    refine AllReadyIn.cons h3 (fun K hK => ?_) ?_
    · go_simp
      exact hK _ _ scd.out
    refine AllReadyIn.cons h6 (fun K hK => ?_) ?_
    · go_simp
      exact hK _ _ scg.out
    exact AllReadyIn.nil
  have sd : Hid (wpAnyIn (Fence.wide.inRound l) n Try.prog .any ops Q 10 #[false, false, false, true, false, false, false, false, false, false, false] (⟨#[t0, t1, t2, .pointer (some ⟨ba, 0, none⟩), .pointer (some ⟨bi, 0, none⟩), t5, .pointer (some ⟨bx, 0, none⟩), t7, t8, t9, t10, t11, t12, t13, t14, t15, t16, t17, t18, t19, t20, t21, t22, t23, .int .i64 (i : Int), t25, t26, t27, t28, t29, t30, t31, t32], []⟩ : Act) (W2.drew)) := by
    refine wpAnyIn_ready (rs := [0, 1, 2, 6]) (RDH.out (#[false, false, false, true, false, false, false, false, false, false, false], [0, 1, 2, 6]) (by unfold tbl8; repeat (first | exact List.mem_cons_self .. | refine List.mem_cons_of_mem _ ?_))) (by simp) ?_
    refine AllReadyIn.cons h0 (fun K hK => ?_) ?_
    · go_simp
      exact hK _ _ sad.out
    refine AllReadyIn.cons h1 (fun K hK => ?_) ?_
    · go_simp
      exact hK _ _ sbd.out
    refine AllReadyIn.cons h2 (fun K hK => ?_) ?_
    · go_simp
      exact hK _ _ scd.out
    refine AllReadyIn.cons h6 (fun K hK => ?_) ?_
    · go_simp
      exact hK _ _ sdg.out
    exact AllReadyIn.nil
  have sg : Hid (wpAnyIn (Fence.wide.inRound l) n Try.prog .any ops Q 10 #[false, false, false, false, false, false, true, false, false, false, false] (⟨#[t0, t1, t2, .pointer (some ⟨ba, 0, none⟩), .pointer (some ⟨bi, 0, none⟩), t5, .pointer (some ⟨bx, 0, none⟩), t7, t8, t9, t10, t11, t12, t13, t14, t15, t16, t17, t18, t19, t20, t21, t22, t23, t24, t25, t26, .agg #[.int .u64 xk, .int .u64 xv, .bool xg], t28, t29, t30, t31, t32], []⟩ : Act) (W2.drew)) := by
    refine wpAnyIn_ready (rs := [0, 1, 2, 3, 7]) (RDH.out (#[false, false, false, false, false, false, true, false, false, false, false], [0, 1, 2, 3, 7]) (by unfold tbl8; repeat (first | exact List.mem_cons_self .. | refine List.mem_cons_of_mem _ ?_))) (by simp) ?_
    refine AllReadyIn.cons h0 (fun K hK => ?_) ?_
    · go_simp
      exact hK _ _ sag.out
    refine AllReadyIn.cons h1 (fun K hK => ?_) ?_
    · go_simp
      exact hK _ _ sbg.out
    refine AllReadyIn.cons h2 (fun K hK => ?_) ?_
    · go_simp
      exact hK _ _ scg.out
    refine AllReadyIn.cons h3 (fun K hK => ?_) ?_
    · go_simp
      exact hK _ _ sdg.out
    refine AllReadyIn.cons h7 (fun K hK => ?_) ?_
    · go_simp
      exact hK _ _ sgh.out
    exact AllReadyIn.nil
  have s0 : Hid (wpAnyIn (Fence.wide.inRound l) n Try.prog .any ops Q 11 #[false, false, false, false, false, false, false, false, false, false, false] (⟨#[t0, t1, t2, .pointer (some ⟨ba, 0, none⟩), .pointer (some ⟨bi, 0, none⟩), t5, .pointer (some ⟨bx, 0, none⟩), t7, t8, t9, t10, t11, t12, t13, t14, t15, t16, t17, t18, t19, t20, t21, t22, t23, t24, t25, t26, t27, t28, t29, t30, t31, t32], []⟩ : Act) (W2.drew)) := by
    refine wpAnyIn_ready (rs := [0, 1, 2, 3, 6]) (RDH.out (#[false, false, false, false, false, false, false, false, false, false, false], [0, 1, 2, 3, 6]) (by unfold tbl8; repeat (first | exact List.mem_cons_self .. | refine List.mem_cons_of_mem _ ?_))) (by simp) ?_
    refine AllReadyIn.cons h0 (fun K hK => ?_) ?_
    · go_simp
      exact hK _ _ sa.out
    refine AllReadyIn.cons h1 (fun K hK => ?_) ?_
    · go_simp
      exact hK _ _ sb.out
    refine AllReadyIn.cons h2 (fun K hK => ?_) ?_
    · go_simp
      exact hK _ _ sc.out
    refine AllReadyIn.cons h3 (fun K hK => ?_) ?_
    · go_simp
      exact hK _ _ sd.out
    refine AllReadyIn.cons h6 (fun K hK => ?_) ?_
    · go_simp
      exact hK _ _ sg.out
    exact AllReadyIn.nil
  exact s0.out
end Go.Proofs.Ythkahedhmfkhhaa
