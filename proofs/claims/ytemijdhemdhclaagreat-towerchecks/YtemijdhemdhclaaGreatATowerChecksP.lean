/- TowerChecks returns true for every config. -/
import Derived.OpenShut
import Derived.ProofKit
import Derived.SizedLaws
import Derived.Test.YtemijdhemdhclaaGreatAIOf
import Derived.Test.YtemijdhemdhclaaGreatAPXR
set_option linter.unusedVariables false
set_option maxRecDepth 100000
open Go.Proofs.Tryz
namespace Go.Proofs.YtemijdhemdhclaaGreat.towerChecks
open Go.ChangeShapes Go.WideShapes Go.ChangeAt Go.RowKit Go.Joins
theorem own:ownKnob prog.godebug=none:=by kernel_rfl
theorem laidOut:laidOutB prog=true:=by kernel_rfl
theorem i64_bd {x:Int} (h:(Lit.int .i64 x).wf=true):-9223372036854775808<=x/\x<9223372036854775808:=by
 simp [Lit.wf,IntKind.min,IntKind.max,IntKind.signed,IntKind.bits] at h
 exact ⟨by omega,by omega⟩
theorem u64_bd {x:Int} (h:(Lit.int .u64 x).wf=true):0<=x/\x<18446744073709551616:=by
 simp [Lit.wf,IntKind.min,IntKind.max,IntKind.signed,IntKind.bits] at h
 exact ⟨by omega,by omega⟩
theorem cellsC:prog.cellsOf 23=3:=by kernel_rfl
theorem bytes_k:prog.bytesOf 36=8:=by kernel_rfl
theorem lifted (os:Os) (started:os.Started) (H:Type) (enc:TypeId×Value->H) :
  ReturnsInHanded {} Tryz.checked os 3 .any (Rows.towerChecksSpec.pre6 enc prog Tryz.f3 Rows.towerChecksRow.domain false) (Rows.towerChecksSpec.post enc prog Tryz.f3 false true false false):=by
 refine returnsInHanded_of_change_sized (C:=Tryz.checked) own started (by kernel_rfl) func3
  (ChangeSpec.witness6 (enc:=enc) (C:=Tryz.checked) false ⟨#[],#[.agg #[.int .i64 0,.int .i64 0,.int .i64 0]],[]⟩ 8 (by kernel_rfl) (by kernel_rfl) (by kernel_rfl) (by kernel_rfl)) ?_
 intro W base args ds gs before hval0 hW _ hsz0 _;have hsz:(DataW.weightsEach prog (Tryz.f3.params.toList++Rows.towerChecksSpec.plain.varTypes prog) (ds++gs)).all (·<=reachBytes)=true:=hsz0;clear hsz0;have hval:∀ (j:Nat) t v,Tryz.f3.params[j]?=some t->args[j]?=some v->Value.okWide prog W .any base t v:=hval0;have hW':=hW;obtain ⟨p,q,hA0,hV,rfl,_,_⟩:=hW;have hA:DataW.TrodAll enc prog W 0 (fun _=>true) true Tryz.f3.params.toList args.toList ds p:=hA0
 rw [params3] at hA hval hsz;obtain ⟨v0,vs0,d0,ds0,p0,q0,hargs,rfl,rfl,h0,r0⟩:=trodAll_cons hA;obtain ⟨rfl,rfl,rfl⟩:=trodAll_nil r0;obtain rfl:args=#[v0]:=by cases args;simp_all
 obtain ⟨rfl,rfl⟩:=trodVars_none hV;have t0:=h0;obtain ⟨ca0,cb0,cc0,ya0,yb0,yc0,m0,rfl,rfl,rfl,ha0,hb0,hc0⟩:=open_agg3 underlying23 (by kernel_rfl) cellsC (hval 0 23 v0 rfl rfl) h0
 obtain ⟨la0,ea0,rfl,wla0⟩:=DataW.trod_int underlying3 ha0;obtain ⟨lb0,eb0,rfl,wlb0⟩:=DataW.trod_int underlying3 hb0;obtain ⟨lc0,ec0,rfl,wlc0⟩:=DataW.trod_int underlying3 hc0;simp at ea0 eb0 ec0;subst ea0 eb0 ec0;clear hA0 hval0;simp only [List.append_nil] at hW';refine (checks_walk runc la0 lb0 lc0 W ).mono fun e W' ⟨he,hg⟩=>?_
 subst he;have A0:DataW.Trod enc prog W' 0 (fun b=>decide (b<W.heap.size)) true 23 (.agg #[.int .i64 la0,.int .i64 lb0,.int .i64 lc0]) (.agg [.lit (.int .i64 la0),.lit (.int .i64 lb0),.lit (.int .i64 lc0)]) [] :=
  Below.trod laidOut (by kernel_rfl) (of_decide_eq_true (by kernel_rfl)) t0 hg.below (fun y hy=>by simp at hy)
 exact ⟨_,rfl,_,_,_,[],_,[],hW',trodAll_cons_mk (shut_bool underlying4 true) trodAll_mk0,(trodAll_cons_mk A0 trodAll_mk0),rfl,hg.below.frame _,fun h=>by cases h⟩
theorem over:Rows.towerChecksRow.holds Tryz.pinned (OpenSpec.ofChange Rows.towerChecksSpec) :=
 OpenClaim.holds_of_wide 3 Tryz.f3 rfl rfl rfl rfl rfl rfl rfl ⟨rfl,rfl,rfl,rfl,rfl⟩ rfl rfl rfl rfl rfl (by kernel_rfl) func3 (by kernel_rfl)
  (of_decide_eq_true (by kernel_rfl)) (by unfold Func.isWrapper;first | (rw [if_pos (by decide +kernel)];kernel_rfl) | (rw [if_neg (by decide +kernel)];exact ⟨rfl,rfl⟩))
  (fun os started H enc _=>lifted os started H enc)
end Go.Proofs.YtemijdhemdhclaaGreat.towerChecks
namespace Go.Proofs.YtemijdhemdhclaaGreat
theorem towerChecks_holds:Rows.TowerChecksSaid:=towerChecks.over
end Go.Proofs.YtemijdhemdhclaaGreat
