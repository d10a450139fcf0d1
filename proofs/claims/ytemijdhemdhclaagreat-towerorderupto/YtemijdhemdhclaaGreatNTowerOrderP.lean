/- TowerOrder returns true for every config, all steps and all numbers; the arguments together within the bound that the given statement says. -/
import Derived.ProofKit
import Derived.SizedLaws
import Derived.Test.YtemijdhemdhclaaGreatNINum
import Derived.Test.YtemijdhemdhclaaGreatNPXR
set_option linter.unusedVariables false
set_option maxRecDepth 100000
open Go.Proofs.Tryz
namespace Go.Proofs.YtemijdhemdhclaaGreat.towerOrder
open Go.ChangeShapes Go.WideShapes Go.ChangeAt Go.RowKit Go.Joins
theorem own:ownKnob prog.godebug=none:=by kernel_rfl
theorem laidOut:laidOutB prog=true:=by kernel_rfl
theorem i64_bd {x:Int} (h:(Lit.int .i64 x).wf=true):-9223372036854775808<=x/\x<9223372036854775808:=by
 simp [Lit.wf,IntKind.min,IntKind.max,IntKind.signed,IntKind.bits] at h
 exact ⟨by omega,by omega⟩
theorem u64_bd {x:Int} (h:(Lit.int .u64 x).wf=true):0<=x/\x<18446744073709551616:=by
 simp [Lit.wf,IntKind.min,IntKind.max,IntKind.signed,IntKind.bits] at h
 exact ⟨by omega,by omega⟩
theorem cellsC:prog.cellsOf 23=3:=by kernel_rfl
theorem bytes_k:prog.bytesOf 36=8:=by kernel_rfl
theorem one_le {H:Type} (d:DataW H):1<=Rows.uptoBulk d:=by
 cases d with
 | lit l=>cases l<;>simp [Rows.uptoBulk]
 | nil=>simp [Rows.uptoBulk]
 | ptr d=>simp [Rows.uptoBulk]
 | slice elems spare=>simp [Rows.uptoBulk]
 | agg parts=>simp [Rows.uptoBulk]
 | iface t d=>simp [Rows.uptoBulk]
 | map entries=>simp [Rows.uptoBulk]
 | held h=>simp [Rows.uptoBulk]
theorem many_le {H:Type} (l:List (DataW H)):l.length<=Rows.uptoBulkAll l:=by
 induction l with
 | nil=>simp [Rows.uptoBulkAll]
 | cons x r ih=>have:=one_le x;simp only [Rows.uptoBulkAll,List.length_cons];omega
theorem bulk_le {H:Type} {d:DataW H} {l:List (DataW H)} (h:d∈l):Rows.uptoBulk d<=Rows.uptoBulkAll l:=by
 induction l with
 | nil=>cases h
 | cons x r ih =>
  simp only [Rows.uptoBulkAll];cases List.mem_cons.1 h with
  | inl e=>subst e;omega
  | inr e=>have:=ih e;omega
theorem short {H:Type} {ds:List (DataW H)} {d:DataW H} {n c:Nat} (hk:Rows.uptoSmall H ds=true) (hd:d∈ds) (hn:n<=c) (h:(d=.nil/\n=0)\/∃ es sp,d=.slice es sp/\es.length+sp.length=c):n<=1048576:=by
 have hb:Rows.uptoBulkAll ds<=1048576:=of_decide_eq_true hk;have hp:=bulk_le hd;rcases h with ⟨_,rfl⟩ | ⟨es,sp,rfl,e⟩
 ·omega
 ·have h1:=many_le es
  have h2:=many_le sp;simp only [Rows.uptoBulk] at hp;omega
theorem lifted (os:Os) (started:os.Started) (H:Type) (enc:TypeId×Value->H) (FF:Stop.Interp) :
  ReturnsInHanded {} Tryz.checked os 7 .any ((Rows.OpenSpec.upto Rows.towerOrderSpec).pre6 enc prog Tryz.f7 Rows.towerOrderUptoRow.domain false) (((Rows.OpenSpec.upto Rows.towerOrderSpec).at FF).post enc prog Tryz.f7 false true false false):=by
 refine returnsInHanded_of_cond (C:=Tryz.checked) (s:=(Rows.OpenSpec.upto Rows.towerOrderSpec)) (k:=Rows.uptoSmall) rfl own started (by kernel_rfl) func7
  (OpenSpec.witness (enc:=enc) (C:=Tryz.checked) (s:=(Rows.OpenSpec.upto Rows.towerOrderSpec)) (k:=Rows.uptoSmall) rfl false ⟨#[],#[.agg #[.int .i64 0,.int .i64 0,.int .i64 0],.slice none 0 0,.slice none 0 0],[]⟩ 8 (by kernel_rfl) (by kernel_rfl) (by kernel_rfl)
   (x:=([.agg [.lit (.int .i64 0),.lit (.int .i64 0),.lit (.int .i64 0)],.nil,.nil],[],[])) (by kernel_rfl) rfl (by kernel_rfl)) ?_
 intro W base args ds gs before hval0 hW _ hk _;have hval:∀ (j:Nat) t v,Tryz.f7.params[j]?=some t->args[j]?=some v->Value.okWide prog W .any base t v:=hval0;have hW':=hW;obtain ⟨p,q,hA0,hV,rfl,_,_⟩:=hW;have hA:DataW.TrodAll enc prog W 0 (fun _=>true) true Tryz.f7.params.toList args.toList ds p:=hA0
 rw [params7] at hA hval;obtain ⟨v0,vs0,d0,ds0,p0,q0,hargs,rfl,rfl,h0,r0⟩:=trodAll_cons hA;obtain ⟨v1,vs1,d1,ds1,p1,q1,rfl,rfl,rfl,h1,r1⟩:=trodAll_cons r0;obtain ⟨v2,vs2,d2,ds2,p2,q2,rfl,rfl,rfl,h2,r2⟩:=trodAll_cons r1;obtain ⟨rfl,rfl,rfl⟩:=trodAll_nil r2;obtain rfl:args=#[v0,v1,v2]:=by cases args;simp_all
 obtain ⟨rfl,rfl⟩:=trodVars_none hV;have t0:=h0;obtain ⟨ca0,cb0,cc0,ya0,yb0,yc0,m0,rfl,rfl,rfl,ha0,hb0,hc0⟩:=open_agg3 underlying23 (by kernel_rfl) cellsC (hval 0 23 v0 rfl rfl) h0
 obtain ⟨la0,ea0,rfl,wla0⟩:=DataW.trod_int underlying3 ha0;obtain ⟨lb0,eb0,rfl,wlb0⟩:=DataW.trod_int underlying3 hb0;obtain ⟨lc0,ec0,rfl,wlc0⟩:=DataW.trod_int underlying3 hc0;simp at ea0 eb0 ec0;subst ea0 eb0 ec0;have t1:=h1;obtain ⟨a1,n1,c1,rfl⟩:=okWide_slice underlying31 (hval 1 31 v1 rfl rfl);obtain ⟨l1,rfl,S1,z1,le1,bk1⟩:=open_tops h1;have t2:=h2;obtain ⟨a2,n2,c2,rfl⟩:=okWide_slice underlying50 (hval 2 50 v2 rfl rfl);obtain ⟨l2,rfl,S2,z2,le2,bk2⟩:=open_nums h2;clear hA0 hval0;have hbulk:Rows.uptoBulkAll [.agg [.lit (.int .i64 la0),.lit (.int .i64 lb0),.lit (.int .i64 lc0)],d1,d2]<=1048576:=of_decide_eq_true hk;simp only [Rows.uptoBulkAll] at hbulk;simp only [List.append_nil] at hW';refine (order_walk runc la0 lb0 lc0 a1 c1 l1 a2 c2 l2 (by omega) W S1 S2).mono fun e W' ⟨he,hg⟩=>?_
 subst he;have A0:DataW.Trod enc prog W' 0 (fun b=>decide (b<W.heap.size)) true 23 (.agg #[.int .i64 la0,.int .i64 lb0,.int .i64 lc0]) (.agg [.lit (.int .i64 la0),.lit (.int .i64 lb0),.lit (.int .i64 lc0)]) [] :=
  Below.trod laidOut (by kernel_rfl) (of_decide_eq_true (by kernel_rfl)) t0 hg.below (fun y hy=>by simp at hy)
 have A1:DataW.Trod enc prog W' 0 (fun b=>decide (b<W.heap.size)) true 31 (.slice a1 l1.length c1) d1 p1 :=
  Below.trod laidOut (by kernel_rfl) (of_decide_eq_true (by kernel_rfl)) t1 hg.below (fun y hy=>by simpa using hW'.lt y (by simp [hy]))
 have A2:DataW.Trod enc prog W' 0 (fun b=>decide (b<W.heap.size)) true 50 (.slice a2 l2.length c2) d2 p2 :=
  Below.trod laidOut (by kernel_rfl) (of_decide_eq_true (by kernel_rfl)) t2 hg.below (fun y hy=>by simpa using hW'.lt y (by simp [hy]))
 exact ⟨_,rfl,_,_,_,[],_,[],hW',trodAll_cons_mk (shut_bool underlying4 true) trodAll_mk0,(trodAll_cons_mk A0 (trodAll_cons_mk A1 (trodAll_cons_mk A2 trodAll_mk0))),rfl,hg.below.frame _,fun h=>by cases h⟩
theorem over:Rows.towerOrderUptoRow.holds Tryz.pinned (Rows.OpenSpec.upto Rows.towerOrderSpec) :=
 OpenClaim.holds_of_cond 7 Tryz.f7 rfl rfl rfl rfl rfl rfl rfl ⟨rfl,rfl,rfl,rfl,rfl⟩ rfl rfl rfl rfl rfl (by kernel_rfl) func7 (by kernel_rfl)
  (of_decide_eq_true (by kernel_rfl)) (by unfold Func.isWrapper;first | (rw [if_pos (by decide +kernel)];kernel_rfl) | (rw [if_neg (by decide +kernel)];exact ⟨rfl,rfl⟩))
  (fun os started H enc _ FF=>lifted os started H enc FF)
end Go.Proofs.YtemijdhemdhclaaGreat.towerOrder
namespace Go.Proofs.YtemijdhemdhclaaGreat
theorem towerOrder_holds:Rows.TowerOrderUptoSaid:=towerOrder.over
end Go.Proofs.YtemijdhemdhclaaGreat
