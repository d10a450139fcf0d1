/- TowerSmall returns true for every state and all steps; the arguments together within the bound that the given statement says. -/
import Derived.ProofKit
import Derived.SizedLaws
import Derived.Test.YtcboobmfnmgldaaGreatBTsRun
import Derived.Test.YtcboobmfnmgldaaGreatBGOpen
import Derived.Test.YtcboobmfnmgldaaGreatBPXR
import Derived.Test.YtcboobmfnmgldaaGreatBPX6
set_option linter.unusedVariables false
set_option maxRecDepth 100000
open Go.Proofs.Tryz
namespace Go.Proofs.YtcboobmfnmgldaaGreat.towerSmall
open Go.ChangeShapes Go.WideShapes Go.ChangeAt Go.RowKit Go.Joins
theorem own:ownKnob prog.godebug=none:=by kernel_rfl
theorem laidOut:laidOutB prog=true:=by kernel_rfl
theorem i64_bd {x:Int} (h:(Lit.int .i64 x).wf=true):-9223372036854775808<=x/\x<9223372036854775808:=by
 simp [Lit.wf,IntKind.min,IntKind.max,IntKind.signed,IntKind.bits] at h
 exact ⟨by omega,by omega⟩
theorem u64_bd {x:Int} (h:(Lit.int .u64 x).wf=true):0<=x/\x<18446744073709551616:=by
 simp [Lit.wf,IntKind.min,IntKind.max,IntKind.signed,IntKind.bits] at h
 exact ⟨by omega,by omega⟩
theorem bytes_k:prog.bytesOf 42=8:=by kernel_rfl
theorem one_le {H:Type} (d:DataW H):1<=Rows.uptoBulk d:=by
 cases d with
 | lit l=>cases l<;>simp [Rows.uptoBulk]
 | nil=>simp [Rows.uptoBulk]
 | ptr d=>simp [Rows.uptoBulk]
 | slice elems spare=>simp [Rows.uptoBulk]
 | agg parts=>simp [Rows.uptoBulk]
 | iface t d=>simp [Rows.uptoBulk]
 | map entries=>simp [Rows.uptoBulk]
 | held h=>simp [Rows.uptoBulk]
theorem many_le {H:Type} (l:List (DataW H)):l.length<=Rows.uptoBulkAll l:=by
 induction l with
 | nil=>simp [Rows.uptoBulkAll]
 | cons x r ih=>have:=one_le x;simp only [Rows.uptoBulkAll,List.length_cons];omega
theorem bulk_le {H:Type} {d:DataW H} {l:List (DataW H)} (h:d∈l):Rows.uptoBulk d<=Rows.uptoBulkAll l:=by
 induction l with
 | nil=>cases h
 | cons x r ih =>
  simp only [Rows.uptoBulkAll];cases List.mem_cons.1 h with
  | inl e=>subst e;omega
  | inr e=>have:=ih e;omega
theorem short {H:Type} {ds:List (DataW H)} {d:DataW H} {n c:Nat} (hk:Rows.uptoSmall H ds=true) (hd:d∈ds) (hn:n<=c) (h:(d=.nil/\n=0)\/∃ es sp,d=.slice es sp/\es.length+sp.length=c):n<=1048576:=by
 have hb:Rows.uptoBulkAll ds<=1048576:=of_decide_eq_true hk;have hp:=bulk_le hd;rcases h with ⟨_,rfl⟩ | ⟨es,sp,rfl,e⟩
 ·omega
 ·have h1:=many_le es
  have h2:=many_le sp;simp only [Rows.uptoBulk] at hp;omega
theorem lifted (os:Os) (started:os.Started) (H:Type) (enc:TypeId×Value->H) (FF:Stop.Interp) :
  ReturnsInHanded {} Tryz.checked os 3 .any ((Rows.OpenSpec.upto Rows.towerSmallSpec).pre6 enc prog Tryz.f3 Rows.towerSmallUptoRow.domain false) (((Rows.OpenSpec.upto Rows.towerSmallSpec).at FF).post enc prog Tryz.f3 false true false false):=by
 refine returnsInHanded_of_cond (C:=Tryz.checked) (s:=(Rows.OpenSpec.upto Rows.towerSmallSpec)) (k:=Rows.uptoSmall) rfl own started (by kernel_rfl) func3
  (OpenSpec.witness (enc:=enc) (C:=Tryz.checked) (s:=(Rows.OpenSpec.upto Rows.towerSmallSpec)) (k:=Rows.uptoSmall) rfl false ⟨#[],#[.agg #[.int .i64 0,.int .i64 0,.int .i64 0,.slice none 0 0,.slice none 0 0,.int .i64 0],.slice none 0 0],[]⟩ 8 (by kernel_rfl) (by kernel_rfl) (by kernel_rfl)
   (x:=([.agg [.agg [.lit (.int .i64 0),.lit (.int .i64 0),.lit (.int .i64 0)],.nil,.nil,.lit (.int .i64 0)],.nil],[],[])) (by kernel_rfl) rfl (by kernel_rfl)) ?_
 intro W base args ds gs before Wv hW _ hk _;have uV:∀ (j:Nat) t v,Tryz.f3.params[j]?=some t->args[j]?=some v->Value.okWide prog W .any base t v:=Wv;have CJ:=hW;obtain ⟨p,q,Ww,hV,rfl,_,_⟩:=hW;have hA:DataW.TrodAll enc prog W 0 (fun _=>true) true Tryz.f3.params.toList args.toList ds p:=Ww
 rw [params3] at hA uV;obtain ⟨v0,vs0,d0,ds0,p0,q0,agv,rfl,rfl,h0,r0⟩:=trodAll_cons hA;obtain ⟨v1,vs1,d1,ds1,p1,q1,rfl,rfl,rfl,h1,r1⟩:=trodAll_cons r0;obtain ⟨rfl,rfl,rfl⟩:=trodAll_nil r1;obtain rfl:args=#[v0,v1]:=by cases args;simp_all
 obtain ⟨rfl,rfl⟩:=trodVars_none hV;have t0:=h0;obtain ⟨Wx,iD,Wy,Wz,WA,WB,WC,WE,WG,WH,rfl,Va,sb0,SE0,Jz,z0,SV0,tX⟩:=ads (uV 0 27 v0 rfl rfl) h0;have t1:=h1;obtain ⟨a1,n1,c1,rfl⟩:=okWide_slice underlying28 (uV 1 28 v1 rfl rfl);obtain ⟨l1,rfl,S1,z1,le1,tY⟩:=adn h1;clear Ww Wv;have af4:Rows.uptoBulkAll [d0,d1]<=1048576:=of_decide_eq_true hk;simp only [Rows.uptoBulkAll] at af4;simp only [List.append_nil] at CJ;refine (adg afL o5c Wx iD Wy Wz WA WB WC WE WG WH Va sb0 Jz z0 a1 c1 l1 (by omega) (by omega) W SE0 SV0 S1).mono fun e W' ⟨he,hg⟩=>?_
 subst he;have A0:DataW.Trod enc prog W' 0 (fun b=>decide (b<W.heap.size)) true 27 (.agg #[.int .i64 Wx,.int .i64 iD,.int .i64 Wy,.slice WA WG.length WC,.slice WB WH.length WE,.int .i64 Wz]) d0 p0 :=
  Below.trod laidOut (by kernel_rfl) (of_decide_eq_true (by kernel_rfl)) t0 hg.below (fun y hy=>by simpa using CJ.lt y (by simp [hy]))
 have A1:DataW.Trod enc prog W' 0 (fun b=>decide (b<W.heap.size)) true 28 (.slice a1 l1.length c1) d1 p1 :=
  Below.trod laidOut (by kernel_rfl) (of_decide_eq_true (by kernel_rfl)) t1 hg.below (fun y hy=>by simpa using CJ.lt y (by simp [hy]))
 exact ⟨_,rfl,_,_,_,[],_,[],CJ,trodAll_cons_mk (shut_bool underlying4 true) trodAll_mk0,(trodAll_cons_mk A0 (trodAll_cons_mk A1 trodAll_mk0)),rfl,hg.below.frame _,fun h=>by cases h⟩
theorem over:Rows.towerSmallUptoRow.holds Tryz.pinned (Rows.OpenSpec.upto Rows.towerSmallSpec) :=
 OpenClaim.holds_of_cond 3 Tryz.f3 rfl rfl rfl rfl rfl rfl rfl ⟨rfl,rfl,rfl,rfl,rfl⟩ rfl rfl rfl rfl rfl (by kernel_rfl) func3 (by kernel_rfl)
  (of_decide_eq_true (by kernel_rfl)) (by unfold Func.isWrapper;first | (rw [if_pos (by decide +kernel)];kernel_rfl) | (rw [if_neg (by decide +kernel)];exact ⟨rfl,rfl⟩))
  (fun os started H enc _ FF=>lifted os started H enc FF)
end Go.Proofs.YtcboobmfnmgldaaGreat.towerSmall
namespace Go.Proofs.YtcboobmfnmgldaaGreat
theorem towerSmall_holds:Rows.TowerSmallUptoSaid:=towerSmall.over
end Go.Proofs.YtcboobmfnmgldaaGreat
