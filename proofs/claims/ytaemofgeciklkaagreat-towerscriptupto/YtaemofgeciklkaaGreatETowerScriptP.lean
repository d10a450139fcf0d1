/- TowerScript returns true for every config and all steps; the arguments together within the bound that the given statement says. -/
import Derived.Test.YtaemofgeciklkaaGreatEDT6
import Derived.Test.YtaemofgeciklkaaGreatEGOpen
import Derived.Test.YtaemofgeciklkaaGreatEPXR
import Derived.Test.YtaemofgeciklkaaGreatEPX6
set_option linter.unusedVariables false
set_option maxRecDepth 100000
open Go.Proofs.Tryz
namespace Go.Proofs.YtaemofgeciklkaaGreat.towerScript
open Go.ChangeShapes Go.WideShapes Go.ChangeAt Go.RowKit Go.Joins
theorem own:ownKnob prog.godebug=none:=η
theorem laidOut:laidOutB prog=true:=η
theorem i64_bd {x:Int} (h:(Lit.int .i64 x).wf=true):-9223372036854775808<=x/\x<9223372036854775808:=by
 simp [Lit.wf,IntKind.min,IntKind.max,IntKind.signed,IntKind.bits] at h
 exact ⟨ω,ω⟩
theorem u64_bd {x:Int} (h:(Lit.int .u64 x).wf=true):0<=x/\x<18446744073709551616:=by
 simp [Lit.wf,IntKind.min,IntKind.max,IntKind.signed,IntKind.bits] at h
 exact ⟨ω,ω⟩
theorem cellsC:prog.cellsOf 23=3:=η
theorem bytes_k:prog.bytesOf 35=8:=η
theorem one_le {H:Type} (d:DataW H):1<=Rows.uptoBulk d:=by
 cases d with
 | lit l=>cases l<;>simp [Rows.uptoBulk]
 | nil=>simp [Rows.uptoBulk]
 | ptr d=>simp [Rows.uptoBulk]
 | slice elems spare=>simp [Rows.uptoBulk]
 | agg parts=>simp [Rows.uptoBulk]
 | iface t d=>simp [Rows.uptoBulk]
 | map entries=>simp [Rows.uptoBulk]
 | held h=>simp [Rows.uptoBulk]
theorem many_le {H:Type} (l:List (DataW H)):l.length<=Rows.uptoBulkAll l:=by
 induction l with
 | nil=>simp [Rows.uptoBulkAll]
 | cons x r ih=>have:=one_le x;simp only [Rows.uptoBulkAll,qak];omega
theorem bulk_le {H:Type} {d:DataW H} {l:List (DataW H)} (h:d∈l):Rows.uptoBulk d<=Rows.uptoBulkAll l:=by
 induction l with
 | nil=>cases h
 | cons x r ih =>
  simp only [Rows.uptoBulkAll];cases qaf.1 h with
  | inl e=>subst e;omega
  | inr e=>have:=ih e;omega
theorem short {H:Type} {ds:List (DataW H)} {d:DataW H} {n c:Nat} (hk:Rows.uptoSmall H ds=true) (hd:d∈ds) (hn:n<=c) (h:(d=.nil/\n=0)\/∃ es sp,d=.slice es sp/\es.length+sp.length=c):n<=1048576:=by
 have hb:Rows.uptoBulkAll ds<=1048576:=of_decide_eq_true hk;have hp:=bulk_le hd;rcases h with ⟨_,rfl⟩ | ⟨es,sp,rfl,e⟩
 ·omega
 ·have h1:=many_le es
  have h2:=many_le sp;simp only [Rows.uptoBulk] at hp;omega
theorem lifted (os:Os) (started:os.Started) (H:Type) (enc:TypeId×Value->H) (FF:Stop.Interp) :
  ReturnsInHanded {} Tryz.checked os 3 .any ((Rows.OpenSpec.upto Rows.towerScriptSpec).pre6 enc prog Tryz.f3 Rows.towerScriptUptoRow.domain false) (((Rows.OpenSpec.upto Rows.towerScriptSpec).at FF).post enc prog Tryz.f3 false true false false):=by
 refine returnsInHanded_of_cond (C:=Tryz.checked) (s:=(Rows.OpenSpec.upto Rows.towerScriptSpec)) (k:=Rows.uptoSmall) rfl own started η func3
  (OpenSpec.witness (enc:=enc) (C:=Tryz.checked) (s:=(Rows.OpenSpec.upto Rows.towerScriptSpec)) (k:=Rows.uptoSmall) rfl false ⟨#[],#[.agg #[.int .i64 0,.int .i64 0,.int .i64 0],.slice none 0 0],[]⟩ 8 η η η
   (x:=([.agg [.lit (.int .i64 0),.lit (.int .i64 0),.lit (.int .i64 0)],.nil],[],[])) η rfl η) ?_
 intro W base args ds gs before YW hW _ hk _;have xI:∀ (j:Nat) t v,Tryz.f3.params[j]?=some t->args[j]?=some v->Value.okWide prog W .any base t v:=YW;have MP:=hW;obtain ⟨p,q,YX,hV,rfl,_,_⟩:=hW;have hA:DataW.TrodAll enc prog W 0 (fun _=>true) true Tryz.f3.params.toList args.toList ds p:=YX
 rw [params3] at hA xI;obtain ⟨v0,vs0,d0,ds0,p0,q0,aiR,rfl,rfl,h0,r0⟩:=trodAll_cons hA;obtain ⟨v1,vs1,d1,ds1,p1,q1,rfl,rfl,rfl,h1,r1⟩:=trodAll_cons r0;obtain ⟨rfl,rfl,rfl⟩:=trodAll_nil r1;obtain rfl:args=#[v0,v1]:=by cases args;simp_all
 obtain ⟨rfl,rfl⟩:=trodVars_none hV;have t0:=h0;obtain ⟨ca0,cb0,cc0,Wy,Jp,yc0,m0,rfl,rfl,rfl,Xp,pt,Fj⟩:=open_agg3 underlying23 η cellsC (xI 0 23 v0 rfl rfl) h0;obtain ⟨Ff,YZ,rfl,aiS⟩:=DataW.trod_int underlying3 Xp;obtain ⟨ir,Lz,rfl,aiT⟩:=DataW.trod_int underlying3 pt;obtain ⟨Fg,Y2,rfl,aiU⟩:=DataW.trod_int underlying3 Fj;simp at YZ Lz Y2;subst YZ Lz Y2;have t1:=h1;obtain ⟨a1,n1,c1,rfl⟩:=okWide_slice underlying24 (xI 1 24 v1 rfl rfl);obtain ⟨l1,rfl,S1,z1,le1,vX⟩:=afF h1;clear YX YW;have aim:Rows.uptoBulkAll [.agg [.lit (.int .i64 Ff),.lit (.int .i64 ir),.lit (.int .i64 Fg)],d1]<=1048576:=of_decide_eq_true hk;simp only [Rows.uptoBulkAll] at aim;simp only [qaJ] at MP;refine (afx ah4 o5c Ff ir Fg a1 c1 l1 ω W S1).mono fun e W' ⟨he,hg⟩=>?_
 subst he;have A0:DataW.Trod enc prog W' 0 (fun b=>decide (b<W.heap.size)) true 23 (.agg #[.int .i64 Ff,.int .i64 ir,.int .i64 Fg]) (.agg [.lit (.int .i64 Ff),.lit (.int .i64 ir),.lit (.int .i64 Fg)]) [] :=
  Below.trod laidOut η (of_decide_eq_true η) t0 hg.below (fun y hy=>by simp at hy)
 have A1:DataW.Trod enc prog W' 0 (fun b=>decide (b<W.heap.size)) true 24 (.slice a1 l1.length c1) d1 p1 :=
  Below.trod laidOut η (of_decide_eq_true η) t1 hg.below (fun y hy=>by simpa using MP.lt y (by simp [hy]))
 exact ⟨_,rfl,_,_,_,[],_,[],MP,trodAll_cons_mk (shut_bool underlying4 true) trodAll_mk0,(trodAll_cons_mk A0 (trodAll_cons_mk A1 trodAll_mk0)),rfl,hg.below.frame _,fun h=>by cases h⟩
theorem over:Rows.towerScriptUptoRow.holds Tryz.pinned (Rows.OpenSpec.upto Rows.towerScriptSpec) :=
 OpenClaim.holds_of_cond 3 Tryz.f3 rfl rfl rfl rfl rfl rfl rfl ⟨rfl,rfl,rfl,rfl,rfl⟩ rfl rfl rfl rfl rfl η func3 η
  (of_decide_eq_true η) (by unfold Func.isWrapper;first | (rw [Ym (by decide +kernel)];kernel_rfl) | (rw [Yl (by decide +kernel)];exact ⟨rfl,rfl⟩))
  (fun os started H enc _ FF=>lifted os started H enc FF)
end Go.Proofs.YtaemofgeciklkaaGreat.towerScript
namespace Go.Proofs.YtaemofgeciklkaaGreat
theorem towerScript_holds:Rows.TowerScriptUptoSaid:=towerScript.over
end Go.Proofs.YtaemofgeciklkaaGreat
