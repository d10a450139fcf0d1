/- ClassesPlays returns true for every eps and buf and every script; the arguments together within the bound that the given statement says. -/
import Derived.ProofKit
import Derived.SizedLaws
import Derived.Test.YtklkpldicbkjeaaGreatVUWPlays
import Derived.Test.YtklkpldicbkjeaaGreatVPXR
import Derived.Test.YtklkpldicbkjeaaGreatVPX6
set_option linter.unusedVariables false
set_option maxRecDepth 100000
open Go.Proofs.Tryz
namespace Go.Proofs.YtklkpldicbkjeaaGreat.classesPlays
open Go.ChangeShapes Go.WideShapes Go.ChangeAt Go.RowKit Go.Joins
theorem own:ownKnob prog.godebug=none:=by kernel_rfl
theorem laidOut:laidOutB prog=true:=by kernel_rfl
theorem i64_bd {x:Int} (h:(Lit.int .i64 x).wf=true):-9223372036854775808<=x/\x<9223372036854775808:=by
 simp [Lit.wf,IntKind.min,IntKind.max,IntKind.signed,IntKind.bits] at h
 exact ⟨by omega,by omega⟩
theorem u64_bd {x:Int} (h:(Lit.int .u64 x).wf=true):0<=x/\x<18446744073709551616:=by
 simp [Lit.wf,IntKind.min,IntKind.max,IntKind.signed,IntKind.bits] at h
 exact ⟨by omega,by omega⟩
theorem bytes_k:prog.bytesOf 34=8:=by kernel_rfl
theorem one_le {H:Type} (d:DataW H):1<=Rows.uptoBulk d:=by
 cases d with
 | lit l=>cases l<;>simp [Rows.uptoBulk]
 | nil=>simp [Rows.uptoBulk]
 | ptr d=>simp [Rows.uptoBulk]
 | slice elems spare=>simp [Rows.uptoBulk]
 | agg parts=>simp [Rows.uptoBulk]
 | iface t d=>simp [Rows.uptoBulk]
 | map entries=>simp [Rows.uptoBulk]
 | held h=>simp [Rows.uptoBulk]
theorem many_le {H:Type} (l:List (DataW H)):l.length<=Rows.uptoBulkAll l:=by
 induction l with
 | nil=>simp [Rows.uptoBulkAll]
 | cons x r ih=>have:=one_le x;simp only [Rows.uptoBulkAll,List.length_cons];omega
theorem bulk_le {H:Type} {d:DataW H} {l:List (DataW H)} (h:d∈l):Rows.uptoBulk d<=Rows.uptoBulkAll l:=by
 induction l with
 | nil=>cases h
 | cons x r ih =>
  simp only [Rows.uptoBulkAll];cases List.mem_cons.1 h with
  | inl e=>subst e;omega
  | inr e=>have:=ih e;omega
theorem short {H:Type} {ds:List (DataW H)} {d:DataW H} {n c:Nat} (hk:Rows.uptoSmall H ds=true) (hd:d∈ds) (hn:n<=c) (h:(d=.nil/\n=0)\/∃ es sp,d=.slice es sp/\es.length+sp.length=c):n<=1048576:=by
 have hb:Rows.uptoBulkAll ds<=1048576:=of_decide_eq_true hk;have hp:=bulk_le hd;rcases h with ⟨_,rfl⟩ | ⟨es,sp,rfl,e⟩
 ·omega
 ·have h1:=many_le es
  have h2:=many_le sp;simp only [Rows.uptoBulk] at hp;omega
theorem lifted (os:Os) (started:os.Started) (H:Type) (enc:TypeId×Value->H) (FF:Stop.Interp) :
  ReturnsInHanded {} Tryz.checked os 3 .any ((Rows.OpenSpec.upto Rows.classesPlaysSpec).pre6 enc prog Tryz.f3 Rows.classesPlaysUptoRow.domain false) (((Rows.OpenSpec.upto Rows.classesPlaysSpec).at FF).post enc prog Tryz.f3 false true false false):=by
 refine returnsInHanded_of_cond (C:=Tryz.checked) (s:=(Rows.OpenSpec.upto Rows.classesPlaysSpec)) (k:=Rows.uptoSmall) rfl own started (by kernel_rfl) func3
  (OpenSpec.witness (enc:=enc) (C:=Tryz.checked) (s:=(Rows.OpenSpec.upto Rows.classesPlaysSpec)) (k:=Rows.uptoSmall) rfl false ⟨#[],#[.int .i64 0,.int .i64 0,.slice none 0 0],[]⟩ 8 (by kernel_rfl) (by kernel_rfl) (by kernel_rfl)
   (x:=([.lit (.int .i64 0),.lit (.int .i64 0),.nil],[],[])) (by kernel_rfl) rfl (by kernel_rfl)) ?_
 intro W base args ds gs before WV hW _ hk _;have um:∀ (j:Nat) t v,Tryz.f3.params[j]?=some t->args[j]?=some v->Value.okWide prog W .any base t v:=WV;have J7:=hW;obtain ⟨p,q,WX,hV,rfl,_,_⟩:=hW;have hA:DataW.TrodAll enc prog W 0 (fun _=>true) true Tryz.f3.params.toList args.toList ds p:=WX
 rw [params3] at hA um;obtain ⟨v0,vs0,d0,ds0,p0,q0,agU,rfl,rfl,h0,r0⟩:=trodAll_cons hA;obtain ⟨v1,vs1,d1,pK,p1,q1,rfl,rfl,rfl,h1,r1⟩:=trodAll_cons r0;obtain ⟨v2,vs2,d2,ds2,p2,q2,rfl,rfl,rfl,h2,r2⟩:=trodAll_cons r1;obtain ⟨rfl,rfl,rfl⟩:=trodAll_nil r2;obtain rfl:args=#[v0,v1,v2]:=by cases args;simp_all
 obtain ⟨rfl,rfl⟩:=trodVars_none hV;have t0:=h0;obtain ⟨y0,rfl,rfl,rfl,wy0⟩:=open_int underlying3 (um 0 3 v0 rfl rfl) h0;have t1:=h1;obtain ⟨y1,rfl,rfl,rfl,wy1⟩:=open_int underlying3 (um 1 3 v1 rfl rfl) h1;have t2:=h2;obtain ⟨a2,n2,c2,rfl⟩:=okWide_slice underlying22 (um 2 22 v2 rfl rfl);obtain ⟨l2,rfl,S2,z2,le2,bk2⟩:=aco h2;clear WX WV;have afW:Rows.uptoBulkAll [.lit (.int .i64 y0),.lit (.int .i64 y1),d2]<=1048576:=of_decide_eq_true hk;simp only [Rows.uptoBulkAll] at afW;simp only [List.append_nil] at J7;refine (acP afD o5c y0 y1 a2 c2 l2 (by omega) W S2).mono fun e W' ⟨he,hg⟩=>?_
 subst he;have A0:DataW.Trod enc prog W' 0 (fun b=>decide (b<W.heap.size)) true 3 (.int .i64 y0) (.lit (.int .i64 y0)) [] :=
  Below.trod laidOut (by kernel_rfl) (of_decide_eq_true (by kernel_rfl)) t0 hg.below (fun y hy=>by cases hy)
 have A1:DataW.Trod enc prog W' 0 (fun b=>decide (b<W.heap.size)) true 3 (.int .i64 y1) (.lit (.int .i64 y1)) [] :=
  Below.trod laidOut (by kernel_rfl) (of_decide_eq_true (by kernel_rfl)) t1 hg.below (fun y hy=>by cases hy)
 have A2:DataW.Trod enc prog W' 0 (fun b=>decide (b<W.heap.size)) true 22 (.slice a2 l2.length c2) d2 p2 :=
  Below.trod laidOut (by kernel_rfl) (of_decide_eq_true (by kernel_rfl)) t2 hg.below (fun y hy=>by simpa using J7.lt y (by simp [hy]))
 exact ⟨_,rfl,_,_,_,[],_,[],J7,trodAll_cons_mk (shut_bool underlying4 true) trodAll_mk0,(trodAll_cons_mk A0 (trodAll_cons_mk A1 (trodAll_cons_mk A2 trodAll_mk0))),rfl,hg.below.frame _,fun h=>by cases h⟩
theorem over:Rows.classesPlaysUptoRow.holds Tryz.pinned (Rows.OpenSpec.upto Rows.classesPlaysSpec) :=
 OpenClaim.holds_of_cond 3 Tryz.f3 rfl rfl rfl rfl rfl rfl rfl ⟨rfl,rfl,rfl,rfl,rfl⟩ rfl rfl rfl rfl rfl (by kernel_rfl) func3 (by kernel_rfl)
  (of_decide_eq_true (by kernel_rfl)) (by unfold Func.isWrapper;first | (rw [if_pos (by decide +kernel)];kernel_rfl) | (rw [if_neg (by decide +kernel)];exact ⟨rfl,rfl⟩))
  (fun os started H enc _ FF=>lifted os started H enc FF)
end Go.Proofs.YtklkpldicbkjeaaGreat.classesPlays
namespace Go.Proofs.YtklkpldicbkjeaaGreat
theorem classesPlays_holds:Rows.ClassesPlaysUptoSaid:=classesPlays.over
end Go.Proofs.YtklkpldicbkjeaaGreat
