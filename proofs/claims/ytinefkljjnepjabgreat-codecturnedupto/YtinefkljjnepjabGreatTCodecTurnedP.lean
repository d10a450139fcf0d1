/- CodecTurned returns true for whatever is handed in, every place and bit; the arguments together within the bound that the given statement says. -/
import Derived.Deep.CondSized
import Derived.Lib.SmallJoins
import Derived.OpenShut
import Derived.ProofKit
import Derived.SizedLaws
import Derived.Test.YtinefkljjnepjabGreatRows
import Derived.WalkKit
import Derived.Test.YtinefkljjnepjabGreatTPE3
import Derived.Test.YtinefkljjnepjabGreatTPXR
import Derived.Test.YtinefkljjnepjabGreatTJWTurn
import Derived.Test.YtinefkljjnepjabGreatTPX6
import Derived.Test.YtinefkljjnepjabGreatTJOpenM
namespace Go.Proofs.YtinefkljjnepjabGreat.codecTurned
open Go.ChangeShapes Go.WideShapes Go.ChangeAt Go.RowKit Go.Joins
set_option linter.unusedVariables false
theorem own:ownKnob Tryz.prog.godebug=none:=by kernel_rfl
theorem laidOut:laidOutB Tryz.prog=true:=by kernel_rfl
theorem i64_bd {x:Int} (h:(Lit.int .i64 x).wf=true):-9223372036854775808≤x∧x<9223372036854775808:=by
 simp [Lit.wf,IntKind.min,IntKind.max,IntKind.signed,IntKind.bits] at h
 exact ⟨by omega,by omega⟩
theorem u64_bd {x:Int} (h:(Lit.int .u64 x).wf=true):0≤x∧x<18446744073709551616:=by
 simp [Lit.wf,IntKind.min,IntKind.max,IntKind.signed,IntKind.bits] at h
 exact ⟨by omega,by omega⟩
theorem bytes_k:Tryz.prog.bytesOf 37=8:=by kernel_rfl
theorem one_le {H:Type} (d:DataW H):1≤Rows.uptoBulk d:=by
 cases d with
 | lit l=>cases l<;>simp [Rows.uptoBulk]
 | nil=>simp [Rows.uptoBulk]
 | ptr d=>simp [Rows.uptoBulk]
 | slice elems spare=>simp [Rows.uptoBulk]
 | agg parts=>simp [Rows.uptoBulk]
 | iface t d=>simp [Rows.uptoBulk]
 | map entries=>simp [Rows.uptoBulk]
 | held h=>simp [Rows.uptoBulk]
theorem many_le {H:Type} (l:List (DataW H)):l.length≤Rows.uptoBulkAll l:=by
 induction l with
 | nil=>simp [Rows.uptoBulkAll]
 | cons x r ih=>have:=one_le x;simp only [Rows.uptoBulkAll,List.length_cons];omega
theorem bulk_le {H:Type} {d:DataW H} {l:List (DataW H)} (h:d∈l):Rows.uptoBulk d≤Rows.uptoBulkAll l:=by
 induction l with
 | nil=>cases h
 | cons x r ih =>
  simp only [Rows.uptoBulkAll]
  cases List.mem_cons.1 h with
  | inl e=>subst e;omega
  | inr e=>have:=ih e;omega
theorem short {H:Type} {ds:List (DataW H)} {d:DataW H} {n c:Nat} (hk:Rows.uptoSmall H ds=true) (hd:d∈ds) (hn:n≤c) (h:(d=.nil∧n=0)∨∃ es sp,d=.slice es sp∧es.length+sp.length=c):n≤1048576:=by
 have hb:Rows.uptoBulkAll ds≤1048576:=of_decide_eq_true hk
 have hp:=bulk_le hd
 rcases h with ⟨_,rfl⟩ | ⟨es,sp,rfl,e⟩
 ·omega
 ·have h1:=many_le es
  have h2:=many_le sp
  simp only [Rows.uptoBulk] at hp
  omega
theorem shortV {H:Type} {ds:List (DataW H)} {d:DataW H} {c:Nat} {L:List (List Sg)} (hk:Rows.uptoSmall H ds=true) (hd:d∈ds) (hn:L.length≤c) (h:(d=.nil∧L.length=0)∨∃ es sp,d=.slice es sp∧es.length+sp.length=c∧∀ i,i<L.length→∃ di∈es,(di=.nil∧(L.getD i []).length=0)∨∃ es' sp',di=.slice es' sp'∧(L.getD i []).length≤es'.length+sp'.length):Short L:=by
 have hb:Rows.uptoBulkAll ds≤1048576:=of_decide_eq_true hk
 have hp:=bulk_le hd
 rcases h with ⟨_,e⟩ | ⟨es,sp,rfl,e,h⟩
 ·exact ⟨by omega,fun i hi=>by omega⟩
 ·have h1:=many_le es
  have h2:=many_le sp
  simp only [Rows.uptoBulk] at hp
  refine ⟨by omega,fun i hi=>?_⟩
  obtain ⟨di,hm,q | ⟨es',sp',rfl,q⟩⟩:=h i hi
  ·omega
  ·have h3:=bulk_le hm
   have h4:=many_le es'
   have h5:=many_le sp'
   simp only [Rows.uptoBulk] at h3
   omega
theorem smallM {H:Type} {ds l:List (DataW H)} (hk:Rows.uptoSmall H ds=true) (hd:DataW.agg l∈ds):Rows.uptoSmall H l=true:=by
 have hb:Rows.uptoBulkAll ds≤1048576:=of_decide_eq_true hk
 have hp:=bulk_le hd
 simp only [Rows.uptoBulk] at hp
 exact decide_eq_true (by omega)
set_option maxRecDepth 100000 in
theorem lifted (os:Os) (started:os.Started) (H:Type) (enc:TypeId×Value→H) (FF:Stop.Interp) :
  ReturnsInHanded {} Tryz.checked os 3 .any ((Rows.OpenSpec.upto Rows.codecTurnedSpec).pre6 enc Tryz.prog Tryz.f3 Rows.codecTurnedUptoRow.domain false) (((Rows.OpenSpec.upto Rows.codecTurnedSpec).at FF).post enc Tryz.prog Tryz.f3 false true false false):=by
 refine returnsInHanded_of_cond (C:=Tryz.checked) (s:=(Rows.OpenSpec.upto Rows.codecTurnedSpec)) (k:=Rows.uptoSmall) rfl own started (by kernel_rfl) Tryz.func3
  (OpenSpec.witness (enc:=enc) (C:=Tryz.checked) (s:=(Rows.OpenSpec.upto Rows.codecTurnedSpec)) (k:=Rows.uptoSmall) rfl false ⟨#[],#[.agg #[.slice none 0 0, .int .i64 0, .bool false, .slice none 0 0], .int .i64 0, .int .i64 0],[]⟩ 8 (by kernel_rfl) (by kernel_rfl) (by kernel_rfl)
   (x:=([.agg [.nil, .lit (.int .i64 0), .lit (.bool false), .nil], .lit (.int .i64 0), .lit (.int .i64 0)],[],[])) (by kernel_rfl) rfl (by kernel_rfl)) ?_
 intro W base args ds gs before hval0 hW _ hk _
 have hval:∀ (j:Nat) t v,Tryz.f3.params[j]?=some t→args[j]?=some v→Value.okWide Tryz.prog W .any base t v:=hval0
 have hW':=hW
 obtain ⟨p,q,hA0,hV,rfl,_,_⟩:=hW
 have hA:DataW.TrodAll enc Tryz.prog W 0 (fun _=>true) true Tryz.f3.params.toList args.toList ds p:=hA0
 rw [Tryz.params3] at hA hval
 obtain ⟨v0,vs0,d0,ds0,p0,q0,hargs,rfl,rfl,h0,r0⟩:=trodAll_cons hA
 obtain ⟨v1,vs1,d1,ds1,p1,q1,rfl,rfl,rfl,h1,r1⟩:=trodAll_cons r0
 obtain ⟨v2,vs2,d2,ds2,p2,q2,rfl,rfl,rfl,h2,r2⟩:=trodAll_cons r1
 obtain ⟨rfl,rfl,rfl⟩:=trodAll_nil r2
 obtain rfl:args=#[v0,v1,v2]:=by cases args;simp_all
 obtain ⟨rfl,rfl⟩:=trodVars_none hV
 have t0:=h0
 obtain ⟨a0,n0,c0,ep0,ow0,ua0,uc0,U0,k0,x0,g0,rfl,S0,z0,le0,eb0,SU0,ule0,e0_0,e1_0,e2_0,e3_0,rfl,dd0,du0⟩:=open_made12 (hval 0 25 v0 rfl rfl) h0
 have sm0:=smallM hk (l:=[e0_0,e1_0,e2_0,e3_0]) (by simp)
 have R0:n0≤1048576:=short sm0 (d:=e0_0) (by simp) le0 dd0
 have RU0:Short U0:=shortV sm0 (d:=e3_0) (by simp) ule0 du0
 have t1:=h1
 obtain ⟨y1,rfl,rfl,rfl,wy1⟩:=open_int Tryz.underlying3 (hval 1 3 v1 rfl rfl) h1
 have t2:=h2
 obtain ⟨y2,rfl,rfl,rfl,wy2⟩:=open_int Tryz.underlying3 (hval 2 3 v2 rfl rfl) h2
 clear hA0 hval0
 simp only [List.append_nil] at hW'
 refine (turned_walk runc o5c ep0 a0 n0 c0 k0 x0 g0 ow0 ua0 uc0 U0 eb0.1 eb0.2 (by omega) le0 z0 RU0 (Nat.le_trans (heavy_made t0 SU0) (Nat.le_trans (bulk_le (by simp)) (of_decide_eq_true hk))) y1 (i64_bd wy1).1 (i64_bd wy1).2 y2 (i64_bd wy2).1 (i64_bd wy2).2 W S0 SU0).mono fun e W' ⟨he,hg⟩=>?_
 subst he
 have A0:DataW.Trod enc Tryz.prog W' 0 (fun b=>decide (b<W.heap.size)) true 25 (madeV a0 n0 c0 ep0 ow0 ua0 U0.length uc0) (.agg [e0_0,e1_0,e2_0,e3_0]) p0 :=
  Below.trod laidOut (by kernel_rfl) (of_decide_eq_true (by kernel_rfl)) t0 hg.below (fun y hy=>by simpa using hW'.lt y (by simp [hy]))
 have A1:DataW.Trod enc Tryz.prog W' 0 (fun b=>decide (b<W.heap.size)) true 3 (.int .i64 y1) (.lit (.int .i64 y1)) [] :=
  Below.trod laidOut (by kernel_rfl) (of_decide_eq_true (by kernel_rfl)) t1 hg.below (fun y hy=>by cases hy)
 have A2:DataW.Trod enc Tryz.prog W' 0 (fun b=>decide (b<W.heap.size)) true 3 (.int .i64 y2) (.lit (.int .i64 y2)) [] :=
  Below.trod laidOut (by kernel_rfl) (of_decide_eq_true (by kernel_rfl)) t2 hg.below (fun y hy=>by cases hy)
 exact ⟨_,rfl,_,_,_,[],_,[],hW',trodAll_cons_mk (shut_bool Tryz.underlying4 true) trodAll_mk0,(trodAll_cons_mk A0 (trodAll_cons_mk A1 (trodAll_cons_mk A2 trodAll_mk0))),rfl,hg.below.frame _,fun h=>by cases h⟩
theorem over:Rows.codecTurnedUptoRow.holds Tryz.pinned (Rows.OpenSpec.upto Rows.codecTurnedSpec) :=
 OpenClaim.holds_of_cond 3 Tryz.f3 rfl rfl rfl rfl rfl rfl rfl ⟨rfl,rfl,rfl,rfl,rfl⟩ rfl rfl rfl rfl rfl (by kernel_rfl) Tryz.func3 (by kernel_rfl)
  (of_decide_eq_true (by kernel_rfl)) (by unfold Func.isWrapper;first | (rw [if_pos (by decide +kernel)];kernel_rfl) | (rw [if_neg (by decide +kernel)];exact ⟨rfl,rfl⟩))
  (fun os started H enc _ FF=>lifted os started H enc FF)
end Go.Proofs.YtinefkljjnepjabGreat.codecTurned
namespace Go.Proofs.YtinefkljjnepjabGreat
theorem codecTurned_holds:Rows.CodecTurnedUptoSaid:=codecTurned.over
end Go.Proofs.YtinefkljjnepjabGreat
