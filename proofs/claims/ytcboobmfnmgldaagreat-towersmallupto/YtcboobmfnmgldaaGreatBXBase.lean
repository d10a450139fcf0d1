/- Package line's iterator: the rank of each key, and its distance from the first one. Package line's least Base, over what its 'climb' does. -/
import Derived.LoopIn
import Derived.LoopNIn
import Derived.OwnWalkIn
import Derived.RangeFuncBound
import Derived.RangeFuncCalls
import Derived.RangeFuncLeaves
import Derived.RangeFuncNested
import Derived.Shelf.Abstract
import Derived.TacticsInMore
import Derived.Test.YtcboobmfnmgldaaGreatBPBs
set_option linter.unusedVariables false
set_option maxHeartbeats 4000000
set_option maxRecDepth 100000
open Go.Proofs.Tryz
namespace Go.Proofs.YtcboobmfnmgldaaGreat
open Go.RowKit Go.Shelf
attribute [local go_sem] Oper.semAt_some
def pair (f:Nat->Int) {n:Nat} (x:Fin n):Array Value:=#[AI ((x.1:Nat):Int),By (f x.1-f 0)]
def kR {n:Nat} (k:Nat) (l:List (Fin n)):Prop:=l.length=k/\∀ i (h:i<l.length),(l[i]).1=i
variable {n:Nat}
theorem kR.nil:kR 0 ([]:List (Fin n)):=⟨rfl,fun i h=>absurd h (by simp)⟩
variable {k:Nat}
theorem kR.snoc {l:List (Fin n)} (h:kR k l) (x:Fin n) (hx:x.1=k):kR (k+1) (l++[x]):=by
 refine ⟨by simp [h.1],fun i hi=>?_⟩
 by_cases q:i<l.length
 ·rw [List.getElem_append_left q];exact h.2 i q
 ·have:i=l.length:=by simp at hi;omega
  subst this;simp [hx,h.1]
theorem kR.all {l:List (Fin n)} (h:kR n l) (x:Fin n):x∈l:=by
 have e:=h.2 x.1 (by rw [h.1];exact x.2)
 have:l[x.1]'(by rw [h.1];exact x.2)=x:=Fin.ext e
 rw [<-this];exact List.getElem_mem _
structure Kept (n₀ Bs:Nat) (W W':World):Prop where
 below:Below n₀ W W'
 box:W'.heap[Bs]?=W.heap[Bs]?
theorem Kept.refl (n₀ Bs:Nat) (W:World):Kept n₀ Bs W W:=⟨Below.refl _ _,rfl⟩
variable {n₀ Bs:Nat}
theorem Kept.trans {A B C:World} (h:Kept n₀ Bs A B) (k:Kept n₀ Bs B C):Kept n₀ Bs A C:=⟨h.below.trans k.below,k.box.trans h.box⟩
variable {w:World}
theorem Kept.put (hn:n₀<=w.heap.size) (hB:Bs<w.heap.size) (W:World) (l:Nat) (o o':Obj) (hl:w.heap.size<=l) (h:W.heap[l]?=some o) (h1:o.isCells=false) (h2:o.isWalk=false):Kept n₀ Bs W (W.putObj l o') :=
 ⟨belowK_b hn W l o o' hl h h1 h2,World.putObj_heap_other (by omega)⟩
variable {W W':World}
theorem Kept.gw (g:Gw W W') (hn:n₀<=W.heap.size) (hB:Bs<W.heap.size):Kept n₀ Bs W W':=⟨g.below.mono hn,g.below.block Bs hB⟩
theorem Kept.setCell {p:Addr} (hn:n₀<=p.block) (hB:p.block≠Bs) (v:Value):Kept n₀ Bs W (W.setCell p v) :=
 ⟨(Below.refl _ _).setCell hn v,Go.Deep.blk_setCell_other _ _ _ _ (Ne.symm hB)⟩
theorem aeN (F:Fence) (n:Nat) (hf:F.fn 189) (kP:F.round=none) (hn:1<=n) (l Bs n₀ b off len cap:Nat) (f:Nat->Int) (Ve:len*8<=140737488351232) (hb:b<n₀) (up:∀ i,i<len->0<=f i-f 0/\f i-f 0<18446744073709551616) (J Jx:List (Fin len)->World->Prop)
  (hY:∀ pre x W,J pre W->pre.length<len->YieldAt F (n-1) prog l (pair f x) W fun e W' =>
   (e=.returned (.bool true)/\J (pre++[x]) W'/\Kept n₀ Bs W W')\/(e=.returned (.bool false)/\Jx (pre++[x]) W'))
  (W:World) (hB:W.heap[Bs]?=some (.cells #[.slice (some ⟨b,off,none⟩) len cap] 83 (0,0))) (hc:∀ j,j<len->W.cell? ⟨b,off+j,none⟩=some (By (f j))) (h0:J [] W) :
  CallsIn F n prog 189 #[.func (.yield l) #[] #[],BY Bs] W fun e W'=>(∃ v,e=.returned v) /\
   ((∃ ys,kR len ys/\J ys W')\/(∃ pre,True/\Jx pre W')):=by
 have HB:ag (∀ wr,Kept n₀ Bs W wr->wr.cell? ⟨Bs,0,none⟩=some (.slice (some ⟨b,off,none⟩) len cap)):=fun wr g=>by
  have:=g.box.trans hB
  simp [World.cell?,this]
 have HC:ag (∀ wr,Kept n₀ Bs W wr->∀ j,j<len->wr.cell? ⟨b,off+j,none⟩=some (By (f j))):=fun wr g j hj=>(g.below.cell (p:=⟨b,off+j,none⟩) hb).trans (hc j hj)
 have Pn:=HB.o W (Kept.refl _ _ _);clear hB hc;refine callsIn_of_wp func189 rfl hf ?_ kP;simp only [ntmps189,List.size_toArray,List.length_cons,List.length_nil,Nat.reduceAdd,Nat.reduceSub,Array.replicate_succ,Array.replicate_zero,List.push_toArray,List.append_toArray,List.nil_append,List.cons_append]
 gi_wp2
 gi_loopw [7] (fun i wr=>∃ (k:Nat) (pre:List (Fin len)),k<=len/\i=AI k/\kR k pre/\J pre wr/\Kept n₀ Bs W wr)
  (fun i _=>len-(intOf i).toNat)
 case atStart=>exact ⟨0,[],Nat.zero_le _,rfl,kR.nil,h0,Kept.refl _ _ _⟩
 case round =>
  obtain ⟨k,pre,hk,rfl,hp,Vf,hK⟩:=hrel;by_cases ar:k<len
  ·have c1:=HB.o wr hK
   have c2:=HC.o wr hK;have c3:=c2 k ar;have c4:=c2 0 (by omega)
   rw [Nat.add_zero] at c4;clear c2;obtain ⟨u0,u1⟩:=up k ar;have ew:IntKind.u64.wrap (f k-f 0)=f k-f 0:=by rw [IntKind.wrap_u64];omega
   obtain ⟨fn,tmps,assign,body,hy,hR⟩:=hY pre ⟨k,ar⟩ wr Vf (by rw [hp.1];exact ar)
   dsimp only [pair] at hy
   gi_wp2
   refine hR.mono ?_;rintro e W3 (⟨rfl,hJ3,hk3⟩ | ⟨rfl,aeO⟩)
   ·gi_wp2
    go_roundw
    case rel=>exact ⟨k+1,_,by omega,by simp,hp.snoc ⟨k,ar⟩ rfl,hJ3,hK.trans hk3⟩
    case measure=>simp [intOf];omega
   ·gi_wp2
    refine bodyPost_ret (results_none rfl _ _ _) rfl ?_;exact ⟨⟨_,rfl⟩,.inr ⟨_,trivial,aeO⟩⟩
  ·obtain rfl:k=len:=by omega
   gi_wp2
   go_end0
   exact ⟨⟨_,rfl⟩,.inl ⟨_,hp,Vf⟩⟩
theorem aeP (F:Fence) (n:Nat) (hf:F.fn 165) (kP:F.round=none) (ao:Option Addr) (len cap:Nat) (w:World) :
  CallsIn F n prog 165 #[.slice ao len cap] w fun e w'=>e=.returned (.func (.func 189) #[] #[BY (w.heap.size)])/\w'=w.alloc (.cells #[.slice ao len cap] 83):=by
 refine callsIn_of_wp func165 rfl hf ?_ kP;simp only [ntmps165,List.size_toArray,List.length_cons,List.length_nil,Nat.reduceAdd,Nat.reduceSub,Array.replicate_succ,Array.replicate_zero,List.push_toArray,List.append_toArray,List.nil_append,List.cons_append]
 gi_wp2
 go_ret
 exact ⟨rfl,rfl⟩
theorem aeQ (F:Fence) (n:Nat) (hf:F.fn 189) (kP:F.round=none) (hn:1<=n) (Bs n₀ b off len cap:Nat) (f:Nat->Int) (Ve:len*8<=140737488351232) (hb:b<n₀) (up:∀ i,i<len->0<=f i-f 0/\f i-f 0<18446744073709551616) (w:World) (hn₀:n₀<=w.heap.size)
  (hB:w.heap[Bs]?=some (.cells #[.slice (some ⟨b,off,none⟩) len cap] 83 (0,0))) (hc:∀ j,j<len->w.cell? ⟨b,off+j,none⟩=some (By (f j))) :
  SeqStopsK F n prog 189 #[BY Bs] (fun x:Fin len=>pair f x) (Kept n₀ Bs) (kR len) (fun _=>True) len w:=fun l J Jx W hW _ _ hY h0 =>
 aeN F n hf kP hn l Bs n₀ b off len cap f Ve hb up J Jx hY W ((hW.block Bs (Array.getElem?_eq_some_iff.1 hB).1).trans hB) (fun j hj=>(hW.cell (p:=⟨b,off+j,none⟩) (by simp;omega)).trans (hc j hj)) h0
end Go.Proofs.YtcboobmfnmgldaaGreat
namespace Go.Proofs.YtcboobmfnmgldaaGreat
open Go.RowKit Go.Shelf
attribute [local go_sem] Oper.semAt_some
def sI (e:Int) (f:Nat->Int) (a b:Int) {n:Nat} (pre:List (Fin n)) (z:Int):Prop :=
 -e<=z/\(∀ x∈pre,((x.1:Nat):Int)-e-a*(f x.1-f 0)/b<=z)/\(z=-e\/∃ x∈pre,z=((x.1:Nat):Int)-e-a*(f x.1-f 0)/b)
variable {e a b z:Int} {n:Nat}
theorem sI.snoc {f:Nat->Int} {pre:List (Fin n)} {z':Int} (h:sI e f a b pre z) (x:Fin n) (h1:z<=z') (h2:((x.1:Nat):Int)-e-a*(f x.1-f 0)/b<=z') (h3:z'=z\/z'=((x.1:Nat):Int)-e-a*(f x.1-f 0)/b):sI e f a b (pre++[x]) z':=by
 refine ⟨by have:=h.1;omega,fun y hy=>?_,?_⟩
 ·rcases List.mem_append.1 hy with q | q
  ·have:=h.2.1 y q;omega
  ·have:y=x:=by simpa using q
   subst this;exact h2
 ·rcases h3 with q | q
  ·rcases h.2.2 with r | ⟨y,hy,r⟩
   ·exact .inl (q.trans r)
   ·exact .inr ⟨y,List.mem_append.2 (.inl hy),q.trans r⟩
  ·exact .inr ⟨x,List.mem_append.2 (.inr (by simp)),q⟩
theorem sI.done {f:Nat->Int} {pre:List (Fin n)} (h:sI e f a b pre z) (hp:kR n pre) (n0:0<n):lZ e f n a b z:=by
 have z0:a*(f 0-f 0)/b=0:=by rw [Int.sub_self,Int.mul_zero,Int.zero_ediv]
 refine ⟨fun i hi=>?_,?_⟩
 ·have:=h.2.1 ⟨i,hi⟩ (hp.all _)
  simp only at this
  omega
 ·rcases h.2.2 with q | ⟨x,_,q⟩
  ·exact ⟨0,n0,by rw [z0];omega⟩
  ·exact ⟨x.1,x.2,by omega⟩
structure kS (w:World) (N:Nat) (a b c e z:Int) (W:World):Prop where
 gw:Gw w W
 bl:W.heap[N]?=some (.cells #[By a,By b,AI c] 180 (0,0))
 be:W.heap[N+1]?=some (.cells #[AI e] 3 (0,0))
 bz:W.heap[N+1+1]?=some (.cells #[AI z] 3 (0,0))
 bs:N+1+1+1<W.heap.size
variable {W:World} {k:Nat}
theorem sJ {o:Obj} (h:W.heap[k]?=some o):k<W.heap.size:=(Array.getElem?_eq_some_iff.1 h).1
variable {w W':World} {N:Nat} {c:Int}
theorem kS.grown (h:kS w N a b c e z W) {row:Option Nat} (g:W.grownBy W' row) (hr:∀ r,row=some r->N+1+1<r) (hN:w.heap.size=N):kS w N a b c e z W' :=
 ⟨h.gw.grown g (fun k hk=>by have:=hr k hk;omega),(g.block _ (sJ h.bl) (fun q=>by have:=hr _ q.symm;omega)).trans h.bl,(g.block _ (sJ h.be) (fun q=>by have:=hr _ q.symm;omega)).trans h.be,(g.block _ (sJ h.bz) (fun q=>by have:=hr _ q.symm;omega)).trans h.bz,Nat.lt_of_lt_of_le h.bs g.size⟩
theorem kS.go (h:kS w N a b c e z W) (g:Gw W W'):kS w N a b c e z W' :=
 ⟨h.gw.trans g,(g.below.block _ (sJ h.bl)).trans h.bl,(g.below.block _ (sJ h.be)).trans h.be,(g.below.block _ (sJ h.bz)).trans h.bz,Nat.lt_of_lt_of_le h.bs g.size⟩
theorem kS.set (h:kS w N a b c e z W) (hN:w.heap.size=N) (z':Int):kS w N a b c e z' (W.setCell ⟨N+1+1,0,none⟩ (AI z')) :=
 ⟨h.gw.setCell (by simp;omega) _,(Go.Deep.blk_setCell_other _ _ _ _ (by simp;omega)).trans h.bl,(Go.Deep.blk_setCell_other _ _ _ _ (by simp)).trans h.be,by have:=h.bz;simp [World.setCell,Array.getElem?_modify,this],by have:=h.bs;simpa [World.setCell] using this⟩
theorem Vg {B:Nat} (g:Gw W W'):KeepsFrom B W W':=⟨g.size,fun k o _ hk _=>(g.below.block k (sJ hk)).trans hk⟩
theorem uG {o:Nat} {vs:Array Value} {t:TypeId} {v:Value} (h:W.heap[k]?=some (.cells vs t (0,0))) (hv:vs[o]?=some v):W.cell? ⟨k,o,none⟩=some v:=by simp [World.cell?,h,hv]
theorem aeR {o:Nat} {vs:Array Value} {t:TypeId} (h:W.heap[k]?=some (.cells vs t (0,0))):W.frozen? ⟨k,o,none⟩=false:=by simp [World.frozen?,h]
theorem aeS (CC:CX) (a b c e:Int) (bl off n cp:Nat) (f:Nat->Int) (a0:0<=a) (a1:a<18446744073709551616) (b0:0<=b) (b1:b<18446744073709551616) (e0:0<=e) (e1:e<=100) (n0:0<n) (hn:n<=4000000)
  (w:World) (hb:bl<w.heap.size) (hc:∀ j,j<n->w.cell? ⟨bl,off+j,none⟩=some (By (f j))) (up:∀ i,i<n->0<=f i-f 0/\f i-f 0<18446744073709551616)
  (sm:∀ i,i<n->¬ iN a b (f i-f 0)) :
  Calls prog 146 #[.agg #[By a,By b,AI c],.slice (some ⟨bl,off,none⟩) n cp,AI e] w fun ex w'=>(∃ z:Int,ex=.returned (AI z)/\lZ e f n a b z/\(-100<=z/\z<=4000000))/\Gw w w':=by
 have agf:IntKind.i64.wrap (-e)=-e:=by rw [IntKind.wrap_i64];omega
 refine (callsIn_wide (n:=3)).1 ?_;have h1:1<=3:=by omega
 have kP:Fence.wide.round=none:=rfl;refine callsIn_of_wp_marks func146 rfl trivial ?_ kP;simp only [ntmps146,List.size_toArray,List.length_cons,List.length_nil,Nat.reduceAdd,Nat.reduceSub,Array.replicate_succ,Array.replicate_zero,List.push_toArray,List.append_toArray,List.nil_append,List.cons_append]
 gi_wp2_with (refine ⟨trivial,?_⟩;gi_at_call 165;refine (aeP Fence.wide _ trivial kP _ _ _ _).mono ?_;rintro ex w' ⟨rfl,rfl⟩)
 obtain ⟨W0,oB⟩:∃ W0,(((w.alloc (.cells #[By a,By b,AI c] 180)).alloc (.cells #[AI e] 3)).alloc (.cells #[AI (-e)] 3)).alloc (.cells #[.slice (some ⟨bl,off,none⟩) n cp] 83)=W0:=⟨_,rfl⟩;have G0:Gw w W0:=by rw [<-oB];exact ((((Gw.refl w).alloc _ _).alloc _ _).alloc _ _).alloc _ _
 have sz:W0.heap.size=w.heap.size+1+1+1+1:=by rw [<-oB];simp
 have l0:W0.cell? ⟨w.heap.size,0,none⟩=some (By a)/\W0.cell? ⟨w.heap.size,1,none⟩=some (By b)/\W0.cell? ⟨w.heap.size,2,none⟩=some (AI c):=by rw [<-oB];simp [go_sem]
 have l1:W0.cell? ⟨w.heap.size+1,0,none⟩=some (AI e):=by rw [<-oB];simp [go_sem]
 have l2:W0.heap[w.heap.size+1+1]?=some (.cells #[AI (-e)] 3 (0,0)):=by
  rw [<-oB];have:=World.alloc_heap_new ((w.alloc (.cells #[By a,By b,AI c] 180)).alloc (.cells #[AI e] 3)) (.cells #[AI (-e)] 3);simp only [World.size_alloc] at this;exact (Below.heap_alloc _ _ _ (by simp)).trans this
 have l3:W0.heap[w.heap.size+1+1+1]?=some (.cells #[.slice (some ⟨bl,off,none⟩) n cp] 83 (0,0)):=by
  rw [<-oB];have:=World.alloc_heap_new (((w.alloc (.cells #[By a,By b,AI c] 180)).alloc (.cells #[AI e] 3)).alloc (.cells #[AI (-e)] 3)) (.cells #[.slice (some ⟨bl,off,none⟩) n cp] 83);simpa only [World.size_alloc] using this
 rw [oB];have V0:kS w w.heap.size a b c e (-e) W0:=by
  refine ⟨G0,?_,?_,l2,by omega⟩
  all_goals rw [<-oB]
  ·exact (Below.heap_alloc _ _ _ (by simp;omega)).trans ((Below.heap_alloc _ _ _ (by simp;omega)).trans ((Below.heap_alloc _ _ _ (by simp)).trans (World.alloc_heap_new w _)))
  ·have:=World.alloc_heap_new (w.alloc (.cells #[By a,By b,AI c] 180)) (.cells #[AI e] 3)
   simp only [World.size_alloc] at this;exact (Below.heap_alloc _ _ _ (by simp)).trans ((Below.heap_alloc _ _ _ (by simp)).trans this)
 clear oB l0 l1 l2;obtain ⟨N,hN⟩:∃ N,w.heap.size=N:=⟨_,rfl⟩;rw [hN] at V0 sz l3 hb ⊢;refine wpIn_rangeFunc_ownG kP h1 (gf:=189) (lb:=#[.pointer (some ⟨N+1+1+1,0,none⟩)]) rfl trivial (enters_of func189 (by kernel_rfl) rfl)
  (aeQ Fence.wide 2 trivial kP (by omega) (N+1+1+1) N bl off n cp f (by omega) hb up W0 (by omega) l3 (fun j hj=>(G0.cell _ _ (by omega)).trans (hc j hj))) Kept.trans (Kept.put (by omega) (by omega)) (Below.refl _ _) (fun _=>rfl)
  (fun pre W=>∃ z,sI e f a b pre z/\(-100<=z/\z<=4000000)/\kS w N a b c e z W)
  (fun _ _ _=>False)
  (fun s A B row hs hg hr=>by obtain ⟨z,h1,h2,h3⟩:=hs;exact ⟨z,h1,h2,h3.grown hg (fun r q=>by have:=(hr r q).1;omega) hN⟩)
  (fun _ _ _ _ _ hs _ _=>hs)
  ⟨-e,⟨by omega,fun x hx=>absurd hx (by simp),.inl rfl⟩,by omega,V0⟩
  (fun x=>{ tmps:=#[.agg #[By a,By b,AI c],.slice (some ⟨bl,off,none⟩) n cp,AI e,BY N,undef,BY (N+1),AI 0,.pointer (some ⟨N+1+1,0,none⟩),AI ((x.1:Nat):Int),By (f x.1-f 0),undef,undef,AI e,AI (-e),.slice (some ⟨bl,off,none⟩) n cp,.func (.func 189) #[] #[.pointer (some ⟨N+1+1+1,0,none⟩)],AI ((x.1:Nat):Int),By (f x.1-f 0),undef,undef,undef,undef,undef,undef,undef,undef,undef,undef,undef,undef,undef,undef],defers:=[] }) ?assign ?body ?done ?stop
 case assign =>
  intro l x W K hK;simp only [pair]
  gi_wp2
  exact hK
 case body =>
  rintro l pre x W ⟨z,hz,⟨z0,z1⟩,V⟩ _;have VV:ag _:=V;have HZ:ag (sI e f a b pre z):=hz;have k0:=uG (o:=0) V.bl rfl;have k1:=uG (o:=1) V.bl rfl;have k2:=uG (o:=2) V.bl rfl;clear V hz;obtain ⟨u0,u1⟩:=up x.1 x.2;have nb:=sm x.1 x.2;have CD:ag (∀ W,Calls prog 166 #[.agg #[By a,By b,AI c],By (f x.1-f 0)] W fun ex w'=>ex=.returned (.tuple #[AI (a*(f x.1-f 0)/b),.bool true])/\Gw W w'):=fun W=>by
   have:=CC a b c _ a0 a1 b0 b1 u0 u1 W
   rw [if_neg nb,decide_eq_false nb] at this;exact this
  have q0:0<=a*(f x.1-f 0)/b:=Int.ediv_nonneg (Int.mul_nonneg a0 u0) b0;have q1:a*(f x.1-f 0)/b<=2305843009213693952:=by unfold iN at nb;omega
  have xn:=x.2;have SN:ag _:=fun z' h1 h2 h3=>HZ.o.snoc (z':=z') x h1 h2 h3
  clear nb;obtain ⟨Q,hQ⟩:∃ Q,a*(f x.1-f 0)/b=Q:=⟨_,rfl⟩;rw [hQ] at q0 q1 CD SN;obtain ⟨d,hd⟩:∃ d,f x.1-f 0=d:=⟨_,rfl⟩;rw [hd] at CD ⊢;clear hQ hd u0 u1 HZ;obtain ⟨r,hr⟩:∃ r:Nat,x.1=r:=⟨_,rfl⟩;rw [hr] at SN xn ⊢;clear hr;have w1:IntKind.i64.wrap ((r:Int)-e)=r-e:=by rw [IntKind.wrap_i64];omega
  have w2:IntKind.i64.wrap ((r:Int)-e-Q)=r-e-Q:=by rw [IntKind.wrap_i64];omega
  gi_wp2_with (refine ⟨trivial,?_⟩;gi_at_call 166;refine (CallsIn.inRound l (callsIn_wide.2 (CD.o _))).mono ?_;rintro ex W1 ⟨rfl,g1⟩;have V1:ag (kS w N a b c e z W1):=VV.o.go g1;have m0:=uG (o:=0) V1.o.be rfl;have m1:=uG (o:=0) V1.o.bz rfl;have m2:=aeR (o:=0) V1.o.bz)
  ·have V2:=V1.o.set hN ((r:Int)-e-Q)
   exact ⟨(Vg g1).trans ((KeepsOthers.setCell _ _ _).from _),(Kept.gw g1 (by have:=VV.o.bs;omega) VV.o.bs).trans (Kept.setCell (by simp;omega) (by simp) _),(r:Int)-e-Q,SN.o _ (by omega) (Int.le_refl _) (.inr rfl),by omega,V2⟩
  ·have V2:=V1.o.set hN z
   exact ⟨(Vg g1).trans ((KeepsOthers.setCell _ _ _).from _),(Kept.gw g1 (by have:=VV.o.bs;omega) VV.o.bs).trans (Kept.setCell (by simp;omega) (by simp) _),z,SN.o z (Int.le_refl _) (by omega) (.inl rfl),by omega,V2⟩
 case done =>
  rintro D ys W hD hS ⟨z,hz,zb,V⟩ hK;have m1:=uG (o:=0) V.bz rfl
  gi_wp2
  refine ⟨by simp,.inl ⟨_,_,rfl,run_takeDeferred hK,?_⟩⟩
  exact ⟨_,results_tmp rfl _ _ _,⟨z,rfl,hz.done hS n0,zb⟩,⟨V.gw.below.trans (belowK_b (w:=w) (Nat.le_refl _) W D _ _ (by omega) hK rfl rfl)⟩⟩
 case stop =>
  rintro D c' pre W _ _ h _;exact h.elim
end Go.Proofs.YtcboobmfnmgldaaGreat
