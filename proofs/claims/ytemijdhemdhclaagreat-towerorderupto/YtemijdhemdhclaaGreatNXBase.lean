/- Package line's iterator: the rank of each key, and its distance from the first one. Package line's least Base, over what its 'climb' does. -/
import Derived.LoopIn
import Derived.LoopNIn
import Derived.OwnWalkIn
import Derived.RangeFuncBound
import Derived.RangeFuncCalls
import Derived.RangeFuncLeaves
import Derived.RangeFuncNested
import Derived.Shelf.Abstract
import Derived.TacticsInMore
import Derived.Test.YtemijdhemdhclaaGreatNPBs
set_option linter.unusedVariables false
set_option maxHeartbeats 4000000
set_option maxRecDepth 100000
open Go.Proofs.Tryz
namespace Go.Proofs.YtemijdhemdhclaaGreat
open Go.RowKit Go.Shelf
attribute [local go_sem] Oper.semAt_some
def pair (f:Nat->Int) {n:Nat} (x:Fin n):Array Value:=#[.int .i64 ((x.1:Nat):Int),.int .u64 (f x.1-f 0)]
def Firsts {n:Nat} (k:Nat) (l:List (Fin n)):Prop:=l.length=k/\∀ i (h:i<l.length),(l[i]).1=i
theorem Firsts.nil {n:Nat}:Firsts 0 ([]:List (Fin n)):=⟨rfl,fun i h=>absurd h (by simp)⟩
theorem Firsts.snoc {n k:Nat} {l:List (Fin n)} (h:Firsts k l) (x:Fin n) (hx:x.1=k):Firsts (k+1) (l++[x]):=by
 refine ⟨by simp [h.1],fun i hi=>?_⟩
 by_cases q:i<l.length
 ·rw [List.getElem_append_left q];exact h.2 i q
 ·have:i=l.length:=by simp at hi;omega
  subst this;simp [hx,h.1]
theorem Firsts.all {n:Nat} {l:List (Fin n)} (h:Firsts n l) (x:Fin n):x∈l:=by
 have e:=h.2 x.1 (by rw [h.1];exact x.2)
 have:l[x.1]'(by rw [h.1];exact x.2)=x:=Fin.ext e
 rw [<-this];exact List.getElem_mem _
structure Kept (n₀ Bs:Nat) (W W':World):Prop where
 below:Below n₀ W W'
 box:W'.heap[Bs]?=W.heap[Bs]?
theorem Kept.refl (n₀ Bs:Nat) (W:World):Kept n₀ Bs W W:=⟨Below.refl _ _,rfl⟩
theorem Kept.trans {n₀ Bs:Nat} {A B C:World} (h:Kept n₀ Bs A B) (k:Kept n₀ Bs B C):Kept n₀ Bs A C:=⟨h.below.trans k.below,k.box.trans h.box⟩
theorem Kept.put {n₀ Bs:Nat} {w:World} (hn:n₀<=w.heap.size) (hB:Bs<w.heap.size) (W:World) (l:Nat) (o o':Obj) (hl:w.heap.size<=l) (h:W.heap[l]?=some o) (h1:o.isCells=false) (h2:o.isWalk=false):Kept n₀ Bs W (W.putObj l o') :=
 ⟨belowK_b hn W l o o' hl h h1 h2,World.putObj_heap_other (by omega)⟩
theorem Kept.gw {n₀ Bs:Nat} {W W':World} (g:Gw W W') (hn:n₀<=W.heap.size) (hB:Bs<W.heap.size):Kept n₀ Bs W W':=⟨g.below.mono hn,g.below.block Bs hB⟩
theorem Kept.setCell {n₀ Bs:Nat} {W:World} {p:Addr} (hn:n₀<=p.block) (hB:p.block≠Bs) (v:Value):Kept n₀ Bs W (W.setCell p v) :=
 ⟨(Below.refl _ _).setCell hn v,Go.Deep.blk_setCell_other _ _ _ _ (Ne.symm hB)⟩
theorem ranks1_in (F:Fence) (n:Nat) (hf:F.fn 173) (hro:F.round=none) (hn:1<=n) (l Bs n₀ b off len cap:Nat) (f:Nat->Int) (hreach:len*8<=140737488351232) (hb:b<n₀) (up:∀ i,i<len->0<=f i-f 0/\f i-f 0<18446744073709551616) (J Jx:List (Fin len)->World->Prop)
  (hY:∀ pre x W,J pre W->pre.length<len->YieldAt F (n-1) prog l (pair f x) W fun e W' =>
   (e=.returned (.bool true)/\J (pre++[x]) W'/\Kept n₀ Bs W W')\/(e=.returned (.bool false)/\Jx (pre++[x]) W'))
  (W:World) (hB:W.heap[Bs]?=some (.cells #[.slice (some ⟨b,off,none⟩) len cap] 133 (0,0))) (hc:∀ j,j<len->W.cell? ⟨b,off+j,none⟩=some (.int .u64 (f j))) (h0:J [] W) :
  CallsIn F n prog 173 #[.func (.yield l) #[] #[],.pointer (some ⟨Bs,0,none⟩)] W fun e W'=>(∃ v,e=.returned v) /\
   ((∃ ys,Firsts len ys/\J ys W')\/(∃ pre,True/\Jx pre W')):=by
 have HB:Hid (∀ wr,Kept n₀ Bs W wr->wr.cell? ⟨Bs,0,none⟩=some (.slice (some ⟨b,off,none⟩) len cap)):=fun wr g=>by
  have:=g.box.trans hB
  simp [World.cell?,this]
 have HC:Hid (∀ wr,Kept n₀ Bs W wr->∀ j,j<len->wr.cell? ⟨b,off+j,none⟩=some (.int .u64 (f j))):=fun wr g j hj=>(g.below.cell (p:=⟨b,off+j,none⟩) hb).trans (hc j hj)
 have c00:=HB.out W (Kept.refl _ _ _);clear hB hc;refine callsIn_of_wp func173 rfl hf ?_ hro;simp only [ntmps173,List.size_toArray,List.length_cons,List.length_nil,Nat.reduceAdd,Nat.reduceSub,Array.replicate_succ,Array.replicate_zero,List.push_toArray,List.append_toArray,List.nil_append,List.cons_append]
 gi_wp2
 gi_loopw [7] (fun i wr=>∃ (k:Nat) (pre:List (Fin len)),k<=len/\i=.int .i64 k/\Firsts k pre/\J pre wr/\Kept n₀ Bs W wr)
  (fun i _=>len-(intOf i).toNat)
 case atStart=>exact ⟨0,[],Nat.zero_le _,rfl,Firsts.nil,h0,Kept.refl _ _ _⟩
 case round =>
  obtain ⟨k,pre,hk,rfl,hp,hJs,hK⟩:=hrel;by_cases hlt:k<len
  ·have c1:=HB.out wr hK
   have c2:=HC.out wr hK;have c3:=c2 k hlt;have c4:=c2 0 (by omega)
   rw [Nat.add_zero] at c4;clear c2;obtain ⟨u0,u1⟩:=up k hlt;have ew:IntKind.u64.wrap (f k-f 0)=f k-f 0:=by rw [IntKind.wrap_u64];omega
   obtain ⟨fn,tmps,assign,body,hy,hR⟩:=hY pre ⟨k,hlt⟩ wr hJs (by rw [hp.1];exact hlt)
   dsimp only [pair] at hy
   gi_wp2
   refine hR.mono ?_;rintro e W3 (⟨rfl,hJ3,hk3⟩ | ⟨rfl,hJx3⟩)
   ·gi_wp2
    go_roundw
    case rel=>exact ⟨k+1,_,by omega,by simp,hp.snoc ⟨k,hlt⟩ rfl,hJ3,hK.trans hk3⟩
    case measure=>simp [intOf];omega
   ·gi_wp2
    refine bodyPost_ret (results_none rfl _ _ _) rfl ?_;exact ⟨⟨_,rfl⟩,.inr ⟨_,trivial,hJx3⟩⟩
  ·obtain rfl:k=len:=by omega
   gi_wp2
   go_end0
   exact ⟨⟨_,rfl⟩,.inl ⟨_,hp,hJs⟩⟩
theorem ranks_in (F:Fence) (n:Nat) (hf:F.fn 160) (hro:F.round=none) (ao:Option Addr) (len cap:Nat) (w:World) :
  CallsIn F n prog 160 #[.slice ao len cap] w fun e w'=>e=.returned (.func (.func 173) #[] #[.pointer (some ⟨w.heap.size,0,none⟩)])/\w'=w.alloc (.cells #[.slice ao len cap] 133):=by
 refine callsIn_of_wp func160 rfl hf ?_ hro;simp only [ntmps160,List.size_toArray,List.length_cons,List.length_nil,Nat.reduceAdd,Nat.reduceSub,Array.replicate_succ,Array.replicate_zero,List.push_toArray,List.append_toArray,List.nil_append,List.cons_append]
 gi_wp2
 go_ret
 exact ⟨rfl,rfl⟩
theorem ranks_stops (F:Fence) (n:Nat) (hf:F.fn 173) (hro:F.round=none) (hn:1<=n) (Bs n₀ b off len cap:Nat) (f:Nat->Int) (hreach:len*8<=140737488351232) (hb:b<n₀) (up:∀ i,i<len->0<=f i-f 0/\f i-f 0<18446744073709551616) (w:World) (hn₀:n₀<=w.heap.size)
  (hB:w.heap[Bs]?=some (.cells #[.slice (some ⟨b,off,none⟩) len cap] 133 (0,0))) (hc:∀ j,j<len->w.cell? ⟨b,off+j,none⟩=some (.int .u64 (f j))) :
  SeqStopsK F n prog 173 #[.pointer (some ⟨Bs,0,none⟩)] (fun x:Fin len=>pair f x) (Kept n₀ Bs) (Firsts len) (fun _=>True) len w:=fun l J Jx W hW _ _ hY h0 =>
 ranks1_in F n hf hro hn l Bs n₀ b off len cap f hreach hb up J Jx hY W ((hW.block Bs (Array.getElem?_eq_some_iff.1 hB).1).trans hB) (fun j hj=>(hW.cell (p:=⟨b,off+j,none⟩) (by simp;omega)).trans (hc j hj)) h0
end Go.Proofs.YtemijdhemdhclaaGreat
namespace Go.Proofs.YtemijdhemdhclaaGreat
open Go.RowKit Go.Shelf
attribute [local go_sem] Oper.semAt_some
def BaseOn (e:Int) (f:Nat->Int) (a b:Int) {n:Nat} (pre:List (Fin n)) (z:Int):Prop :=
 -e<=z/\(∀ x∈pre,((x.1:Nat):Int)-e-a*(f x.1-f 0)/b<=z)/\(z=-e\/∃ x∈pre,z=((x.1:Nat):Int)-e-a*(f x.1-f 0)/b)
theorem BaseOn.snoc {e:Int} {f:Nat->Int} {a b:Int} {n:Nat} {pre:List (Fin n)} {z z':Int} (h:BaseOn e f a b pre z) (x:Fin n) (h1:z<=z') (h2:((x.1:Nat):Int)-e-a*(f x.1-f 0)/b<=z') (h3:z'=z\/z'=((x.1:Nat):Int)-e-a*(f x.1-f 0)/b):BaseOn e f a b (pre++[x]) z':=by
 refine ⟨by have:=h.1;omega,fun y hy=>?_,?_⟩
 ·rcases List.mem_append.1 hy with q | q
  ·have:=h.2.1 y q;omega
  ·have:y=x:=by simpa using q
   subst this;exact h2
 ·rcases h3 with q | q
  ·rcases h.2.2 with r | ⟨y,hy,r⟩
   ·exact .inl (q.trans r)
   ·exact .inr ⟨y,List.mem_append.2 (.inl hy),q.trans r⟩
  ·exact .inr ⟨x,List.mem_append.2 (.inr (by simp)),q⟩
theorem BaseOn.done {e:Int} {f:Nat->Int} {a b:Int} {n:Nat} {pre:List (Fin n)} {z:Int} (h:BaseOn e f a b pre z) (hp:Firsts n pre) (n0:0<n):BaseR e f n a b z:=by
 have z0:a*(f 0-f 0)/b=0:=by rw [Int.sub_self,Int.mul_zero,Int.zero_ediv]
 refine ⟨fun i hi=>?_,?_⟩
 ·have:=h.2.1 ⟨i,hi⟩ (hp.all _)
  simp only at this
  omega
 ·rcases h.2.2 with q | ⟨x,_,q⟩
  ·exact ⟨0,n0,by rw [z0];omega⟩
  ·exact ⟨x.1,x.2,by omega⟩
structure Vars (w:World) (N:Nat) (a b c e z:Int) (W:World):Prop where
 gw:Gw w W
 bl:W.heap[N]?=some (.cells #[.int .u64 a,.int .u64 b,.int .i64 c] 194 (0,0))
 be:W.heap[N+1]?=some (.cells #[.int .i64 e] 3 (0,0))
 bz:W.heap[N+1+1]?=some (.cells #[.int .i64 z] 3 (0,0))
 bs:N+1+1+1<W.heap.size
theorem lt_of_blk {W:World} {k:Nat} {o:Obj} (h:W.heap[k]?=some o):k<W.heap.size:=(Array.getElem?_eq_some_iff.1 h).1
theorem Vars.grown {w W W':World} {N:Nat} {a b c e z:Int} (h:Vars w N a b c e z W) {row:Option Nat} (g:W.grownBy W' row) (hr:∀ r,row=some r->N+1+1<r) (hN:w.heap.size=N):Vars w N a b c e z W' :=
 ⟨h.gw.grown g (fun k hk=>by have:=hr k hk;omega),(g.block _ (lt_of_blk h.bl) (fun q=>by have:=hr _ q.symm;omega)).trans h.bl,(g.block _ (lt_of_blk h.be) (fun q=>by have:=hr _ q.symm;omega)).trans h.be,(g.block _ (lt_of_blk h.bz) (fun q=>by have:=hr _ q.symm;omega)).trans h.bz,Nat.lt_of_lt_of_le h.bs g.size⟩
theorem Vars.go {w W W':World} {N:Nat} {a b c e z:Int} (h:Vars w N a b c e z W) (g:Gw W W'):Vars w N a b c e z W' :=
 ⟨h.gw.trans g,(g.below.block _ (lt_of_blk h.bl)).trans h.bl,(g.below.block _ (lt_of_blk h.be)).trans h.be,(g.below.block _ (lt_of_blk h.bz)).trans h.bz,Nat.lt_of_lt_of_le h.bs g.size⟩
theorem Vars.set {w W:World} {N:Nat} {a b c e z:Int} (h:Vars w N a b c e z W) (hN:w.heap.size=N) (z':Int):Vars w N a b c e z' (W.setCell ⟨N+1+1,0,none⟩ (.int .i64 z')) :=
 ⟨h.gw.setCell (by simp;omega) _,(Go.Deep.blk_setCell_other _ _ _ _ (by simp;omega)).trans h.bl,(Go.Deep.blk_setCell_other _ _ _ _ (by simp)).trans h.be,by have:=h.bz;simp [World.setCell,Array.getElem?_modify,this],by have:=h.bs;simpa [World.setCell] using this⟩
theorem keeps_gw {B:Nat} {W W':World} (g:Gw W W'):KeepsFrom B W W':=⟨g.size,fun k o _ hk _=>(g.below.block k (lt_of_blk hk)).trans hk⟩
theorem blk_c {W:World} {k o:Nat} {vs:Array Value} {t:TypeId} {v:Value} (h:W.heap[k]?=some (.cells vs t (0,0))) (hv:vs[o]?=some v):W.cell? ⟨k,o,none⟩=some v:=by simp [World.cell?,h,hv]
theorem blk_f {W:World} {k o:Nat} {vs:Array Value} {t:TypeId} (h:W.heap[k]?=some (.cells vs t (0,0))):W.frozen? ⟨k,o,none⟩=false:=by simp [World.frozen?,h]
theorem xbase_any (CC:ClimbC) (a b c e:Int) (bl off n cp:Nat) (f:Nat->Int) (a0:0<=a) (a1:a<18446744073709551616) (b0:0<=b) (b1:b<18446744073709551616) (e0:0<=e) (e1:e<=100) (n0:0<n) (hn:n<=4000000)
  (w:World) (hb:bl<w.heap.size) (hc:∀ j,j<n->w.cell? ⟨bl,off+j,none⟩=some (.int .u64 (f j))) (up:∀ i,i<n->0<=f i-f 0/\f i-f 0<18446744073709551616)
  (sm:∀ i,i<n->¬ ClimbBad a b (f i-f 0)) :
  Calls prog 147 #[.agg #[.int .u64 a,.int .u64 b,.int .i64 c],.slice (some ⟨bl,off,none⟩) n cp,.int .i64 e] w fun ex w'=>(∃ z:Int,ex=.returned (.int .i64 z)/\BaseR e f n a b z/\(-100<=z/\z<=4000000))/\Gw w w':=by
 have eneg:IntKind.i64.wrap (-e)=-e:=by rw [IntKind.wrap_i64];omega
 refine (callsIn_wide (n:=3)).1 ?_;have h1:1<=3:=by omega
 have hro:Fence.wide.round=none:=rfl;refine callsIn_of_wp_marks func147 rfl trivial ?_ hro;simp only [ntmps147,List.size_toArray,List.length_cons,List.length_nil,Nat.reduceAdd,Nat.reduceSub,Array.replicate_succ,Array.replicate_zero,List.push_toArray,List.append_toArray,List.nil_append,List.cons_append]
 gi_wp2_with (refine ⟨trivial,?_⟩;gi_at_call 160;refine (ranks_in Fence.wide _ trivial hro _ _ _ _).mono ?_;rintro ex w' ⟨rfl,rfl⟩)
 obtain ⟨W0,hW0⟩:∃ W0,(((w.alloc (.cells #[.int .u64 a,.int .u64 b,.int .i64 c] 194)).alloc (.cells #[.int .i64 e] 3)).alloc (.cells #[.int .i64 (-e)] 3)).alloc (.cells #[.slice (some ⟨bl,off,none⟩) n cp] 133)=W0:=⟨_,rfl⟩;have G0:Gw w W0:=by rw [<-hW0];exact ((((Gw.refl w).alloc _ _).alloc _ _).alloc _ _).alloc _ _
 have sz:W0.heap.size=w.heap.size+1+1+1+1:=by rw [<-hW0];simp
 have l0:W0.cell? ⟨w.heap.size,0,none⟩=some (.int .u64 a)/\W0.cell? ⟨w.heap.size,1,none⟩=some (.int .u64 b)/\W0.cell? ⟨w.heap.size,2,none⟩=some (.int .i64 c):=by rw [<-hW0];simp [go_sem]
 have l1:W0.cell? ⟨w.heap.size+1,0,none⟩=some (.int .i64 e):=by rw [<-hW0];simp [go_sem]
 have l2:W0.heap[w.heap.size+1+1]?=some (.cells #[.int .i64 (-e)] 3 (0,0)):=by
  rw [<-hW0];have:=World.alloc_heap_new ((w.alloc (.cells #[.int .u64 a,.int .u64 b,.int .i64 c] 194)).alloc (.cells #[.int .i64 e] 3)) (.cells #[.int .i64 (-e)] 3);simp only [World.size_alloc] at this;exact (Below.heap_alloc _ _ _ (by simp)).trans this
 have l3:W0.heap[w.heap.size+1+1+1]?=some (.cells #[.slice (some ⟨bl,off,none⟩) n cp] 133 (0,0)):=by
  rw [<-hW0];have:=World.alloc_heap_new (((w.alloc (.cells #[.int .u64 a,.int .u64 b,.int .i64 c] 194)).alloc (.cells #[.int .i64 e] 3)).alloc (.cells #[.int .i64 (-e)] 3)) (.cells #[.slice (some ⟨bl,off,none⟩) n cp] 133);simpa only [World.size_alloc] using this
 rw [hW0];have V0:Vars w w.heap.size a b c e (-e) W0:=by
  refine ⟨G0,?_,?_,l2,by omega⟩
  all_goals rw [<-hW0]
  ·exact (Below.heap_alloc _ _ _ (by simp;omega)).trans ((Below.heap_alloc _ _ _ (by simp;omega)).trans ((Below.heap_alloc _ _ _ (by simp)).trans (World.alloc_heap_new w _)))
  ·have:=World.alloc_heap_new (w.alloc (.cells #[.int .u64 a,.int .u64 b,.int .i64 c] 194)) (.cells #[.int .i64 e] 3)
   simp only [World.size_alloc] at this;exact (Below.heap_alloc _ _ _ (by simp)).trans ((Below.heap_alloc _ _ _ (by simp)).trans this)
 clear hW0 l0 l1 l2;obtain ⟨N,hN⟩:∃ N,w.heap.size=N:=⟨_,rfl⟩;rw [hN] at V0 sz l3 hb ⊢;refine wpIn_rangeFunc_ownG hro h1 (gf:=173) (lb:=#[.pointer (some ⟨N+1+1+1,0,none⟩)]) rfl trivial (enters_of func173 (by kernel_rfl) rfl)
  (ranks_stops Fence.wide 2 trivial hro (by omega) (N+1+1+1) N bl off n cp f (by omega) hb up W0 (by omega) l3 (fun j hj=>(G0.cell _ _ (by omega)).trans (hc j hj))) Kept.trans (Kept.put (by omega) (by omega)) (Below.refl _ _) (fun _=>rfl)
  (fun pre W=>∃ z,BaseOn e f a b pre z/\(-100<=z/\z<=4000000)/\Vars w N a b c e z W)
  (fun _ _ _=>False)
  (fun s A B row hs hg hr=>by obtain ⟨z,h1,h2,h3⟩:=hs;exact ⟨z,h1,h2,h3.grown hg (fun r q=>by have:=(hr r q).1;omega) hN⟩)
  (fun _ _ _ _ _ hs _ _=>hs)
  ⟨-e,⟨by omega,fun x hx=>absurd hx (by simp),.inl rfl⟩,by omega,V0⟩
  (fun x=>{ tmps:=#[.agg #[.int .u64 a,.int .u64 b,.int .i64 c],.slice (some ⟨bl,off,none⟩) n cp,.int .i64 e,.pointer (some ⟨N,0,none⟩),undef,.pointer (some ⟨N+1,0,none⟩),.int .i64 0,.pointer (some ⟨N+1+1,0,none⟩),.int .i64 ((x.1:Nat):Int),.int .u64 (f x.1-f 0),undef,undef,.int .i64 e,.int .i64 (-e),.slice (some ⟨bl,off,none⟩) n cp,.func (.func 173) #[] #[.pointer (some ⟨N+1+1+1,0,none⟩)],.int .i64 ((x.1:Nat):Int),.int .u64 (f x.1-f 0),undef,undef,undef,undef,undef,undef,undef,undef,undef,undef,undef,undef,undef,undef],defers:=[] }) ?assign ?body ?done ?stop
 case assign =>
  intro l x W K hK;simp only [pair]
  gi_wp2
  exact hK
 case body =>
  rintro l pre x W ⟨z,hz,⟨z0,z1⟩,V⟩ _;have VV:Hid _:=V;have HZ:Hid (BaseOn e f a b pre z):=hz;have k0:=blk_c (o:=0) V.bl rfl;have k1:=blk_c (o:=1) V.bl rfl;have k2:=blk_c (o:=2) V.bl rfl;clear V hz;obtain ⟨u0,u1⟩:=up x.1 x.2;have nb:=sm x.1 x.2;have CD:Hid (∀ W,Calls prog 161 #[.agg #[.int .u64 a,.int .u64 b,.int .i64 c],.int .u64 (f x.1-f 0)] W fun ex w'=>ex=.returned (.tuple #[.int .i64 (a*(f x.1-f 0)/b),.bool true])/\Gw W w'):=fun W=>by
   have:=CC a b c _ a0 a1 b0 b1 u0 u1 W
   rw [if_neg nb,decide_eq_false nb] at this;exact this
  have q0:0<=a*(f x.1-f 0)/b:=Int.ediv_nonneg (Int.mul_nonneg a0 u0) b0;have q1:a*(f x.1-f 0)/b<=2305843009213693952:=by unfold ClimbBad at nb;omega
  have xn:=x.2;have SN:Hid _:=fun z' h1 h2 h3=>HZ.out.snoc (z':=z') x h1 h2 h3
  clear nb;obtain ⟨Q,hQ⟩:∃ Q,a*(f x.1-f 0)/b=Q:=⟨_,rfl⟩;rw [hQ] at q0 q1 CD SN;obtain ⟨d,hd⟩:∃ d,f x.1-f 0=d:=⟨_,rfl⟩;rw [hd] at CD ⊢;clear hQ hd u0 u1 HZ;obtain ⟨r,hr⟩:∃ r:Nat,x.1=r:=⟨_,rfl⟩;rw [hr] at SN xn ⊢;clear hr;have w1:IntKind.i64.wrap ((r:Int)-e)=r-e:=by rw [IntKind.wrap_i64];omega
  have w2:IntKind.i64.wrap ((r:Int)-e-Q)=r-e-Q:=by rw [IntKind.wrap_i64];omega
  gi_wp2_with (refine ⟨trivial,?_⟩;gi_at_call 161;refine (CallsIn.inRound l (callsIn_wide.2 (CD.out _))).mono ?_;rintro ex W1 ⟨rfl,g1⟩;have V1:Hid (Vars w N a b c e z W1):=VV.out.go g1;have m0:=blk_c (o:=0) V1.out.be rfl;have m1:=blk_c (o:=0) V1.out.bz rfl;have m2:=blk_f (o:=0) V1.out.bz)
  ·have V2:=V1.out.set hN ((r:Int)-e-Q)
   exact ⟨(keeps_gw g1).trans ((KeepsOthers.setCell _ _ _).from _),(Kept.gw g1 (by have:=VV.out.bs;omega) VV.out.bs).trans (Kept.setCell (by simp;omega) (by simp) _),(r:Int)-e-Q,SN.out _ (by omega) (Int.le_refl _) (.inr rfl),by omega,V2⟩
  ·have V2:=V1.out.set hN z
   exact ⟨(keeps_gw g1).trans ((KeepsOthers.setCell _ _ _).from _),(Kept.gw g1 (by have:=VV.out.bs;omega) VV.out.bs).trans (Kept.setCell (by simp;omega) (by simp) _),z,SN.out z (Int.le_refl _) (by omega) (.inl rfl),by omega,V2⟩
 case done =>
  rintro D ys W hD hS ⟨z,hz,zb,V⟩ hK;have m1:=blk_c (o:=0) V.bz rfl
  gi_wp2
  refine ⟨by simp,.inl ⟨_,_,rfl,run_takeDeferred hK,?_⟩⟩
  exact ⟨_,results_tmp rfl _ _ _,⟨z,rfl,hz.done hS n0,zb⟩,⟨V.gw.below.trans (belowK_b (w:=w) (Nat.le_refl _) W D _ _ (by omega) hK rfl rfl)⟩⟩
 case stop =>
  rintro D c' pre W _ _ h _;exact h.elim
end Go.Proofs.YtemijdhemdhclaaGreat
