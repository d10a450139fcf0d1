import Derived.LoopIn
import Derived.LoopNIn
import Derived.OwnWalkIn
import Derived.RangeFuncBound
import Derived.RangeFuncNested
import Derived.Shelf.Abstract
import Derived.TacticsInMore
import Derived.Test.YtaemofgeciklkaaGreatEPY1
set_option linter.unusedVariables false
set_option maxHeartbeats 4000000
set_option maxRecDepth 100000
open Go.Proofs.Tryz
namespace Go.Proofs.YtaemofgeciklkaaGreat
open Go.RowKit Go.Shelf
attribute [local go_sem] Oper.semAt_some
def pair (f:Nat->Int) {n:Nat} (x:Fin n):Array Value:=#[By ((x.1:Nat):Int),BY (f x.1-f 0)]
def mI {n:Nat} (k:Nat) (l:List (Fin n)):Prop:=l.length=k/\∀ i (h:i<l.length),(l[i]).1=i
variable {n:Nat}
theorem mI.nil:mI 0 ([]:List (Fin n)):=⟨rfl,fun i h=>absurd h ε⟩
variable {k:Nat}
theorem mI.snoc {l:List (Fin n)} (h:mI k l) (x:Fin n) (hx:x.1=k):mI (k+1) (l++[x]):=by
 refine ⟨by simp [h.1],fun i hi=>?_⟩
 by_cases q:i<l.length
 ·rw [List.getElem_append_left q];exact h.2 i q
 ·have:i=l.length:=by simp at hi;omega
  subst this;simp [hx,h.1]
theorem mI.all {l:List (Fin n)} (h:mI n l) (x:Fin n):x∈l:=by
 have e:=h.2 x.1 (by rw [h.1];exact x.2)
 have:l[x.1]'(by rw [h.1];exact x.2)=x:=Fin.ext e
 rw [<-this];exact qaz _
structure Kept (n₀ Bs:Nat) (W W':World):Prop where
 below:Below n₀ W W'
 box:W'.heap[Bs]?=W.heap[Bs]?
theorem Kept.refl (n₀ Bs:Nat) (W:World):Kept n₀ Bs W W:=⟨Below.refl _ _,rfl⟩
variable {n₀ Bs:Nat}
theorem Kept.trans {A B C:World} (h:Kept n₀ Bs A B) (k:Kept n₀ Bs B C):Kept n₀ Bs A C:=⟨h.below.trans k.below,k.box.trans h.box⟩
variable {w:World}
theorem Kept.put (hn:n₀<=w.heap.size) (hB:Bs<w.heap.size) (W:World) (l:Nat) (o o':Obj) (hl:w.heap.size<=l) (h:W.heap[l]?=some o) (h1:o.isCells=false) (h2:o.isWalk=false):Kept n₀ Bs W (W.putObj l o') :=
 ⟨belowK_b hn W l o o' hl h h1 h2,World.putObj_heap_other ω⟩
variable {W W':World}
theorem Kept.gw (g:Gw W W') (hn:n₀<=W.heap.size) (hB:Bs<W.heap.size):Kept n₀ Bs W W':=⟨g.below.mono hn,g.below.block Bs hB⟩
theorem Kept.setCell {p:Addr} (hn:n₀<=p.block) (hB:p.block≠Bs) (v:Value):Kept n₀ Bs W (W.setCell p v) :=
 ⟨(Below.refl _ _).setCell hn v,qac _ _ _ _ (Ne.symm hB)⟩
theorem ag0 (F:Fence) (n:Nat) (hf:F.fn 230) (mF:F.round=none) (hn:1<=n) (l Bs n₀ b off len cap:Nat) (f:Nat->Int) (XB:len*8<=140737488351232) (hb:b<n₀) (up:∀ i,i<len->0<=f i-f 0/\f i-f 0<18446744073709551616) (J Jx:List (Fin len)->World->Prop)
  (hY:∀ pre x W,J pre W->pre.length<len->YieldAt F (n-1) prog l (pair f x) W fun e W' =>
   (e=χ (.bool true)/\J (pre++[x]) W'/\Kept n₀ Bs W W')\/(e=χ (.bool false)/\Jx (pre++[x]) W'))
  (W:World) (hB:W.heap[Bs]?=some (.cells #[ψ b off len cap] 143 (0,0))) (hc:∀ j,j<len->W.cell? (φ b (off+j))=some (BY (f j))) (h0:J [] W) :
  CallsIn F n prog 230 #[.func (.yield l) #[] #[],IS Bs] W fun e W'=>(∃ v,e=χ v) /\
   ((∃ ys,mI len ys/\J ys W')\/(∃ pre,True/\Jx pre W')):=by
 have HB:ag (∀ wr,Kept n₀ Bs W wr->wr.cell? (φ Bs 0)=some (ψ b off len cap)):=fun wr g=>by
  have:=g.box.trans hB
  simp [World.cell?,this]
 have HC:ag (∀ wr,Kept n₀ Bs W wr->∀ j,j<len->wr.cell? (φ b (off+j))=some (BY (f j))):=fun wr g j hj=>(g.below.cell (p:=⟨b,off+j,none⟩) hb).trans (hc j hj)
 have Sr:=HB.o W (Kept.refl _ _ _);clear hB hc;refine callsIn_of_wp func230 rfl hf ?_ mF;simp only [ntmps230,List.size_toArray,qak,List.length_nil,Nat.reduceAdd,Nat.reduceSub,Array.replicate_succ,Array.replicate_zero,List.push_toArray,List.append_toArray,List.nil_append,List.cons_append]
 gi_wp2
 gi_loopw [7] (fun i wr=>∃ (k:Nat) (pre:List (Fin len)),k<=len/\i=By k/\mI k pre/\J pre wr/\Kept n₀ Bs W wr)
  (fun i _=>len-(intOf i).toNat)
 case atStart=>exact ⟨0,[],Γ _,rfl,mI.nil,h0,Kept.refl _ _ _⟩
 case round =>
  obtain ⟨k,pre,hk,rfl,hp,XC,hK⟩:=hrel;by_cases ar:k<len
  ·have c1:=HB.o wr hK
   have c2:=HC.o wr hK;have c3:=c2 k ar;have c4:=c2 0 ω;rw [Nat.add_zero] at c4;clear c2;obtain ⟨u0,u1⟩:=up k ar;have ew:IntKind.u64.wrap (f k-f 0)=f k-f 0:=(by rw [qao];omega);obtain ⟨fn,tmps,assign,body,hy,hR⟩:=hY pre ⟨k,ar⟩ wr XC (by rw [hp.1];exact ar)
   dsimp only [pair] at hy
   gi_wp2
   refine hR.mono ?_;rintro e W3 (⟨rfl,hJ3,hk3⟩ | ⟨rfl,ag1⟩)
   ·gi_wp2
    go_roundw
    case rel=>exact ⟨k+1,_,ω,ε,hp.snoc ⟨k,ar⟩ rfl,hJ3,hK.trans hk3⟩
    case measure=>simp [intOf];omega
   ·gi_wp2
    refine bodyPost_ret (results_none rfl _ _ _) rfl ?_;exact ⟨⟨_,rfl⟩,.inr ⟨_,trivial,ag1⟩⟩
  ·obtain rfl:k=len:=by omega
   gi_wp2
   go_end0
   exact ⟨⟨_,rfl⟩,.inl ⟨_,hp,XC⟩⟩
theorem ag2 (F:Fence) (n:Nat) (hf:F.fn 216) (mF:F.round=none) (ao:Option Addr) (len cap:Nat) (w:World) :
  CallsIn F n prog 216 #[.slice ao len cap] w fun e w'=>e=χ (.func (.func 230) #[] #[IS (w.heap.size)])/\w'=w.alloc (.cells #[.slice ao len cap] 143):=by
 refine callsIn_of_wp func216 rfl hf ?_ mF;simp only [ntmps216,List.size_toArray,qak,List.length_nil,Nat.reduceAdd,Nat.reduceSub,Array.replicate_succ,Array.replicate_zero,List.push_toArray,List.append_toArray,List.nil_append,List.cons_append]
 gi_wp2
 go_ret
 exact ⟨rfl,rfl⟩
theorem ag3 (F:Fence) (n:Nat) (hf:F.fn 230) (mF:F.round=none) (hn:1<=n) (Bs n₀ b off len cap:Nat) (f:Nat->Int) (XB:len*8<=140737488351232) (hb:b<n₀) (up:∀ i,i<len->0<=f i-f 0/\f i-f 0<18446744073709551616) (w:World) (hn₀:n₀<=w.heap.size)
  (hB:w.heap[Bs]?=some (.cells #[ψ b off len cap] 143 (0,0))) (hc:∀ j,j<len->w.cell? (φ b (off+j))=some (BY (f j))) :
  SeqStopsK F n prog 230 #[IS Bs] (fun x:Fin len=>pair f x) (Kept n₀ Bs) (mI len) (fun _=>True) len w:=fun l J Jx W hW _ _ hY h0 =>
 ag0 F n hf mF hn l Bs n₀ b off len cap f XB hb up J Jx hY W ((hW.block Bs (qab.1 hB).1).trans hB) (fun j hj=>(hW.cell (p:=⟨b,off+j,none⟩) ζ).trans (hc j hj)) h0
end Go.Proofs.YtaemofgeciklkaaGreat
namespace Go.Proofs.YtaemofgeciklkaaGreat
open Go.RowKit Go.Shelf
attribute [local go_sem] Oper.semAt_some
def uJ (e:Int) (f:Nat->Int) (a b:Int) {n:Nat} (pre:List (Fin n)) (z:Int):Prop :=
 -e<=z/\(∀ x∈pre,((x.1:Nat):Int)-e-a*(f x.1-f 0)/b<=z)/\(z=-e\/∃ x∈pre,z=((x.1:Nat):Int)-e-a*(f x.1-f 0)/b)
variable {e a b z:Int} {n:Nat}
theorem uJ.snoc {f:Nat->Int} {pre:List (Fin n)} {z':Int} (h:uJ e f a b pre z) (x:Fin n) (h1:z<=z') (h2:((x.1:Nat):Int)-e-a*(f x.1-f 0)/b<=z') (h3:z'=z\/z'=((x.1:Nat):Int)-e-a*(f x.1-f 0)/b):uJ e f a b (pre++[x]) z':=by
 refine ⟨by have:=h.1;omega,fun y hy=>?_,?_⟩
 ·rcases qaq.1 hy with q | q
  ·have:=h.2.1 y q;omega
  ·have:y=x:=by simpa using q
   subst this;exact h2
 ·rcases h3 with q | q
  ·rcases h.2.2 with r | ⟨y,hy,r⟩
   ·exact .inl (q.trans r)
   ·exact .inr ⟨y,qaq.2 (.inl hy),q.trans r⟩
  ·exact .inr ⟨x,qaq.2 (.inr ε),q⟩
theorem uJ.done {f:Nat->Int} {pre:List (Fin n)} (h:uJ e f a b pre z) (hp:mI n pre) (n0:0<n):oa e f n a b z:=by
 have z0:a*(f 0-f 0)/b=0:=by rw [Int.sub_self,Int.mul_zero,Int.zero_ediv]
 refine ⟨fun i hi=>?_,?_⟩
 ·have:=h.2.1 ⟨i,hi⟩ (hp.all _)
  simp only at this
  omega
 ·rcases h.2.2 with q | ⟨x,_,q⟩
  ·exact ⟨0,n0,by rw [z0];omega⟩
  ·exact ⟨x.1,x.2,ω⟩
structure mJ (w:World) (N:Nat) (a b c e z:Int) (W:World):Prop where
 gw:Gw w W
 bl:W.heap[N]?=some (.cells #[BY a,BY b,By c] 212 (0,0))
 be:W.heap[N+1]?=some (.cells #[By e] 3 (0,0))
 bz:W.heap[N+1+1]?=some (.cells #[By z] 3 (0,0))
 bs:N+1+1+1<W.heap.size
variable {W:World} {k:Nat}
theorem uK {o:Obj} (h:W.heap[k]?=some o):k<W.heap.size:=(qab.1 h).1
variable {w W':World} {N:Nat} {c:Int}
theorem mJ.grown (h:mJ w N a b c e z W) {row:Option Nat} (g:W.grownBy W' row) (hr:∀ r,row=some r->N+1+1<r) (hN:w.heap.size=N):mJ w N a b c e z W' :=
 ⟨h.gw.grown g (fun k hk=>by have:=hr k hk;omega),(g.block _ (uK h.bl) (fun q=>by have:=hr _ q.symm;omega)).trans h.bl,(g.block _ (uK h.be) (fun q=>by have:=hr _ q.symm;omega)).trans h.be,(g.block _ (uK h.bz) (fun q=>by have:=hr _ q.symm;omega)).trans h.bz,Θ h.bs g.size⟩
theorem mJ.go (h:mJ w N a b c e z W) (g:Gw W W'):mJ w N a b c e z W' :=
 ⟨h.gw.trans g,(g.below.block _ (uK h.bl)).trans h.bl,(g.below.block _ (uK h.be)).trans h.be,(g.below.block _ (uK h.bz)).trans h.bz,Θ h.bs g.size⟩
theorem mJ.set (h:mJ w N a b c e z W) (hN:w.heap.size=N) (z':Int):mJ w N a b c e z' (W.setCell (φ (N+1+1) 0) (By z')) :=
 ⟨h.gw.setCell ζ _,(qac _ _ _ _ ζ).trans h.bl,(qac _ _ _ _ ε).trans h.be,by have:=h.bz;simp [World.setCell,Array.getElem?_modify,this],by have:=h.bs;simpa [World.setCell] using this⟩
theorem XD {B:Nat} (g:Gw W W'):KeepsFrom B W W':=⟨g.size,fun k o _ hk _=>(g.below.block k (uK hk)).trans hk⟩
theorem xu {o:Nat} {vs:Array Value} {t:TypeId} {v:Value} (h:W.heap[k]?=some (.cells vs t (0,0))) (hv:vs[o]?=some v):W.cell? (φ k o)=some v:=by simp [World.cell?,h,hv]
theorem ag4 {o:Nat} {vs:Array Value} {t:TypeId} (h:W.heap[k]?=some (.cells vs t (0,0))):W.frozen? (φ k o)=false:=by simp [World.frozen?,h]
theorem ag5 (CC:Fm) (a b c e:Int) (bl off n cp:Nat) (f:Nat->Int) (a0:0<=a) (a1:a<18446744073709551616) (b0:0<=b) (b1:b<18446744073709551616) (e0:0<=e) (e1:e<=100) (n0:0<n) (hn:n<=4000000)
  (w:World) (hb:bl<w.heap.size) (hc:∀ j,j<n->w.cell? (φ bl (off+j))=some (BY (f j))) (up:∀ i,i<n->0<=f i-f 0/\f i-f 0<18446744073709551616)
  (sm:∀ i,i<n->¬ jB a b (f i-f 0)) :
  Calls prog 194 #[.agg #[BY a,BY b,By c],ψ bl off n cp,By e] w fun ex w'=>(∃ z:Int,ex=χ (By z)/\oa e f n a b z/\(-100<=z/\z<=4000000))/\Gw w w':=by
 have aiC:IntKind.i64.wrap (-e)=-e:=by rw [Δ];omega
 refine (callsIn_wide (n:=3)).1 ?_;have h1:1<=3:=ω;have mF:Fence.wide.round=none:=rfl;refine callsIn_of_wp_marks func194 rfl trivial ?_ mF;simp only [ntmps194,List.size_toArray,qak,List.length_nil,Nat.reduceAdd,Nat.reduceSub,Array.replicate_succ,Array.replicate_zero,List.push_toArray,List.append_toArray,List.nil_append,List.cons_append]
 gi_wp2_with (refine ⟨trivial,?_⟩;gi_at_call 216;refine (ag2 Fence.wide _ trivial mF _ _ _ _).mono ?_;rintro ex w' ⟨rfl,rfl⟩)
 obtain ⟨W0,qA⟩:=qbr ((((w.alloc (.cells #[BY a,BY b,By c] 212)).alloc (.cells #[By e] 3)).alloc (.cells #[By (-e)] 3)).alloc (.cells #[ψ bl off n cp] 143));have G0:Gw w W0:=by rw [<-qA];exact ((((Gw.refl w).alloc _ _).alloc _ _).alloc _ _).alloc _ _
 have sz:W0.heap.size=w.heap.size+1+1+1+1:=by rw [<-qA];simp
 have l0:W0.cell? (φ w.heap.size 0)=some (BY a)/\W0.cell? (φ w.heap.size 1)=some (BY b)/\W0.cell? (φ w.heap.size 2)=some (By c):=by rw [<-qA];simp [go_sem]
 have l1:W0.cell? (φ (w.heap.size+1) 0)=some (By e):=by rw [<-qA];simp [go_sem]
 have l2:W0.heap[w.heap.size+1+1]?=some (.cells #[By (-e)] 3 (0,0)):=by rw [<-qA];have:=World.alloc_heap_new ((w.alloc (.cells #[BY a,BY b,By c] 212)).alloc (.cells #[By e] 3)) (.cells #[By (-e)] 3);simp only [World.size_alloc] at this;exact (Below.heap_alloc _ _ _ ε).trans this
 have l3:W0.heap[w.heap.size+1+1+1]?=some (.cells #[ψ bl off n cp] 143 (0,0)):=by rw [<-qA];have:=World.alloc_heap_new (((w.alloc (.cells #[BY a,BY b,By c] 212)).alloc (.cells #[By e] 3)).alloc (.cells #[By (-e)] 3)) (.cells #[ψ bl off n cp] 143);simpa only [World.size_alloc] using this
 rw [qA];have V0:mJ w w.heap.size a b c e (-e) W0:=by
  refine ⟨G0,?_,?_,l2,ω⟩
  all_goals rw [<-qA]
  ·exact (Below.heap_alloc _ _ _ ζ).trans ((Below.heap_alloc _ _ _ ζ).trans ((Below.heap_alloc _ _ _ ε).trans (World.alloc_heap_new w _)))
  ·have:=World.alloc_heap_new (w.alloc (.cells #[BY a,BY b,By c] 212)) (.cells #[By e] 3)
   simp only [World.size_alloc] at this;exact (Below.heap_alloc _ _ _ ε).trans ((Below.heap_alloc _ _ _ ε).trans this)
 clear qA l0 l1 l2;obtain ⟨N,hN⟩:=qbr w.heap.size;rw [hN] at V0 sz l3 hb ⊢;refine wpIn_rangeFunc_ownG mF h1 (gf:=230) (lb:=#[.pointer (some (φ (N+1+1+1) 0))]) rfl trivial (enters_of func230 η rfl)
  (ag3 Fence.wide 2 trivial mF ω (N+1+1+1) N bl off n cp f ω hb up W0 ω l3 (fun j hj=>(G0.cell _ _ ω).trans (hc j hj))) Kept.trans (Kept.put ω ω) (Below.refl _ _) (fun _=>rfl)
  (fun pre W=>∃ z,uJ e f a b pre z/\(-100<=z/\z<=4000000)/\mJ w N a b c e z W)
  (fun _ _ _=>False)
  (fun s A B row hs hg hr=>by obtain ⟨z,h1,h2,h3⟩:=hs;exact ⟨z,h1,h2,h3.grown hg (fun r q=>by have:=(hr r q).1;omega) hN⟩)
  (fun _ _ _ _ _ hs _ _=>hs)
  ⟨-e,⟨ω,fun x hx=>absurd hx ε,.inl rfl⟩,ω,V0⟩
  (fun x=>{ tmps:=#[.agg #[BY a,BY b,By c],ψ bl off n cp,By e,IS N,undef,IS (N+1),By 0,.pointer (some (φ (N+1+1) 0)),By ((x.1:Nat):Int),BY (f x.1-f 0),undef,undef,By e,By (-e),ψ bl off n cp,.func (.func 230) #[] #[.pointer (some (φ (N+1+1+1) 0))],By ((x.1:Nat):Int),BY (f x.1-f 0),undef,undef,undef,undef,undef,undef,undef,undef,undef,undef,undef,undef,undef,undef],defers:=[] }) ?assign ?body ?done ?stop
 case assign =>
  intro l x W K hK;simp only [pair]
  gi_wp2
  exact hK
 case body =>
  rintro l pre x W ⟨z,hz,⟨z0,z1⟩,V⟩ _;have VV:ag _:=V;have HZ:ag (uJ e f a b pre z):=hz;have k0:=xu (o:=0) V.bl rfl;have k1:=xu (o:=1) V.bl rfl;have k2:=xu (o:=2) V.bl rfl;clear V hz;obtain ⟨u0,u1⟩:=up x.1 x.2;have nb:=sm x.1 x.2;have CD:ag (∀ W,Calls prog 217 #[.agg #[BY a,BY b,By c],BY (f x.1-f 0)] W fun ex w'=>ex=π #[By (a*(f x.1-f 0)/b),.bool true]/\Gw W w'):=fun W=>by
   have:=CC a b c _ a0 a1 b0 b1 u0 u1 W
   rw [Yl nb,qan nb] at this;exact this
  have q0:0<=a*(f x.1-f 0)/b:=qaY (qas a0 u0) b0;have q1:a*(f x.1-f 0)/b<=2305843009213693952:=by unfold jB at nb;omega
  have xn:=x.2;have SN:ag _:=fun z' h1 h2 h3=>HZ.o.snoc (z':=z') x h1 h2 h3
  clear nb;obtain ⟨Q,hQ⟩:=qbr (a*(f x.1-f 0)/b);rw [hQ] at q0 q1 CD SN;obtain ⟨d,hd⟩:=qbr (f x.1-f 0);rw [hd] at CD ⊢;clear hQ hd u0 u1 HZ;obtain ⟨r,hr⟩:∃ r:Nat,x.1=r:=⟨_,rfl⟩;rw [hr] at SN xn ⊢;clear hr;have w1:IntKind.i64.wrap ((r:Int)-e)=r-e:=by rw [Δ];omega
  have w2:IntKind.i64.wrap ((r:Int)-e-Q)=r-e-Q:=by rw [Δ];omega
  gi_wp2_with (refine ⟨trivial,?_⟩;gi_at_call 217;refine (CallsIn.inRound l (callsIn_wide.2 (CD.o _))).mono ?_;rintro ex W1 ⟨rfl,g1⟩;have V1:ag (mJ w N a b c e z W1):=VV.o.go g1;have m0:=xu (o:=0) V1.o.be rfl;have m1:=xu (o:=0) V1.o.bz rfl;have m2:=ag4 (o:=0) V1.o.bz)
  ·have V2:=V1.o.set hN ((r:Int)-e-Q)
   exact ⟨(XD g1).trans ((KeepsOthers.setCell _ _ _).from _),(Kept.gw g1 (by have:=VV.o.bs;omega) VV.o.bs).trans (Kept.setCell ζ ε _),(r:Int)-e-Q,SN.o _ ω (qaH _) (.inr rfl),ω,V2⟩
  ·have V2:=V1.o.set hN z
   exact ⟨(XD g1).trans ((KeepsOthers.setCell _ _ _).from _),(Kept.gw g1 (by have:=VV.o.bs;omega) VV.o.bs).trans (Kept.setCell ζ ε _),z,SN.o z (qaH _) ω (.inl rfl),ω,V2⟩
 case done =>
  rintro D ys W hD hS ⟨z,hz,zb,V⟩ hK;have m1:=xu (o:=0) V.bz rfl
  gi_wp2
  refine ⟨ε,.inl ⟨_,_,rfl,run_takeDeferred hK,?_⟩⟩;exact ⟨_,results_tmp rfl _ _ _,⟨z,rfl,hz.done hS n0,zb⟩,⟨V.gw.below.trans (belowK_b (w:=w) (Yk _) W D _ _ ω hK rfl rfl)⟩⟩
 case stop =>
  rintro D c' pre W _ _ h _;exact h.elim
end Go.Proofs.YtaemofgeciklkaaGreat
namespace Go.Proofs.YtaemofgeciklkaaGreat
open Go.RowKit Go.Shelf
attribute [local go_sem] Oper.semAt_some
theorem ag6 (ao:Option Addr) (n c:Nat) (f:Nat->Int) (hn:n<4611686018427387904) (w:World) (h:KS w ao n f) :
  Calls prog 191 #[.slice ao n c] w fun e w'=>(∃ r:Bool,e=χ (.bool r)/\(r=true↔0<n/\Up f n))/\Gw w w':=by
 have R:ag _:=fun w h=>Kr ao n c f hn w h
 have H:ag _:=h;clear h;by_cases h0:0<n
 ·have t0:decide (0<(n:Int))=true:=by simp;omega
  have t1:(0:Int)<(n:Int):=ω;go_enter func191,ntmps191;go_wp2_with fail;refine (R.o _ H.o).mono ?_;rintro e w1 ⟨⟨r,rfl,hr⟩,g1⟩;have HR:ag _:=hr;clear hr;go_wp2_with fail;go_ret;exact ⟨⟨r,rfl,by rw [HR.o];exact ⟨fun q=>⟨h0,q⟩,fun q=>q.2⟩⟩,g1⟩
 ·have e0:n=0:=by omega
  subst e0;go_enter func191,ntmps191;go_wp2_with fail;go_ret;exact ⟨⟨false,rfl,ε⟩,Gw.refl w⟩
