/- Buffers in memory: how many there may be, and a row of entries; a row of one's own copied one place further. -/
import Derived.Test.YtemijdhemdhclaaGreatNGLaw
import Derived.Test.YtemijdhemdhclaaGreatNPMem
set_option linter.unusedVariables false
set_option maxHeartbeats 4000000
set_option maxRecDepth 100000
open Go.Proofs.Tryz
namespace Go.Proofs.YtemijdhemdhclaaGreat
open Go.RowKit
structure HB (t:TypeId) (w:World) (p:Nat) (S:Nat->Prop) (most:Int) (l:List Ent):Prop where
 lies:∃ v,w.heap[p]?=some (.cells #[.int .i64 most,v] t (0,0))/\EO w 0 v l/\(∀ q,v.ownBlock=some q->q≠p)/\∀ q,S q↔q=p\/v.ownBlock=some q
 rise:Rise Ent.k l
 ok:∀ e∈l,e.ok
 room:(l.length:Int)<=most
section
variable {t:TypeId} {w w':World} {p:Nat} {S:Nat->Prop} {most:Int} {l:List Ent}
theorem HB.lt (h:HB t w p S most l):∀ q,S q->q<w.heap.size:=by
 obtain ⟨v,h1,h2,h3,h4⟩:=h.lies;intro q hq;rcases (h4 q).1 hq with rfl | e
 ·exact blkl h1
 ·exact (World.ownsRow.lt h2 q e).2
theorem HB.own (h:HB t w p S most l):S p:=by
 obtain ⟨v,h1,h2,h3,h4⟩:=h.lies;exact (h4 p).2 (.inl rfl)
theorem HB.keep (h:HB t w p S most l) (k:∀ q,S q->w'.heap[q]?=w.heap[q]?):HB t w' p S most l:=by
 obtain ⟨v,h1,h2,h3,h4⟩:=h.lies;exact ⟨⟨v,(k p h.own).trans h1,eo_keep h2 (fun q hq=>k q ((h4 q).2 (.inr hq))),h3,h4⟩,h.rise,h.ok,h.room⟩
theorem HB.gw (h:HB t w p S most l) (g:Gw w w'):HB t w' p S most l:=h.keep fun q hq=>g.below.block q (h.lt q hq)
theorem HB.gx {T:Nat->Prop} (h:HB t w p S most l) (g:Gx T w w') (d:∀ q,S q->¬ T q):HB t w' p S most l:=h.keep fun q hq=>g.block q (h.lt q hq) (d q hq)
theorem HB.new (t:TypeId) (w:World) (most:Int) (h:0<=most):HB t (w.alloc (.cells #[.int .i64 most,.slice none 0 0] t)) w.heap.size (fun q=>q=w.heap.size) most [] :=
 ⟨⟨.slice none 0 0,heap_alloc_new w _,World.ownsRow_nil _ _ _ _,(fun q e=>by cases e),fun q=>⟨fun e=>.inl e,fun e=>e.elim id (fun x=>by cases x)⟩⟩,List.Pairwise.nil,(fun e he=>by cases he),by simpa using h⟩
end
theorem eo_shape {w:World} {base:Nat} {v:Value} {l:List Ent} (h:EO w base v l):∃ bo c,v=.slice bo l.length c/\l.length<=c/\(bo=none->l.length=0/\c=0):=by
 rcases h.2 with ⟨e,z⟩ | ⟨b,cap,cur,e,hb,hh,hc,_⟩
 ·exact ⟨none,0,by rw [e,z],by omega,fun _=>⟨z,rfl⟩⟩
 ·exact ⟨_,cap,e,hc,fun x=>by cases x⟩
def putR (most:Int) (l:List Ent) (e:Ent):Int×List Ent:=if e.g=true/\e.v≠0 then (31,l) else if look Ent.k e.k l=none/\(l.length:Int)=most then (140,l) else (0,ins Ent.k e l)
def PutOut (t:TypeId) (w w':World) (p:Nat) (S:Nat->Prop) (most:Int) (l:List Ent):Prop:=∃ S',HB t w' p S' most l/\Gx S w w'/\∀ q,S' q->S q\/w.heap.size<=q
theorem PutOut.same {t:TypeId} {w w':World} {p:Nat} {S:Nat->Prop} {most:Int} {l:List Ent} (h:HB t w p S most l) (g:Gw w w'):PutOut t w w' p S most l:=⟨S,h.gw g,g.gx S,fun q hq=>.inl hq⟩
def entV14 (e:Ent):Value:=.agg #[.int .u64 e.k,.int .u64 e.v,.bool e.g]
def getV14 (o:Option Ent):Value:=.tuple #[entV14 (o.getD ent0),.bool o.isSome]
theorem flat_take:∀ (l:List Ent) (k:Nat),(l.take k).flatMap ent3=(l.flatMap ent3).take (k*3)
 | [],k=>by simp
 | s::l,0=>by simp
 | s::l,k+1=>by
  rw [List.take_succ_cons,List.flatMap_cons,List.flatMap_cons,flat_take l k,show (k+1)*3=(ent3 s).length+k*3 by show _=3+_;omega,List.take_length_add_append]
theorem flat_drop:∀ (l:List Ent) (k:Nat),(l.drop k).flatMap ent3=(l.flatMap ent3).drop (k*3)
 | [],k=>by simp
 | s::l,0=>by simp
 | s::l,k+1=>by
  rw [List.drop_succ_cons,List.flatMap_cons,flat_drop l k,show (k+1)*3=(ent3 s).length+k*3 by show _=3+_;omega,List.drop_length_add_append]
theorem run_copy_ent (w:World) (ty:TypeId) (g o dLen dCap:Nat) (a:Addr) (sLen sCap:Nat) (cur:Array Value) (t:TypeId) (cs:List Value)
  (hg:w.heap[g]?=some (.cells cur t (0,0))) (hn:cs.length=Nat.min sLen dLen*3)
  (hsrc:∀ j v,cs[j]?=some v->w.cell? (a.add j)=some v) (hfit:o+cs.length<=cur.size) (h1:∀ v∈cs,v.oneCell'=true) :
  (Builtin.copy_ #[59,59] ty #[.slice (some ⟨g,o,none⟩) dLen dCap,.slice (some a) sLen sCap]).run prog w =
   .ok (goInt (Nat.min sLen dLen)) (w.setRow g (cur.toList.take o++cs++cur.toList.drop (o+cs.length)).toArray):=by
 have hl:=run_loadCells_list (P:=prog) w a cs hsrc;have hst:=run_storeCells_at prog g o t cs 0 cur w hg (by simpa using hfit) h1
 obtain ⟨i,hi,_,hs,_⟩:=info_parts info_e;rw [hn] at hl;simp [Builtin.copy_,run_underlying underlying59,Builtin.lenOf,Builtin.firstCells,sizeOf,typeInfo,hi,hs,hl,hst]
def further (L:List Ent) (n k:Nat):List Ent:=L.take (k+1)++(L.drop k).take (n-k)
theorem further_len {L:List Ent} {n k:Nat} (h:L.length=n+1) (hk:k<=n):(further L n k).length=n+1:=by
 unfold further;rw [List.length_append,List.length_take,List.length_take,List.length_drop];omega
theorem further_set {l:List Ent} {e0 e:Ent} {k:Nat} (hk:k<=l.length):(further (l++[e0]) l.length k).set k e=l.take k++e::l.drop k:=by
 unfold further;rw [List.set_append_left _ _ (by simp;omega)]
 have a:((l++[e0]).take (k+1)).set k e=l.take k++[e]:=by
  by_cases q:k<l.length
  ·rw [List.take_append_of_le_length (by omega),List.set_eq_take_append_cons_drop,if_pos (by simp;omega),List.take_take,Nat.min_eq_left (by omega),List.drop_eq_nil_of_le (by simp;omega)]
  ·have e:k=l.length:=by omega
   subst e;rw [List.take_of_length_le (by simp)]
   simp
 rw [a,List.append_assoc,List.singleton_append];congr 2;rw [List.drop_append_of_le_length hk,List.take_append_of_le_length (by simp)]
 rw [List.take_of_length_le (by simp)]
theorem step_copy_e {ops:Array Oper} {o:Oper} {a:Act} {w:World} {K:Act->World->Prop} {Q:Exit->Act->World->Prop} {E:Prop} (hgd:o.guard=none) (d s:Operand)
  (ho:o.op=.call { callee:=.builtin .copy,args:=#[d,s],argTypes:=#[59,59] })
  (b cap n k:Nat) (L:List Ent) (hown:EO w 0 (.slice (some ⟨b,0,none⟩) (n+1) cap) L) (hL:L.length=n+1) (hk:k<=n)
  (dp:Option Addr) (dL dC:Nat) (so sL sC:Nat) (hd:a.eval d=.slice dp dL dC) (hs:a.eval s=.slice (some ⟨b,so,none⟩) sL sC) (hdL:dL=n-k) (hsL:sL=n+1-k) (hso:so=k*3) (hdp:k<n->dp=some ⟨b,(k+1)*3,none⟩)
  (h:∀ w',EO w' 0 (.slice (some ⟨b,0,none⟩) (n+1) cap) (further L n k)->Gx (fun q=>q=b) w w'->K (a.put o.dst (goInt (n-k:Nat))) w') :
  if Region.wanted o (yielded ops a.tmps)=true then Oper.wp prog o a w K Q else E:=by
 have hw:Region.wanted o (yielded ops a.tmps)=true:=by simp [Region.wanted,hgd]
 rw [if_pos hw];subst hdL hsL hso;have hmin:Nat.min (n+1-k) (n-k)=n-k:=Nat.min_eq_right (by omega)
 rcases hown.2 with ⟨z,_⟩ | ⟨b',cap',cur,e,hb,hh,hc,hm,hz,ht⟩
 ·cases z
 injection e with e1 e2 e3;injection e1 with e1;injection e1 with e1;subst e1 e3;rw [hL] at hc ht;have hown':w.ownsRow 0 69 3 (.slice (some ⟨b,0,none⟩) (n+1) cap) (n+1) (L.flatMap ent3):=by
  have:=hown
  unfold EO at this;rw [hL] at this;exact this
 by_cases kn:k<n
 ·have:=hdp kn
  subst this;have cl:((L.drop k).take (n-k)).length=n-k:=by simp;omega
  have fl:=flat_len13 ((L.drop k).take (n-k));rw [cl] at fl;have hrun:=run_copy_ent w o.type b ((k+1)*3) (n-k) dC ⟨b,k*3,none⟩ (n+1-k) sC cur _ (((L.drop k).take (n-k)).flatMap ent3) hh (by rw [fl,hmin]) (fun j v hj=>by
    have hj':j<(n-k)*3:=by
     have:=(List.getElem?_eq_some_iff.1 hj).1
     rwa [fl] at this
    rw [flat_take,flat_drop,List.getElem?_take_of_lt hj',List.getElem?_drop] at hj;have:=World.ownsRow.cellAt hown' (k*3+j) (by omega)
    rw [Addr.add_lit];exact this.trans hj) (by rw [fl,hz];have:n+1<=cap:=hc;omega) (flat_ones _)
  rw [hmin] at hrun;unfold Oper.wp;simp only [execOp,ho,resolve,invoke,builtin,Sem.run_bind,Sem.run_pure,Result.andThen_ok,List.map_toArray,List.map_cons,List.map_nil,hd,hs,hrun];refine h _ ⟨?_,.inr ⟨b,cap,_,?_,hb,setRow_heap w b cur _ _ _ hh,?_,hm,?_,?_⟩⟩ ⟨rfl,rfl,rfl,by simp [World.setRow],fun q hq hn=>setRow_other w b q _ hn⟩
  ·rw [flat_len13]
  ·rw [further_len hL hk]
  ·rw [further_len hL hk];exact hc
  ·have:n+1<=cap:=hc
   rw [List.size_toArray,List.length_append,List.length_append,fl,List.length_take,List.length_drop,Array.length_toList,hz];omega
  ·rw [further_len hL hk]
   unfold further;rw [List.flatMap_append,flat_take L,<-ht];have z1:(cur.toList.take ((k+1)*3)).length=(k+1)*3:=by have:n+1<=cap:=hc;simp [hz];omega
   have z2:∀ X Y Z:List Value,X.length+Y.length=(n+1)*3->((X++Y++Z).toArray.toList).take ((n+1)*3)=X++Y:=fun X Y Z e=>List.take_left' (by rw [List.length_append];exact e)
   rw [z2 _ _ _ (by rw [z1,fl];omega),List.take_take,Nat.min_eq_left (by omega)]
 ·have kn':k=n:=by omega
  subst kn';have hrun:(Builtin.copy_ #[59,59] o.type #[.slice dp (k-k) dC,.slice (some ⟨b,k*3,none⟩) (k+1-k) sC]).run prog w=.ok (.int .i64 0) w:=by
   obtain ⟨i,hi,_,hs',_⟩:=info_parts info_e;have hl:∀ (x:Addr),(loadCells x 0).run prog w=.ok #[] w:=fun x=>by simpa using run_loadCells_list (P:=prog) w x [] (by simp)
   cases dp<;>simp [Builtin.copy_,run_underlying underlying59,Builtin.lenOf,Builtin.firstCells,sizeOf,typeInfo,hi,storeCells,hl,goInt]
  unfold Oper.wp;simp only [execOp,ho,resolve,invoke,builtin,Sem.run_bind,Sem.run_pure,Result.andThen_ok,List.map_toArray,List.map_cons,List.map_nil,hd,hs,hrun];have fe:further L k k=L:=by unfold further;rw [Nat.sub_self,List.take_zero,List.append_nil,List.take_of_length_le (by omega)]
  have:=h w (by rw [fe];exact hown) (Gx.refl _ w)
  simp [goInt] at this
  exact this
def cmp3 (a b:Int):Int:=if a<b then -1 else if b<a then 1 else 0
theorem cmp3_lt (a b:Int):cmp3 a b<0↔a<b:=by unfold cmp3;split<;>(try split)<;>omega
theorem cmp3_eq (a b:Int):cmp3 a b=0↔a=b:=by unfold cmp3;split<;>(try split)<;>omega
theorem cnan14 (x:Int) (w:World):Calls prog 96 #[.int .u64 x] w fun e w'=>e=.returned (.bool false)/\w'=w:=by
 go_enter func96,ntmps96;go_wp2;go_ret;exact ⟨by simp,rfl⟩
theorem ccmp14 (x y:Int) (w:World):Calls prog 88 #[.int .u64 x,.int .u64 y] w fun e w'=>e=.returned (.int .i64 (cmp3 x y))/\w'=w:=by
 rcases Int.lt_trichotomy x y with h | h | h
 ·have H:Aside (cmp3 x y=-1):=by show _=_;unfold cmp3;rw [if_pos h]
  have t1:decide (x<y)=true:=by simpa using h
  clear h;go_enter func88,ntmps88;go_wp2_with (go_at_call 96;refine (cnan14 _ _).mono ?_;rintro e w' ⟨rfl,rfl⟩);go_ret;exact ⟨by rw [H.out];rfl,rfl⟩
 ·have H:Aside (cmp3 x y=0):=by show _=_;unfold cmp3;rw [if_neg (by omega),if_neg (by omega)]
  have t1:decide (x<y)=false:=by simp;omega
  have t2:decide (y<x)=false:=by simp;omega
  clear h;go_enter func88,ntmps88;go_wp2_with (go_at_call 96;refine (cnan14 _ _).mono ?_;rintro e w' ⟨rfl,rfl⟩);go_ret;exact ⟨by rw [H.out];rfl,rfl⟩
 ·have H:Aside (cmp3 x y=1):=by show _=_;unfold cmp3;rw [if_neg (by omega),if_pos h]
  have t1:decide (x<y)=false:=by simp;omega
  have t2:decide (y<x)=true:=by simpa using h
  clear h;go_enter func88,ntmps88;go_wp2_with (go_at_call 96;refine (cnan14 _ _).mono ?_;rintro e w' ⟨rfl,rfl⟩);go_ret;exact ⟨by rw [H.out];rfl,rfl⟩
theorem comp14 (k v:Int) (g:Bool) (y:Int) (w:World):Calls prog 80 #[.agg #[.int .u64 k,.int .u64 v,.bool g],.int .u64 y] w fun e w'=>e=.returned (.int .i64 (cmp3 k y))/\Gw w w':=by
 have CM:Hid (∀ W,Calls prog 88 #[.int .u64 k,.int .u64 y] W fun e w'=>e=.returned (.int .i64 (cmp3 k y))/\w'=W):=fun W=>ccmp14 k y W
 generalize cmp3 k y=c at CM ⊢;go_enter func80,ntmps80;go_wp2_with fail;refine (CM.out _).mono ?_;rintro e w' ⟨rfl,rfl⟩;go_wp2_with fail;go_ret;exact ⟨rfl,(Gw.refl w).alloc _ _⟩
theorem bsf14 (ao:Option Addr) (c:Nat) (l:List Ent) (x:Int) (hn:l.length<=4000000) (w:World) (h:EL w ao l) (r:Rise Ent.k l) :
  Calls prog 79 #[.slice ao l.length c,.int .u64 x,.func (.func 80) #[] #[]] w fun e w'=>e=.returned (.tuple #[.int .i64 (plc Ent.k x l:Int),.bool (look Ent.k x l).isSome])/\Gw w w':=by
 have HE:Aside (EL w ao l):=h;have R:Aside (Rise Ent.k l):=r;obtain ⟨n,hln⟩:∃ n,l.length=n:=⟨_,rfl⟩;have LN:Aside (l.length=n):=hln;rw [hln] at hn ⊢;have FIN:Hid (∀ (i:Nat) (t:Bool),i<=n->(∀ j y,j<i->l[j]?=some y->y.k<x)->(∀ y,l[i]?=some y->x<=y.k)->(t=true↔∃ y,l[i]?=some y/\y.k=x)->plc Ent.k x l=i/\(look Ent.k x l).isSome=t):=fun i t hi h1 h2 h3=>by
  have e:=plc_one (key:=Ent.k) (k:=x) (l:=l) (i:=i) (by rw [LN.out];exact hi) h1 (fun y hy=>by have:=h2 y hy;omega)
  refine ⟨e,?_⟩;cases t with
  | true =>
   obtain ⟨y,hy,hk⟩:=h3.1 rfl;rw [plc_there R.out (by rw [e];exact hy) hk];rfl
  | false =>
   rw [plc_absent R.out (fun y hy hk=>by rw [e] at hy;exact Bool.noConfusion (h3.2 ⟨y,hy,hk⟩))];rfl
 have ENT:∀ (args:Array Value) (W:World),(callFunc 80 args).run prog W=.ok (.enter 80 args) W:=fun args W=>rfl
 have CELL:Hid (∀ (i:Nat) (W:World),i<n->Gw w W->∃ (b off:Nat) (y:Ent),ao=some ⟨b,off,none⟩/\l[i]?=some y/\W.cell? ⟨b,off+i*3,none⟩=some (.int .u64 y.k)/\W.cell? ⟨b,off+i*3+1,none⟩=some (.int .u64 y.v)/\W.cell? ⟨b,off+i*3+2,none⟩=some (.bool y.g)):=fun i W hi g=>by
  have hi':i<l.length:=by rw [LN.out];exact hi
  obtain ⟨b,off,e,_,hc⟩:=(HE.out.gw g).cells (by omega)
  obtain ⟨c0,c1,c2⟩:=hc i hi';refine ⟨b,off,l.getD i ent0,e,by simp [List.getD,hi'],c0,c1,c2⟩
 have UPW:Hid (∀ (i j:Nat) (y z:Ent),i<=j->l[i]?=some y->l[j]?=some z->y.k<=z.k):=fun i j y z hij hy hz=>by
  obtain ⟨i1,i2⟩:=List.getElem?_eq_some_iff.1 hy;obtain ⟨j1,j2⟩:=List.getElem?_eq_some_iff.1 hz;by_cases e:i=j
  ·subst e;rw [hy] at hz;cases hz;exact Int.le_refl _
  ·have:=(List.pairwise_iff_getElem.1 R.out) i j i1 j1 (by omega)
   rw [i2,j2] at this;omega
 clear h r hln;go_enter func79,ntmps79;go_wp2_with fail;go_loopg [9,10] n (fun gg s7 s8 wr=>∃ lo hi:Nat,s7=.int .i64 lo/\s8=.int .i64 hi/\lo<=hi/\hi<=n/\hi-lo<=gg/\Aside ((∀ j y,j<lo->l[j]?=some y->y.k<x)/\(∀ j y,hi<=j->l[j]?=some y->x<=y.k))/\Aside (Gw w wr))
 case atStart=>exact ⟨0,n,rfl,rfl,Nat.zero_le _,Nat.le_refl _,by omega,⟨fun j y hj=>by omega,fun j y h1 h2=>by have:=(List.getElem?_eq_some_iff.1 h2).1;have:=LN.out;omega⟩,Gw.refl w⟩
 case round =>
  obtain ⟨lo,hi,rfl,rfl,hlh,hin,hg,I,G⟩:=hrel;by_cases hlt:lo<hi
  ·obtain ⟨b,off,y,e,hy,c0,c1,c2⟩:=CELL.out ((lo+hi)/2) wr (by omega) G.out
   subst e;obtain ⟨yk,yv,yg⟩:=y;have Y:Aside (l[(lo+hi)/2]?=some ⟨yk,yv,yg⟩):=hy;have c0':wr.cell? ⟨b,off+(lo+hi)/2*3,none⟩=some (.int .u64 yk):=c0;have c1':wr.cell? ⟨b,off+(lo+hi)/2*3+1,none⟩=some (.int .u64 yv):=c1;have c2':wr.cell? ⟨b,off+(lo+hi)/2*3+2,none⟩=some (.bool yg):=c2;clear hy c0 c1 c2;by_cases hyx:yk<x
   ·have t1:decide (cmp3 yk x<0)=true:=by simpa [cmp3_lt] using hyx
    have CC:Hid (∀ W,Calls prog 80 #[.agg #[.int .u64 yk,.int .u64 yv,.bool yg],.int .u64 x] W fun e w'=>e=.returned (.int .i64 (cmp3 yk x))/\Gw W w'):=fun W=>comp14 yk yv yg x W
    have HX:Aside (yk<x):=hyx;clear hyx ENT;generalize cmp3 yk x=cc at t1 CC;go_wp2_with fail;refine (CC.out _).mono ?_;rintro e w' ⟨rfl,gg'⟩;have G':Aside (Gw w w'):=G.out.trans gg';clear gg' CC;go_wp2_with fail;go_roundg (hi-((lo+hi)/2+1))
    case measure=>omega
    case rel =>
     refine ⟨(lo+hi)/2+1,hi,by rw [show ((lo:Int)+(hi:Int))/2+1=(((lo+hi)/2+1:Nat):Int) by omega],rfl,by omega,hin,Nat.le_refl _,(show Aside _ from ⟨fun j z hj hz=>?_,I.out.2⟩),G'.out⟩
     have:=UPW.out j ((lo+hi)/2) z _ (by omega) hz Y.out
     have hx:=HX.out;simp at this;omega
   ·have t1:decide (cmp3 yk x<0)=false:=by simpa [cmp3_lt] using hyx
    have CC:Hid (∀ W,Calls prog 80 #[.agg #[.int .u64 yk,.int .u64 yv,.bool yg],.int .u64 x] W fun e w'=>e=.returned (.int .i64 (cmp3 yk x))/\Gw W w'):=fun W=>comp14 yk yv yg x W
    have HX:Aside (x<=yk):=by show _<=_;omega
    clear hyx ENT;generalize cmp3 yk x=cc at t1 CC;go_wp2_with fail;refine (CC.out _).mono ?_;rintro e w' ⟨rfl,gg'⟩;have G':Aside (Gw w w'):=G.out.trans gg';clear gg' CC;go_wp2_with fail;go_roundg ((lo+hi)/2-lo)
    case measure=>omega
    case rel =>
     refine ⟨lo,(lo+hi)/2,rfl,by rw [show ((lo:Int)+(hi:Int))/2=(((lo+hi)/2:Nat):Int) by omega],by omega,by omega,Nat.le_refl _,(show Aside _ from ⟨I.out.1,fun j z hj hz=>?_⟩),G'.out⟩
     have:=UPW.out ((lo+hi)/2) j _ z hj Y.out hz
     have hx:=HX.out;simp at this;omega
  ·obtain rfl:hi=lo:=by omega
   by_cases hn':hi<n
   ·have hn2:(hi:Int)<(n:Int):=by omega
    obtain ⟨b,off,y,e,hy,c0,c1,c2⟩:=CELL.out hi wr hn' G.out;subst e;obtain ⟨yk,yv,yg⟩:=y;have Y:Aside (l[hi]?=some ⟨yk,yv,yg⟩):=hy;have c0':wr.cell? ⟨b,off+hi*3,none⟩=some (.int .u64 yk):=c0;have c1':wr.cell? ⟨b,off+hi*3+1,none⟩=some (.int .u64 yv):=c1;have c2':wr.cell? ⟨b,off+hi*3+2,none⟩=some (.bool yg):=c2;clear hy c0 c1 c2;have CC:Hid (∀ W,Calls prog 80 #[.agg #[.int .u64 yk,.int .u64 yv,.bool yg],.int .u64 x] W fun e w'=>e=.returned (.int .i64 (cmp3 yk x))/\Gw W w'):=fun W=>comp14 yk yv yg x W
    by_cases hyx:yk=x
    ·have t1:(cmp3 yk x == 0)=true:=by simpa [cmp3_eq] using hyx
     obtain ⟨f1,f2⟩:=FIN.out hi true hin I.out.1 (fun y hy=>I.out.2 hi y (Nat.le_refl _) hy) ⟨fun _=>⟨_,Y.out,hyx⟩,fun _=>rfl⟩
     have F12:Aside (plc Ent.k x l=hi/\(look Ent.k x l).isSome=true):=⟨f1,f2⟩;clear hyx f1 f2 ENT;generalize cmp3 yk x=cc at t1 CC;go_wp2_with fail;refine (CC.out _).mono ?_;rintro e w' ⟨rfl,gg'⟩;have G':Aside (Gw w w'):=G.out.trans gg';clear gg' CC;go_wp2_with fail;go_ret2;exact ⟨by rw [F12.out.1,F12.out.2];rfl,G'.out⟩
    ·have t1:(cmp3 yk x == 0)=false:=by simpa [cmp3_eq] using hyx
     obtain ⟨f1,f2⟩:=FIN.out hi false hin I.out.1 (fun y hy=>I.out.2 hi y (Nat.le_refl _) hy) ⟨fun q=>Bool.noConfusion q,fun ⟨z,hz,hk⟩=>by rw [Y.out] at hz;cases hz;exact absurd hk hyx⟩
     have F12:Aside (plc Ent.k x l=hi/\(look Ent.k x l).isSome=false):=⟨f1,f2⟩;clear hyx f1 f2 ENT;generalize cmp3 yk x=cc at t1 CC;go_wp2_with fail;refine (CC.out _).mono ?_;rintro e w' ⟨rfl,gg'⟩;have G':Aside (Gw w w'):=G.out.trans gg';clear gg' CC;go_wp2_with fail;go_ret2;exact ⟨by rw [F12.out.1,F12.out.2];rfl,G'.out⟩
   ·have hn2:decide ((hi:Int)<(n:Int))=false:=by simp;omega
    obtain ⟨f1,f2⟩:=FIN.out hi false hin I.out.1 (fun y hy=>I.out.2 hi y (Nat.le_refl _) hy) ⟨fun q=>Bool.noConfusion q,fun ⟨z,hz,hk⟩=>by have:=(List.getElem?_eq_some_iff.1 hz).1;have:=LN.out;omega⟩
    have F12:Aside (plc Ent.k x l=hi/\(look Ent.k x l).isSome=false):=⟨f1,f2⟩;clear f1 f2 ENT;go_wp2_with fail;go_ret2;exact ⟨by rw [F12.out.1,F12.out.2];rfl,G.out⟩
theorem find14 (p:Nat) (S:Nat->Prop) (most:Int) (l:List Ent) (x:Int) (hn:l.length<=4000000) (w:World) (h:HB 92 w p S most l) :
  Calls prog 62 #[.pointer (some ⟨p,0,none⟩),.int .u64 x] w fun e w'=>e=.returned (.tuple #[.int .i64 (plc Ent.k x l:Int),.bool (look Ent.k x l).isSome])/\Gw w w':=by
 obtain ⟨v,h1,h2,h3,h4⟩:=h.lies;obtain ⟨bo,c,rfl,hc,_⟩:=eo_shape h2;have c1:=blkc (o:=1) h1 rfl;have BS:Hid (∀ W,Gw w W->Calls prog 79 #[.slice bo l.length c,.int .u64 x,.func (.func 80) #[] #[]] W fun e w'=>e=.returned (.tuple #[.int .i64 (plc Ent.k x l:Int),.bool (look Ent.k x l).isSome])/\Gw W w'):=fun W g=>bsf14 bo c l x hn W ((eo_el h2 h.ok).gw g) h.rise
 generalize plc Ent.k x l=pp at BS ⊢;generalize (look Ent.k x l).isSome=tt at BS ⊢;generalize l.length=n at BS c1;clear h h1 h2 h3 h4 hc hn;go_enter func62,ntmps62;go_wp2_with fail;refine (BS.out _ (Gw.refl w)).mono ?_;rintro e w' ⟨rfl,g⟩;have G:Aside (Gw w w'):=g;clear g BS;go_wp2_with fail;go_ret2;exact ⟨rfl,G.out⟩
theorem blk_set14 {w:World} {p o:Nat} {vs:Array Value} {t:TypeId} {v:Value} (h:w.heap[p]?=some (.cells vs t (0,0))):(w.setCell ⟨p,o,none⟩ v).heap[p]?=some (.cells (vs.setIfInBounds o v) t (0,0)):=by
 simp [World.setCell,Array.getElem?_modify,h]
theorem box3 {b:Nat} {w:World} {x y z:Value} {t:TypeId} (h:w.heap[b]?=some (.cells #[x,y,z] t (0,0))) (e:Ent):(((w.setCell ⟨b,0,none⟩ (.int .u64 e.k)).setCell ⟨b,1,none⟩ (.int .u64 e.v)).setCell ⟨b,2,none⟩ (.bool e.g)).cell? ⟨b,0,none⟩=some (.int .u64 e.k)/\(((w.setCell ⟨b,0,none⟩ (.int .u64 e.k)).setCell ⟨b,1,none⟩ (.int .u64 e.v)).setCell ⟨b,2,none⟩ (.bool e.g)).cell? ⟨b,1,none⟩=some (.int .u64 e.v)/\(((w.setCell ⟨b,0,none⟩ (.int .u64 e.k)).setCell ⟨b,1,none⟩ (.int .u64 e.v)).setCell ⟨b,2,none⟩ (.bool e.g)).cell? ⟨b,2,none⟩=some (.bool e.g):=by
 have h3:=blk_set14 (o:=2) (v:=.bool e.g) (blk_set14 (o:=1) (v:=.int .u64 e.v) (blk_set14 (o:=0) (v:=.int .u64 e.k) h));exact ⟨blkc h3 rfl,blkc h3 rfl,blkc h3 rfl⟩
theorem new14_ok (most:Int) (h1:1<=most) (h2:most<=4294967296) (w:World) :
  Calls prog 60 #[.int .i64 most] w fun e w'=>(e=.returned (.tuple #[.pointer (some ⟨w.heap.size,0,none⟩),.int .i64 0])/\HB 92 w' w.heap.size (fun q=>q=w.heap.size) most [])/\Gw w w':=by
 have N:Aside (HB 92 (w.alloc (.cells #[.int .i64 most,.slice none 0 0] 92)) w.heap.size (fun q=>q=w.heap.size) most []):=HB.new _ w most (by omega)
 have t1:decide (most<1)=false:=by simp;omega
 have t2:decide (4294967296<most)=false:=by simp;omega
 clear h1 h2;go_enter func60,ntmps60;go_wp2_with fail;go_ret2;exact ⟨⟨rfl,N.out⟩,(Gw.refl w).alloc _ _⟩
theorem full14 (p:Nat) (S:Nat->Prop) (most:Int) (l:List Ent) (w:World) (h:HB 92 w p S most l) :
  Calls prog 44 #[.pointer (some ⟨p,0,none⟩)] w fun e w'=>e=.returned (.bool ((l.length:Int) == most))/\Gw w w':=by
 obtain ⟨v,h1,h2,h3,h4⟩:=h.lies;obtain ⟨bo,c,rfl,hc,_⟩:=eo_shape h2;have c0:=blkc (o:=0) h1 rfl;have c1:=blkc (o:=1) h1 rfl;generalize l.length=n at c1 ⊢;clear h h1 h2 h3 h4 hc;go_enter func44,ntmps44;go_wp2_with fail
 try go_quiet (fail)
 try go_wp2_with fail
 go_ret
 first | exact ⟨rfl,Gw.refl w⟩ | exact ⟨rfl,(Gw.refl w).drewN _⟩
theorem len14 (p:Nat) (S:Nat->Prop) (most:Int) (l:List Ent) (w:World) (h:HB 92 w p S most l) :
  Calls prog 31 #[.pointer (some ⟨p,0,none⟩)] w fun e w'=>e=.returned (.int .i64 (l.length:Int))/\Gw w w':=by
 obtain ⟨v,h1,h2,h3,h4⟩:=h.lies;obtain ⟨bo,c,rfl,hc,_⟩:=eo_shape h2;have c1:=blkc (o:=1) h1 rfl;generalize l.length=n at c1 ⊢;clear h h1 h2 h3 h4 hc;go_enter func31,ntmps31;go_wp2_with fail;go_ret;exact ⟨rfl,Gw.refl w⟩
theorem empty14 (p:Nat) (S:Nat->Prop) (most:Int) (l:List Ent) (hm:0<=most) (w:World) (h:HB 92 w p S most l) :
  Calls prog 46 #[.pointer (some ⟨p,0,none⟩)] w fun e w'=>(∃ v',e=.returned v'/\EO w' 0 v' l/\(∀ q,v'.ownBlock=some q->S q/\q≠p)/\HB 92 w' p (fun q=>q=p) most [])/\Gx S w w':=by
 obtain ⟨v,h1,h2,h3,h4⟩:=h.lies;have c1:=blkc (o:=1) h1 rfl;have f1:=blkf (o:=1) h1;have hp:=blkl h1;have FIN:Aside ((EO (w.setCell ⟨p,1,none⟩ (.slice none 0 0)) 0 v l/\(∀ q,v.ownBlock=some q->S q/\q≠p)/\HB 92 (w.setCell ⟨p,1,none⟩ (.slice none 0 0)) p (fun q=>q=p) most [])/\Gx S w (w.setCell ⟨p,1,none⟩ (.slice none 0 0))):=by
  refine ⟨⟨eo_keep h2 fun q hq=>Go.Deep.blk_setCell_other _ _ _ _ (h3 q hq),fun q hq=>⟨(h4 q).2 (.inr hq),h3 q hq⟩,⟨⟨.slice none 0 0,?_,World.ownsRow_nil _ _ _ _,(fun q e=>by cases e),fun q=>⟨fun e=>.inl e,fun e=>e.elim id (fun x=>by cases x)⟩⟩,List.Pairwise.nil,(fun e he=>by cases he),by simpa using hm⟩⟩,(Gx.refl S w).set (.inl h.own) _ _⟩
  rw [blk_set14 h1];rfl
 obtain ⟨bo,c,rfl,hc,_⟩:=eo_shape h2;generalize l.length=n at c1 FIN;clear h h1 h2 h3 h4 hc;go_enter func46,ntmps46;go_wp2_with fail;go_ret;exact ⟨⟨_,rfl,FIN.out.1⟩,FIN.out.2⟩
theorem get14 (p:Nat) (S:Nat->Prop) (most:Int) (l:List Ent) (x:Int) (hn:l.length<=4000000) (w:World) (h:HB 92 w p S most l) :
  Calls prog 41 #[.pointer (some ⟨p,0,none⟩),.int .u64 x] w fun e w'=>e=.returned (getV14 (look Ent.k x l))/\Gw w w':=by
 have FD:Hid (∀ W,Gw w W->Calls prog 62 #[.pointer (some ⟨p,0,none⟩),.int .u64 x] W fun e w'=>e=.returned (.tuple #[.int .i64 (plc Ent.k x l:Int),.bool (look Ent.k x l).isSome])/\Gw W w'):=fun W g=>find14 p S most l x hn W (h.gw g)
 have H:Aside (HB 92 w p S most l):=h;clear h;obtain ⟨bq,hbq⟩:∃ b,w.heap.size=b:=⟨_,rfl⟩;have BQ:Aside (w.heap.size=bq):=hbq;have NEW:Hid (∀ u1,Gw (w.alloc (.cells #[.int .u64 0,.int .u64 0,.bool false] 69)) u1->u1.heap[bq]?=some (.cells #[.int .u64 0,.int .u64 0,.bool false] 69 (0,0))):=fun u1 gg=>by
  rw [<-BQ.out];exact (gg.below.block _ (by simp)).trans (heap_alloc_new _ _)
 cases hk:look Ent.k x l with
 | none =>
  rw [hk] at FD;generalize plc Ent.k x l=pp at FD;clear hk;go_enter func41,ntmps41;go_wp2_with fail;refine (FD.out _ ((Gw.refl w).alloc _ _)).mono ?_;rintro e u1 ⟨rfl,g⟩;have GG:Aside (Gw w u1):=((Gw.refl w).alloc _ _).trans g;have NB:=NEW.out u1 g;have m0:u1.cell? ⟨bq,0,none⟩=some (.int .u64 0):=blkc NB rfl;have m1:u1.cell? ⟨bq,1,none⟩=some (.int .u64 0):=blkc NB rfl;have m2:u1.cell? ⟨bq,2,none⟩=some (.bool false):=blkc NB rfl;have z0:=blkf (o:=0) NB;have z1:=blkf (o:=1) NB;have z2:=blkf (o:=2) NB;have bl:=blkl NB;have TT:=box3 NB ent0;simp only [ent0] at TT;clear g FD NB NEW;clear hbq;go_wp2_with fail;exact bodyPost_ret (v:=.tuple #[.agg #[.int .u64 0,.int .u64 0,.bool false],.bool false]) (by simp [results,results41,go_sem,TT.1,TT.2.1,TT.2.2]) rfl ⟨rfl,((GG.out.setCell (Nat.le_of_eq BQ.out) _).setCell (Nat.le_of_eq BQ.out) _).setCell (Nat.le_of_eq BQ.out) _⟩
 | some y =>
  obtain ⟨f1,f2⟩:=plc_found H.out.rise hk;have f3:=plc_found_lt H.out.rise hk;have CE:Hid (∀ W,Gw w W->∃ (c b:Nat),W.cell? ⟨p,1,none⟩=some (.slice (some ⟨b,0,none⟩) l.length c)/\W.cell? ⟨b,plc Ent.k x l*3,none⟩=some (.int .u64 y.k)/\W.cell? ⟨b,plc Ent.k x l*3+1,none⟩=some (.int .u64 y.v)/\W.cell? ⟨b,plc Ent.k x l*3+2,none⟩=some (.bool y.g)):=fun W g=>by
   obtain ⟨v,h1,h2,h3,h4⟩:=(H.out.gw g).lies;obtain ⟨bo,c,rfl,hc,_⟩:=eo_shape h2;obtain ⟨b,rfl,_,_,_,hcc⟩:=eo_form h2 rfl (by omega)
   obtain ⟨a1,a2,a3⟩:=hcc _ f3;have e:l.getD (plc Ent.k x l) ent0=y:=by simp [List.getD,f1]
   rw [e] at a1 a2 a3;exact ⟨c,b,blkc (o:=1) h1 rfl,a1,a2,a3⟩
  rw [hk] at FD;obtain ⟨yk,yv,yg⟩:=y;generalize plc Ent.k x l=pp at FD CE f3;generalize l.length=n at CE f3 hn;have f4:(pp:Int)<(n:Int):=by omega
  clear hk f1 f2 H;go_enter func41,ntmps41;go_wp2_with fail;refine (FD.out _ ((Gw.refl w).alloc _ _)).mono ?_;rintro e u1 ⟨rfl,g⟩;have GG:Aside (Gw w u1):=((Gw.refl w).alloc _ _).trans g;obtain ⟨c,b,e1,e2,e3,e4⟩:=CE.out u1 GG.out;have e2':u1.cell? ⟨b,pp*3,none⟩=some (.int .u64 yk):=e2;have e3':u1.cell? ⟨b,pp*3+1,none⟩=some (.int .u64 yv):=e3;have e4':u1.cell? ⟨b,pp*3+2,none⟩=some (.bool yg):=e4;have NB:=NEW.out u1 g;have m0:u1.cell? ⟨bq,0,none⟩=some (.int .u64 0):=blkc NB rfl;have m1:u1.cell? ⟨bq,1,none⟩=some (.int .u64 0):=blkc NB rfl;have m2:u1.cell? ⟨bq,2,none⟩=some (.bool false):=blkc NB rfl;have z0:=blkf (o:=0) NB;have z1:=blkf (o:=1) NB;have z2:=blkf (o:=2) NB;have bl:=blkl NB;have TT:=box3 NB ⟨yk,yv,yg⟩;simp only at TT;clear g FD NB NEW CE e2 e3 e4;clear hbq;go_wp2_with fail;exact bodyPost_ret (v:=.tuple #[.agg #[.int .u64 yk,.int .u64 yv,.bool yg],.bool true]) (by simp [results,results41,go_sem,TT.1,TT.2.1,TT.2.2]) rfl ⟨rfl,((GG.out.setCell (Nat.le_of_eq BQ.out) _).setCell (Nat.le_of_eq BQ.out) _).setCell (Nat.le_of_eq BQ.out) _⟩
end Go.Proofs.YtemijdhemdhclaaGreat
