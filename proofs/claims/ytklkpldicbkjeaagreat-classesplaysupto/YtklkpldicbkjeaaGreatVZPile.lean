/- Package probe: a pile in memory, and its methods. -/
import Derived.Laws.StructEq
import Derived.StillTailTactics
import Derived.Test.YtklkpldicbkjeaaGreatVVBuild
set_option linter.unusedVariables false
set_option maxHeartbeats 4000000
set_option maxRecDepth 10000
open Go.Proofs.Tryz
namespace Go.Proofs.YtklkpldicbkjeaaGreat
open Go.RowKit
attribute [local go_sem] fZ
structure eJ (w:World) (p:Nat) (S:Nat->Prop) (eps:Int) (f:Nat->Int) (n:Nat) (L:List (List Sg)):Prop where
 lies:∃ (u:World) (base:Nat) (ko:Option Addr) (kc:Nat) (lo:Option Addr) (lc:Nat),(∀ q,S q↔base<=q/\q<u.heap.size)/\u.heap.size<=w.heap.size/\(∀ q,base<=q->q<u.heap.size->w.heap[q]?=u.heap[q]?)/\u.heap[p]?=some (.cells #[.int .i64 eps,.slice ko n kc,.slice lo L.length lc] 124 (0,0))/\base<=p/\KS u ko n f/\(∀ a,ko=some a->base<=a.block)/\gE u base lo L
 n1:n<=2000000
 sh:kT L
theorem eJ.lt {w:World} {p:Nat} {S:Nat->Prop} {eps:Int} {f:Nat->Int} {n:Nat} {L:List (List Sg)} (h:eJ w p S eps f n L):∀ q,S q->q<w.heap.size:=by
 obtain ⟨u,base,ko,kc,lo,lc,h1,h2,_⟩:=h.lies;intro q hq;have:=(h1 q).1 hq;omega
theorem eJ.keep {w w':World} {p:Nat} {S:Nat->Prop} {eps:Int} {f:Nat->Int} {n:Nat} {L:List (List Sg)} (h:eJ w p S eps f n L) (k:∀ q,S q->w'.heap[q]?=w.heap[q]?):eJ w' p S eps f n L:=by
 obtain ⟨u,base,ko,kc,lo,lc,h1,h2,h3,h4,h5,h6⟩:=h.lies;have pu:p<u.heap.size:=(Array.getElem?_eq_some_iff.1 h4).1;refine ⟨⟨u,base,ko,kc,lo,lc,h1,?_,fun q a b=>(k q ((h1 q).2 ⟨a,b⟩)).trans (h3 q a b),h4,h5,h6⟩,h.n1,h.sh⟩
 have e:=k (u.heap.size-1) ((h1 _).2 ⟨by omega,by omega⟩)
 rw [Array.getElem?_eq_getElem (show u.heap.size-1<w.heap.size by omega)] at e
 have:=(Array.getElem?_eq_some_iff.1 e).1
 omega
theorem eJ.opened {w:World} {p:Nat} {S:Nat->Prop} {eps:Int} {f:Nat->Int} {n:Nat} {L:List (List Sg)} (h:eJ w p S eps f n L):∃ ko kc lo lc,w.heap[p]?=some (.cells #[.int .i64 eps,.slice ko n kc,.slice lo L.length lc] 124 (0,0))/\KS w ko n f/\VS w lo L:=by
 obtain ⟨u,base,ko,kc,lo,lc,h1,h2,h3,h4,h5,h6,h7,h8⟩:=h.lies;have pu:p<u.heap.size:=(Array.getElem?_eq_some_iff.1 h4).1;refine ⟨ko,kc,lo,lc,(h3 p h5 pu).trans h4,⟨fun hn=>?_,h6.bd⟩,(h8.keep (fun q a b=>h3 q a b) h2).vs⟩
 obtain ⟨b,off,e,hb,hc⟩:=h6.cells hn;have bb:base<=b:=h7 _ e;exact ⟨b,off,e,by omega,fun i hi=>(World.cell?_of_block (a:=⟨b,off+i,none⟩) (h3 b bb hb)).trans (hc i hi)⟩
theorem qS {w:World} {p:Nat} {a b c:Value} {t:TypeId} (h:w.heap[p]?=some (.cells #[a,b,c] t (0,0))):w.cell? ⟨p,0,none⟩=some a/\w.cell? ⟨p,1,none⟩=some b/\w.cell? ⟨p,2,none⟩=some c:=by
 refine ⟨?_,?_,?_⟩<;>simp [World.cell?,h]
theorem Dz {w:World} {p:Nat} {S:Nat->Prop} {eps:Int} {f:Nat->Int} {n:Nat} {L:List (List Sg)} (h:eJ w p S eps f n L) :
  Calls prog 49 #[.pointer (some ⟨p,0,none⟩)] w fun e w'=>e=.returned (.int .i64 eps)/\w'=w:=by
 obtain ⟨ko,kc,lo,lc,h1,_⟩:=h.opened;obtain ⟨c0,c1,c2⟩:=qS h1;clear h h1;go_enter func49,ntmps49;go_wp2_with fail;go_ret;exact ⟨rfl,rfl⟩
theorem M4 {w:World} {p:Nat} {S:Nat->Prop} {eps:Int} {f:Nat->Int} {n:Nat} {L:List (List Sg)} (h:eJ w p S eps f n L) :
  Calls prog 76 #[.pointer (some ⟨p,0,none⟩)] w fun e w'=>e=.returned (.int .i64 (L.length:Int))/\w'=w:=by
 obtain ⟨ko,kc,lo,lc,h1,_⟩:=h.opened;obtain ⟨c0,c1,c2⟩:=qS h1;clear h h1;go_enter func76,ntmps76;go_wp2_with fail;go_ret;exact ⟨rfl,rfl⟩
theorem M8 {w:World} {p:Nat} {S:Nat->Prop} {eps:Int} {f:Nat->Int} {n:Nat} {L:List (List Sg)} (h:eJ w p S eps f n L) (lv:Int) (l0:-9223372036854775808<=lv) (l1:lv<9223372036854775808) :
  Calls prog 94 #[.pointer (some ⟨p,0,none⟩),.int .i64 lv] w fun e w'=>e=.returned (.int .i64 (eS n L lv:Nat))/\w'=w:=by
 obtain ⟨ko,kc,lo,lc,h1,hk,hv⟩:=h.opened;obtain ⟨c0,c1,c2⟩:=qS h1;have pl:p<w.heap.size:=(Array.getElem?_eq_some_iff.1 h1).1;have hl:=h.sh.1;obtain ⟨ln,aA⟩:∃ ln,L.length=ln:=⟨_,rfl⟩;have LN:ag _:=aA;rw [aA] at c2 hl;have HV:ag _:=hv;clear h h1 hk hv aA;by_cases z:lv=0
 ·have e:eS n L lv=n:=by rw [z];unfold eS;rw [if_pos ⟨Int.le_refl _,by omega⟩];rfl
  have t0:(lv == 0)=true:=by simpa using z
  rw [e];clear e z;go_enter func94,ntmps94;go_wp2_with fail;go_ret;exact ⟨rfl,rfl⟩
 ·have t0:(lv == 0)=false:=by simpa using z
  by_cases a:lv<0
  ·have e:eS n L lv=0:=by unfold eS;rw [if_neg (fun x=>by have:=x.1;omega)]
   have t1:decide (lv<0)=true:=by simpa using a
   rw [e];clear e z;go_enter func94,ntmps94;go_wp2_with fail;go_ret;exact ⟨rfl,rfl⟩
  ·have t1:decide (lv<0)=false:=by simpa using a
   by_cases b:(ln:Int)<lv
   ·have e:eS n L lv=0:=by unfold eS;rw [if_neg (fun x=>by have:=x.2;rw [LN.o] at this;omega)]
    have t2:decide ((ln:Int)<lv)=true:=by simpa using b
    rw [e];clear e z;go_enter func94,ntmps94;go_wp2_with fail;go_ret;exact ⟨rfl,rfl⟩
   ·obtain ⟨i,hi⟩:∃ i:Nat,lv=(i:Int)+1:=⟨(lv-1).toNat,by omega⟩
    have e:eS n L lv=(L.getD i []).length:=by
     unfold eS;rw [if_pos ⟨by omega,by rw [LN.o];omega⟩,show lv.toNat=i+1 by omega]
     rfl
    have t2:decide ((ln:Int)<lv)=false:=by simpa using b
    have w1:IntKind.i64.wrap (lv-1)=(i:Int):=by rw [IntKind.wrap_i64];omega
    obtain ⟨lb,lf,rfl,fs,bP⟩:=HV.o.cells (by rw [LN.o];omega)
    obtain ⟨so,sc,q1,_,_,_⟩:=bP i (by rw [LN.o];omega)
    have il:i<ln:=by omega
    have DA:(i:Int)<(ln:Int):=by omega
    rw [e];generalize (L.getD i []).length=sn at q1 ⊢;clear e z bP hi;go_enter func94,ntmps94;go_wp2_with fail;go_ret;exact ⟨rfl,rfl⟩
theorem M9 {w:World} {p:Nat} {S:Nat->Prop} {eps:Int} {f:Nat->Int} {n:Nat} {L:List (List Sg)} (h:eJ w p S eps f n L) (lv sl:Int) (l0:-9223372036854775808<=lv) (l1:lv<9223372036854775808) :
  Calls prog 113 #[.pointer (some ⟨p,0,none⟩),.int .i64 lv,.int .i64 sl] w fun e w'=>e=.returned (.bool (decide (0<=sl/\sl<(eS n L lv:Nat))))/\w'=w:=by
 have SZ:ag _:=M8 h lv l0 l1;clear h;generalize eS n L lv=z at SZ ⊢;by_cases a:0<=sl
 ·have t1:decide (0<=sl)=true:=by simpa using a
  have e:decide (0<=sl/\sl<(z:Int))=decide (sl<(z:Int)):=by
   by_cases b:sl<(z:Int)
   ·rw [decide_eq_true b,decide_eq_true ⟨a,b⟩]
   ·rw [decide_eq_false b,decide_eq_false (fun x=>b x.2)]
  rw [e];obtain ⟨d,hd⟩:∃ d,decide (sl<(z:Int))=d:=⟨_,rfl⟩;rw [hd];clear e;go_enter func113,ntmps113;go_wp2_with fail;refine Calls.mono SZ.o ?_;rintro e w2 ⟨rfl,hw⟩;have cR:w=w2:=hw.symm;subst cR;clear hw SZ;go_wp2_with fail;go_ret;exact ⟨rfl,rfl⟩
 ·have t1:decide (0<=sl)=false:=by simpa using a
  rw [decide_eq_false (fun x=>a x.1)]
  go_enter func113,ntmps113;go_wp2_with fail;go_ret;exact ⟨rfl,rfl⟩
theorem DB {w:World} {p:Nat} {S:Nat->Prop} {eps:Int} {f:Nat->Int} {n:Nat} {L:List (List Sg)} (h:eJ w p S eps f n L) (lv sl:Int) (l0:-9223372036854775808<=lv) (l1:lv<9223372036854775808) (s0:-9223372036854775808<=sl) (s1:sl<9223372036854775808) :
  Calls prog 95 #[.pointer (some ⟨p,0,none⟩),.int .i64 lv,.int .i64 sl] w fun e w'=>e=.returned (Li (iW L lv sl))/\Gw w w':=by
 have HA:ag (Calls prog 113 #[.pointer (some ⟨p,0,none⟩),.int .i64 lv,.int .i64 sl] (w.alloc (.cells #[.int .u64 0,.float .f64 0,.float .f64 0,.int .i64 0,.int .i64 0] 129)) fun e w'=>e=.returned (.bool (decide (0<=sl/\sl<(eS n L lv:Nat))))/\w'=(w.alloc (.cells #[.int .u64 0,.float .f64 0,.float .f64 0,.int .i64 0,.int .i64 0] 129))):=M9 (h.keep fun q hq=>heap_alloc_old w _ (h.lt q hq)) lv sl l0 l1
 obtain ⟨ko,kc,lo,lc,h1,hk,hv⟩:=h.opened;obtain ⟨c0,c1,c2⟩:=qS h1;have pl:p<w.heap.size:=(Array.getElem?_eq_some_iff.1 h1).1;have hl:=h.sh.1;obtain ⟨ln,aA⟩:∃ ln,L.length=ln:=⟨_,rfl⟩;have LN:ag _:=aA;rw [aA] at c2 hl;have HV:ag _:=hv;clear h h1 hk hv aA;by_cases z:lv=0
 ·have e:iW L lv sl=az:=by unfold iW;rw [if_neg (fun x=>by have:=x.1.1;omega)]
  have t0:(lv == 0)=true:=by simpa using z
  rw [e];show Calls _ _ _ _ fun e w'=>e=.returned (.agg #[.int .u64 0,.float .f64 0,.float .f64 0,.int .i64 0,.int .i64 0])/\Gw w w'
  clear e z HA;go_enter func95,ntmps95;go_wp2_with fail;exact bodyPost_ret (v:=.agg #[.int .u64 0,.float .f64 0,.float .f64 0,.int .i64 0,.int .i64 0]) (by simp [results,results95,go_sem]) rfl ⟨rfl,(Gw.refl w).alloc _ _⟩
 ·have t0:(lv == 0)=false:=by simpa using z
  by_cases a:0<=sl/\sl<(eS n L lv:Nat)
  ·rw [decide_eq_true a] at HA
   have b:0<=lv/\lv<=L.length:=by
    by_cases x:0<=lv/\lv<=L.length
    ·exact x
    ·have:=a.2;unfold eS at this;rw [if_neg x] at this;omega
   rw [LN.o] at b;obtain ⟨i,hi⟩:∃ i:Nat,lv=(i:Int)+1:=⟨(lv-1).toNat,by omega⟩
   have e:eS n L lv=(L.getD i []).length:=by
    unfold eS;rw [if_pos ⟨by omega,by rw [LN.o];omega⟩,show lv.toNat=i+1 by omega]
    rfl
   rw [e] at a;obtain ⟨m,hm⟩:∃ m:Nat,sl=(m:Int):=⟨sl.toNat,by omega⟩
   have e2:iW L lv sl=(L.getD i []).getD m az:=by
    unfold iW;rw [show lv.toNat-1=i by omega,if_pos ⟨⟨by omega,by rw [LN.o];omega⟩,a.1,a.2⟩,show sl.toNat=m by omega]
   rw [e2];have w1:IntKind.i64.wrap (lv-1)=(i:Int):=by rw [IntKind.wrap_i64];omega
   obtain ⟨lb,lf,rfl,fs,bP⟩:=HV.o.cells (by rw [LN.o];omega)
   obtain ⟨so,sc,q1,_,_,q4⟩:=bP i (by rw [LN.o];omega)
   obtain ⟨gb,gf,rfl,zA,Na⟩:=q4.cells (by omega)
   have ck:=Na m (by omega)
   obtain ⟨sn,ja⟩:∃ sn,(L.getD i []).length=sn:=⟨_,rfl⟩;rw [ja] at q1 a;obtain ⟨⟨k,sp,ic,fr,te⟩,hs⟩:∃ s,(L.getD i []).getD m az=s:=⟨_,rfl⟩;rw [hs] at ck ⊢;have k0:w.cell? ⟨gb,gf+m*5,none⟩=some (.int .u64 k):=ck.c0;have k1:w.cell? ⟨gb,gf+m*5+1,none⟩=some (.float .f64 sp):=ck.c1;have k2:w.cell? ⟨gb,gf+m*5+2,none⟩=some (.float .f64 ic):=ck.c2;have k3:w.cell? ⟨gb,gf+m*5+3,none⟩=some (.int .i64 fr):=ck.c3;have k4:w.cell? ⟨gb,gf+m*5+4,none⟩=some (.int .i64 te):=ck.c4;have il:i<ln:=by omega
   have DA:(i:Int)<(ln:Int):=by omega
   have ml:m<sn:=by omega
   have ml':(m:Int)<(sn:Int):=by omega
   subst hm;clear e z bP hi ck Na hs ja q4 e2 b a;go_enter func95,ntmps95;go_wp2_with fail;refine Calls.mono HA.o ?_;rintro e w2 ⟨rfl,rfl⟩;clear HA;go_wp2_with fail;exact bodyPost_ret (v:=.agg #[.int .u64 k,.float .f64 sp,.float .f64 ic,.int .i64 fr,.int .i64 te]) (by simp [results,results95,go_sem]) rfl ⟨rfl,(Gw.refl w).alloc _ _⟩
  ·rw [decide_eq_false a] at HA
   have e:iW L lv sl=az:=by
    unfold iW;refine if_neg (fun x=>a ⟨x.2.1,?_⟩)
    have y:=x.2.2;unfold eS;rw [if_pos ⟨by omega,x.1.2⟩]
    unfold bD;rw [if_neg (by have:=x.1.1;omega)]
    exact y
   rw [e];show Calls _ _ _ _ fun e w'=>e=.returned (.agg #[.int .u64 0,.float .f64 0,.float .f64 0,.int .i64 0,.int .i64 0])/\Gw w w'
   clear e z a;go_enter func95,ntmps95;go_wp2_with fail;refine Calls.mono HA.o ?_;rintro e w2 ⟨rfl,rfl⟩;clear HA;go_wp2_with fail;exact bodyPost_ret (v:=.agg #[.int .u64 0,.float .f64 0,.float .f64 0,.int .i64 0,.int .i64 0]) (by simp [results,results95,go_sem]) rfl ⟨rfl,(Gw.refl w).alloc _ _⟩
theorem aax {w:World} {p:Nat} {S:Nat->Prop} {eps:Int} {f:Nat->Int} {n:Nat} {L:List (List Sg)} (h:eJ w p S eps f n L) (lv sl:Int) (l0:-9223372036854775808<=lv) (l1:lv<9223372036854775808) (s0:-9223372036854775808<=sl) (s1:sl<9223372036854775808) :
  Calls prog 218 #[.pointer (some ⟨p,0,none⟩),.int .i64 lv,.int .i64 sl] w fun e w'=>e=.returned (.int .u64 (qM f n L lv sl))/\Gw w w':=by
 have HA:ag _:=M9 h 0 sl (by omega) (by omega)
 have SE:ag _:=DB h lv sl l0 l1 s0 s1;obtain ⟨ko,kc,lo,lc,h1,hk,hv⟩:=h.opened;obtain ⟨c0,c1,c2⟩:=qS h1;have pl:p<w.heap.size:=(Array.getElem?_eq_some_iff.1 h1).1;have hn:=h.n1;have z0:eS n L 0=n:=by unfold eS;rw [if_pos ⟨Int.le_refl _,by omega⟩];rfl
 rw [z0] at HA;clear h h1 hv z0;by_cases c:lv=0/\0<=sl/\sl<(n:Int)
 ·obtain ⟨z,a⟩:=c
  rw [decide_eq_true a] at HA;obtain ⟨m,hm⟩:∃ m:Nat,sl=(m:Int):=⟨sl.toNat,by omega⟩
  have e:qM f n L lv sl=f m:=by
   unfold qM;rw [z,if_pos ⟨⟨Int.le_refl _,by omega⟩,a⟩,show sl.toNat=m by omega]
   rfl
  rw [e];have t0:(lv == 0)=true:=by simpa using z
  obtain ⟨kb,kf,rfl,fT,cQ⟩:=hk.cells (by omega)
  have ck:=cQ m (by omega)
  generalize f m=y at ck ⊢;have ml:m<n:=by omega
  have ml':(m:Int)<(n:Int):=by omega
  subst hm;clear e z a cQ hk SE;go_enter func218,ntmps218;go_wp2_with fail;refine Calls.mono HA.o ?_;rintro e w2 ⟨rfl,hw⟩;have cR:w=w2:=hw.symm;subst cR;clear hw HA;go_wp2_with fail;go_ret;exact ⟨rfl,Gw.refl w⟩
 ·have e:qM f n L lv sl=(iW L lv sl).k:=by
   unfold qM iW;by_cases z:lv=0
   ·subst z
    rw [if_neg (fun x=>c ⟨rfl,x.2⟩),if_neg (fun x=>by have:=x.1.1;omega)]
    rfl
   ·by_cases x:(0<=lv/\lv<=(L.length:Int))/\0<=sl/\sl<(bD n L lv.toNat:Int)
    ·rw [if_pos x]
     obtain ⟨i,hi⟩:∃ i:Nat,lv=(i:Int)+1:=⟨(lv-1).toNat,by omega⟩
     have e1:lv.toNat=i+1:=by omega
     rw [e1] at x ⊢;rw [if_pos ⟨⟨by omega,x.1.2⟩,x.2⟩]
     rfl
    ·rw [if_neg x]
     rw [if_neg (fun y=>x ⟨⟨by omega,y.1.2⟩,y.2.1,by
      unfold bD;rw [if_neg (by have:=y.1.1;omega)]
      exact y.2.2⟩)]
     rfl
  rw [e];obtain ⟨⟨k,sp,ic,fr,te⟩,hs⟩:∃ s,iW L lv sl=s:=⟨_,rfl⟩;rw [hs] at SE ⊢;clear e hs hk;show Calls _ _ _ _ fun e w'=>e=.returned (.int .u64 k)/\Gw w w'
  have fk:∀ W:World,(Instr.field 129 (.agg #[.int .u64 k,.float .f64 sp,.float .f64 ic,.int .i64 fr,.int .i64 te]) 0).run prog W=.ok (.int .u64 k) W:=fun _=>by kernel_rfl
  by_cases z:lv=0
  ·have t0:(lv == 0)=true:=by simpa using z
   rw [decide_eq_false (fun x=>c ⟨z,x⟩)] at HA
   clear z c;go_enter func218,ntmps218;go_wp2_with fail;refine Calls.mono HA.o ?_;rintro e w2 ⟨rfl,hw⟩;have cR:w=w2:=hw.symm;subst cR;clear hw HA;go_wp2_with fail;refine Calls.mono SE.o ?_;rintro e w3 ⟨rfl,g3⟩;have G3:ag _:=g3;clear g3 SE;go_wp2_with fail;go_ret;exact ⟨rfl,G3.o⟩
  ·have t0:(lv == 0)=false:=by simpa using z
   clear z c HA;go_enter func218,ntmps218;go_wp2_with fail;refine Calls.mono SE.o ?_;rintro e w3 ⟨rfl,g3⟩;have G3:ag _:=g3;clear g3 SE;go_wp2_with fail;go_ret;exact ⟨rfl,G3.o⟩
end Go.Proofs.YtklkpldicbkjeaaGreat
namespace Go.Proofs.YtklkpldicbkjeaaGreat
open Go.RowKit
structure cV (HR:World->Nat->(Nat->Prop)->Int->(Nat->Int)->(Nat->Int)->(Nat->Bool)->Nat->List (List Sg)->Prop):Prop where
 keep:∀ {w w':World} {p:Nat} {S:Nat->Prop} {eps:Int} {k v:Nat->Int} {g:Nat->Bool} {n:Nat} {L:List (List Sg)},HR w p S eps k v g n L->(∀ q,S q->w'.heap[q]?=w.heap[q]?)->HR w' p S eps k v g n L
 lt:∀ {w:World} {p:Nat} {S:Nat->Prop} {eps:Int} {k v:Nat->Int} {g:Nat->Bool} {n:Nat} {L:List (List Sg)},HR w p S eps k v g n L->∀ q,S q->q<w.heap.size
 own:∀ {w:World} {p:Nat} {S:Nat->Prop} {eps:Int} {k v:Nat->Int} {g:Nat->Bool} {n:Nat} {L:List (List Sg)},HR w p S eps k v g n L->S p
 ready:∀ {w:World} {p:Nat} {S:Nat->Prop} {eps:Int} {k v:Nat->Int} {g:Nat->Bool} {n:Nat} {L:List (List Sg)},HR w p S eps k v g n L->mw eps k n L
 pile:∀ {w:World} {p:Nat} {S:Nat->Prop} {eps:Int} {k v:Nat->Int} {g:Nat->Bool} {n:Nat} {L:List (List Sg)},HR w p S eps k v g n L->∃ pp Sp,w.cell? ⟨p,0,none⟩=some (.pointer (some ⟨pp,0,none⟩))/\eJ w pp Sp eps k n L/\∀ q,Sp q->S q
 new:∀ (eps:Int) (ao:Option Addr) (n cp:Nat) (k v:Nat->Int) (g:Nat->Bool),-9223372036854775808<=eps->eps<9223372036854775808->n<=2000000->n<=cp->(ao=none->n=0/\cp=0)->∀ w:World,ES w ao n k v g->Calls prog 20 #[.slice ao n cp,.int .i64 eps] w fun ex w'=>tG HR w w' ex eps k v g n/\Gw w w'
 len:∀ {w:World} {p:Nat} {S:Nat->Prop} {eps:Int} {k v:Nat->Int} {g:Nat->Bool} {n:Nat} {L:List (List Sg)},HR w p S eps k v g n L->Calls prog 59 #[.pointer (some ⟨p,0,none⟩)] w fun e w'=>e=.returned (.int .i64 (n:Int))/\Gw w w'
 at_:∀ {w:World} {p:Nat} {S:Nat->Prop} {eps:Int} {k v:Nat->Int} {g:Nat->Bool} {n:Nat} {L:List (List Sg)},HR w p S eps k v g n L->∀ i:Int,-9223372036854775808<=i->i<9223372036854775808->Calls prog 93 #[.pointer (some ⟨p,0,none⟩),.int .i64 i] w fun e w'=>e=.returned (.tuple #[(qO k v g n i).1,.int .i64 (qO k v g n i).2])/\Gw w w'
 list:∀ {w:World} {p:Nat} {S:Nat->Prop} {eps:Int} {k v:Nat->Int} {g:Nat->Bool} {n:Nat} {L:List (List Sg)},HR w p S eps k v g n L->Calls prog 50 #[.pointer (some ⟨p,0,none⟩)] w fun e w'=>(∃ bo c,e=.returned (.slice bo n c)/\ER w' w.heap.size (.slice bo n c) k v g n)/\Gw w w'
 levels:∀ {w:World} {p:Nat} {S:Nat->Prop} {eps:Int} {k v:Nat->Int} {g:Nat->Bool} {n:Nat} {L:List (List Sg)},HR w p S eps k v g n L->Calls prog 52 #[.pointer (some ⟨p,0,none⟩)] w fun e w'=>(∃ lo lc aj,e=.returned (.slice lo L.length lc)/\cF w' w.heap.size (.slice lo L.length lc) L aj/\uT L/\L.length<=lc)/\Gw w w'
 get:∀ {w:World} {p:Nat} {S:Nat->Prop} {eps:Int} {k v:Nat->Int} {g:Nat->Bool} {n:Nat} {L:List (List Sg)},HR w p S eps k v g n L->∀ q:Int,0<=q->q<18446744073709551616->Calls prog 70 #[.pointer (some ⟨p,0,none⟩),.int .u64 q] w fun e w'=>e=.returned (.tuple #[(iX k v g n q).1,.bool (iX k v g n q).2])/\Gw w w'
end Go.Proofs.YtklkpldicbkjeaaGreat
namespace Go.Proofs.YtklkpldicbkjeaaGreat
open Go.RowKit
attribute [local go_sem] fZ uH
structure bA (W0:World) (l:List (Nat×Array Value×TypeId)) (W:World):Prop where
 gw0:Gw W0 W
 lie:∀ x∈l,W.heap[x.1]?=some (.cells x.2.1 x.2.2 (0,0))
theorem bA.nil {W0 W:World} (g:Gw W0 W):bA W0 [] W:=⟨g,fun x h=>by cases h⟩
theorem bA.gw {W0 W W':World} {l:List (Nat×Array Value×TypeId)} (h:bA W0 l W) (g:Gw W W'):bA W0 l W' :=
 ⟨h.gw0.trans g,fun x hx=>(g.below.block x.1 (Array.getElem?_eq_some_iff.1 (h.lie x hx)).1).trans (h.lie x hx)⟩
theorem bA.add {W0 W:World} {l:List (Nat×Array Value×TypeId)} (h:bA W0 l W) (c:Array Value) (t:TypeId):bA W0 ((W.heap.size,c,t)::l) (W.alloc (.cells c t)) :=
 ⟨h.gw0.alloc _ _,fun x hx=>by
  rcases List.mem_cons.1 hx with rfl | hx
  ·exact heap_alloc_new W _
  ·exact (h.gw ((Gw.refl W).alloc c t)).lie x hx⟩
theorem bA.cell {W0 W:World} {l:List (Nat×Array Value×TypeId)} (h:bA W0 l W) {b:Nat} {c:Array Value} {t:TypeId} (m:(b,c,t)∈l) {i:Nat} {v:Value} (hv:c[i]?=some v):W.cell? ⟨b,i,none⟩=some v:=by
 have:=h.lie _ m
 simp [World.cell?,this,hv]
end Go.Proofs.YtklkpldicbkjeaaGreat
