/- Classes in memory: places of runs, and what is newest among them. -/
import Derived.Lib.SliceRun
import Derived.Test.YtcboobmfnmgldaaGreatBUPlain
import Derived.Test.YtcboobmfnmgldaaGreatBPMem
import Derived.Test.YtcboobmfnmgldaaGreatBR1Ans
set_option linter.unusedVariables false
set_option maxHeartbeats 4000000
set_option maxRecDepth 20000
open Go.Proofs.Tryz
namespace Go.Proofs.YtcboobmfnmgldaaGreat
open Go.RowKit
abbrev bQ:=World->Nat->(Nat->Prop)->Int->(Nat->Int)->(Nat->Int)->(Nat->Bool)->Nat->List (List Sg)->Prop
structure Kp (HR:bQ):Prop where
 keep:∀ {w w':World} {p:Nat} {S:Nat->Prop} {eps:Int} {k v:Nat->Int} {g:Nat->Bool} {n:Nat} {L:List (List Sg)},HR w p S eps k v g n L->(∀ q,S q->w'.heap[q]?=w.heap[q]?)->HR w' p S eps k v g n L
 lt:∀ {w:World} {p:Nat} {S:Nat->Prop} {eps:Int} {k v:Nat->Int} {g:Nat->Bool} {n:Nat} {L:List (List Sg)},HR w p S eps k v g n L->∀ q,S q->q<w.heap.size
variable {HR:bQ}
theorem bJ.kp (H:bJ HR):Kp HR:=⟨H.keep,H.lt⟩
structure RA (HR:bQ) (w:World) (r:Rn):Prop where
 h:HR w r.p r.S r.eps (ek r.l) (ev r.l) (eg r.l) r.l.length r.L
 ok:aW r.l
 bd:∀ e∈r.l,e.ok
 few:r.l.length<=2000000
section
variable {HR:bQ} {w w':World}
variable {r:Rn}
theorem RA.keep (K:Kp HR) (h:RA HR w r) (k:∀ q,r.S q->w'.heap[q]?=w.heap[q]?):RA HR w' r:=⟨K.keep h.h k,h.ok,h.bd,h.few⟩
theorem RA.gw (K:Kp HR) (h:RA HR w r) (g:Gw w w'):RA HR w' r:=h.keep K fun q hq=>g.below.block q (K.lt h.h q hq)
variable {F:Nat->Prop}
theorem RA.gx (K:Kp HR) (h:RA HR w r) (g:Gx F w w') (d:∀ q,F q->¬ r.S q):RA HR w' r:=h.keep K fun q hq=>g.block q (K.lt h.h q hq) (fun x=>d q x hq)
structure PR (HR:bQ) (w:World) (ao:Option Addr) (rs:List (Option Rn)):Prop where
 cells:0<rs.length->∃ b off,ao=some ⟨b,off,none⟩/\b<w.heap.size/\∀ i,i<rs.length->w.cell? ⟨b,off+i,none⟩=some (ptr (rs.getD i none))
 runs:∀ r,some r∈rs->RA HR w r
variable {ao:Option Addr} {rs:List (Option Rn)}
theorem PR.gw (K:Kp HR) (h:PR HR w ao rs) (g:Gw w w'):PR HR w' ao rs :=
 ⟨fun h0=>by
  obtain ⟨b,off,e,hb,hc⟩:=h.cells h0;exact ⟨b,off,e,Nat.lt_of_lt_of_le hb g.size,fun i hi=>(g.cell _ _ hb).trans (hc i hi)⟩,fun r hr=>(h.runs r hr).gw K g⟩
variable {i:Nat}
theorem fs (hi:i<rs.length):rs.getD i none=rs[i]:=by simp [List.getD,hi]
theorem rj (hi:i<rs.length):rs.drop i=rs.getD i none::rs.drop (i+1):=by rw [fs hi,List.drop_eq_getElem_cons hi]
theorem wh (hi:i<rs.length):rs.take (i+1)=rs.take i++[rs.getD i none]:=by rw [List.take_add_one,List.getElem?_eq_getElem hi,fs hi];rfl
theorem jo (hi:i<rs.length) (e:rs.getD i none=some r):some r∈rs:=by rw [<-e,fs hi];exact List.getElem_mem hi
theorem iW (rs:List (Option Rn)) (i:Nat):rs.getD i none=none\/∃ r,rs.getD i none=some r:=by cases rs.getD i none with
 | none=>exact .inl rfl
 | some r=>exact .inr ⟨r,rfl⟩
theorem bJ.look (H:bJ HR) (h:RA HR w r) (q:Int) (q0:0<=q) (q1:q<18446744073709551616) :
  Calls prog 118 #[BY (r.p),By q] w fun e w'=>e=.returned (.tuple #[(de (Go.Proofs.YtcboobmfnmgldaaGreat.look ah.k q r.l)).1,.bool (de (Go.Proofs.YtcboobmfnmgldaaGreat.look ah.k q r.l)).2])/\Gw w w':=by
 have:=H.get h.h q q0 q1
 rw [Ot h.ok.rise] at this;exact this
theorem nV (o:Option ah):∃ a b c t,de o=(.agg #[By a,By b,.bool c],t)/\t=o.isSome/\gI o=(t&&!c):=by
 cases o with
 | none=>exact ⟨_,_,_,_,rfl,rfl,rfl⟩
 | some e=>exact ⟨_,_,_,_,rfl,rfl,rfl⟩
end
variable {b:Nat}
theorem kH {U:World} {x y:Int} {z:Bool} (h:U.heap[b]?=some (.cells #[By x,By y,.bool z] 75 (0,0))):U.cell? ⟨b,0,none⟩=some (By x)/\U.cell? ⟨b,1,none⟩=some (By y)/\U.cell? ⟨b,2,none⟩=some (.bool z)/\U.frozen? ⟨b,0,none⟩=false/\U.frozen? ⟨b,1,none⟩=false/\U.frozen? ⟨b,2,none⟩=false/\b<U.heap.size/\∀ (x' y':Int) (z':Bool),(((U.setCell ⟨b,0,none⟩ (By x')).setCell ⟨b,1,none⟩ (By y')).setCell ⟨b,2,none⟩ (.bool z')).cell? ⟨b,0,none⟩=some (By x')/\(((U.setCell ⟨b,0,none⟩ (By x')).setCell ⟨b,1,none⟩ (By y')).setCell ⟨b,2,none⟩ (.bool z')).cell? ⟨b,1,none⟩=some (By y')/\(((U.setCell ⟨b,0,none⟩ (By x')).setCell ⟨b,1,none⟩ (By y')).setCell ⟨b,2,none⟩ (.bool z')).cell? ⟨b,2,none⟩=some (.bool z'):=by
 refine ⟨aj h rfl,aj h rfl,aj h rfl,bT h,bT h,bT h,aC h,fun x' y' z'=>?_⟩
 have st:∀ {w:World} {o:Nat} {vs:Array Value} {t:TypeId} (h:w.heap[b]?=some (.cells vs t (0,0))) (u:Value),(w.setCell ⟨b,o,none⟩ u).heap[b]?=some (.cells (vs.setIfInBounds o u) t (0,0)):=fun h u=>by simp [World.setCell,Array.getElem?_modify,h]
 have h3:=st (o:=2) (st (o:=1) (st (o:=0) h (By x')) (By y')) (.bool z');exact ⟨aj h3 rfl,aj h3 rfl,aj h3 rfl⟩
variable {HR:bQ}
theorem OL (H:bJ HR) (ao:Option Addr) (c:Nat) (rs:List (Option Rn)) (q:Int) (q0:0<=q) (q1:q<18446744073709551616) (hl:rs.length<=2000000) (w:World) (h:PR HR w ao rs) :
  Calls prog 91 #[.slice ao rs.length c,By q] w fun e w'=>e=.returned (.tuple #[(de (nw q rs)).1,.bool (de (nw q rs)).2])/\Gw w w':=by
 have HP:ag _:=h;have HH:ag _:=H;obtain ⟨n,hn⟩:∃ n,rs.length=n:=⟨_,rfl⟩;have LN:ag _:=hn;rw [hn] at hl ⊢;obtain ⟨A,hA⟩:∃ A,de (nw q rs)=A:=⟨_,rfl⟩;have ak:ag _:=hA;rw [hA];clear h H hn hA;obtain ⟨bq,aE⟩:∃ b,w.heap.size=b:=⟨_,rfl⟩;have BQ:ag _:=aE;have B0:ag (aT w [(bq,#[By 0,By 0,.bool false],75)] (w.alloc (.cells #[By 0,By 0,.bool false] 75))):=by rw [<-aE];exact (aT.nil (Gw.refl w)).add _ _
 clear aE;go_enter func91,ntmps91;go_wp2_with fail;rw [BQ.o];generalize w.alloc (.cells #[By 0,By 0,.bool false] 75)=w1 at B0 ⊢;go_loopg [12] n (fun gg nM wr=>∃ i:Nat,nM=AI (i:Int)/\i<=n/\n-i<=gg/\ag (aT w [(bq,#[By 0,By 0,.bool false],75)] wr)/\ag (de (nw q (rs.drop i))=A))
 case atStart=>exact ⟨0,rfl,Nat.zero_le _,by omega,B0,(by rw [List.drop_zero];exact ak)⟩
 case round =>
  clear B0 ak;obtain ⟨i,rfl,a1,a2,B,N⟩:=hrel;obtain ⟨wS,bj⟩:∃ wx,wx=wr:=⟨_,rfl⟩;subst bj;by_cases ar:i<n
  ·have eZ:(i:Int)<(n:Int):=by omega
   obtain ⟨b,off,rfl,hb,hc⟩:=(HP.o.gw HH.o.kp B.o.gw0).cells (by rw [LN.o];omega)
   have ci:=hc i (by rw [LN.o];exact ar)
   have DR:=rj (rs:=rs) (i:=i) (by rw [LN.o];exact ar)
   clear hc;rcases iW rs i with e | ⟨r,e⟩
   ·rw [e] at ci DR
    have N':ag (de (nw q (rs.drop (i+1)))=A):=by have:=N.o;rw [DR,vZ] at this;exact this
    have dq:wS.cell? ⟨b,off+i,none⟩=some (.pointer none):=ci;clear ci e DR N;go_wp2_with fail;go_roundg (n-(i+1))
    case measure=>omega
    case rel=>exact ⟨i+1,by go_num,by omega,Nat.le_refl _,B,N'⟩
   ·rw [e] at ci DR
    have dq:wS.cell? ⟨b,off+i,none⟩=some (BY (r.p)):=ci;have RR:=(HP.o.runs r (jo (by rw [LN.o];exact ar) e)).gw HH.o.kp B.o.gw0
    obtain ⟨x,y,z,t,f1,f2,f3⟩:=nV (look ah.k q r.l);have GT:ag (Calls prog 118 #[BY (r.p),By q] wS fun e w'=>e=.returned (.tuple #[.agg #[By x,By y,.bool z],.bool t])/\Gw wS w'):=by
     have:=HH.o.look RR q q0 q1
     rw [f1] at this;exact this
    have NR:=N.o;rw [DR,nU] at NR;have NT:ag (t=true->A=(.agg #[By x,By y,.bool z],true)):=fun h=>by
     rw [f2] at h;cases hk:look ah.k q r.l with
     | none=>rw [hk] at h;cases h
     | some en =>
      rw [<-NR,hk];show de (some en)=_;rw [<-hk,f1,f2,h]
    have NF:ag (t=false->de (nw q (rs.drop (i+1)))=A):=fun h=>by
     rw [f2] at h;cases hk:look ah.k q r.l with
     | none=>rw [hk] at NR;exact NR
     | some en=>rw [hk] at h;cases h
    generalize r.p=rp at dq GT;clear ci e DR N RR f1 f2 f3 NR;go_wp2_with fail;refine Calls.mono GT.o ?_;rintro e u1 ⟨rfl,gg⟩;have B1:=(B.o.gw gg).add #[By x,By y,.bool z] 75;obtain ⟨bx,dT⟩:∃ b,u1.heap.size=b:=⟨_,rfl⟩;have BX:ag _:=dT;rw [dT] at B1;clear gg GT dT;go_upto_region 6 with fail;rw [BX.o];generalize u1.alloc (.cells #[By x,By y,.bool z] 75)=U at B1 ⊢;have E0:U.heap[bq]?=some (.cells #[By 0,By 0,.bool false] 75 (0,0)):=B1.lie (bq,#[By 0,By 0,.bool false],75) (by simp)
    have E1:U.heap[bx]?=some (.cells #[By x,By y,.bool z] 75 (0,0)):=B1.lie (bx,#[By x,By y,.bool z],75) (by simp)
    have GU:ag _:=B1.gw0;cases t with
    | false =>
     have B2:ag (aT w [(bq,#[By 0,By 0,.bool false],75)] U):=⟨B1.gw0,fun x hx=>by rw [List.mem_singleton.1 hx];exact E0⟩
     have N':ag _:=NF.o rfl;clear E0 E1 B1 B NF NT;go_wp2_with fail;go_roundg (n-(i+1))
     case measure=>omega
     case rel=>exact ⟨i+1,by go_num,by omega,Nat.le_refl _,B2,N'⟩
    | true =>
     have e:=NT.o rfl;subst e;obtain ⟨x0,x1,x2,_⟩:=kH E1;obtain ⟨m0,m1,m2,z0,z1,z2,bl,TT⟩:=kH E0;have T3:=TT x y z;clear E0 E1 B1 B NT NF TT;go_wp2_with fail;exact bodyPost_ret (v:=.tuple #[.agg #[By x,By y,.bool z],.bool true]) (by simp [results,results91,go_sem,T3.1,T3.2.1,T3.2.2]) rfl ⟨rfl,((GU.o.setCell (Nat.le_of_eq BQ.o) _).setCell (Nat.le_of_eq BQ.o) _).setCell (Nat.le_of_eq BQ.o) _⟩
  ·have ei:i=n:=by omega
   subst ei;have e:A=(.agg #[By 0,By 0,.bool false],false):=by
    rw [<-N.o,List.drop_of_length_le (by rw [LN.o];exact Nat.le_refl _)]
    rfl
   subst e;have E0:wS.heap[bq]?=some (.cells #[By 0,By 0,.bool false] 75 (0,0)):=B.o.lie (bq,#[By 0,By 0,.bool false],75) (by simp)
   have GU:ag _:=B.o.gw0;obtain ⟨m0,m1,m2,z0,z1,z2,bl,TT⟩:=kH E0;have T3:=TT 0 0 false;clear E0 B N TT;go_wp2_with fail;exact bodyPost_ret (v:=.tuple #[.agg #[By 0,By 0,.bool false],.bool false]) (by simp [results,results91,go_sem,T3.1,T3.2.1,T3.2.2]) rfl ⟨rfl,((GU.o.setCell (Nat.le_of_eq BQ.o) _).setCell (Nat.le_of_eq BQ.o) _).setCell (Nat.le_of_eq BQ.o) _⟩
theorem OM (H:bJ HR) (ao:Option Addr) (c:Nat) (rs:List (Option Rn)) (q:Int) (q0:0<=q) (q1:q<18446744073709551616) (hl:rs.length<=2000000) (w:World) (h:PR HR w ao rs) :
  Calls prog 88 #[.slice ao rs.length c,By q] w fun e w'=>e=.returned (.bool (aI rs q))/\Gw w w':=by
 obtain ⟨x,y,z,t,f1,f2,f3⟩:=nV (nw q rs);have NW:ag (Calls prog 91 #[.slice ao rs.length c,By q] w fun e w'=>e=.returned (.tuple #[.agg #[By x,By y,.bool z],.bool t])/\Gw w w'):=by
  have:=OL H ao c rs q q0 q1 hl w h
  rw [f1] at this;exact this
 have LV:aI rs q=(t&&!z):=f3;rw [LV];generalize rs.length=n at NW hl ⊢;clear f1 f2 f3 LV h H;cases t with
 | false =>
  go_enter func88,ntmps88;go_wp2_with fail;refine Calls.mono NW.o ?_;rintro e u1 ⟨rfl,gg⟩;have G1:ag _:=gg;clear gg NW;go_wp2_with fail;go_ret;exact ⟨rfl,G1.o.alloc _ _⟩
 | true =>
  go_enter func88,ntmps88;go_wp2_with fail;refine Calls.mono NW.o ?_;rintro e u1 ⟨rfl,gg⟩;have G1:ag _:=gg;clear gg NW;go_wp2_with fail;go_ret;exact ⟨rfl,G1.o.alloc _ _⟩
def gZ (eps buf:Int) (rs:List (Option Rn)) (B W:Int):List Value:=AI eps::AI buf::(rs.map ptr++[AI B,AI W])
structure aP (HR:bQ) (w:World) (p:Nat) (rs:List (Option Rn)) (eps buf B W:Int):Prop where
 blk:w.heap[p]?=some (.cells (gZ eps buf rs B W).toArray 118 (0,0))
 len:rs.length=40
 runs:∀ r,some r∈rs->RA HR w r/\¬ r.S p
 e0:2<=eps
 e1:eps<=64
 b0:1<=buf
 b1:buf<=4294967296
section
variable {HR:bQ} {w w':World} {p:Nat} {rs:List (Option Rn)} {eps buf B W:Int}
theorem aP.gw (K:Kp HR) (h:aP HR w p rs eps buf B W) (g:Gw w w'):aP HR w' p rs eps buf B W :=
 ⟨(g.below.block p (aC h.blk)).trans h.blk,h.len,fun r hr=>⟨(h.runs r hr).1.gw K g,(h.runs r hr).2⟩,h.e0,h.e1,h.b0,h.b1⟩
variable {F:Nat->Prop}
theorem aP.gx (K:Kp HR) (h:aP HR w p rs eps buf B W) (g:Gx F w w') (np:¬ F p) (d:∀ q,F q->∀ r,some r∈rs->¬ r.S q):aP HR w' p rs eps buf B W :=
 ⟨(g.block p (aC h.blk) np).trans h.blk,h.len,fun r hr=>⟨(h.runs r hr).1.gx K g (fun q hq=>d q hq r hr),(h.runs r hr).2⟩,h.e0,h.e1,h.b0,h.b1⟩
theorem aP.lt (h:aP HR w p rs eps buf B W):p<w.heap.size:=aC h.blk
variable {i:Nat}
theorem OQ (h:rs.length=40) (hi:i<40):(gZ eps buf rs B W).toArray[2+i]?=some (ptr (rs.getD i none)):=by
 have e:2+i=i+1+1:=by omega
 rw [List.getElem?_toArray,e];show (rs.map ptr++_)[i]?=_;rw [List.getElem?_append_left (by simp;omega),List.getElem?_map,List.getElem?_eq_getElem (by omega),fs (by omega)]
 rfl
theorem Aj (h:rs.length=40):(gZ eps buf rs B W).toArray[42]?=some (AI B)/\(gZ eps buf rs B W).toArray[43]?=some (AI W):=by
 refine ⟨?_,?_⟩
 ·rw [List.getElem?_toArray]
  show (rs.map ptr++_)[40]?=_;rw [List.getElem?_append_right (by simp [h]),List.length_map,h]
  rfl
 ·rw [List.getElem?_toArray]
  show (rs.map ptr++_)[41]?=_;rw [List.getElem?_append_right (by simp [h]),List.length_map,h]
  rfl
theorem aP.c0 (h:aP HR w p rs eps buf B W):w.cell? ⟨p,0,none⟩=some (AI eps):=aj h.blk rfl
theorem aP.c1 (h:aP HR w p rs eps buf B W):w.cell? ⟨p,1,none⟩=some (AI buf):=aj h.blk rfl
theorem aP.c2 (h:aP HR w p rs eps buf B W):w.cell? ⟨p,42,none⟩=some (AI B):=aj h.blk (Aj h.len).1
theorem aP.c3 (h:aP HR w p rs eps buf B W):w.cell? ⟨p,43,none⟩=some (AI W):=aj h.blk (Aj h.len).2
theorem aP.cell (h:aP HR w p rs eps buf B W) (hi:i<40):w.cell? ⟨p,2+i,none⟩=some (ptr (rs.getD i none)):=aj h.blk (OQ h.len hi)
theorem aP.drop (h:aP HR w p rs eps buf B W) (j:Nat):PR HR w (some ⟨p,2+j,none⟩) (rs.drop j) :=
 ⟨fun h0=>⟨p,2+j,rfl,h.lt,fun i hi=>by
  have l:=h.len;rw [List.length_drop] at hi;rw [show 2+j+i=2+(j+i) by omega,h.cell (by omega),fs (by omega),fs (by rw [List.length_drop];omega),List.getElem_drop]⟩,fun r hr=>(h.runs r (List.mem_of_mem_drop hr)).1⟩
theorem aP.take (h:aP HR w p rs eps buf B W) (j:Nat):PR HR w (some ⟨p,2,none⟩) (rs.take j) :=
 ⟨fun h0=>⟨p,2,rfl,h.lt,fun i hi=>by
  have l:=h.len;rw [List.length_take] at hi;rw [h.cell (by omega),fs (by omega),fs (by rw [List.length_take];omega),List.getElem_take]⟩,fun r hr=>(h.runs r (List.mem_of_mem_take hr)).1⟩
end
variable {HR:bQ} {w:World} {p:Nat} {rs:List (Option Rn)} {eps buf B W:Int}
theorem abf (h:aP HR w p rs eps buf B W) (j:Nat) (hj:j<40) :
  Calls prog 87 #[BY p,AI (j:Int)] w fun e w'=>(∃ ao,e=.returned (.slice ao (rs.drop (j+1)).length (39-j))/\PR HR w ao (rs.drop (j+1)))/\w'=w:=by
 have HD:ag _:=h.drop (j+1);have LE:ag ((rs.drop (j+1)).length=39-j):=by show _=_;rw [List.length_drop,h.len];omega
 obtain ⟨k,hk⟩:∃ k,j+1=k:=⟨_,rfl⟩;have hp:=h.lt;have wk:IntKind.i64.wrap ((j:Int)+1)=(k:Int):=by rw [IntKind.wrap_i64];omega
 clear h;by_cases q:j=39
 ·subst q
  have ak:ag (PR HR w (some ⟨p,2,none⟩) (rs.drop 40)):=⟨fun h0=>by have h1:(rs.drop 40).length=0:=LE.o;omega,HD.o.runs⟩
  subst hk;clear wk;go_enter func87,ntmps87;go_wp2_with fail;go_ret;exact ⟨⟨_,by rw [LE.o];rfl,ak.o⟩,rfl⟩
 ·have h1:¬ (40:Int)=(k:Int):=by omega
  have h2:(k:Int)<=40:=by omega
  have h3:¬ (40:Nat)=k:=by omega
  have h4:k<=40:=by omega
  have HK:ag _:=hk;clear hk q;go_enter func87,ntmps87;go_wp2_with fail;go_ret;refine ⟨⟨some ⟨p,2+k,none⟩,?_,?_⟩,rfl⟩
  ·rw [LE.o,show 39-j=40-k by have:=HK.o;omega];rfl
  ·have:=HD.o;rw [HK.o] at this ⊢;exact this
def eK (eps buf:Int):Prop:=(2<=eps/\eps<=64)/\1<=buf/\buf<=4294967296
theorem abg (eps buf:Int) (w:World) :
  Calls prog 64 #[AI eps,AI buf] w fun e w'=>((¬ eK eps buf/\e=.returned (.tuple #[.pointer none,AI 1]))\/(eK eps buf/\∃ p,e=.returned (.tuple #[BY p,AI 0])/\w.heap.size<=p/\aP HR w' p (List.replicate 40 none) eps buf 0 0))/\Gw w w':=by
 have NO:(eps<2\/(¬ eps<2/\64<eps)\/(¬ eps<2/\¬ 64<eps/\buf<1)\/(¬ eps<2/\¬ 64<eps/\¬ buf<1/\4294967296<buf))/\¬ eK eps buf\/eK eps buf:=by
  by_cases h:eK eps buf
  ·exact .inr h
  ·refine .inl ⟨?_,h⟩
   unfold eK at h;omega
 rcases NO with ⟨a,b⟩ | a
 ·have BB:ag (¬ eK eps buf):=b
  clear b;rcases a with a | ⟨a,b⟩ | ⟨a,b,c⟩ | ⟨a,b,c,d⟩
  ·have t1:decide (eps<2)=true:=by simpa using a
   clear a;go_enter func64,ntmps64;go_wp2_with fail;go_ret2;exact ⟨.inl ⟨BB.o,rfl⟩,Gw.refl w⟩
  ·have t1:decide (eps<2)=false:=by simpa using a
   have t2:decide (64<eps)=true:=by simpa using b
   clear a b;go_enter func64,ntmps64;go_wp2_with fail;go_ret2;exact ⟨.inl ⟨BB.o,rfl⟩,Gw.refl w⟩
  ·have t1:decide (eps<2)=false:=by simpa using a
   have t2:decide (64<eps)=false:=by simpa using b
   have t3:decide (buf<1)=true:=by simpa using c
   clear a b c;go_enter func64,ntmps64;go_wp2_with fail;go_ret2;exact ⟨.inl ⟨BB.o,rfl⟩,Gw.refl w⟩
  ·have t1:decide (eps<2)=false:=by simpa using a
   have t2:decide (64<eps)=false:=by simpa using b
   have t3:decide (buf<1)=false:=by simpa using c
   have t4:decide (4294967296<buf)=true:=by simpa using d
   clear a b c d;go_enter func64,ntmps64;go_wp2_with fail;go_ret2;exact ⟨.inl ⟨BB.o,rfl⟩,Gw.refl w⟩
 ·have AA:ag (eK eps buf):=a
  obtain ⟨⟨a1,a2⟩,a3,a4⟩:=a;have t1:decide (eps<2)=false:=by simpa using a1
  have t2:decide (64<eps)=false:=by simpa using a2
  have t3:decide (buf<1)=false:=by simpa using a3
  have t4:decide (4294967296<buf)=false:=by simpa using a4
  have HC:ag (aP HR (w.alloc (.cells (gZ eps buf (List.replicate 40 none) 0 0).toArray 118)) w.heap.size (List.replicate 40 none) eps buf 0 0):=⟨heap_alloc_new w _,by simp,fun r hr=>by simp at hr,a1,a2,a3,a4⟩
  clear a1 a2 a3 a4;go_enter func64,ntmps64;go_wp2_with fail;go_ret2;exact ⟨.inr ⟨AA.o,_,rfl,Nat.le_refl _,HC.o⟩,(Gw.refl w).alloc _ _⟩
theorem abh (ao:Option Addr) (c:Nat) (rs:List (Option Rn)) (hl:rs.length<=2000000) (w:World) (h:PR HR w ao rs) :
  Calls prog 114 #[.slice ao rs.length c,.pointer none] w fun e w'=>e=.returned (AI (if free rs<rs.length then (free rs:Int) else -1))/\w'=w:=by
 have HP:ag _:=h;obtain ⟨n,hn⟩:∃ n,rs.length=n:=⟨_,rfl⟩;have LN:ag _:=hn;rw [hn] at hl ⊢;obtain ⟨A,hA⟩:∃ A,(if free rs<n then (free rs:Int) else -1)=A:=⟨_,rfl⟩
 have ak:ag _:=hA;rw [hA];clear h hn hA;go_enter func114,ntmps114;go_wp2_with fail;go_loopg [8] n (fun gg s8 wr=>∃ i:Nat,s8=AI (i:Int)/\i<=n/\n-i<=gg/\wr=w/\ag (∀ j,j<i->∃ r,rs[j]?=some (some r)))
 case atStart=>exact ⟨0,rfl,Nat.zero_le _,by omega,rfl,(show ag _ from fun j hj=>by omega)⟩
 case round =>
  obtain ⟨i,rfl,a1,a2,hw,N⟩:=hrel;subst hw;by_cases ar:i<n
  ·have eZ:(i:Int)<(n:Int):=by omega
   have hi:i<rs.length:=by rw [LN.o];exact ar
   obtain ⟨b,off,rfl,hb,hc⟩:=HP.o.cells (by omega)
   have ci:=hc i hi;have gi:rs[i]?=some (rs.getD i none):=by rw [fs hi];exact List.getElem?_eq_getElem hi
   clear hc;rcases iW rs i with e | ⟨r,e⟩
   ·rw [e] at ci gi
    have fr:free rs=i:=Ox N.o (.inl gi);have e2:A=(i:Int):=by rw [<-ak.o,fr,if_pos ar]
    subst e2;have dq:wr.cell? ⟨b,off+i,none⟩=some (.pointer none):=ci;clear ci e gi fr N ak hi;go_wp2_with fail;go_ret;exact ⟨rfl,rfl⟩
   ·rw [e] at ci gi
    have dq:wr.cell? ⟨b,off+i,none⟩=some (BY (r.p)):=ci;have N':ag (∀ j,j<i+1->∃ r,rs[j]?=some (some r)):=fun j hj=>by
     by_cases x:j=i
     ·subst x;exact ⟨r,gi⟩
     ·exact N.o j (by omega)
    generalize r.p=rp at dq;have hq:∀ W:World,(binOp .eql 39 (.pointer none) (BY rp)).run prog W=.ok (.bool false) W:=fun _=>by kernel_rfl
    clear ci e gi N hi;go_wp2_with fail;go_roundg (n-(i+1))
    case measure=>omega
    case rel=>exact ⟨i+1,by go_num,by omega,Nat.le_refl _,rfl,N'⟩
  ·have ei:i=n:=by omega
   subst ei;have fr:free rs=i:=Ox N.o (.inr LN.o);have e2:A=-1:=by rw [<-ak.o,fr,if_neg (Nat.lt_irrefl _)]
   subst e2;clear fr N ak;go_wp2_with fail;go_ret;exact ⟨rfl,rfl⟩
theorem abi (h:aP HR w p rs eps buf B W) :
  Calls prog 83 #[BY p] w fun e w'=>e=.returned (AI (aZ rs:Nat))/\w'=w:=by
 have IX:ag (Calls prog 114 #[.slice (some ⟨p,2,none⟩) 40 40,.pointer none] w fun e w'=>e=.returned (AI (if free rs<40 then (free rs:Int) else -1))/\w'=w):=by
  have:=abh (some ⟨p,2,none⟩) 40 rs (by rw [h.len];omega) w (h.drop 0)
  rw [h.len] at this;exact this
 have hp:=h.lt;clear h;unfold aZ;generalize free rs=f at IX ⊢;by_cases q:f<40
 ·rw [if_pos q] at IX
  have t:decide ((f:Int)<0)=false:=by simp
  have MM:ag (min f 39=f):=by show _=_;omega
  clear q;go_enter func83,ntmps83;go_wp2_with fail;refine Calls.mono IX.o ?_;rintro e w1 ⟨rfl,rfl⟩;go_wp2_with fail;go_ret;exact ⟨by rw [MM.o];rfl,rfl⟩
 ·rw [if_neg q] at IX
  have MM:ag (min f 39=39):=by show _=_;omega
  clear q;go_enter func83,ntmps83;go_wp2_with fail;refine Calls.mono IX.o ?_;rintro e w1 ⟨rfl,rfl⟩;go_wp2_with fail;go_ret;exact ⟨by rw [MM.o];rfl,rfl⟩
theorem abj (ao:Option Addr) (c:Nat) (l:List ah) (bd:Value) (p:Int->Bool) (hn:l.length<=2000000) (w:World) (h:EL w ao l) (FB:∀ W,Gw w W->∀ q:Int,0<=q->q<18446744073709551616->Calls prog 88 #[bd,By q] W fun e w'=>e=.returned (.bool (p q))/\Gw W w') :
  Calls prog 85 #[.slice ao l.length c,.func (.func 88) #[bd] #[]] w fun e w'=>(∃ bo oc,e=.returned (.slice bo (l.filter (bB p)).length oc)/\EO w' w.heap.size (.slice bo (l.filter (bB p)).length oc) (l.filter (bB p)))/\Gw w w':=by
 have HE:ag (EL w ao l):=h;have LV:ag _:=FB;obtain ⟨n,au⟩:∃ n,l.length=n:=⟨_,rfl⟩;have LN:ag (l.length=n):=au;rw [au] at hn ⊢;clear h au FB;obtain ⟨ii,aQ,hz,hs,aR⟩:=info_parts nK;go_enter func85,ntmps85;go_wp2_with fail;go_loopg [5,10] n (fun gg s5 iB wr=>∃ (i m:Nat) (bo:Option Addr) (oc:Nat),s5=.slice bo m oc/\iB=AI (i:Int)/\i<=n/\n-i<=gg/\m<=i/\ag (((l.take i).filter (bB p)).length=m)/\ag (EO wr w.heap.size (.slice bo m oc) ((l.take i).filter (bB p)))/\ag (Gw w wr))
 case atStart=>exact ⟨0,0,none,0,rfl,rfl,Nat.zero_le _,by omega,Nat.le_refl _,(by show _=_;simp),(by show EO _ _ _ _;rw [List.take_zero];exact World.ownsRow_nil w w.heap.size 75 3),(show ag _ from Gw.refl w)⟩
 case round =>
  obtain ⟨i,m,bo,oc,rfl,rfl,a1,a2,a3,ML,E,G⟩:=hrel;obtain ⟨wS,bj⟩:∃ wx,wx=wr:=⟨_,rfl⟩;subst bj;by_cases ar:i<n
  ·have eZ:(i:Int)<(n:Int):=by omega
   obtain ⟨lb,tV,rfl,eR,cL⟩:=(ES.gw HE.o G.o).cells (by rw [LN.o];omega)
   obtain ⟨c0,c1,c2⟩:=cL i (by rw [LN.o];exact ar)
   have bd:=HE.o.ok (i:=i) (by rw [LN.o];exact ar)
   have TK:ag ((l.take (i+1)).filter (bB p)=(l.take i).filter (bB p)++(if bB p (l.getD i ax)=true then [l.getD i ax] else [])):=by
    show _=_;have e:l.take (i+1)=l.take i++[l.getD i ax]:=by
     rw [List.take_add_one,List.getElem?_eq_getElem (by rw [LN.o];exact ar),List.getD_eq_getElem?_getD,List.getElem?_eq_getElem (by rw [LN.o];exact ar)];rfl
    rw [e,List.filter_append,List.filter_cons];split<;>rfl
   obtain ⟨x,hx⟩:∃ x,l.getD i ax=x:=⟨_,rfl⟩;rw [hx] at c0 c1 c2 TK bd;obtain ⟨xk,xv,xg⟩:=x;obtain ⟨⟨tX,tY⟩,_⟩:=bd;have d0:wS.cell? ⟨lb,tV+i*3,none⟩=some (By xk):=c0;have d1:wS.cell? ⟨lb,tV+i*3+1,none⟩=some (By xv):=c1;have d2:wS.cell? ⟨lb,tV+i*3+2,none⟩=some (.bool xg):=c2;obtain ⟨W1,E1⟩:∃ W1,wS.alloc (.cells #[By xk,By xv,.bool xg] 75)=W1:=⟨_,rfl⟩;have G1:ag (Gw wS W1):=by rw [<-E1];exact (Gw.refl wS).alloc _ _
   have b1:W1.heap[wS.heap.size]?=some (.cells #[By xk,By xv,.bool xg] 75 (0,0)):=by rw [<-E1];exact heap_alloc_new wS _
   have CE:ag (∀ W,Gw W1 W->W.cell? ⟨wS.heap.size,0,none⟩=some (By xk)/\W.cell? ⟨wS.heap.size,1,none⟩=some (By xv)/\W.cell? ⟨wS.heap.size,2,none⟩=some (.bool xg)/\wS.heap.size<W.heap.size/\W.ownsRow w.heap.size 75 3 (.slice bo m oc) m (((l.take i).filter (bB p)).flatMap aO)):=fun W gg=>by
    have hb:=(gg.below.block _ (aC b1)).trans b1;refine ⟨aj hb rfl,aj hb rfl,aj hb rfl,aC hb,?_⟩;have:=nT E.o (G1.o.trans gg);unfold EO at this;rw [ML.o] at this;exact this
   have jq:ag (bB p ⟨xk,xv,xg⟩=false->((l.take (i+1)).filter (bB p))=(l.take i).filter (bB p)):=fun q=>by
    rw [TK.o,if_neg (by rw [q];decide),List.append_nil]
   have jr:ag (bB p ⟨xk,xv,xg⟩=true->((l.take (i+1)).filter (bB p))=(l.take i).filter (bB p)++[⟨xk,xv,xg⟩]):=fun q=>by
    rw [TK.o,if_pos q]
   obtain ⟨kp,E7⟩:∃ kp,p xk=kp:=⟨_,rfl⟩;have KP:ag (bB p ⟨xk,xv,xg⟩=(!xg||kp)):=by show _=_;rw [<-E7];rfl
   have E8:=fun W gg=>LV.o W gg xk tX tY
   rw [E7] at E8;have Ak:ag _:=E8;have OS:ag _:=E1;clear E1;have wz:=G.o.size;have aL:ag (∀ (W:World) (v':Value) (w5:World),Gw W1 W->bB p ⟨xk,xv,xg⟩=true->w5.ownsRow w.heap.size 75 3 v' (m+1) (((l.take i).filter (bB p)).flatMap aO++aO ⟨xk,xv,xg⟩)->(W.alloc (.cells #[By xk,By xv,.bool xg] 75)).grownBy w5 (Value.slice bo m oc).ownBlock->EO w5 w.heap.size v' ((l.take (i+1)).filter (bB p))/\((l.take (i+1)).filter (bB p)).length=m+1/\Gw w w5):=fun W v' w5 gW q r1 r2=>by
    rw [jr.o q];refine ⟨rf (by rw [ML.o];exact r1),by rw [List.length_append,ML.o];rfl,?_⟩
    exact (((G.o.trans G1.o).trans gW).alloc _ _).grown r2 (fun q hq=>(World.ownsRow.lt (CE.o W gW).2.2.2.2 q hq).1)
   clear cL c0 c1 c2 hx TK E8 E7 LV;obtain ⟨k0,k1,k2,k3,OW⟩:=CE.o W1 (Gw.refl _);have Fa:ag _:=OW;clear OW;cases xg with
   | false =>
    go_upto_region 5 with fail;rw [OS.o]
    go_wp2_with (at_builtin;refine wpList_append_own _ rfl _ _ 24 rfl w.heap.size 75 ii (.agg #[By 0,By 0,.bool false]) 3 24 underlying24 aQ hz hs aR rfl (by decide) _ m _ rfl (World.ownsRow.alloc Fa.o _) ⟨W1.heap.size,0,none⟩ 1 1 (aO ⟨xk,xv,false⟩) rfl rfl (pC W1 ⟨xk,xv,false⟩) (mJ _) (by simp only [maxLen];omega) (by omega) (by simp;omega) ?_)
    intro v' w5 r1 r2 r3;obtain ⟨b5,dJ,rfl,fI,_,_⟩:=dh r1 (by simpa using r3)
    obtain ⟨f1,f2,f3⟩:=aL.o W1 _ w5 (Gw.refl _) (by rw [KP.o];rfl) r1 r2
    have E5:ag _:=f1;have M5:ag _:=f2;have G5:ag _:=f3;clear r1 r2 r3 f1 f2 f3 E Fa aL jr jq Ak d0 d1 d2 CE k0 k1 k2;go_wp2_with fail;go_roundg (n-(i+1))
    case measure=>omega
    case rel=>exact ⟨i+1,m+1,_,dJ,rfl,by go_num,by omega,Nat.le_refl _,by omega,M5,E5,G5⟩
   | true =>
    go_upto_region 5 with fail;rw [OS.o]
    go_wp2_with fail;refine Calls.mono (Ak.o _ (G.o.trans G1.o)) ?_
    rintro e w3 ⟨rfl,g3⟩;have G3:ag _:=g3;obtain ⟨j0,j1,j2,j3,OW⟩:=CE.o w3 g3;have Fb:ag _:=OW;have z3:=g3.size;clear g3 OW k0 k1 k2 Fa;cases kp with
    | true =>
     go_wp2_with (at_builtin;refine wpList_append_own _ rfl _ _ 24 rfl w.heap.size 75 ii (.agg #[By 0,By 0,.bool false]) 3 24 underlying24 aQ hz hs aR rfl (by decide) _ m _ rfl (World.ownsRow.alloc Fb.o _) ⟨w3.heap.size,0,none⟩ 1 1 (aO ⟨xk,xv,true⟩) rfl rfl (pC w3 ⟨xk,xv,true⟩) (mJ _) (by simp only [maxLen];omega) (by omega) (by simp;omega) ?_)
     intro v' w5 r1 r2 r3;obtain ⟨b5,dJ,rfl,fI,_,_⟩:=dh r1 (by simpa using r3)
     obtain ⟨f1,f2,f3⟩:=aL.o w3 _ w5 G3.o (by rw [KP.o];rfl) r1 r2
     have E5:ag _:=f1;have M5:ag _:=f2;have G5:ag _:=f3;clear r1 r2 r3 f1 f2 f3 E Fb aL jr jq Ak d0 d1 d2 CE j0 j1 j2;go_wp2_with fail;go_roundg (n-(i+1))
     case measure=>omega
     case rel=>exact ⟨i+1,m+1,_,dJ,rfl,by go_num,by omega,Nat.le_refl _,by omega,M5,E5,G5⟩
    | false =>
     have ST:=jq.o (by rw [KP.o];rfl)
     have E5:ag (EO w3 w.heap.size (.slice bo m oc) ((l.take (i+1)).filter (bB p))):=by rw [ST];exact nT E.o (G1.o.trans G3.o)
     have M5:ag (((l.take (i+1)).filter (bB p)).length=m):=by rw [ST];exact ML.o
     have G5:ag _:=(G.o.trans G1.o).trans G3.o;clear ST aL jr jq Ak CE Fb;go_wp2_with fail;go_roundg (n-(i+1))
     case measure=>omega
     case rel=>exact ⟨i+1,m,bo,oc,rfl,by go_num,by omega,Nat.le_refl _,by omega,M5,E5,G5⟩
  ·have ei:i=n:=by omega
   subst ei;have TT:l.take i=l:=List.take_of_length_le (by rw [LN.o];exact Nat.le_refl _)
   rw [TT] at ML E;have OT:ag _:=ML;have E2:ag (EO wS w.heap.size (.slice bo (l.filter (bB p)).length oc) (l.filter (bB p))):=by
    rw [OT.o];exact E.o
   clear ML E TT LV;go_wp2_with fail;refine bodyPost_ret (v:=.slice bo m oc) (by simp [results,results85,go_sem]) rfl ⟨⟨bo,oc,by rw [OT.o],E2.o⟩,G.o⟩
variable {r:Rn}
theorem abk (H:bJ HR) (bd:Value) (p:Int->Bool) (w:World) (h:RA HR w r) (FB:∀ W,Gw w W->∀ q:Int,0<=q->q<18446744073709551616->Calls prog 88 #[bd,By q] W fun e w'=>e=.returned (.bool (p q))/\Gw W w') :
  Calls prog 105 #[BY (r.p),.func (.func 88) #[bd] #[]] w fun e w'=>e=.returned (.bool (r.l.all (bB p)))/\Gw w w':=by
 have LE:ag _:=H.len h.h;have AT:ag (∀ (W:World) (i:Nat),Gw w W->i<r.l.length->Calls prog 129 #[BY (r.p),AI (i:Int)] W fun e w'=>e=.returned (.tuple #[.agg #[By (r.l.getD i ax).k,By (r.l.getD i ax).v,.bool (r.l.getD i ax).g],AI 0])/\Gw W w'):=fun W i gg hi=>by
  have:=H.at_ (h.gw H.kp gg).h (i:Int) (by omega) (by have:=h.few;omega)
  have e:qV (ek r.l) (ev r.l) (eg r.l) r.l.length (i:Int)=(mC (ek r.l i) (ev r.l i) (eg r.l i),0):=by
   unfold qV;rw [if_pos (by omega)]
   simp
  rw [e] at this;exact this
 have BD:ag (∀ i,i<r.l.length->(r.l.getD i ax).ok):=fun i hi=>by rw [jP hi];exact h.bd _ (List.getElem_mem hi)
 have LV:ag _:=FB;have few:=h.few;clear h H FB;obtain ⟨l,hl⟩:∃ l,r.l=l:=⟨_,rfl⟩;rw [hl] at LE AT BD few ⊢;generalize r.p=rp at LE AT ⊢;clear hl;obtain ⟨n,hn⟩:∃ n,l.length=n:=⟨_,rfl⟩;have LN:ag _:=hn;rw [hn] at LE few;obtain ⟨A,hA⟩:∃ A,l.all (bB p)=A:=⟨_,rfl⟩;have ak:ag _:=hA;rw [hA];clear hn hA;go_enter func105,ntmps105;go_wp2_with fail;refine Calls.mono LE.o ?_;rintro e w1 ⟨rfl,g1⟩;have G1:ag _:=g1;clear g1 LE;go_wp2_with fail;go_loopg [10] n (fun gg iB wr=>∃ i:Nat,iB=AI (i:Int)/\i<=n/\n-i<=gg/\ag (Gw w wr)/\ag ((l.drop i).all (bB p)=A))
 case atStart=>exact ⟨0,rfl,Nat.zero_le _,by omega,G1,ak⟩
 case round =>
  clear G1 ak;obtain ⟨i,rfl,a1,a2,G,N⟩:=hrel;obtain ⟨wS,bj⟩:∃ wx,wx=wr:=⟨_,rfl⟩;subst bj;by_cases ar:i<n
  ·have eZ:(i:Int)<(n:Int):=by omega
   have hl:i<l.length:=by rw [LN.o];exact ar
   have A1:=AT.o wS i G.o hl;have DR:l.drop i=l.getD i ax::l.drop (i+1):=by rw [jP hl,List.drop_eq_getElem_cons hl]
   have NN:=N.o;rw [DR,List.all_cons] at NN;obtain ⟨⟨tX,tY⟩,_⟩:=BD.o i hl;obtain ⟨x,hx⟩:∃ x,l.getD i ax=x:=⟨_,rfl⟩;rw [hx] at A1 NN tX tY;obtain ⟨xk,xv,xg⟩:=x;have AH:ag _:=A1;have LQ:ag (∀ W,Gw w W->Calls prog 88 #[bd,By xk] W fun e w'=>e=.returned (.bool (p xk))/\Gw W w'):=fun W gg=>LV.o W gg xk tX tY
   have NE:ag _:=NN;have KP:ag (bB p ⟨xk,xv,xg⟩=(!xg||p xk)):=rfl
   generalize p xk=kp at LQ KP;clear A1 DR NN tX tY hx N;go_wp2_with fail;refine Calls.mono AH.o ?_;rintro e u1 ⟨rfl,gg⟩;have G2:ag (Gw w (u1.alloc (.cells #[By xk,By xv,.bool xg] 75))):=(G.o.trans gg).alloc _ _;clear gg AH G;cases xg with
   | false =>
    have N':ag ((l.drop (i+1)).all (bB p)=A):=by have:=NE.o;rw [KP.o] at this;exact this
    clear NE KP LQ;go_wp2_with fail;go_roundg (n-(i+1))
    case measure=>omega
    case rel=>exact ⟨i+1,by go_num,by omega,Nat.le_refl _,G2,N'⟩
   | true =>
    go_wp2_with fail;refine Calls.mono (LQ.o _ G2.o) ?_
    rintro e u2 ⟨rfl,gg⟩;have G3:ag _:=G2.o.trans gg;clear gg G2;cases kp with
    | true =>
     have N':ag ((l.drop (i+1)).all (bB p)=A):=by have:=NE.o;rw [KP.o] at this;exact this
     clear NE KP LQ;go_wp2_with fail;go_roundg (n-(i+1))
     case measure=>omega
     case rel=>exact ⟨i+1,by go_num,by omega,Nat.le_refl _,G3,N'⟩
    | false =>
     have e:A=false:=by have:=NE.o;rw [KP.o] at this;exact this.symm
     subst e;clear NE KP LQ;go_wp2_with fail;go_ret;exact ⟨rfl,G3.o⟩
  ·have ei:i=n:=by omega
   subst ei;have e:A=true:=by
    rw [<-N.o,List.drop_of_length_le (by rw [LN.o];exact Nat.le_refl _)]
    rfl
   subst e;clear N;go_wp2_with fail;go_ret;exact ⟨rfl,G.o⟩
variable {w':World}
theorem EL.keep15 {bo:Option Addr} {l:List ah} (h:EL w bo l) (k:∀ a,bo=some a->0<l.length->w'.heap[a.block]?=w.heap[a.block]?):EL w' bo l :=
 ⟨fun h0=>by
  obtain ⟨b,off,e,hb,hc⟩:=h.cells h0;have kb:=k _ e h0;have eP:b<w'.heap.size:=by
   have wo:w'.heap[b]?=w.heap[b]?:=kb;rw [Array.getElem?_eq_getElem hb] at wo;exact (Array.getElem?_eq_some_iff.1 wo).1
  have eq:∀ o,w'.cell? ⟨b,o,none⟩=w.cell? ⟨b,o,none⟩:=fun o=>World.cell?_of_block (a:=⟨b,o,none⟩) kb
  exact ⟨b,off,e,eP,fun i hi=>⟨(eq _).trans (hc i hi).1,(eq _).trans (hc i hi).2.1,(eq _).trans (hc i hi).2.2⟩⟩,h.bd⟩
structure TL (w:World) (ob:Nat) (az:List Value) (L:List (List ah)):Prop where
 len:az.length=L.length
 row:∀ i,i<L.length->∃ bo c,az[i]?=some (.slice bo (L.getD i []).length c)/\(L.getD i []).length<=c/\EL w bo (L.getD i [])/\(bo=none->(L.getD i []).length=0/\c=0)/\∀ a,bo=some a->0<(L.getD i []).length->a.block≠ob/\a.block<w.heap.size
variable {ob:Nat} {az:List Value} {L:List (List ah)}
theorem TL.gw (h:TL w ob az L) (g:Gw w w'):TL w' ob az L :=
 ⟨h.len,fun i hi=>by
  obtain ⟨bo,c,h1,h2,h3,h4,h5⟩:=h.row i hi;exact ⟨bo,c,h1,h2,h3.gw g,h4,fun a e z=>⟨(h5 a e z).1,Nat.lt_of_lt_of_le (h5 a e z).2 g.size⟩⟩⟩
theorem TL.more {w8:World} {o:Obj} {mD:Nat} {l:List ah} {bo:Option Addr} {c:Nat} (h:TL w ob az L) (r2:(w.alloc o).grownBy w8 (some ob)) (o8:mD=ob\/w.heap.size<=mD) (hc:l.length<=c) (el:EL w bo l) (hn:bo=none->l.length=0/\c=0) (ha:∀ a,bo=some a->0<l.length->a.block≠ob/\a.block<w.heap.size):TL w8 mD (az++[.slice bo l.length c]) (L++[l]):=by
 have kp:∀ q,q<w.heap.size->q≠ob->w8.heap[q]?=w.heap[q]?:=fun q hq hn=>(r2.block q (by simp;omega) (fun e=>hn (by cases e;rfl))).trans (heap_alloc_old w _ hq)
 have tZ:∀ q,q<w.heap.size->q≠ob->q<w8.heap.size:=fun q hq hn=>by
  have e:=kp q hq hn;rw [Array.getElem?_eq_getElem hq] at e;exact (Array.getElem?_eq_some_iff.1 e).1
 have mv:∀ (m:List ah) (bb:Option Addr),EL w bb m->(∀ a,bb=some a->0<m.length->a.block≠ob/\a.block<w.heap.size)->EL w8 bb m/\∀ a,bb=some a->0<m.length->a.block≠mD/\a.block<w8.heap.size:=fun m bb e hb =>
  ⟨e.keep15 fun a x z=>kp _ (hb a x z).2 (hb a x z).1,fun a x z=>⟨by
   obtain ⟨q1,q2⟩:=hb a x z;rcases o8 with q | q
   ·rw [q];exact q1
   ·omega,tZ _ (hb a x z).2 (hb a x z).1⟩⟩
 refine ⟨by rw [List.length_append,List.length_append,h.len];rfl,fun i hi=>?_⟩
 by_cases e:i<L.length
 ·obtain ⟨b,c,h1,h2,h3,h4,h5⟩:=h.row i e
  have eg:(L++[l]).getD i []=L.getD i []:=by
   rw [List.getD_eq_getElem?_getD,List.getElem?_append_left e,<-List.getD_eq_getElem?_getD]
  rw [eg];exact ⟨b,c,by rw [List.getElem?_append_left (by rw [h.len];exact e)];exact h1,h2,(mv _ _ h3 h5).1,h4,(mv _ _ h3 h5).2⟩
 ·have ei:i=L.length:=by
   rw [List.length_append] at hi;simp at hi;omega
  subst ei;have eg:(L++[l]).getD L.length []=l:=by simp [List.getD]
  rw [eg];exact ⟨bo,c,by rw [<-h.len];simp,hc,(mv _ _ el ha).1,hn,(mv _ _ el ha).2⟩
theorem TL.ev {base n oc:Nat} (h:TL w ob az L) (o:w.ownsRow base 24 1 (.slice (some ⟨ob,0,none⟩) n oc) n az) (hn:L.length=n):EV w (some ⟨ob,0,none⟩) L :=
 ⟨fun h0=>⟨ob,0,rfl,(o.lt ob rfl).2,fun i hi=>by
  obtain ⟨bo,c,h1,h2,h3,h4,_⟩:=h.row i hi;refine ⟨bo,c,?_,h2,h3,h4⟩;rw [Nat.zero_add,World.ownsRow.cellAt o i (by omega)]
  exact h1⟩⟩
theorem bJ.told (H:bJ HR) (h:RA HR w r) :
  Calls prog 69 #[BY (r.p)] w fun e w'=>(∃ bo c,e=.returned (.slice bo r.l.length c)/\EL w' bo r.l/\r.l.length<=c/\(bo=none->r.l.length=0/\c=0)/\∀ a,bo=some a->w.heap.size<=a.block/\a.block<w'.heap.size)/\Gw w w' :=
 (H.list h.h).mono fun e w' ⟨⟨bo,c,he,er⟩,gg⟩=>by
  refine ⟨⟨bo,c,he,Ep er (fun i hi=>by have:=h.bd _ (List.getElem_mem hi);rw [<-jP hi] at this;exact this),?_⟩,gg⟩
  rcases er.2 with ⟨e,z⟩ | ⟨b,cap,cur,e,hb,hh,hc,_⟩
  ·injection e with e1 e2 e3
   subst e1 e3;exact ⟨by omega,(fun _=>⟨z,rfl⟩),fun a x=>(by cases x)⟩
  ·injection e with e1 e2 e3
   subst e1 e3;exact ⟨hc,(fun x=>by cases x),fun a x=>(by cases x;exact ⟨hb,aC hh⟩)⟩
theorem abl (H:bJ HR) (h:aP HR w p rs eps buf B W) (ao:Option Addr) (c:Nat) (l:List ah) (hl:EL w ao l) (hc:l.length<=c) (hz:ao=none->l.length=0/\c=0) (j:Nat) (hj:j<40) :
  Calls prog 84 #[BY p,.slice ao l.length c,AI (j:Int)] w fun e w'=>(∃ ob m oc,e=.returned (.slice (some ⟨ob,0,none⟩) m oc)/\EV w' (some ⟨ob,0,none⟩) (l::lists (rs.take (j+1)))/\(l::lists (rs.take (j+1))).length=m/\m<=oc/\w.heap.size<=ob)/\Gw w w':=by
 have HC:ag (aP HR w p rs eps buf B W):=h;have HH:ag (bJ HR):=H;obtain ⟨n,hn⟩:∃ n,j+1=n:=⟨_,rfl⟩;have wn:IntKind.i64.wrap ((j:Int)+1)=(n:Int):=by rw [IntKind.wrap_i64];omega
 have n40:n<=40:=by omega
 have af8:(n:Int)<=40:=by omega
 rw [hn];obtain ⟨jj,mF,jz,js,mG⟩:=info_parts On;have R1:ag ((w.alloc (.cells #[.slice ao l.length c] 24)).ownsRow w.heap.size 24 1 (.slice (some ⟨w.heap.size,0,none⟩) 1 1) 1 [.slice ao l.length c]):=⟨rfl,.inr ⟨w.heap.size,1,_,rfl,Nat.le_refl _,heap_alloc_new w _,Nat.le_refl _,(by decide),rfl,rfl⟩⟩
 have K1:ag (TL (w.alloc (.cells #[.slice ao l.length c] 24)) w.heap.size [.slice ao l.length c] (l::lists (rs.take 0))):=by
  refine ⟨rfl,fun i hi=>?_⟩
  have gX:i<1:=hi;have e:i=0:=by omega
  subst e;refine ⟨ao,c,rfl,hc,hl.gw ((Gw.refl w).alloc _ _),hz,fun a e z=>?_⟩
  obtain ⟨b,off,e',hb,_⟩:=hl.cells z;rw [e] at e';cases e';exact ⟨Nat.ne_of_lt hb,Nat.lt_of_lt_of_le hb ((Gw.refl w).alloc _ _).size⟩
 have G1:ag (Gw w (w.alloc (.cells #[.slice ao l.length c] 24))):=(Gw.refl w).alloc _ _;have hp:=h.lt;obtain ⟨ll,wv⟩:∃ ll,l.length=ll:=⟨_,rfl⟩;rw [wv] at R1 K1 G1 ⊢;clear h H hl hc hz hn wv;go_enter func84,ntmps84;go_wp2_with fail;generalize w.alloc (.cells #[.slice ao ll c] 24)=w1 at R1 K1 G1 ⊢;go_loopg [7,19] n (fun gg s7 s19 wr=>∃ (i m ob oc:Nat) (az:List Value),s7=.slice (some ⟨ob,0,none⟩) m oc/\s19=AI (i:Int)/\i<=n/\n-i<=gg/\m<=i+1/\ag ((l::lists (rs.take i)).length=m)/\ag (wr.ownsRow w.heap.size 24 1 (.slice (some ⟨ob,0,none⟩) m oc) m az)/\ag (TL wr ob az (l::lists (rs.take i)))/\ag (Gw w wr))
 case atStart=>exact ⟨0,1,w.heap.size,1,_,rfl,rfl,Nat.zero_le _,by omega,Nat.le_refl _,(by show _=_;rfl),R1,K1,G1⟩
 case round =>
  clear R1 K1 G1;obtain ⟨i,m,ob,oc,az,rfl,rfl,a1,a2,a3,ML,R,KK,G⟩:=hrel;obtain ⟨wS,bj⟩:∃ wx,wx=wr:=⟨_,rfl⟩;subst bj;by_cases ar:i<n
  ·have eZ:(i:Int)<(n:Int):=by omega
   have ci:=(HC.o.gw HH.o.kp G.o).cell (i:=i) (by omega)
   have pl:p<wS.heap.size:=Nat.lt_of_lt_of_le HC.o.lt G.o.size;have TK:=wh (rs:=rs) (i:=i) (by rw [HC.o.len];omega)
   rcases iW rs i with e | ⟨r,e⟩
   ·rw [e] at ci TK
    have dq:wS.cell? ⟨p,2+i,none⟩=some (.pointer none):=ci;have LI:lists (rs.take (i+1))=lists (rs.take i):=by rw [TK,pD];exact List.append_nil _
    have Fc:ag ((l::lists (rs.take (i+1))).length=m):=by rw [LI];exact ML
    have KK':ag (TL wS ob az (l::lists (rs.take (i+1)))):=by rw [LI];exact KK
    clear ci e TK LI ML KK;go_wp2_with fail;go_roundg (n-(i+1))
    case measure=>omega
    case rel=>exact ⟨i+1,m,ob,oc,az,rfl,by go_num,by omega,Nat.le_refl _,by omega,Fc,R,KK',G⟩
   ·rw [e] at ci TK
    have dq:wS.cell? ⟨p,2+i,none⟩=some (BY (r.p)):=ci;have LI:ag (l::lists (rs.take (i+1))=(l::lists (rs.take i))++[r.l]):=by show _=_;rw [TK,pD];rfl
    have LT:ag (Calls prog 69 #[BY (r.p)] wS fun e w'=>(∃ bo c,e=.returned (.slice bo r.l.length c)/\EL w' bo r.l/\r.l.length<=c/\(bo=none->r.l.length=0/\c=0)/\∀ a,bo=some a->wS.heap.size<=a.block/\a.block<w'.heap.size)/\Gw wS w'):=HH.o.told ((HC.o.runs r (jo (by rw [HC.o.len];omega) e)).1.gw HH.o.kp G.o)
    generalize r.p=rp at dq LT;generalize r.l=rl at LI LT;clear ci e TK;go_wp2_with fail;refine Calls.mono LT.o ?_;rintro e u1 ⟨⟨bo,cc,rfl,el,eT,OX,bu⟩,gg⟩;have OY:=(R.o.lt ob rfl).2;have wE:ag (EL u1 bo rl/\rl.length<=cc/\(bo=none->rl.length=0/\cc=0)/\∀ a,bo=some a->0<rl.length->a.block≠ob/\a.block<u1.heap.size):=⟨el,eT,OX,fun a x _=>⟨by have:=(bu a x).1;omega,(bu a x).2⟩⟩
    have R6:ag (u1.ownsRow w.heap.size 24 1 (.slice (some ⟨ob,0,none⟩) m oc) m az):=Oo R.o gg;have K6:ag (TL u1 ob az (l::lists (rs.take i))):=KK.o.gw gg;have G6:ag (Gw w u1):=G.o.trans gg;have wz:=G6.o.size;obtain ⟨rn,rq⟩:∃ rn,rl.length=rn:=⟨_,rfl⟩;have RN:ag (rl.length=rn):=rq;rw [rq];clear gg el eT OX bu R KK LT rq;go_wp2_with (at_builtin;refine wpList_append_own_at _ rfl _ _ 25 rfl w.heap.size 24 jj (.slice none 0 0) 1 24 underlying25 mF jz js mG rfl (by decide) _ m _ rfl (R6.o.alloc _) ⟨u1.heap.size,0,none⟩ 1 1 [(.slice bo rn cc)] rfl rfl (vU u1 (.slice bo rn cc) 24) (fun u hu=>by simp at hu;subst hu;rfl) (by simp only [maxLen];omega) (by omega) (by simp;omega) ?_)
    intro v' w8 r1 r2 r3 r4;obtain ⟨b8,cap8,rfl,nO,_,_⟩:=dh r1 (by simpa using r3)
    have Ek:b8=ob\/u1.heap.size<=b8:=by
     rcases r4 with q | q
     ·have q':b8=ob:=by simpa [Value.ownBlock] using q
      exact .inl q'
     ·have q':b8=u1.heap.size+1:=by simpa [Value.ownBlock] using q
      exact .inr (by omega)
    have mj:(u1.alloc (.cells #[(.slice bo rn cc)] 24)).grownBy w8 (some ob):=r2;have K8:ag (TL w8 b8 (az++[(.slice bo rn cc)]) (l::lists (rs.take (i+1)))):=by
     rw [LI.o];have:=K6.o.more mj Ek wE.o.2.1 wE.o.1 wE.o.2.2.1 wE.o.2.2.2;rw [RN.o] at this;exact this
    have G8:ag (Gw w w8):=(G6.o.alloc _ _).grown r2 (fun q hq=>(World.ownsRow.lt R6.o q hq).1)
    have R8:ag (w8.ownsRow w.heap.size 24 1 (.slice (some ⟨b8,0,none⟩) (m+1) cap8) (m+1) (az++[(.slice bo rn cc)])):=r1;have Fc:ag ((l::lists (rs.take (i+1))).length=m+1):=by show _=_;rw [LI.o,List.length_append,ML.o];rfl
    clear r1 r2 r3 r4 mj nO R6 K6 G6 wE;go_wp2_with fail;go_roundg (n-(i+1))
    case measure=>omega
    case rel=>exact ⟨i+1,m+1,b8,cap8,_,rfl,by go_num,by omega,Nat.le_refl _,by omega,Fc,R8,K8,G8⟩
  ·have ei:i=n:=by omega
   subst ei;have X1:ag (EV wS (some ⟨ob,0,none⟩) (l::lists (rs.take i))):=KK.o.ev R.o ML.o;have moc:m<=oc:=(dh R.o (by simp)).elim fun _ ⟨_,ev,_,h,_⟩=>by cases ev;exact h
   have OY:w.heap.size<=ob:=(R.o.lt ob rfl).1;clear R KK;go_wp2_with fail;go_ret;exact ⟨⟨ob,m,oc,rfl,X1.o,ML.o,moc,OY⟩,G.o⟩
structure HV (w:World) (ao:Option Addr) (L:List (List ah)):Prop where
 cells:0<L.length->∃ b off,ao=some ⟨b,off,none⟩/\b<w.heap.size/\∀ i,i<L.length->∃ bo c,w.cell? ⟨b,off+i,none⟩=some (.slice bo (L.getD i []).length c)
variable {ao:Option Addr}
theorem EV.hv (h:EV w ao L):HV w ao L :=
 ⟨fun h0=>by
  obtain ⟨b,off,e,hb,hc⟩:=h.cells h0;exact ⟨b,off,e,hb,fun i hi=>by obtain ⟨bo,c,c1,_⟩:=hc i hi;exact ⟨bo,c,c1⟩⟩⟩
variable {F:Nat->Prop} {b:Nat}
theorem HV.gx (h:HV w (some ⟨b,0,none⟩) L) (g:Gx F w w') (hb:¬ F b):HV w' (some ⟨b,0,none⟩) L :=
 ⟨fun h0=>by
  obtain ⟨b',off,e,eP,hc⟩:=h.cells h0;cases e;have eq:∀ o,w'.cell? ⟨b,o,none⟩=w.cell? ⟨b,o,none⟩:=fun o=>World.cell?_of_block (a:=⟨b,o,none⟩) (g.block b eP hb)
  exact ⟨b,0,rfl,Nat.lt_of_lt_of_le eP g.size,fun i hi=>by obtain ⟨bo,c,c1⟩:=hc i hi;exact ⟨bo,c,(eq _).trans c1⟩⟩⟩
theorem abm (ao:Option Addr) (c:Nat) (L:List (List ah)) (hL:L.length<=2000000) (hs:aF L<=2000000) (w:World) (h:HV w ao L) :
  Calls prog 90 #[.slice ao L.length c] w fun e w'=>e=.returned (AI (aF L:Nat))/\w'=w:=by
 have HE:ag _:=h;obtain ⟨n,hn⟩:∃ n,L.length=n:=⟨_,rfl⟩;have LN:ag _:=hn;have HS:ag _:=hs;obtain ⟨S,hS⟩:∃ S,aF L=S:=⟨_,rfl⟩;have SS:ag _:=hS;rw [hS];rw [hn] at hL ⊢;clear h hn hs hS;have TOT:ag (∀ i,i<L.length->aF (L.take (i+1))=aF (L.take i)+(L.getD i []).length/\aF (L.take (i+1))<=aF L):=fun i hi=>by
  have e:L.take (i+1)=L.take i++[L.getD i []]:=by
   rw [List.take_add_one,List.getElem?_eq_getElem hi,List.getD_eq_getElem?_getD,List.getElem?_eq_getElem hi];rfl
  have f:aF (L.take (i+1))+aF (L.drop (i+1))=aF L:=by rw [<-nQ,List.take_append_drop]
  refine ⟨by rw [e,nQ];simp [aF],by omega⟩
 go_enter func90,ntmps90;go_wp2_with fail;go_loopg [3,8] n (fun gg s3 s8 wr=>∃ i t:Nat,s3=AI (t:Int)/\s8=AI (i:Int)/\i<=n/\n-i<=gg/\t<=2000000/\ag (aF (L.take i)=t)/\wr=w)
 case atStart=>exact ⟨0,0,rfl,rfl,Nat.zero_le _,by omega,by omega,(by show _=_;rfl),rfl⟩
 case round =>
  obtain ⟨i,t,rfl,rfl,a1,a2,a3,T,hw⟩:=hrel;subst hw;by_cases ar:i<n
  ·have eZ:(i:Int)<(n:Int):=by omega
   have hi:i<L.length:=by rw [LN.o];exact ar
   obtain ⟨b,off,rfl,hb,hc⟩:=HE.o.cells (by omega)
   obtain ⟨bo,cc,c1⟩:=hc i hi;obtain ⟨t1,t2⟩:=TOT.o i hi;rw [T.o] at t1;have t3:=HS.o;obtain ⟨m,hm⟩:∃ m,(L.getD i []).length=m:=⟨_,rfl⟩;rw [hm] at c1 t1;have T':ag _:=t1;have tm:t+m<=2000000:=by omega
   clear hc t1 t2 t3 hm T hi;go_wp2_with fail;go_roundg (n-(i+1))
   case measure=>omega
   case rel=>exact ⟨i+1,t+m,by go_num,by go_num,by omega,Nat.le_refl _,tm,T',rfl⟩
  ·have ei:i=n:=by omega
   subst ei;have e:S=t:=by rw [<-SS.o,<-T.o,List.take_of_length_le (by rw [LN.o];exact Nat.le_refl _)]
   subst e;clear T SS;go_wp2_with fail;go_ret;exact ⟨rfl,rfl⟩
structure eu (rs:List (Option Rn)) (t:Nat):Prop where
 le:t<=rs.length
 no:∀ i,t<=i->rs.getD i none=none
 is:t=0\/∃ r,rs.getD (t-1) none=some r
theorem eu.one {t t':Nat} (h:eu rs t) (h':eu rs t'):t=t':=by
 have key:∀ {a b:Nat},eu rs a->eu rs b->¬ a<b:=fun {a b} ha hb lt=>by
  rcases hb.is with e | ⟨r,e⟩
  ·omega
  ·rw [ha.no (b-1) (by omega)] at e;cases e
 have:=key h h'
 have:=key h' h
 omega
theorem OZ (h:aP HR w p rs eps buf B W) :
  Calls prog 44 #[BY p] w fun e w'=>(∃ t:Nat,e=.returned (.slice (some ⟨p,2,none⟩) t 40)/\eu rs t)/\w'=w:=by
 have HC:ag _:=h;have hp:=h.lt;clear h;go_enter func44,ntmps44;go_wp2_with fail;go_loopg [3] 40 (fun gg s3 wr=>∃ m:Nat,s3=AI (m:Int)/\m<=40/\m<=gg/\wr=w/\ag (∀ i,m<=i->rs.getD i none=none))
 case atStart=>exact ⟨40,rfl,Nat.le_refl _,Nat.le_refl _,rfl,(show ag _ from fun i hi=>by rw [List.getD_eq_getElem?_getD,List.getElem?_eq_none (by rw [HC.o.len];exact hi)];rfl)⟩
 case round =>
  obtain ⟨m,rfl,a1,a2,hw,N⟩:=hrel;subst hw;have aL:ag ((m=0\/∃ r,rs.getD (m-1) none=some r)->eu rs m):=fun x=>⟨by rw [HC.o.len];exact a1,N.o,x⟩
  by_cases q:0<m
  ·obtain ⟨k,hk⟩:∃ k:Nat,m=k+1:=⟨m-1,by omega⟩
   have wm:IntKind.i64.wrap ((m:Int)-1)=(k:Int):=by rw [IntKind.wrap_i64];omega
   have k40:(k:Int)<40:=by omega
   have m40:(m:Int)<=40:=by omega
   have ck:=HC.o.cell (i:=k) (by omega)
   have HK:ag _:=hk;rcases iW rs k with e | ⟨r,e⟩
   ·rw [e] at ck
    have ua:wr.cell? ⟨p,2+k,none⟩=some (.pointer none):=ck;have N':ag (∀ i,k<=i->rs.getD i none=none):=fun i hi=>by
     by_cases x:i=k
     ·rw [x];exact e
     ·exact N.o i (by omega)
    clear ck e N hk aL;go_wp2_with fail;go_roundg k
    case measure=>have:=HK.o;omega
    case rel=>exact ⟨k,rfl,by omega,Nat.le_refl _,rfl,N'⟩
   ·rw [e] at ck
    have ua:wr.cell? ⟨p,2+k,none⟩=some (BY (r.p)):=ck;have RR:ag _:=aL.o (.inr ⟨r,by rw [hk];exact e⟩)
    generalize r.p=rp at ua;clear ck e N hk aL;go_wp2_with fail;go_ret;exact ⟨⟨m,rfl,RR.o⟩,rfl⟩
  ·have m0:m=0:=by omega
   have RR:ag (eu rs 0):=by rw [<-m0];exact aL.o (.inl m0)
   subst m0;clear N q aL;go_wp2_with fail;go_ret;exact ⟨⟨0,rfl,RR.o⟩,rfl⟩
theorem Am:(prog.info? 39).map (fun i=>(i.zero,i.size,i.bytes))=some (some (.pointer none),1,8):=by kernel_rfl
def RO (w:World) (base:Nat) (v:Value) (rs:List (Option Rn)):Prop:=w.ownsRow base 39 1 v rs.length (rs.map ptr)
theorem abn (o:Option Rn):(ptr o).oneCell'=true:=by cases o<;>rfl
theorem O2 (rs:List (Option Rn)):∀ u∈rs.map ptr,u.oneCell'=true:=by
 intro u hu;obtain ⟨o,_,rfl⟩:=List.mem_map.1 hu;exact abn o
theorem PR.news (h:PR HR w ao rs):∀ ad,ao=some ad->∀ j u,(rs.map ptr)[j]?=some u->w.cell? (ad.add j)=some u:=by
 intro ad e j u hu;have hj:j<rs.length:=by
  have:=(List.getElem?_eq_some_iff.1 hu).1
  simpa using this
 obtain ⟨b,off,e',_,hc⟩:=h.cells (by omega)
 rw [e] at e';cases e';rw [Addr.add_lit,hc j hj,fs hj];simpa [hj] using hu
theorem RO.pr {base c:Nat} (h:RO w base (.slice ao rs.length c) rs) (hr:∀ r,some r∈rs->RA HR w r):PR HR w ao rs:=by
 refine ⟨fun h0=>?_,hr⟩
 rcases h.2 with ⟨_,z⟩ | ⟨b,cap,cur,e,hb,hh,r⟩
 ·omega
 ·injection e with e1 e2 e3
  subst e1 e3;refine ⟨b,0,rfl,aC hh,fun i hi=>?_⟩
  have:=World.ownsRow.cellAt h i (by omega)
  rw [Nat.zero_add,this,fs hi];simp [hi]
theorem abo (ad:Addr) (c:Nat) (rs:List (Option Rn)) (hl:rs.length<=2000000) (w:World) (h:PR HR w (some ad) rs) :
  Calls prog 43 #[.slice (some ad) rs.length c] w fun e w'=>(∃ b cp,e=.returned (.slice (some ⟨b,0,none⟩) rs.length cp)/\RO w' w.heap.size (.slice (some ⟨b,0,none⟩) rs.length cp) rs)/\Gw w w':=by
 have O0:ag ((w.alloc (.cells #[] 39)).ownsRow w.heap.size 39 1 (.slice (some ⟨w.heap.size,0,none⟩) 0 0) 0 []):=World.ownsRow_made w #[] 0 (Nat.le_refl _) (Nat.zero_le _) rfl;have NW:ag (∀ x,(some ad:Option Addr)=some x->∀ j u,(rs.map ptr)[j]?=some u->(w.alloc (.cells #[] 39)).cell? (x.add j)=some u):=by
  intro x hx j u hu;have:=h.news x hx j u hu;exact Go.Lib.cell?_alloc_some _ this
 obtain ⟨ii,aQ,hz,hs,aR⟩:=info_parts Am;have hq:∀ W:World,(binOp .eql 105 (.slice (some ad) rs.length c) (.slice none 0 0)).run prog W=.ok (.bool false) W:=fun _=>by kernel_rfl
 have LN:ag ((rs.map ptr).length=rs.length*1):=by show _=_;simp
 clear h;go_enter func43,ntmps43;go_wp2_with (at_builtin;refine uL _ rfl _ _ 105 rfl w.heap.size 39 ii (.pointer none) 1 8 underlying105 aQ hz hs aR rfl (by decide) _ 0 [] rfl O0.o (some ad) rs.length c (rs.map ptr) rfl (fun e=>by cases e) LN.o NW.o (O2 rs) (by unfold maxLen;omega) (by omega) (by simp) ?_)
 intro v' w7 q1 q2 q3;have G7:ag (Gw w w7):=((Gw.refl w).alloc _ _).grown q2 (fun k hk=>by cases hk;exact Nat.le_refl _)
 have R5:w7.ownsRow w.heap.size 39 1 v' rs.length (rs.map ptr):=by simpa using q1
 obtain ⟨b5,dJ,rfl,_,_,_⟩:=dh R5 (by simpa using q3)
 have ak:ag _:=R5;clear q1 q2 q3 R5 aQ hz hs aR;go_wp2_with fail;go_ret;exact ⟨⟨b5,dJ,rfl,ak.o⟩,G7.o⟩
theorem O3 (h:aP HR w p rs eps buf B W) :
  Calls prog 21 #[BY p] w fun e w'=>(∃ (t b c:Nat),e=.returned (.slice (some ⟨b,0,none⟩) t c)/\eu rs t/\RO w' w.heap.size (.slice (some ⟨b,0,none⟩) t c) (rs.take t))/\Gw w w':=by
 have TO:ag _:=OZ h;have CL:ag (∀ t,t<=40->Calls prog 43 #[.slice (some ⟨p,2,none⟩) t 40] w fun e w'=>(∃ b cp,e=.returned (.slice (some ⟨b,0,none⟩) t cp)/\RO w' w.heap.size (.slice (some ⟨b,0,none⟩) t cp) (rs.take t))/\Gw w w'):=fun t ht=>by
  have:=abo ⟨p,2,none⟩ 40 (rs.take t) (by rw [List.length_take];omega) w (h.take t)
  rw [show (rs.take t).length=t by rw [List.length_take,h.len];omega] at this
  exact this
 have Fe:ag _:=h.len;clear h;go_enter func21,ntmps21;go_wp2_with fail;refine Calls.mono TO.o ?_;rintro e w1 ⟨⟨t,rfl,tr⟩,hw⟩;have dR:w=w1:=hw.symm;subst dR;have TR:ag _:=tr;have ht:t<=40:=by have:=tr.le;have:=Fe.o;omega
 clear hw tr;go_wp2_with fail;refine Calls.mono (CL.o t ht) ?_;rintro e w2 ⟨⟨b,cp,rfl,ro⟩,g2⟩;have RR:ag _:=ro;have G2:ag _:=g2;clear ro g2;go_wp2_with fail;go_ret;exact ⟨⟨t,b,cp,rfl,TR.o,RR.o⟩,G2.o⟩
variable {i:Nat}
theorem O4 {j a:Nat} (x:¬ j=i):(if j<i+1 then a else b)=if j<i then a else b:=by
 by_cases y:j<i
 ·rw [if_pos y,if_pos (by omega)]
 ·rw [if_neg y,if_neg (by omega)]
def jt (o:Option Rn):Nat:=match o with
 | some r=>r.l.length
 | none=>0
theorem abp (H:bJ HR) (h:aP HR w p rs eps buf B W) :
  Calls prog 26 #[BY p] w fun e w'=>(∃ (t b:Nat),e=.returned (.slice (some ⟨b,0,none⟩) t t)/\eu rs t/\w'.rowIs b 3 t (fun i=>AI (jt (rs.getD i none):Int))/\w.heap.size<=b)/\Gw w w':=by
 have TO:ag (Calls prog 44 #[BY p] w fun e w'=>(∃ t:Nat,e=.returned (.slice (some ⟨p,2,none⟩) t 40)/\eu rs t)/\w'=w):=OZ h
 have HC:ag (aP HR w p rs eps buf B W):=h;have HH:ag (bJ HR):=H;clear h H;go_enter func26,ntmps26;go_wp2_with fail;refine Calls.mono TO.o ?_;rintro e w1 ⟨⟨t,rfl,tr⟩,hw⟩;have dR:w=w1:=hw.symm;subst dR;have TR:ag (eu rs t):=tr;have ht:t<=40:=by have:=tr.le;have:=HC.o.len;omega
 have mk:=aa2 t (t:Int) rfl (by omega) w
 obtain ⟨bq,aE⟩:∃ b,w.heap.size=b:=⟨_,rfl⟩;have BQ:ag (w.heap.size=bq):=aE;have RW:ag ((w.alloc (.cells (madeCells #[AI 0] t) 3)).rowIs bq 3 t (fun i=>AI ((if i<0 then jt (rs.getD i none) else 0:Nat):Int))):=by
  rw [<-aE];exact (World.rowIs_made w (AI 0) t 3).congr fun i _=>by simp
 have G1:ag (Gw w (w.alloc (.cells (madeCells #[AI 0] t) 3))):=(Gw.refl w).alloc _ _;rw [aE] at mk;clear hw tr aE TO;go_wp2_with fail;generalize w.alloc (.cells (madeCells #[AI 0] t) 3)=w1 at RW G1 ⊢;clear mk;go_loopg [14] t (fun gg ru wr=>∃ i:Nat,ru=AI (i:Int)/\i<=t/\t-i<=gg/\ag (wr.rowIs bq 3 t (fun j=>AI ((if j<i then jt (rs.getD j none) else 0:Nat):Int)))/\ag (Gw w wr))
 case atStart=>exact ⟨0,rfl,Nat.zero_le _,by omega,RW,G1⟩
 case round =>
  clear RW G1;obtain ⟨i,rfl,a1,a2,RW,G⟩:=hrel;obtain ⟨wS,bj⟩:∃ wx,wx=wr:=⟨_,rfl⟩;subst bj;by_cases ar:i<t
  ·have eZ:(i:Int)<(t:Int):=by omega
   have ci:=(HC.o.gw HH.o.kp G.o).cell (i:=i) (by omega)
   have pl:p<wS.heap.size:=Nat.lt_of_lt_of_le HC.o.lt G.o.size;rcases iW rs i with e | ⟨r,e⟩
   ·rw [e] at ci
    have dq:wS.cell? ⟨p,2+i,none⟩=some (.pointer none):=ci;have Ff:ag (wS.rowIs bq 3 t (fun j=>AI ((if j<i+1 then jt (rs.getD j none) else 0:Nat):Int))):=RW.o.congr fun j hj=>by
     by_cases x:j=i
     ·subst x;rw [e];simp [jt]
     ·rw [O4 x]
    clear ci e RW;go_wp2_with fail;go_roundg (t-(i+1))
    case measure=>omega
    case rel=>exact ⟨i+1,by go_num,by omega,Nat.le_refl _,Ff,G⟩
   ·rw [e] at ci
    have dq:wS.cell? ⟨p,2+i,none⟩=some (BY (r.p)):=ci;have LE:ag (Calls prog 8 #[BY (r.p)] wS fun e w'=>e=.returned (AI (r.l.length:Int))/\Gw wS w'):=HH.o.len ((HC.o.runs r (jo (by rw [HC.o.len];omega) e)).1.gw HH.o.kp G.o).h
    have SZ:ag (jt (rs.getD i none)=r.l.length):=by rw [e];rfl
    generalize r.p=rp at dq LE;generalize r.l.length=rn at SZ LE;clear ci e;go_wp2_with fail;refine Calls.mono LE.o ?_;rintro e u1 ⟨rfl,gg⟩;have R1:=RW.o.of_block (gg.below.block bq RW.o.lt);have m0:=R1.cell (i:=i) ar;have z0:=R1.frozen i;have bl:=R1.lt;have Ff:ag ((u1.setCell ⟨bq,i,none⟩ (AI (rn:Int))).rowIs bq 3 t (fun j=>AI ((if j<i+1 then jt (rs.getD j none) else 0:Nat):Int))):=(R1.set i (AI (rn:Int))).congr fun j hj=>by
     by_cases x:j=i
     ·subst x;rw [if_pos rfl,if_pos (Nat.lt_succ_self _),SZ.o]
     ·rw [if_neg x,O4 x]
    have G2:ag (Gw w (u1.setCell ⟨bq,i,none⟩ (AI (rn:Int)))):=(G.o.trans gg).setCell (Nat.le_of_eq BQ.o) _;have w0:(if i<i then jt (rs.getD i none) else 0:Nat)=0:=if_neg (Nat.lt_irrefl _)
    rw [w0] at m0;clear gg LE R1 RW G SZ w0;go_wp2_with fail;go_roundg (t-(i+1))
    case measure=>omega
    case rel=>exact ⟨i+1,by go_num,by omega,Nat.le_refl _,Ff,G2⟩
  ·have ei:i=t:=by omega
   subst ei;have RR:ag (wS.rowIs bq 3 i (fun j=>AI (jt (rs.getD j none):Int))):=RW.o.congr fun j hj=>by rw [if_pos hj]
   clear RW;go_wp2_with fail;go_ret;exact ⟨⟨i,bq,rfl,TR.o,RR.o,Nat.le_of_eq BQ.o⟩,G.o⟩
theorem abq (H:bJ HR) (h:aP HR w p rs eps buf B W) (q:Int) (q0:0<=q) (q1:q<18446744073709551616) :
  Calls prog 50 #[BY p,By q] w fun e w'=>e=.returned (.tuple #[(de (nw q rs)).1,.bool (de (nw q rs)).2])/\Gw w w':=by
 obtain ⟨x,y,z,t,f1,f2,f3⟩:=nV (nw q rs);have NW:ag (∀ W,Gw w W->Calls prog 91 #[.slice (some ⟨p,2,none⟩) 40 40,By q] W fun e w'=>e=.returned (.tuple #[.agg #[By x,By y,.bool z],.bool t])/\Gw W w'):=fun W gg=>by
  have:=OL H (some ⟨p,2,none⟩) 40 rs q q0 q1 (by rw [h.len];omega) W (PR.gw H.kp (h.drop 0) gg)
  rw [f1,h.len] at this;exact this
 have hp:=h.lt;rw [f1];clear f1 f2 f3 h H;go_enter func50,ntmps50;go_wp2_with fail;refine Calls.mono (NW.o _ ((Gw.refl w).alloc _ _)) ?_;rintro e u1 ⟨rfl,gg⟩;have GU:ag (Gw w u1):=((Gw.refl w).alloc _ _).trans gg;have E0:u1.heap[w.heap.size]?=some (.cells #[By 0,By 0,.bool false] 75 (0,0)):=(gg.below.block _ (by simp)).trans (heap_alloc_new _ _)
 obtain ⟨bq,aE⟩:∃ b,w.heap.size=b:=⟨_,rfl⟩;have BQ:ag _:=aE;rw [aE] at E0 ⊢;obtain ⟨m0,m1,m2,z0,z1,z2,bl,TT⟩:=kH E0;have T3:=TT x y z;clear E0 gg NW TT aE;go_wp2_with fail;exact bodyPost_ret (v:=.tuple #[.agg #[By x,By y,.bool z],.bool t]) (by simp [results,results50,go_sem,T3.1,T3.2.1,T3.2.2]) rfl ⟨rfl,((GU.o.setCell (Nat.le_of_eq BQ.o) _).setCell (Nat.le_of_eq BQ.o) _).setCell (Nat.le_of_eq BQ.o) _⟩
theorem abr (h:aP HR w p rs eps buf B W) :
  Calls prog 24 #[BY p] w fun e w'=>e=.returned (AI B)/\w'=w:=by
 have c:=h.c2;have hp:=h.lt;clear h;go_enter func24,ntmps24;go_wp2_with fail;go_ret;exact ⟨rfl,rfl⟩
theorem abt (h:aP HR w p rs eps buf B W) :
  Calls prog 25 #[BY p] w fun e w'=>e=.returned (AI W)/\w'=w:=by
 have c:=h.c3;have hp:=h.lt;clear h;go_enter func25,ntmps25;go_wp2_with fail;go_ret;exact ⟨rfl,rfl⟩
theorem pF {o:Nat} {vs:Array Value} {t:TypeId} (h:w.heap[b]?=some (.cells vs t (0,0))) (u:Value):(w.setCell ⟨b,o,none⟩ u).heap[b]?=some (.cells (vs.setIfInBounds o u) t (0,0)):=by simp [World.setCell,Array.getElem?_modify,h]
section
variable {eps buf B W:Int}
variable {rs:List (Option Rn)}
theorem O7 {j:Nat} (hj:j<rs.length) (o:Option Rn):(gZ eps buf rs B W).toArray.setIfInBounds (2+j) (ptr o)=(gZ eps buf (rs.set j o) B W).toArray:=by
 rw [List.setIfInBounds_toArray];congr 1;have e:2+j=j+1+1:=by omega
 rw [e];show _::_::(rs.map ptr++_).set j (ptr o)=_;rw [List.set_append_left _ _ (by simpa using hj),<-List.map_set]
 rfl
theorem abu (h:rs.length=40) (B':Int):(gZ eps buf rs B W).toArray.setIfInBounds 42 (AI B')=(gZ eps buf rs B' W).toArray:=by
 rw [List.setIfInBounds_toArray];congr 1;show _::_::(rs.map ptr++_).set 40 _=_;rw [List.set_append_right _ _ (by simp [h]),List.length_map,h]
 rfl
theorem abw (h:rs.length=40) (W':Int):(gZ eps buf rs B W).toArray.setIfInBounds 43 (AI W')=(gZ eps buf rs B W').toArray:=by
 rw [List.setIfInBounds_toArray];congr 1;show _::_::(rs.map ptr++_).set 41 _=_;rw [List.set_append_right _ _ (by simp [h]),List.length_map,h]
 rfl
variable {p:Nat}
theorem Fg {t:TypeId}:∀ (r1:List (Option Rn)) (j:Nat) (rs:List (Option Rn)) (w:World),j+r1.length<=rs.length->w.heap[p]?=some (.cells (gZ eps buf rs B W).toArray t (0,0))->(w.setCells p (2+j) (r1.map ptr)).heap[p]?=some (.cells (gZ eps buf (rs.take j++r1++rs.drop (j+r1.length)) B W).toArray t (0,0))
 | [],j,rs,w,_,h=>by simpa [World.setCells] using h
 | a::r1,j,rs,w,hl,h=>by
  have hj:j<rs.length:=by simp at hl;omega
  have h1:=pF (o:=2+j) h (ptr a);rw [O7 hj] at h1;have ih:=Fg r1 (j+1) (rs.set j a) _ (by simp at hl ⊢;omega) h1
  rw [List.map_cons,World.setCells];rw [show 2+j+1=2+(j+1) by omega,ih]
  congr 4
  have e1:(rs.set j a).take (j+1)=rs.take j++[a]:=by
   rw [List.take_add_one,List.take_set_of_le (Nat.le_refl _),List.getElem?_set_self hj];rfl
  have e2:(rs.set j a).drop (j+1+r1.length)=rs.drop (j+(r1.length+1)):=by
   rw [List.drop_set_of_lt (by omega),show j+1+r1.length=j+(r1.length+1) by omega]
  rw [e1,e2];simp
theorem wF:∀ (vs:List Value) (o:Nat) (w:World),Gx (fun q=>q=p) w (w.setCells p o vs)
 | [],_,w=>Gx.refl _ w
 | v::r,o,w=>by
  rw [World.setCells];exact ((Gx.refl (fun q=>q=p) w).set (.inl rfl) o v).trans (wF r (o+1) _) (fun q hq=>.inl hq)
theorem O8 (n:Nat):(List.replicate n (none:Option Rn)).map ptr=List.replicate n (.pointer none):=by simp [ptr]
end
def ju (l:List ah):Int:=if l=[] then 0 else 1
def kI (HR:bQ) (w w':World) (eps:Int) (kept:List ah) (o:Option Rn):Prop :=
 (kept=[]/\o=none)\/(kept≠[]/\∃ r,o=some r/\r.eps=eps/\r.l=kept/\cQ eps (ek kept) kept.length r.L/\(∀ q,r.S q->w.heap.size<=q)/\RA HR w' r)
variable {HR:bQ} {w:World} {p:Nat} {rs:List (Option Rn)} {eps buf B W:Int}
theorem abx (H:bJ HR) (h:aP HR w p rs eps buf B W) (ao:Option Addr) (c:Nat) (kept:List ah) (hk:EL w ao kept) (ok:aW kept) (hc:kept.length<=c) (hz:ao=none->kept.length=0/\c=0) (hn:kept.length<=2000000) (hB:0<=B/\B<4611686018427387904) (hW:0<=W/\W<4611686018427387904) (j:Nat) (hj:j<40) :
  Calls prog 89 #[BY p,.slice ao kept.length c,AI (j:Int)] w fun e w'=>(∃ o,e=.returned (AI 0)/\kI HR w w' eps kept o/\aP HR w' p (List.replicate j none++o::rs.drop (j+1)) eps buf (B+ju kept) (W+kept.length))/\Gx (fun q=>q=p) w w':=by
 have HC:ag _:=h;have HH:ag _:=H;have NW:ag _:=H.new eps ao kept.length c (ek kept) (ev kept) (eg kept) (by have:=h.e0;omega) (by have:=h.e1;omega) hn hc hz w hk
 have OK:ag _:=ok;have BD:ag _:=hk.all;have hp:=h.lt;have c0:=h.c0;obtain ⟨n,Fh⟩:∃ n,kept.length=n:=⟨_,rfl⟩;have KN:ag _:=Fh;rw [Fh] at hn NW ⊢;obtain ⟨k,O9⟩:∃ k,j+1=k:=⟨_,rfl⟩;have JK:ag _:=O9;have wk:IntKind.i64.wrap ((j:Int)+1)=(k:Int):=by rw [IntKind.wrap_i64];omega
 have k40:k<=40:=by omega
 have af9:(k:Int)<=40:=by omega
 have uc:(j:Int)<40:=by omega
 clear h H hk ok hc hz Fh O9;go_enter func89,ntmps89;go_wp2_with fail;refine Calls.mono NW.o ?_;rintro e w1 ⟨⟨E,ne,x⟩,g1⟩;have e0:=HC.o.e0;have e1:=HC.o.e1;have E0:E=0:=by
  rcases ne with ⟨a,_⟩ | ⟨_,b⟩
  ·exact absurd ⟨e0,e1⟩ a
  ·rw [<-KN.o] at b;exact b.one OK.o
 rcases x with ⟨a,_⟩ | ⟨_,rp,S,L,rfl,hS,br,hr⟩
 ·exact absurd E0 a
 have iH:=HC.o.gw HH.o.kp g1;have Fe:=HC.o.len;obtain ⟨W1,lF⟩:∃ W1,w1.setCells p 2 (List.replicate k (.pointer none))=W1:=⟨_,rfl⟩;have zv:∀ w,(zeroValue 39).run prog w=.ok (.pointer none) w:=fun w=>by
  obtain ⟨ii,aQ,qZ,_,_⟩:=info_parts Am;simp [zeroValue,typeInfo,aQ,qZ]
 have mO:∀ ty,(Builtin.clear_ #[37] ty #[.slice (some ⟨p,2,none⟩) k 40]).run prog w1=.ok (.tuple #[]) W1:=fun ty=>by
  rw [<-lF];exact Go.Lib.run_clear_slice w1 37 39 ty (.pointer none) underlying37 zv rfl rfl p 2 k 40 (by have:=JK.o;omega) (fun i hi=>by rw [iH.cell (by omega)];rfl) (fun i _=>bT iH.blk)
 have rv:W1.heap[p]?=some (.cells (gZ eps buf (List.replicate k none++rs.drop k) B W).toArray 118 (0,0)):=by
  have:=Fg (List.replicate k (none:Option Rn)) 0 rs w1 (by simp;omega) iH.blk
  rw [O8] at this;rw [<-lF];simpa using this
 have rz:Gx (fun q=>q=p) w W1:=by
  rw [<-lF];exact (g1.gx _).trans (wF _ _ _) (fun q hq=>.inl hq)
 have O':Gx (fun q=>q=p) w1 W1:=by rw [<-lF];exact wF _ _ _
 have l1:(List.replicate k (none:Option Rn)++rs.drop k).length=40:=by simp;omega
 have R1:∀ r,some r∈rs.drop k->RA HR W1 r/\¬ r.S p:=fun r hr=>by
  obtain ⟨q1,q2⟩:=HC.o.runs r (List.mem_of_mem_drop hr);exact ⟨q1.gx HH.o.kp rz (fun q hq=>by rw [hq];exact q2),q2⟩
 have pS:¬ S p:=fun x=>by have:=hS p x;omega
 have RR:RA HR W1 ⟨rp,S,eps,kept,L⟩:=RA.keep HH.o.kp (w:=w1) ⟨by show HR w1 rp S eps _ _ _ kept.length L;rw [KN.o];exact hr,OK.o,BD.o,by show kept.length<=_;rw [KN.o];exact hn⟩ (fun q hq=>O'.block q (HH.o.lt hr q hq) (fun x=>by rw [x] at hq;exact pS hq))
 have BR:ag _:=br;have SS:ag _:=hS;have Pa:ag _:=R1;have ud:ag (RA HR W1 ⟨rp,S,eps,kept,L⟩/\¬ S p):=⟨RR,pS⟩;have wG:ag _:=rz;have pG:ag _:=rv;have L1:ag _:=l1;have hp1:p<w1.heap.size:=iH.lt;clear ne g1 iH zv rv rz O' l1 R1 pS RR br hS hr lF E0 e0 e1 NW Fe;by_cases n0:n=0
 ·subst n0
  have kn:kept=[]:=List.length_eq_zero_iff.1 KN.o;have HE:ag (aP HR W1 p (List.replicate j none++none::rs.drop (j+1)) eps buf (B+ju kept) (W+(0:Nat))):=by
   have e:List.replicate j (none:Option Rn)++none::rs.drop (j+1)=List.replicate k none++rs.drop k:=by
    rw [<-JK.o,List.replicate_succ',List.append_assoc];rfl
   rw [e,show ju kept=0 from if_pos kn];refine ⟨by simpa using pG.o,L1.o,fun r hr=>?_,HC.o.e0,HC.o.e1,HC.o.b0,HC.o.b1⟩
   rcases List.mem_append.1 hr with q | q
   ·simp at q
   ·exact Pa.o r q
  have KE:ag _:=kn;clear kn;go_wp2_with fail;go_ret;exact ⟨⟨none,rfl,.inl ⟨KE.o,rfl⟩,HE.o⟩,wG.o⟩
 ·have kn:kept≠[]:=fun e=>n0 (by rw [<-KN.o,e];rfl)
  have KE:ag _:=kn;have Pb:0<n:=by omega
  have jl:j<(List.replicate k (none:Option Rn)++rs.drop k).length:=by rw [L1.o];exact hj
  obtain ⟨W2,pH⟩:∃ W2,W1.setCell ⟨p,2+j,none⟩ (BY rp)=W2:=⟨_,rfl⟩;have iU:W2.heap[p]?=some (.cells (gZ eps buf (List.replicate j none++some ⟨rp,S,eps,kept,L⟩::rs.drop (j+1)) B W).toArray 118 (0,0)):=by
   have:=pF (o:=2+j) pG.o (ptr (some ⟨rp,S,eps,kept,L⟩))
   rw [O7 jl] at this;rw [<-pH];have e:(List.replicate k (none:Option Rn)++rs.drop k).set j (some ⟨rp,S,eps,kept,L⟩)=List.replicate j none++some ⟨rp,S,eps,kept,L⟩::rs.drop (j+1):=by
    rw [<-JK.o,List.replicate_succ',List.append_assoc,List.set_append_right _ _ (by simp)]
    simp
   rw [e] at this;exact this
  have l2:(List.replicate j none++some (⟨rp,S,eps,kept,L⟩:Rn)::rs.drop (j+1)).length=40:=by
   have:=L1.o
   rw [<-JK.o] at this;simp at this ⊢;omega
  obtain ⟨W3,ue⟩:∃ W3,W2.setCell ⟨p,42,none⟩ (AI (B+1))=W3:=⟨_,rfl⟩;have nW:W3.heap[p]?=some (.cells (gZ eps buf (List.replicate j none++some ⟨rp,S,eps,kept,L⟩::rs.drop (j+1)) (B+1) W).toArray 118 (0,0)):=by
   have:=pF (o:=42) iU (AI (B+1))
   rw [abu l2] at this;rw [<-ue];exact this
  obtain ⟨W4,Pc⟩:∃ W4,W3.setCell ⟨p,43,none⟩ (AI (W+n))=W4:=⟨_,rfl⟩;have zP:W4.heap[p]?=some (.cells (gZ eps buf (List.replicate j none++some ⟨rp,S,eps,kept,L⟩::rs.drop (j+1)) (B+1) (W+n)).toArray 118 (0,0)):=by
   have:=pF (o:=43) nW (AI (W+n))
   rw [abw l2] at this;rw [<-Pc];exact this
  have m1:=aj pG.o (OQ L1.o hj);have rA:W1.cell? ⟨p,2+j,none⟩=some (.pointer none):=by
   rw [m1,fs jl,List.getElem_append_left (by simp;have:=JK.o;omega),List.getElem_replicate]
   rfl
  have z1:=bT (o:=2+j) pG.o;have m2:=aj iU (Aj l2).1;have z2:=bT (o:=42) iU;have m3:=aj nW (Aj l2).2;have z3:=bT (o:=43) nW;have p1:=aC pG.o;have p2:=aC iU;have p3:=aC nW;have An:Gx (fun q=>q=p) W1 W4:=by
   rw [<-Pc,<-ue,<-pH];exact (((Gx.refl (fun q=>q=p) W1).set (.inl rfl) _ _).set (.inl rfl) _ _).set (.inl rfl) _ _
  have GX4:ag _:=wG.o.trans An (fun q hq=>.inl hq)
  have R4:RA HR W4 ⟨rp,S,eps,kept,L⟩:=ud.o.1.gx HH.o.kp An (fun q hq=>by rw [hq];exact ud.o.2)
  have ak:ag (kI HR w W4 eps kept (some ⟨rp,S,eps,kept,L⟩)):=.inr ⟨KE.o,_,rfl,rfl,rfl,by rw [KN.o];exact BR.o,SS.o,R4⟩
  have HE:ag (aP HR W4 p (List.replicate j none++some ⟨rp,S,eps,kept,L⟩::rs.drop (j+1)) eps buf (B+ju kept) (W+n)):=by
   rw [show ju kept=1 from if_neg kn];refine ⟨zP,l2,fun r hr=>?_,HC.o.e0,HC.o.e1,HC.o.b0,HC.o.b1⟩
   rcases List.mem_append.1 hr with q | q
   ·simp at q
   ·rcases List.mem_cons.1 q with q | q
    ·cases q;exact ⟨R4,ud.o.2⟩
    ·obtain ⟨a,b⟩:=Pa.o r (by rw [<-JK.o];exact q)
     exact ⟨a.gx HH.o.kp An (fun q hq=>by rw [hq];exact b),b⟩
  have wB:IntKind.i64.wrap (B+1)=B+1:=by rw [IntKind.wrap_i64];omega
  have wW:IntKind.i64.wrap (W+(n:Int))=W+n:=by rw [IntKind.wrap_i64];omega
  clear iU nW zP l2 An R4 m1 kn jl;go_wp2_with fail;go_ret;exact ⟨⟨_,rfl,ak.o,HE.o⟩,GX4.o⟩
end Go.Proofs.YtcboobmfnmgldaaGreat
