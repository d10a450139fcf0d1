/- Classes in memory: places of runs, and what is newest among them. -/
import Derived.Lib.SliceRun
import Derived.Test.YtklkpldicbkjeaaGreatVGRef2
import Derived.Test.YtklkpldicbkjeaaGreatVPMem
set_option linter.unusedVariables false
set_option maxHeartbeats 4000000
set_option maxRecDepth 20000
open Go.Proofs.Tryz
namespace Go.Proofs.YtklkpldicbkjeaaGreat
open Go.RowKit
abbrev aV:=World->Nat->(Nat->Prop)->Int->(Nat->Int)->(Nat->Int)->(Nat->Bool)->Nat->List (List Sg)->Prop
structure Kp (HR:aV):Prop where
 keep:∀ {w w':World} {p:Nat} {S:Nat->Prop} {eps:Int} {k v:Nat->Int} {g:Nat->Bool} {n:Nat} {L:List (List Sg)},HR w p S eps k v g n L->(∀ q,S q->w'.heap[q]?=w.heap[q]?)->HR w' p S eps k v g n L
 lt:∀ {w:World} {p:Nat} {S:Nat->Prop} {eps:Int} {k v:Nat->Int} {g:Nat->Bool} {n:Nat} {L:List (List Sg)},HR w p S eps k v g n L->∀ q,S q->q<w.heap.size
theorem cV.kp {HR:aV} (H:cV HR):Kp HR:=⟨H.keep,H.lt⟩
structure RA (HR:aV) (w:World) (r:Rn):Prop where
 h:HR w r.p r.S r.eps (ek r.l) (ev r.l) (eg r.l) r.l.length r.L
 ok:cK r.l
 bd:∀ e∈r.l,e.ok
 few:r.l.length<=2000000
section
variable {HR:aV} {w w':World}
theorem RA.keep (K:Kp HR) {r:Rn} (h:RA HR w r) (k:∀ q,r.S q->w'.heap[q]?=w.heap[q]?):RA HR w' r:=⟨K.keep h.h k,h.ok,h.bd,h.few⟩
theorem RA.gw (K:Kp HR) {r:Rn} (h:RA HR w r) (g:Gw w w'):RA HR w' r:=h.keep K fun q hq=>g.below.block q (K.lt h.h q hq)
theorem RA.gx (K:Kp HR) {F:Nat->Prop} {r:Rn} (h:RA HR w r) (g:Gx F w w') (d:∀ q,F q->¬ r.S q):RA HR w' r:=h.keep K fun q hq=>g.block q (K.lt h.h q hq) (fun x=>d q x hq)
structure PR (HR:aV) (w:World) (ao:Option Addr) (rs:List (Option Rn)):Prop where
 cells:0<rs.length->∃ b off,ao=some ⟨b,off,none⟩/\b<w.heap.size/\∀ i,i<rs.length->w.cell? ⟨b,off+i,none⟩=some (ptr (rs.getD i none))
 runs:∀ r,some r∈rs->RA HR w r
theorem PR.gw (K:Kp HR) {ao:Option Addr} {rs:List (Option Rn)} (h:PR HR w ao rs) (g:Gw w w'):PR HR w' ao rs :=
 ⟨fun h0=>by
  obtain ⟨b,off,e,hb,hc⟩:=h.cells h0;exact ⟨b,off,e,Nat.lt_of_lt_of_le hb g.size,fun i hi=>(g.cell _ _ hb).trans (hc i hi)⟩,fun r hr=>(h.runs r hr).gw K g⟩
theorem dL {rs:List (Option Rn)} {i:Nat} (hi:i<rs.length):rs.getD i none=rs[i]:=by simp [List.getD,hi]
theorem zQ {rs:List (Option Rn)} {i:Nat} (hi:i<rs.length):rs.drop i=rs.getD i none::rs.drop (i+1):=by rw [dL hi,List.drop_eq_getElem_cons hi]
theorem tO {rs:List (Option Rn)} {i:Nat} (hi:i<rs.length):rs.take (i+1)=rs.take i++[rs.getD i none]:=by rw [List.take_add_one,List.getElem?_eq_getElem hi,dL hi];rfl
theorem jN {rs:List (Option Rn)} {i:Nat} {r:Rn} (hi:i<rs.length) (e:rs.getD i none=some r):some r∈rs:=by rw [<-e,dL hi];exact List.getElem_mem hi
theorem iJ (rs:List (Option Rn)) (i:Nat):rs.getD i none=none\/∃ r,rs.getD i none=some r:=by cases rs.getD i none with
 | none=>exact .inl rfl
 | some r=>exact .inr ⟨r,rfl⟩
theorem cV.look (H:cV HR) {r:Rn} (h:RA HR w r) (q:Int) (q0:0<=q) (q1:q<18446744073709551616) :
  Calls prog 70 #[.pointer (some ⟨r.p,0,none⟩),.int .u64 q] w fun e w'=>e=.returned (.tuple #[(dC (Go.Proofs.YtklkpldicbkjeaaGreat.look ah.k q r.l)).1,.bool (dC (Go.Proofs.YtklkpldicbkjeaaGreat.look ah.k q r.l)).2])/\Gw w w':=by
 have:=H.get h.h q q0 q1
 rw [Of h.ok.rise] at this;exact this
theorem ri (o:Option ah):∃ a b c t,dC o=(.agg #[.int .u64 a,.int .u64 b,.bool c],t)/\t=o.isSome/\DZ o=(t&&!c):=by
 cases o with
 | none=>exact ⟨_,_,_,_,rfl,rfl,rfl⟩
 | some e=>exact ⟨_,_,_,_,rfl,rfl,rfl⟩
end
theorem lG {U:World} {b:Nat} {x y:Int} {z:Bool} (h:U.heap[b]?=some (.cells #[.int .u64 x,.int .u64 y,.bool z] 40 (0,0))):U.cell? ⟨b,0,none⟩=some (.int .u64 x)/\U.cell? ⟨b,1,none⟩=some (.int .u64 y)/\U.cell? ⟨b,2,none⟩=some (.bool z)/\U.frozen? ⟨b,0,none⟩=false/\U.frozen? ⟨b,1,none⟩=false/\U.frozen? ⟨b,2,none⟩=false/\b<U.heap.size/\∀ (x' y':Int) (z':Bool),(((U.setCell ⟨b,0,none⟩ (.int .u64 x')).setCell ⟨b,1,none⟩ (.int .u64 y')).setCell ⟨b,2,none⟩ (.bool z')).cell? ⟨b,0,none⟩=some (.int .u64 x')/\(((U.setCell ⟨b,0,none⟩ (.int .u64 x')).setCell ⟨b,1,none⟩ (.int .u64 y')).setCell ⟨b,2,none⟩ (.bool z')).cell? ⟨b,1,none⟩=some (.int .u64 y')/\(((U.setCell ⟨b,0,none⟩ (.int .u64 x')).setCell ⟨b,1,none⟩ (.int .u64 y')).setCell ⟨b,2,none⟩ (.bool z')).cell? ⟨b,2,none⟩=some (.bool z'):=by
 refine ⟨aD h rfl,aD h rfl,aD h rfl,dR h,dR h,dR h,aE h,fun x' y' z'=>?_⟩
 have st:∀ {w:World} {o:Nat} {vs:Array Value} {t:TypeId} (h:w.heap[b]?=some (.cells vs t (0,0))) (u:Value),(w.setCell ⟨b,o,none⟩ u).heap[b]?=some (.cells (vs.setIfInBounds o u) t (0,0)):=fun h u=>by simp [World.setCell,Array.getElem?_modify,h]
 have h3:=st (o:=2) (st (o:=1) (st (o:=0) h (.int .u64 x')) (.int .u64 y')) (.bool z');exact ⟨aD h3 rfl,aD h3 rfl,aD h3 rfl⟩
theorem OG {HR:aV} (H:cV HR) (ao:Option Addr) (c:Nat) (rs:List (Option Rn)) (q:Int) (q0:0<=q) (q1:q<18446744073709551616) (hl:rs.length<=2000000) (w:World) (h:PR HR w ao rs) :
  Calls prog 39 #[.slice ao rs.length c,.int .u64 q] w fun e w'=>e=.returned (.tuple #[(dC (nw q rs)).1,.bool (dC (nw q rs)).2])/\Gw w w':=by
 have HP:ag _:=h;have HH:ag _:=H;obtain ⟨n,hn⟩:∃ n,rs.length=n:=⟨_,rfl⟩;have LN:ag _:=hn;rw [hn] at hl ⊢;obtain ⟨A,hA⟩:∃ A,dC (nw q rs)=A:=⟨_,rfl⟩;have aK:ag _:=hA;rw [hA];clear h H hn hA;obtain ⟨bq,bQ⟩:∃ b,w.heap.size=b:=⟨_,rfl⟩;have BQ:ag _:=bQ;have B0:ag (bA w [(bq,#[.int .u64 0,.int .u64 0,.bool false],40)] (w.alloc (.cells #[.int .u64 0,.int .u64 0,.bool false] 40))):=by rw [<-bQ];exact (bA.nil (Gw.refl w)).add _ _
 clear bQ;go_enter func39,ntmps39;go_wp2_with fail;rw [BQ.o];generalize w.alloc (.cells #[.int .u64 0,.int .u64 0,.bool false] 40)=w1 at B0 ⊢;go_loopg [12] n (fun gg vy wr=>∃ i:Nat,vy=.int .i64 (i:Int)/\i<=n/\n-i<=gg/\ag (bA w [(bq,#[.int .u64 0,.int .u64 0,.bool false],40)] wr)/\ag (dC (nw q (rs.drop i))=A))
 case atStart=>exact ⟨0,rfl,Nat.zero_le _,by omega,B0,(by rw [List.drop_zero];exact aK)⟩
 case round =>
  clear B0 aK;obtain ⟨i,rfl,a1,a2,B,N⟩:=hrel;obtain ⟨wS,aZ⟩:∃ wx,wx=wr:=⟨_,rfl⟩;subst aZ;by_cases ak:i<n
  ·have dG:(i:Int)<(n:Int):=by omega
   obtain ⟨b,off,rfl,hb,hc⟩:=(HP.o.gw HH.o.kp B.o.gw0).cells (by rw [LN.o];omega)
   have ci:=hc i (by rw [LN.o];exact ak)
   have DR:=zQ (rs:=rs) (i:=i) (by rw [LN.o];exact ak)
   clear hc;rcases iJ rs i with e | ⟨r,e⟩
   ·rw [e] at ci DR
    have N':ag (dC (nw q (rs.drop (i+1)))=A):=by have:=N.o;rw [DR,Oh] at this;exact this
    have cu:wS.cell? ⟨b,off+i,none⟩=some (.pointer none):=ci;clear ci e DR N;go_wp2_with fail;go_roundg (n-(i+1))
    case measure=>omega
    case rel=>exact ⟨i+1,by go_num,by omega,Nat.le_refl _,B,N'⟩
   ·rw [e] at ci DR
    have cu:wS.cell? ⟨b,off+i,none⟩=some (.pointer (some ⟨r.p,0,none⟩)):=ci;have RR:=(HP.o.runs r (jN (by rw [LN.o];exact ak) e)).gw HH.o.kp B.o.gw0
    obtain ⟨x,y,z,t,f1,f2,f3⟩:=ri (look ah.k q r.l);have GT:ag (Calls prog 70 #[.pointer (some ⟨r.p,0,none⟩),.int .u64 q] wS fun e w'=>e=.returned (.tuple #[.agg #[.int .u64 x,.int .u64 y,.bool z],.bool t])/\Gw wS w'):=by
     have:=HH.o.look RR q q0 q1
     rw [f1] at this;exact this
    have NR:=N.o;rw [DR,vS] at NR;have NT:ag (t=true->A=(.agg #[.int .u64 x,.int .u64 y,.bool z],true)):=fun h=>by
     rw [f2] at h;cases hk:look ah.k q r.l with
     | none=>rw [hk] at h;cases h
     | some en =>
      rw [<-NR,hk];show dC (some en)=_;rw [<-hk,f1,f2,h]
    have NF:ag (t=false->dC (nw q (rs.drop (i+1)))=A):=fun h=>by
     rw [f2] at h;cases hk:look ah.k q r.l with
     | none=>rw [hk] at NR;exact NR
     | some en=>rw [hk] at h;cases h
    generalize r.p=rp at cu GT;clear ci e DR N RR f1 f2 f3 NR;go_wp2_with fail;refine Calls.mono GT.o ?_;rintro e u1 ⟨rfl,gg⟩;have B1:=(B.o.gw gg).add #[.int .u64 x,.int .u64 y,.bool z] 40;obtain ⟨bx,eV⟩:∃ b,u1.heap.size=b:=⟨_,rfl⟩;have BX:ag _:=eV;rw [eV] at B1;clear gg GT eV;go_upto_region 6 with fail;rw [BX.o];generalize u1.alloc (.cells #[.int .u64 x,.int .u64 y,.bool z] 40)=U at B1 ⊢;have E0:U.heap[bq]?=some (.cells #[.int .u64 0,.int .u64 0,.bool false] 40 (0,0)):=B1.lie (bq,#[.int .u64 0,.int .u64 0,.bool false],40) (by simp)
    have E1:U.heap[bx]?=some (.cells #[.int .u64 x,.int .u64 y,.bool z] 40 (0,0)):=B1.lie (bx,#[.int .u64 x,.int .u64 y,.bool z],40) (by simp)
    have GU:ag _:=B1.gw0;cases t with
    | false =>
     have B2:ag (bA w [(bq,#[.int .u64 0,.int .u64 0,.bool false],40)] U):=⟨B1.gw0,fun x hx=>by rw [List.mem_singleton.1 hx];exact E0⟩
     have N':ag _:=NF.o rfl;clear E0 E1 B1 B NF NT;go_wp2_with fail;go_roundg (n-(i+1))
     case measure=>omega
     case rel=>exact ⟨i+1,by go_num,by omega,Nat.le_refl _,B2,N'⟩
    | true =>
     have e:=NT.o rfl;subst e;obtain ⟨x0,x1,x2,_⟩:=lG E1;obtain ⟨m0,m1,m2,z0,z1,z2,bl,TT⟩:=lG E0;have T3:=TT x y z;clear E0 E1 B1 B NT NF TT;go_wp2_with fail;exact bodyPost_ret (v:=.tuple #[.agg #[.int .u64 x,.int .u64 y,.bool z],.bool true]) (by simp [results,results39,go_sem,T3.1,T3.2.1,T3.2.2]) rfl ⟨rfl,((GU.o.setCell (Nat.le_of_eq BQ.o) _).setCell (Nat.le_of_eq BQ.o) _).setCell (Nat.le_of_eq BQ.o) _⟩
  ·have ei:i=n:=by omega
   subst ei;have e:A=(.agg #[.int .u64 0,.int .u64 0,.bool false],false):=by
    rw [<-N.o,List.drop_of_length_le (by rw [LN.o];exact Nat.le_refl _)]
    rfl
   subst e;have E0:wS.heap[bq]?=some (.cells #[.int .u64 0,.int .u64 0,.bool false] 40 (0,0)):=B.o.lie (bq,#[.int .u64 0,.int .u64 0,.bool false],40) (by simp)
   have GU:ag _:=B.o.gw0;obtain ⟨m0,m1,m2,z0,z1,z2,bl,TT⟩:=lG E0;have T3:=TT 0 0 false;clear E0 B N TT;go_wp2_with fail;exact bodyPost_ret (v:=.tuple #[.agg #[.int .u64 0,.int .u64 0,.bool false],.bool false]) (by simp [results,results39,go_sem,T3.1,T3.2.1,T3.2.2]) rfl ⟨rfl,((GU.o.setCell (Nat.le_of_eq BQ.o) _).setCell (Nat.le_of_eq BQ.o) _).setCell (Nat.le_of_eq BQ.o) _⟩
theorem OH {HR:aV} (H:cV HR) (ao:Option Addr) (c:Nat) (rs:List (Option Rn)) (q:Int) (q0:0<=q) (q1:q<18446744073709551616) (hl:rs.length<=2000000) (w:World) (h:PR HR w ao rs) :
  Calls prog 32 #[.slice ao rs.length c,.int .u64 q] w fun e w'=>e=.returned (.bool (bX rs q))/\Gw w w':=by
 obtain ⟨x,y,z,t,f1,f2,f3⟩:=ri (nw q rs);have NW:ag (Calls prog 39 #[.slice ao rs.length c,.int .u64 q] w fun e w'=>e=.returned (.tuple #[.agg #[.int .u64 x,.int .u64 y,.bool z],.bool t])/\Gw w w'):=by
  have:=OG H ao c rs q q0 q1 hl w h
  rw [f1] at this;exact this
 have LV:bX rs q=(t&&!z):=f3;rw [LV];generalize rs.length=n at NW hl ⊢;clear f1 f2 f3 LV h H;cases t with
 | false =>
  go_enter func32,ntmps32;go_wp2_with fail;refine Calls.mono NW.o ?_;rintro e u1 ⟨rfl,gg⟩;have G1:ag _:=gg;clear gg NW;go_wp2_with fail;go_ret;exact ⟨rfl,G1.o.alloc _ _⟩
 | true =>
  go_enter func32,ntmps32;go_wp2_with fail;refine Calls.mono NW.o ?_;rintro e u1 ⟨rfl,gg⟩;have G1:ag _:=gg;clear gg NW;go_wp2_with fail;go_ret;exact ⟨rfl,G1.o.alloc _ _⟩
def dZ (eps buf:Int) (rs:List (Option Rn)) (B W:Int):List Value:=.int .i64 eps::.int .i64 buf::(rs.map ptr++[.int .i64 B,.int .i64 W])
structure au (HR:aV) (w:World) (p:Nat) (rs:List (Option Rn)) (eps buf B W:Int):Prop where
 blk:w.heap[p]?=some (.cells (dZ eps buf rs B W).toArray 74 (0,0))
 len:rs.length=40
 runs:∀ r,some r∈rs->RA HR w r/\¬ r.S p
 e0:2<=eps
 e1:eps<=64
 b0:1<=buf
 b1:buf<=4294967296
section
variable {HR:aV} {w w':World} {p:Nat} {rs:List (Option Rn)} {eps buf B W:Int}
theorem au.gw (K:Kp HR) (h:au HR w p rs eps buf B W) (g:Gw w w'):au HR w' p rs eps buf B W :=
 ⟨(g.below.block p (aE h.blk)).trans h.blk,h.len,fun r hr=>⟨(h.runs r hr).1.gw K g,(h.runs r hr).2⟩,h.e0,h.e1,h.b0,h.b1⟩
theorem au.gx (K:Kp HR) {F:Nat->Prop} (h:au HR w p rs eps buf B W) (g:Gx F w w') (np:¬ F p) (d:∀ q,F q->∀ r,some r∈rs->¬ r.S q):au HR w' p rs eps buf B W :=
 ⟨(g.block p (aE h.blk) np).trans h.blk,h.len,fun r hr=>⟨(h.runs r hr).1.gx K g (fun q hq=>d q hq r hr),(h.runs r hr).2⟩,h.e0,h.e1,h.b0,h.b1⟩
theorem au.lt (h:au HR w p rs eps buf B W):p<w.heap.size:=aE h.blk
theorem OI {i:Nat} (h:rs.length=40) (hi:i<40):(dZ eps buf rs B W).toArray[2+i]?=some (ptr (rs.getD i none)):=by
 have e:2+i=i+1+1:=by omega
 rw [List.getElem?_toArray,e];show (rs.map ptr++_)[i]?=_;rw [List.getElem?_append_left (by simp;omega),List.getElem?_map,List.getElem?_eq_getElem (by omega),dL (by omega)]
 rfl
theorem zR (h:rs.length=40):(dZ eps buf rs B W).toArray[42]?=some (.int .i64 B)/\(dZ eps buf rs B W).toArray[43]?=some (.int .i64 W):=by
 refine ⟨?_,?_⟩
 ·rw [List.getElem?_toArray]
  show (rs.map ptr++_)[40]?=_;rw [List.getElem?_append_right (by simp [h]),List.length_map,h]
  rfl
 ·rw [List.getElem?_toArray]
  show (rs.map ptr++_)[41]?=_;rw [List.getElem?_append_right (by simp [h]),List.length_map,h]
  rfl
theorem au.c0 (h:au HR w p rs eps buf B W):w.cell? ⟨p,0,none⟩=some (.int .i64 eps):=aD h.blk rfl
theorem au.c1 (h:au HR w p rs eps buf B W):w.cell? ⟨p,1,none⟩=some (.int .i64 buf):=aD h.blk rfl
theorem au.c2 (h:au HR w p rs eps buf B W):w.cell? ⟨p,42,none⟩=some (.int .i64 B):=aD h.blk (zR h.len).1
theorem au.c3 (h:au HR w p rs eps buf B W):w.cell? ⟨p,43,none⟩=some (.int .i64 W):=aD h.blk (zR h.len).2
theorem au.cell (h:au HR w p rs eps buf B W) {i:Nat} (hi:i<40):w.cell? ⟨p,2+i,none⟩=some (ptr (rs.getD i none)):=aD h.blk (OI h.len hi)
theorem au.drop (h:au HR w p rs eps buf B W) (j:Nat):PR HR w (some ⟨p,2+j,none⟩) (rs.drop j) :=
 ⟨fun h0=>⟨p,2+j,rfl,h.lt,fun i hi=>by
  have l:=h.len;rw [List.length_drop] at hi;rw [show 2+j+i=2+(j+i) by omega,h.cell (by omega),dL (by omega),dL (by rw [List.length_drop];omega),List.getElem_drop]⟩,fun r hr=>(h.runs r (List.mem_of_mem_drop hr)).1⟩
theorem au.take (h:au HR w p rs eps buf B W) (j:Nat):PR HR w (some ⟨p,2,none⟩) (rs.take j) :=
 ⟨fun h0=>⟨p,2,rfl,h.lt,fun i hi=>by
  have l:=h.len;rw [List.length_take] at hi;rw [h.cell (by omega),dL (by omega),dL (by rw [List.length_take];omega),List.getElem_take]⟩,fun r hr=>(h.runs r (List.mem_of_mem_take hr)).1⟩
end
theorem abl {HR:aV} {w:World} {p:Nat} {rs:List (Option Rn)} {eps buf B W:Int} (h:au HR w p rs eps buf B W) (j:Nat) (hj:j<40) :
  Calls prog 31 #[.pointer (some ⟨p,0,none⟩),.int .i64 (j:Int)] w fun e w'=>(∃ ao,e=.returned (.slice ao (rs.drop (j+1)).length (39-j))/\PR HR w ao (rs.drop (j+1)))/\w'=w:=by
 have HD:ag _:=h.drop (j+1);have LE:ag ((rs.drop (j+1)).length=39-j):=by show _=_;rw [List.length_drop,h.len];omega
 obtain ⟨k,hk⟩:∃ k,j+1=k:=⟨_,rfl⟩;have hp:=h.lt;have wk:IntKind.i64.wrap ((j:Int)+1)=(k:Int):=by rw [IntKind.wrap_i64];omega
 clear h;by_cases q:j=39
 ·subst q
  have aK:ag (PR HR w (some ⟨p,2,none⟩) (rs.drop 40)):=⟨fun h0=>by have h1:(rs.drop 40).length=0:=LE.o;omega,HD.o.runs⟩
  subst hk;clear wk;go_enter func31,ntmps31;go_wp2_with fail;go_ret;exact ⟨⟨_,by rw [LE.o];rfl,aK.o⟩,rfl⟩
 ·have h1:¬ (40:Int)=(k:Int):=by omega
  have h2:(k:Int)<=40:=by omega
  have h3:¬ (40:Nat)=k:=by omega
  have h4:k<=40:=by omega
  have HK:ag _:=hk;clear hk q;go_enter func31,ntmps31;go_wp2_with fail;go_ret;refine ⟨⟨some ⟨p,2+k,none⟩,?_,?_⟩,rfl⟩
  ·rw [LE.o,show 39-j=40-k by have:=HK.o;omega];rfl
  ·have:=HD.o;rw [HK.o] at this ⊢;exact this
def dM (eps buf:Int):Prop:=(2<=eps/\eps<=64)/\1<=buf/\buf<=4294967296
theorem zS {HR:aV} (eps buf:Int) (w:World) :
  Calls prog 6 #[.int .i64 eps,.int .i64 buf] w fun e w'=>((¬ dM eps buf/\e=.returned (.tuple #[.pointer none,.int .i64 1]))\/(dM eps buf/\∃ p,e=.returned (.tuple #[.pointer (some ⟨p,0,none⟩),.int .i64 0])/\w.heap.size<=p/\au HR w' p (List.replicate 40 none) eps buf 0 0))/\Gw w w':=by
 have NO:(eps<2\/(¬ eps<2/\64<eps)\/(¬ eps<2/\¬ 64<eps/\buf<1)\/(¬ eps<2/\¬ 64<eps/\¬ buf<1/\4294967296<buf))/\¬ dM eps buf\/dM eps buf:=by
  by_cases h:dM eps buf
  ·exact .inr h
  ·refine .inl ⟨?_,h⟩
   unfold dM at h;omega
 rcases NO with ⟨a,b⟩ | a
 ·have BB:ag (¬ dM eps buf):=b
  clear b;rcases a with a | ⟨a,b⟩ | ⟨a,b,c⟩ | ⟨a,b,c,d⟩
  ·have t1:decide (eps<2)=true:=by simpa using a
   clear a;go_enter func6,ntmps6;go_wp2_with fail;go_ret2;exact ⟨.inl ⟨BB.o,rfl⟩,Gw.refl w⟩
  ·have t1:decide (eps<2)=false:=by simpa using a
   have t2:decide (64<eps)=true:=by simpa using b
   clear a b;go_enter func6,ntmps6;go_wp2_with fail;go_ret2;exact ⟨.inl ⟨BB.o,rfl⟩,Gw.refl w⟩
  ·have t1:decide (eps<2)=false:=by simpa using a
   have t2:decide (64<eps)=false:=by simpa using b
   have t3:decide (buf<1)=true:=by simpa using c
   clear a b c;go_enter func6,ntmps6;go_wp2_with fail;go_ret2;exact ⟨.inl ⟨BB.o,rfl⟩,Gw.refl w⟩
  ·have t1:decide (eps<2)=false:=by simpa using a
   have t2:decide (64<eps)=false:=by simpa using b
   have t3:decide (buf<1)=false:=by simpa using c
   have t4:decide (4294967296<buf)=true:=by simpa using d
   clear a b c d;go_enter func6,ntmps6;go_wp2_with fail;go_ret2;exact ⟨.inl ⟨BB.o,rfl⟩,Gw.refl w⟩
 ·have AA:ag (dM eps buf):=a
  obtain ⟨⟨a1,a2⟩,a3,a4⟩:=a;have t1:decide (eps<2)=false:=by simpa using a1
  have t2:decide (64<eps)=false:=by simpa using a2
  have t3:decide (buf<1)=false:=by simpa using a3
  have t4:decide (4294967296<buf)=false:=by simpa using a4
  have HC:ag (au HR (w.alloc (.cells (dZ eps buf (List.replicate 40 none) 0 0).toArray 74)) w.heap.size (List.replicate 40 none) eps buf 0 0):=⟨heap_alloc_new w _,by simp,fun r hr=>by simp at hr,a1,a2,a3,a4⟩
  clear a1 a2 a3 a4;go_enter func6,ntmps6;go_wp2_with fail;go_ret2;exact ⟨.inr ⟨AA.o,_,rfl,Nat.le_refl _,HC.o⟩,(Gw.refl w).alloc _ _⟩
theorem abm {HR:aV} (ao:Option Addr) (c:Nat) (rs:List (Option Rn)) (hl:rs.length<=2000000) (w:World) (h:PR HR w ao rs) :
  Calls prog 64 #[.slice ao rs.length c,.pointer none] w fun e w'=>e=.returned (.int .i64 (if free rs<rs.length then (free rs:Int) else -1))/\w'=w:=by
 have HP:ag _:=h;obtain ⟨n,hn⟩:∃ n,rs.length=n:=⟨_,rfl⟩;have LN:ag _:=hn;rw [hn] at hl ⊢;obtain ⟨A,hA⟩:∃ A,(if free rs<n then (free rs:Int) else -1)=A:=⟨_,rfl⟩
 have aK:ag _:=hA;rw [hA];clear h hn hA;go_enter func64,ntmps64;go_wp2_with fail;go_loopg [8] n (fun gg s8 wr=>∃ i:Nat,s8=.int .i64 (i:Int)/\i<=n/\n-i<=gg/\wr=w/\ag (∀ j,j<i->∃ r,rs[j]?=some (some r)))
 case atStart=>exact ⟨0,rfl,Nat.zero_le _,by omega,rfl,(show ag _ from fun j hj=>by omega)⟩
 case round =>
  obtain ⟨i,rfl,a1,a2,hw,N⟩:=hrel;subst hw;by_cases ak:i<n
  ·have dG:(i:Int)<(n:Int):=by omega
   have hi:i<rs.length:=by rw [LN.o];exact ak
   obtain ⟨b,off,rfl,hb,hc⟩:=HP.o.cells (by omega)
   have ci:=hc i hi;have gi:rs[i]?=some (rs.getD i none):=by rw [dL hi];exact List.getElem?_eq_getElem hi
   clear hc;rcases iJ rs i with e | ⟨r,e⟩
   ·rw [e] at ci gi
    have fr:free rs=i:=D6 N.o (.inl gi);have e2:A=(i:Int):=by rw [<-aK.o,fr,if_pos ak]
    subst e2;have cu:wr.cell? ⟨b,off+i,none⟩=some (.pointer none):=ci;clear ci e gi fr N aK hi;go_wp2_with fail;go_ret;exact ⟨rfl,rfl⟩
   ·rw [e] at ci gi
    have cu:wr.cell? ⟨b,off+i,none⟩=some (.pointer (some ⟨r.p,0,none⟩)):=ci;have N':ag (∀ j,j<i+1->∃ r,rs[j]?=some (some r)):=fun j hj=>by
     by_cases x:j=i
     ·subst x;exact ⟨r,gi⟩
     ·exact N.o j (by omega)
    generalize r.p=rp at cu;have hq:∀ W:World,(binOp .eql 57 (.pointer none) (.pointer (some ⟨rp,0,none⟩))).run prog W=.ok (.bool false) W:=fun _=>by kernel_rfl
    clear ci e gi N hi;go_wp2_with fail;go_roundg (n-(i+1))
    case measure=>omega
    case rel=>exact ⟨i+1,by go_num,by omega,Nat.le_refl _,rfl,N'⟩
  ·have ei:i=n:=by omega
   subst ei;have fr:free rs=i:=D6 N.o (.inr LN.o);have e2:A=-1:=by rw [<-aK.o,fr,if_neg (Nat.lt_irrefl _)]
   subst e2;clear fr N aK;go_wp2_with fail;go_ret;exact ⟨rfl,rfl⟩
theorem abn {HR:aV} {w:World} {p:Nat} {rs:List (Option Rn)} {eps buf B W:Int} (h:au HR w p rs eps buf B W) :
  Calls prog 27 #[.pointer (some ⟨p,0,none⟩)] w fun e w'=>e=.returned (.int .i64 (freeC rs:Nat))/\w'=w:=by
 have IX:ag (Calls prog 64 #[.slice (some ⟨p,2,none⟩) 40 40,.pointer none] w fun e w'=>e=.returned (.int .i64 (if free rs<40 then (free rs:Int) else -1))/\w'=w):=by
  have:=abm (some ⟨p,2,none⟩) 40 rs (by rw [h.len];omega) w (h.drop 0)
  rw [h.len] at this;exact this
 have hp:=h.lt;clear h;unfold freeC;generalize free rs=f at IX ⊢;by_cases q:f<40
 ·rw [if_pos q] at IX
  have t:decide ((f:Int)<0)=false:=by simp
  have MM:ag (min f 39=f):=by show _=_;omega
  clear q;go_enter func27,ntmps27;go_wp2_with fail;refine Calls.mono IX.o ?_;rintro e w1 ⟨rfl,rfl⟩;go_wp2_with fail;go_ret;exact ⟨by rw [MM.o];rfl,rfl⟩
 ·rw [if_neg q] at IX
  have MM:ag (min f 39=39):=by show _=_;omega
  clear q;go_enter func27,ntmps27;go_wp2_with fail;refine Calls.mono IX.o ?_;rintro e w1 ⟨rfl,rfl⟩;go_wp2_with fail;go_ret;exact ⟨by rw [MM.o];rfl,rfl⟩
theorem abo (ao:Option Addr) (c:Nat) (l:List ah) (bd:Value) (p:Int->Bool) (hn:l.length<=2000000) (w:World) (h:EL w ao l) (FB:∀ W,Gw w W->∀ q:Int,0<=q->q<18446744073709551616->Calls prog 32 #[bd,.int .u64 q] W fun e w'=>e=.returned (.bool (p q))/\Gw W w') :
  Calls prog 29 #[.slice ao l.length c,.func (.func 32) #[bd] #[]] w fun e w'=>(∃ bo oc,e=.returned (.slice bo (l.filter (aS p)).length oc)/\EO w' w.heap.size (.slice bo (l.filter (aS p)).length oc) (l.filter (aS p)))/\Gw w w':=by
 have HE:ag (EL w ao l):=h;have LV:ag _:=FB;obtain ⟨n,aA⟩:∃ n,l.length=n:=⟨_,rfl⟩;have LN:ag (l.length=n):=aA;rw [aA] at hn ⊢;clear h aA FB;obtain ⟨ii,aM,hz,hs,aL⟩:=info_parts qN;go_enter func29,ntmps29;go_wp2_with fail;go_loopg [5,10] n (fun gg s5 iV wr=>∃ (i m:Nat) (bo:Option Addr) (oc:Nat),s5=.slice bo m oc/\iV=.int .i64 (i:Int)/\i<=n/\n-i<=gg/\m<=i/\ag (((l.take i).filter (aS p)).length=m)/\ag (EO wr w.heap.size (.slice bo m oc) ((l.take i).filter (aS p)))/\ag (Gw w wr))
 case atStart=>exact ⟨0,0,none,0,rfl,rfl,Nat.zero_le _,by omega,Nat.le_refl _,(by show _=_;simp),(by show EO _ _ _ _;rw [List.take_zero];exact World.ownsRow_nil w w.heap.size 40 3),(show ag _ from Gw.refl w)⟩
 case round =>
  obtain ⟨i,m,bo,oc,rfl,rfl,a1,a2,a3,ML,E,G⟩:=hrel;obtain ⟨wS,aZ⟩:∃ wx,wx=wr:=⟨_,rfl⟩;subst aZ;by_cases ak:i<n
  ·have dG:(i:Int)<(n:Int):=by omega
   obtain ⟨lb,ku,rfl,fs,bP⟩:=(ES.gw HE.o G.o).cells (by rw [LN.o];omega)
   obtain ⟨c0,c1,c2⟩:=bP i (by rw [LN.o];exact ak)
   have bd:=HE.o.ok (i:=i) (by rw [LN.o];exact ak)
   have TK:ag ((l.take (i+1)).filter (aS p)=(l.take i).filter (aS p)++(if aS p (l.getD i aF)=true then [l.getD i aF] else [])):=by
    show _=_;have e:l.take (i+1)=l.take i++[l.getD i aF]:=by
     rw [List.take_add_one,List.getElem?_eq_getElem (by rw [LN.o];exact ak),List.getD_eq_getElem?_getD,List.getElem?_eq_getElem (by rw [LN.o];exact ak)];rfl
    rw [e,List.filter_append,List.filter_cons];split<;>rfl
   obtain ⟨x,hx⟩:∃ x,l.getD i aF=x:=⟨_,rfl⟩;rw [hx] at c0 c1 c2 TK bd;obtain ⟨xk,xv,xg⟩:=x;obtain ⟨⟨vU,vV⟩,_⟩:=bd;have d0:wS.cell? ⟨lb,ku+i*3,none⟩=some (.int .u64 xk):=c0;have d1:wS.cell? ⟨lb,ku+i*3+1,none⟩=some (.int .u64 xv):=c1;have d2:wS.cell? ⟨lb,ku+i*3+2,none⟩=some (.bool xg):=c2;obtain ⟨W1,E1⟩:∃ W1,wS.alloc (.cells #[.int .u64 xk,.int .u64 xv,.bool xg] 40)=W1:=⟨_,rfl⟩;have G1:ag (Gw wS W1):=by rw [<-E1];exact (Gw.refl wS).alloc _ _
   have b1:W1.heap[wS.heap.size]?=some (.cells #[.int .u64 xk,.int .u64 xv,.bool xg] 40 (0,0)):=by rw [<-E1];exact heap_alloc_new wS _
   have CE:ag (∀ W,Gw W1 W->W.cell? ⟨wS.heap.size,0,none⟩=some (.int .u64 xk)/\W.cell? ⟨wS.heap.size,1,none⟩=some (.int .u64 xv)/\W.cell? ⟨wS.heap.size,2,none⟩=some (.bool xg)/\wS.heap.size<W.heap.size/\W.ownsRow w.heap.size 40 3 (.slice bo m oc) m (((l.take i).filter (aS p)).flatMap bB)):=fun W gg=>by
    have hb:=(gg.below.block _ (aE b1)).trans b1;refine ⟨aD hb rfl,aD hb rfl,aD hb rfl,aE hb,?_⟩;have:=vI E.o (G1.o.trans gg);unfold EO at this;rw [ML.o] at this;exact this
   have fJ:ag (aS p ⟨xk,xv,xg⟩=false->((l.take (i+1)).filter (aS p))=(l.take i).filter (aS p)):=fun q=>by
    rw [TK.o,if_neg (by rw [q];decide),List.append_nil]
   have nW:ag (aS p ⟨xk,xv,xg⟩=true->((l.take (i+1)).filter (aS p))=(l.take i).filter (aS p)++[⟨xk,xv,xg⟩]):=fun q=>by
    rw [TK.o,if_pos q]
   obtain ⟨kp,qV⟩:∃ kp,p xk=kp:=⟨_,rfl⟩;have KP:ag (aS p ⟨xk,xv,xg⟩=(!xg||kp)):=by show _=_;rw [<-qV];rfl
   have qW:=fun W gg=>LV.o W gg xk vU vV
   rw [qV] at qW;have nX:ag _:=qW;have OJ:ag _:=E1;clear E1;have wz:=G.o.size;have aJ:ag (∀ (W:World) (v':Value) (w5:World),Gw W1 W->aS p ⟨xk,xv,xg⟩=true->w5.ownsRow w.heap.size 40 3 v' (m+1) (((l.take i).filter (aS p)).flatMap bB++bB ⟨xk,xv,xg⟩)->(W.alloc (.cells #[.int .u64 xk,.int .u64 xv,.bool xg] 40)).grownBy w5 (Value.slice bo m oc).ownBlock->EO w5 w.heap.size v' ((l.take (i+1)).filter (aS p))/\((l.take (i+1)).filter (aS p)).length=m+1/\Gw w w5):=fun W v' w5 gW q r1 r2=>by
    rw [nW.o q];refine ⟨zF (by rw [ML.o];exact r1),by rw [List.length_append,ML.o];rfl,?_⟩
    exact (((G.o.trans G1.o).trans gW).alloc _ _).grown r2 (fun q hq=>(World.ownsRow.lt (CE.o W gW).2.2.2.2 q hq).1)
   clear bP c0 c1 c2 hx TK qW qV LV;obtain ⟨k0,k1,k2,k3,OW⟩:=CE.o W1 (Gw.refl _);have Eh:ag _:=OW;clear OW;cases xg with
   | false =>
    go_upto_region 5 with fail;rw [OJ.o]
    go_wp2_with (at_builtin;refine wpList_append_own _ rfl _ _ 35 rfl w.heap.size 40 ii (.agg #[.int .u64 0,.int .u64 0,.bool false]) 3 24 underlying35 aM hz hs aL rfl (by decide) _ m _ rfl (World.ownsRow.alloc Eh.o _) ⟨W1.heap.size,0,none⟩ 1 1 (bB ⟨xk,xv,false⟩) rfl rfl (tI W1 ⟨xk,xv,false⟩) (qU _) (by simp only [maxLen];omega) (by omega) (by simp;omega) ?_)
    intro v' w5 r1 r2 r3;obtain ⟨b5,dw,rfl,dH,_,_⟩:=cS r1 (by simpa using r3)
    obtain ⟨f1,f2,f3⟩:=aJ.o W1 _ w5 (Gw.refl _) (by rw [KP.o];rfl) r1 r2
    have E5:ag _:=f1;have M5:ag _:=f2;have G5:ag _:=f3;clear r1 r2 r3 f1 f2 f3 E Eh aJ nW fJ nX d0 d1 d2 CE k0 k1 k2;go_wp2_with fail;go_roundg (n-(i+1))
    case measure=>omega
    case rel=>exact ⟨i+1,m+1,_,dw,rfl,by go_num,by omega,Nat.le_refl _,by omega,M5,E5,G5⟩
   | true =>
    go_upto_region 5 with fail;rw [OJ.o]
    go_wp2_with fail;refine Calls.mono (nX.o _ (G.o.trans G1.o)) ?_
    rintro e w3 ⟨rfl,g3⟩;have G3:ag _:=g3;obtain ⟨j0,j1,j2,j3,OW⟩:=CE.o w3 g3;have Ei:ag _:=OW;have z3:=g3.size;clear g3 OW k0 k1 k2 Eh;cases kp with
    | true =>
     go_wp2_with (at_builtin;refine wpList_append_own _ rfl _ _ 35 rfl w.heap.size 40 ii (.agg #[.int .u64 0,.int .u64 0,.bool false]) 3 24 underlying35 aM hz hs aL rfl (by decide) _ m _ rfl (World.ownsRow.alloc Ei.o _) ⟨w3.heap.size,0,none⟩ 1 1 (bB ⟨xk,xv,true⟩) rfl rfl (tI w3 ⟨xk,xv,true⟩) (qU _) (by simp only [maxLen];omega) (by omega) (by simp;omega) ?_)
     intro v' w5 r1 r2 r3;obtain ⟨b5,dw,rfl,dH,_,_⟩:=cS r1 (by simpa using r3)
     obtain ⟨f1,f2,f3⟩:=aJ.o w3 _ w5 G3.o (by rw [KP.o];rfl) r1 r2
     have E5:ag _:=f1;have M5:ag _:=f2;have G5:ag _:=f3;clear r1 r2 r3 f1 f2 f3 E Ei aJ nW fJ nX d0 d1 d2 CE j0 j1 j2;go_wp2_with fail;go_roundg (n-(i+1))
     case measure=>omega
     case rel=>exact ⟨i+1,m+1,_,dw,rfl,by go_num,by omega,Nat.le_refl _,by omega,M5,E5,G5⟩
    | false =>
     have ST:=fJ.o (by rw [KP.o];rfl)
     have E5:ag (EO w3 w.heap.size (.slice bo m oc) ((l.take (i+1)).filter (aS p))):=by rw [ST];exact vI E.o (G1.o.trans G3.o)
     have M5:ag (((l.take (i+1)).filter (aS p)).length=m):=by rw [ST];exact ML.o
     have G5:ag _:=(G.o.trans G1.o).trans G3.o;clear ST aJ nW fJ nX CE Ei;go_wp2_with fail;go_roundg (n-(i+1))
     case measure=>omega
     case rel=>exact ⟨i+1,m,bo,oc,rfl,by go_num,by omega,Nat.le_refl _,by omega,M5,E5,G5⟩
  ·have ei:i=n:=by omega
   subst ei;have TT:l.take i=l:=List.take_of_length_le (by rw [LN.o];exact Nat.le_refl _)
   rw [TT] at ML E;have vK:ag _:=ML;have E2:ag (EO wS w.heap.size (.slice bo (l.filter (aS p)).length oc) (l.filter (aS p))):=by
    rw [vK.o];exact E.o
   clear ML E TT LV;go_wp2_with fail;refine bodyPost_ret (v:=.slice bo m oc) (by simp [results,results29,go_sem]) rfl ⟨⟨bo,oc,by rw [vK.o],E2.o⟩,G.o⟩
theorem abp {HR:aV} (H:cV HR) {r:Rn} (bd:Value) (p:Int->Bool) (w:World) (h:RA HR w r) (FB:∀ W,Gw w W->∀ q:Int,0<=q->q<18446744073709551616->Calls prog 32 #[bd,.int .u64 q] W fun e w'=>e=.returned (.bool (p q))/\Gw W w') :
  Calls prog 73 #[.pointer (some ⟨r.p,0,none⟩),.func (.func 32) #[bd] #[]] w fun e w'=>e=.returned (.bool (r.l.all (aS p)))/\Gw w w':=by
 have LE:ag _:=H.len h.h;have AT:ag (∀ (W:World) (i:Nat),Gw w W->i<r.l.length->Calls prog 93 #[.pointer (some ⟨r.p,0,none⟩),.int .i64 (i:Int)] W fun e w'=>e=.returned (.tuple #[.agg #[.int .u64 (r.l.getD i aF).k,.int .u64 (r.l.getD i aF).v,.bool (r.l.getD i aF).g],.int .i64 0])/\Gw W w'):=fun W i gg hi=>by
  have:=H.at_ (h.gw H.kp gg).h (i:Int) (by omega) (by have:=h.few;omega)
  have e:qO (ek r.l) (ev r.l) (eg r.l) r.l.length (i:Int)=(mx (ek r.l i) (ev r.l i) (eg r.l i),0):=by
   unfold qO;rw [if_pos (by omega)]
   simp
  rw [e] at this;exact this
 have BD:ag (∀ i,i<r.l.length->(r.l.getD i aF).ok):=fun i hi=>by rw [mD hi];exact h.bd _ (List.getElem_mem hi)
 have LV:ag _:=FB;have few:=h.few;clear h H FB;obtain ⟨l,hl⟩:∃ l,r.l=l:=⟨_,rfl⟩;rw [hl] at LE AT BD few ⊢;generalize r.p=rp at LE AT ⊢;clear hl;obtain ⟨n,hn⟩:∃ n,l.length=n:=⟨_,rfl⟩;have LN:ag _:=hn;rw [hn] at LE few;obtain ⟨A,hA⟩:∃ A,l.all (aS p)=A:=⟨_,rfl⟩;have aK:ag _:=hA;rw [hA];clear hn hA;go_enter func73,ntmps73;go_wp2_with fail;refine Calls.mono LE.o ?_;rintro e w1 ⟨rfl,g1⟩;have G1:ag _:=g1;clear g1 LE;go_wp2_with fail;go_loopg [10] n (fun gg iV wr=>∃ i:Nat,iV=.int .i64 (i:Int)/\i<=n/\n-i<=gg/\ag (Gw w wr)/\ag ((l.drop i).all (aS p)=A))
 case atStart=>exact ⟨0,rfl,Nat.zero_le _,by omega,G1,aK⟩
 case round =>
  clear G1 aK;obtain ⟨i,rfl,a1,a2,G,N⟩:=hrel;obtain ⟨wS,aZ⟩:∃ wx,wx=wr:=⟨_,rfl⟩;subst aZ;by_cases ak:i<n
  ·have dG:(i:Int)<(n:Int):=by omega
   have hl:i<l.length:=by rw [LN.o];exact ak
   have A1:=AT.o wS i G.o hl;have DR:l.drop i=l.getD i aF::l.drop (i+1):=by rw [mD hl,List.drop_eq_getElem_cons hl]
   have NN:=N.o;rw [DR,List.all_cons] at NN;obtain ⟨⟨vU,vV⟩,_⟩:=BD.o i hl;obtain ⟨x,hx⟩:∃ x,l.getD i aF=x:=⟨_,rfl⟩;rw [hx] at A1 NN vU vV;obtain ⟨xk,xv,xg⟩:=x;have AH:ag _:=A1;have LQ:ag (∀ W,Gw w W->Calls prog 32 #[bd,.int .u64 xk] W fun e w'=>e=.returned (.bool (p xk))/\Gw W w'):=fun W gg=>LV.o W gg xk vU vV
   have NE:ag _:=NN;have KP:ag (aS p ⟨xk,xv,xg⟩=(!xg||p xk)):=rfl
   generalize p xk=kp at LQ KP;clear A1 DR NN vU vV hx N;go_wp2_with fail;refine Calls.mono AH.o ?_;rintro e u1 ⟨rfl,gg⟩;have G2:ag (Gw w (u1.alloc (.cells #[.int .u64 xk,.int .u64 xv,.bool xg] 40))):=(G.o.trans gg).alloc _ _;clear gg AH G;cases xg with
   | false =>
    have N':ag ((l.drop (i+1)).all (aS p)=A):=by have:=NE.o;rw [KP.o] at this;exact this
    clear NE KP LQ;go_wp2_with fail;go_roundg (n-(i+1))
    case measure=>omega
    case rel=>exact ⟨i+1,by go_num,by omega,Nat.le_refl _,G2,N'⟩
   | true =>
    go_wp2_with fail;refine Calls.mono (LQ.o _ G2.o) ?_
    rintro e u2 ⟨rfl,gg⟩;have G3:ag _:=G2.o.trans gg;clear gg G2;cases kp with
    | true =>
     have N':ag ((l.drop (i+1)).all (aS p)=A):=by have:=NE.o;rw [KP.o] at this;exact this
     clear NE KP LQ;go_wp2_with fail;go_roundg (n-(i+1))
     case measure=>omega
     case rel=>exact ⟨i+1,by go_num,by omega,Nat.le_refl _,G3,N'⟩
    | false =>
     have e:A=false:=by have:=NE.o;rw [KP.o] at this;exact this.symm
     subst e;clear NE KP LQ;go_wp2_with fail;go_ret;exact ⟨rfl,G3.o⟩
  ·have ei:i=n:=by omega
   subst ei;have e:A=true:=by
    rw [<-N.o,List.drop_of_length_le (by rw [LN.o];exact Nat.le_refl _)]
    rfl
   subst e;clear N;go_wp2_with fail;go_ret;exact ⟨rfl,G.o⟩
end Go.Proofs.YtklkpldicbkjeaaGreat
