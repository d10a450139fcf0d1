import Derived.Test.YtaemofgeciklkaaGreatEUPlain
import Derived.Test.YtaemofgeciklkaaGreatEPMem
set_option linter.unusedVariables false
set_option maxHeartbeats 4000000
set_option maxRecDepth 20000
open Go.Proofs.Tryz
namespace Go.Proofs.YtaemofgeciklkaaGreat
open Go.RowKit
abbrev bH:=World->Nat->(Nat->Prop)->Int->(Nat->Int)->(Nat->Int)->(Nat->Bool)->Nat->List (List Sg)->Prop
structure Kp (HR:bH):Prop where
 keep:∀ {w w':World} {p:Nat} {S:Nat->Prop} {eps:Int} {k v:Nat->Int} {g:Nat->Bool} {n:Nat} {L:List (List Sg)},HR w p S eps k v g n L->(∀ q,S q->w'.heap[q]?=w.heap[q]?)->HR w' p S eps k v g n L
 lt:∀ {w:World} {p:Nat} {S:Nat->Prop} {eps:Int} {k v:Nat->Int} {g:Nat->Bool} {n:Nat} {L:List (List Sg)},HR w p S eps k v g n L->∀ q,S q->q<w.heap.size
variable {HR:bH}
theorem bj.kp (H:bj HR):Kp HR:=⟨H.keep,H.lt⟩
structure RA (HR:bH) (w:World) (r:Rn):Prop where
 h:HR w r.p r.S r.eps (ek r.l) (ev r.l) (eg r.l) r.l.length r.L
 ok:aR r.l
 bd:∀ e∈r.l,e.ok
 few:r.l.length<=2000000
section
variable {HR:bH} {w w':World}
variable {r:Rn}
theorem RA.keep (K:Kp HR) (h:RA HR w r) (k:∀ q,r.S q->w'.heap[q]?=w.heap[q]?):RA HR w' r:=⟨K.keep h.h k,h.ok,h.bd,h.few⟩
theorem RA.gw (K:Kp HR) (h:RA HR w r) (g:Gw w w'):RA HR w' r:=h.keep K fun q hq=>g.below.block q (K.lt h.h q hq)
variable {F:Nat->Prop}
theorem RA.gx (K:Kp HR) (h:RA HR w r) (g:Gx F w w') (d:∀ q,F q->¬ r.S q):RA HR w' r:=h.keep K fun q hq=>g.block q (K.lt h.h q hq) (fun x=>d q x hq)
structure PR (HR:bH) (w:World) (ao:Option Addr) (rs:List (Option Rn)):Prop where
 cells:0<rs.length->∃ b off,ao=some (φ b off)/\b<w.heap.size/\∀ i,i<rs.length->w.cell? (φ b (off+i))=some (ptr (rs.getD i none))
 runs:∀ r,some r∈rs->RA HR w r
variable {ao:Option Addr} {rs:List (Option Rn)}
theorem PR.gw (K:Kp HR) (h:PR HR w ao rs) (g:Gw w w'):PR HR w' ao rs :=
 ⟨fun h0=>by
  obtain ⟨b,off,e,hb,hc⟩:=h.cells h0;exact ⟨b,off,e,Θ hb g.size,fun i hi=>(g.cell _ _ hb).trans (hc i hi)⟩,fun r hr=>(h.runs r hr).gw K g⟩
variable {i:Nat}
theorem fI (hi:i<rs.length):rs.getD i none=rs[i]:=by simp [List.getD,hi]
theorem rJ (hi:i<rs.length):rs.drop i=rs.getD i none::rs.drop (i+1):=by rw [fI hi,List.drop_eq_getElem_cons hi]
theorem vW (hi:i<rs.length):rs.take (i+1)=rs.take i++[rs.getD i none]:=by rw [qaW,qah hi,fI hi];rfl
theorem kG (hi:i<rs.length) (e:rs.getD i none=some r):some r∈rs:=by rw [<-e,fI hi];exact qaz hi
theorem jk (rs:List (Option Rn)) (i:Nat):rs.getD i none=none\/∃ r,rs.getD i none=some r:=by cases rs.getD i none with
 | none=>exact .inl rfl
 | some r=>exact .inr ⟨r,rfl⟩
theorem bj.look (H:bj HR) (h:RA HR w r) (q:Int) (q0:0<=q) (q1:q<18446744073709551616) :
  Calls prog 119 #[IS (r.p),BY q] w fun e w'=>e=π #[(dE (Go.Proofs.YtaemofgeciklkaaGreat.look ah.k q r.l)).1,.bool (dE (Go.Proofs.YtaemofgeciklkaaGreat.look ah.k q r.l)).2]/\Gw w w':=by
 have:=H.get h.h q q0 q1
 rw [Rh h.ok.rise] at this;exact this
theorem pV (o:Option ah):∃ a b c t,dE o=(.agg #[BY a,BY b,.bool c],t)/\t=o.isSome/\iK o=(t&&!c):=by
 cases o with
 | none=>exact ⟨_,_,_,_,rfl,rfl,rfl⟩
 | some e=>exact ⟨_,_,_,_,rfl,rfl,rfl⟩
end
variable {b:Nat}
theorem lY {U:World} {x y:Int} {z:Bool} (h:U.heap[b]?=some (.cells #[BY x,BY y,.bool z] 71 (0,0))):U.cell? (φ b 0)=some (BY x)/\U.cell? (φ b 1)=some (BY y)/\U.cell? (φ b 2)=some (.bool z)/\U.frozen? (φ b 0)=false/\U.frozen? (φ b 1)=false/\U.frozen? (φ b 2)=false/\b<U.heap.size/\∀ (x' y':Int) (z':Bool),(((U.setCell (φ b 0) (BY x')).setCell (φ b 1) (BY y')).setCell (φ b 2) (.bool z')).cell? (φ b 0)=some (BY x')/\(((U.setCell (φ b 0) (BY x')).setCell (φ b 1) (BY y')).setCell (φ b 2) (.bool z')).cell? (φ b 1)=some (BY y')/\(((U.setCell (φ b 0) (BY x')).setCell (φ b 1) (BY y')).setCell (φ b 2) (.bool z')).cell? (φ b 2)=some (.bool z'):=by
 refine ⟨aj h rfl,aj h rfl,aj h rfl,bC h,bC h,bC h,ak h,fun x' y' z'=>?_⟩
 have st:∀ {w:World} {o:Nat} {vs:Array Value} {t:TypeId} (h:w.heap[b]?=some (.cells vs t (0,0))) (u:Value),(w.setCell (φ b o) u).heap[b]?=some (.cells (vs.setIfInBounds o u) t (0,0)):=fun h u=>by simp [World.setCell,Array.getElem?_modify,h]
 have h3:=st (o:=2) (st (o:=1) (st (o:=0) h (BY x')) (BY y')) (.bool z');exact ⟨aj h3 rfl,aj h3 rfl,aj h3 rfl⟩
variable {HR:bH}
theorem Rv (H:bj HR) (ao:Option Addr) (c:Nat) (rs:List (Option Rn)) (q:Int) (q0:0<=q) (q1:q<18446744073709551616) (hl:rs.length<=2000000) (w:World) (h:PR HR w ao rs) :
  Calls prog 99 #[.slice ao rs.length c,BY q] w fun e w'=>e=π #[(dE (nw q rs)).1,.bool (dE (nw q rs)).2]/\Gw w w':=by
 have HP:ag _:=h;have HH:ag _:=H;obtain ⟨n,hn⟩:=qbr rs.length;have LN:ag _:=hn;rw [hn] at hl ⊢;obtain ⟨A,hA⟩:=qbr (dE (nw q rs));have av:ag _:=hA;rw [hA];clear h H hn hA;obtain ⟨bq,aE⟩:=qbr w.heap.size;have BQ:ag _:=aE;have B0:ag (bD w [(bq,#[BY 0,BY 0,.bool false],71)] (w.alloc (.cells #[BY 0,BY 0,.bool false] 71))):=by rw [<-aE];exact (bD.nil (Gw.refl w)).add _ _
 clear aE;go_enter func99,ntmps99;go_wp2_with fail;rw [BQ.o];generalize w.alloc (.cells #[BY 0,BY 0,.bool false] 71)=w1 at B0 ⊢;go_loopg [12] n (fun gg yy wr=>∃ i:Nat,yy=By (i:Int)/\i<=n/\n-i<=gg/\ag (bD w [(bq,#[BY 0,BY 0,.bool false],71)] wr)/\ag (dE (nw q (rs.drop i))=A))
 case atStart=>exact ⟨0,rfl,Γ _,ω,B0,(by rw [List.drop_zero];exact av)⟩
 case round =>
  clear B0 av;obtain ⟨i,rfl,a1,a2,B,N⟩:=hrel;obtain ⟨wS,aS⟩:=qbs wr;subst aS;by_cases ar:i<n
  ·have dH:(i:Int)<(n:Int):=(by omega);obtain ⟨b,off,rfl,hb,hc⟩:=(HP.o.gw HH.o.kp B.o.gw0).cells (by rw [LN.o];omega)
   have ci:=hc i (by rw [LN.o];exact ar)
   have DR:=rJ (rs:=rs) (i:=i) (by rw [LN.o];exact ar)
   clear hc;rcases jk rs i with e | ⟨r,e⟩
   ·rw [e] at ci DR
    have N':ag (dE (nw q (rs.drop (i+1)))=A):=(by have:=N.o;rw [DR,yO] at this;exact this);have cH:wS.cell? (φ b (off+i))=some (.pointer none):=ci;clear ci e DR N;go_wp2_with fail;go_roundg (n-(i+1))
    case measure=>omega
    case rel=>exact ⟨i+1,by go_num,ω,Yk _,B,N'⟩
   ·rw [e] at ci DR
    have cH:wS.cell? (φ b (off+i))=some (IS (r.p)):=ci;have RR:=(HP.o.runs r (kG (by rw [LN.o];exact ar) e)).gw HH.o.kp B.o.gw0
    obtain ⟨x,y,z,t,f1,f2,f3⟩:=pV (look ah.k q r.l);have GT:ag (Calls prog 119 #[IS (r.p),BY q] wS fun e w'=>e=χ (.tuple #[.agg #[BY x,BY y,.bool z],.bool t])/\Gw wS w'):=by
     have:=HH.o.look RR q q0 q1
     rw [f1] at this;exact this
    have NR:=N.o;rw [DR,rI] at NR;have NT:ag (t=true->A=(.agg #[BY x,BY y,.bool z],true)):=fun h=>by
     rw [f2] at h;cases hk:look ah.k q r.l with
     | none=>rw [hk] at h;cases h
     | some en =>
      rw [<-NR,hk];show dE (some en)=_;rw [<-hk,f1,f2,h]
    have NF:ag (t=false->dE (nw q (rs.drop (i+1)))=A):=fun h=>by
     rw [f2] at h;cases hk:look ah.k q r.l with
     | none=>rw [hk] at NR;exact NR
     | some en=>rw [hk] at h;cases h
    generalize r.p=rp at cH GT;clear ci e DR N RR f1 f2 f3 NR;go_wp2_with fail;refine Calls.mono GT.o ?_;rintro e u1 ⟨rfl,gg⟩;have B1:=(B.o.gw gg).add #[BY x,BY y,.bool z] 71;obtain ⟨bx,eM⟩:=qbr u1.heap.size;have BX:ag _:=eM;rw [eM] at B1;clear gg GT eM;go_upto_region 6 with fail;rw [BX.o];generalize u1.alloc (.cells #[BY x,BY y,.bool z] 71)=U at B1 ⊢;have E0:U.heap[bq]?=some (.cells #[BY 0,BY 0,.bool false] 71 (0,0)):=B1.lie (bq,#[BY 0,BY 0,.bool false],71) ε;have E1:U.heap[bx]?=some (.cells #[BY x,BY y,.bool z] 71 (0,0)):=B1.lie (bx,#[BY x,BY y,.bool z],71) ε;have GU:ag _:=B1.gw0;cases t with
    | false =>
     have B2:ag (bD w [(bq,#[BY 0,BY 0,.bool false],71)] U):=⟨B1.gw0,fun x hx=>by rw [qbg.1 hx];exact E0⟩
     have N':ag _:=NF.o rfl;clear E0 E1 B1 B NF NT;go_wp2_with fail;go_roundg (n-(i+1))
     case measure=>omega
     case rel=>exact ⟨i+1,by go_num,ω,Yk _,B2,N'⟩
    | true =>
     have e:=NT.o rfl;subst e;obtain ⟨x0,x1,x2,_⟩:=lY E1;obtain ⟨m0,m1,m2,z0,z1,z2,bl,TT⟩:=lY E0;have T3:=TT x y z;clear E0 E1 B1 B NT NF TT;go_wp2_with fail;exact bodyPost_ret (v:=.tuple #[.agg #[BY x,BY y,.bool z],.bool true]) (by simp [results,results99,go_sem,T3.1,T3.2.1,T3.2.2]) rfl ⟨rfl,((GU.o.setCell (qad BQ.o) _).setCell (qad BQ.o) _).setCell (qad BQ.o) _⟩
  ·have ei:i=n:=(by omega);subst ei;have e:A=(.agg #[BY 0,BY 0,.bool false],false):=by
    rw [<-N.o,qbo (by rw [LN.o];exact Yk _)]
    rfl
   subst e;have E0:wS.heap[bq]?=some (.cells #[BY 0,BY 0,.bool false] 71 (0,0)):=B.o.lie (bq,#[BY 0,BY 0,.bool false],71) ε;have GU:ag _:=B.o.gw0;obtain ⟨m0,m1,m2,z0,z1,z2,bl,TT⟩:=lY E0;have T3:=TT 0 0 false;clear E0 B N TT;go_wp2_with fail;exact bodyPost_ret (v:=.tuple #[.agg #[BY 0,BY 0,.bool false],.bool false]) (by simp [results,results99,go_sem,T3.1,T3.2.1,T3.2.2]) rfl ⟨rfl,((GU.o.setCell (qad BQ.o) _).setCell (qad BQ.o) _).setCell (qad BQ.o) _⟩
theorem Rw (H:bj HR) (ao:Option Addr) (c:Nat) (rs:List (Option Rn)) (q:Int) (q0:0<=q) (q1:q<18446744073709551616) (hl:rs.length<=2000000) (w:World) (h:PR HR w ao rs) :
  Calls prog 87 #[.slice ao rs.length c,BY q] w fun e w'=>e=χ (.bool (aM rs q))/\Gw w w':=by
 obtain ⟨x,y,z,t,f1,f2,f3⟩:=pV (nw q rs);have NW:ag (Calls prog 99 #[.slice ao rs.length c,BY q] w fun e w'=>e=χ (.tuple #[.agg #[BY x,BY y,.bool z],.bool t])/\Gw w w'):=by
  have:=Rv H ao c rs q q0 q1 hl w h
  rw [f1] at this;exact this
 have LV:aM rs q=(t&&!z):=f3;rw [LV];generalize rs.length=n at NW hl ⊢;clear f1 f2 f3 LV h H;cases t with
 | false =>
  go_enter func87,ntmps87;go_wp2_with fail;refine Calls.mono NW.o ?_;rintro e u1 ⟨rfl,gg⟩;have G1:ag _:=gg;clear gg NW;go_wp2_with fail;go_ret;exact ⟨rfl,G1.o.alloc _ _⟩
 | true =>
  go_enter func87,ntmps87;go_wp2_with fail;refine Calls.mono NW.o ?_;rintro e u1 ⟨rfl,gg⟩;have G1:ag _:=gg;clear gg NW;go_wp2_with fail;go_ret;exact ⟨rfl,G1.o.alloc _ _⟩
def eW (eps buf:Int) (rs:List (Option Rn)) (B W:Int):List Value:=By eps::By buf::(rs.map ptr++[By B,By W])
structure aP (HR:bH) (w:World) (p:Nat) (rs:List (Option Rn)) (eps buf B W:Int):Prop where
 blk:w.heap[p]?=some (.cells (eW eps buf rs B W).toArray 117 (0,0))
 len:rs.length=40
 runs:∀ r,some r∈rs->RA HR w r/\¬ r.S p
 e0:2<=eps
 e1:eps<=64
 b0:1<=buf
 b1:buf<=4294967296
section
variable {HR:bH} {w w':World} {p:Nat} {rs:List (Option Rn)} {eps buf B W:Int}
theorem aP.gw (K:Kp HR) (h:aP HR w p rs eps buf B W) (g:Gw w w'):aP HR w' p rs eps buf B W :=
 ⟨(g.below.block p (ak h.blk)).trans h.blk,h.len,fun r hr=>⟨(h.runs r hr).1.gw K g,(h.runs r hr).2⟩,h.e0,h.e1,h.b0,h.b1⟩
variable {F:Nat->Prop}
theorem aP.gx (K:Kp HR) (h:aP HR w p rs eps buf B W) (g:Gx F w w') (np:¬ F p) (d:∀ q,F q->∀ r,some r∈rs->¬ r.S q):aP HR w' p rs eps buf B W :=
 ⟨(g.block p (ak h.blk) np).trans h.blk,h.len,fun r hr=>⟨(h.runs r hr).1.gx K g (fun q hq=>d q hq r hr),(h.runs r hr).2⟩,h.e0,h.e1,h.b0,h.b1⟩
theorem aP.lt (h:aP HR w p rs eps buf B W):p<w.heap.size:=ak h.blk
variable {i:Nat}
theorem Rx (h:rs.length=40) (hi:i<40):(eW eps buf rs B W).toArray[2+i]?=some (ptr (rs.getD i none)):=by have e:2+i=i+1+1:=ω;rw [List.getElem?_toArray,e];show (rs.map ptr++_)[i]?=_;rw [qau ζ,List.getElem?_map,qah ω,fI ω];rfl
theorem CQ (h:rs.length=40):(eW eps buf rs B W).toArray[42]?=some (By B)/\(eW eps buf rs B W).toArray[43]?=some (By W):=by
 refine ⟨?_,?_⟩
 ·rw [List.getElem?_toArray]
  show (rs.map ptr++_)[40]?=_;rw [qaZ (by simp [h]),qaS,h]
  rfl
 ·rw [List.getElem?_toArray]
  show (rs.map ptr++_)[41]?=_;rw [qaZ (by simp [h]),qaS,h]
  rfl
theorem aP.c0 (h:aP HR w p rs eps buf B W):w.cell? (φ p 0)=some (By eps):=aj h.blk rfl
theorem aP.c1 (h:aP HR w p rs eps buf B W):w.cell? (φ p 1)=some (By buf):=aj h.blk rfl
theorem aP.c2 (h:aP HR w p rs eps buf B W):w.cell? (φ p 42)=some (By B):=aj h.blk (CQ h.len).1
theorem aP.c3 (h:aP HR w p rs eps buf B W):w.cell? (φ p 43)=some (By W):=aj h.blk (CQ h.len).2
theorem aP.cell (h:aP HR w p rs eps buf B W) (hi:i<40):w.cell? (φ p (2+i))=some (ptr (rs.getD i none)):=aj h.blk (Rx h.len hi)
theorem aP.drop (h:aP HR w p rs eps buf B W) (j:Nat):PR HR w (some (φ p (2+j))) (rs.drop j) :=
 ⟨fun h0=>⟨p,2+j,rfl,h.lt,fun i hi=>by
  have l:=h.len;rw [qax] at hi;rw [show 2+j+i=2+(j+i) by omega,h.cell ω,fI ω,fI (by rw [qax];omega),List.getElem_drop]⟩,fun r hr=>(h.runs r (qbn hr)).1⟩
theorem aP.take (h:aP HR w p rs eps buf B W) (j:Nat):PR HR w (some (φ p 2)) (rs.take j) :=
 ⟨fun h0=>⟨p,2,rfl,h.lt,fun i hi=>by
  have l:=h.len;rw [qav] at hi;rw [h.cell ω,fI ω,fI (by rw [qav];omega),List.getElem_take]⟩,fun r hr=>(h.runs r (List.mem_of_mem_take hr)).1⟩
end
variable {HR:bH} {w:World} {p:Nat} {rs:List (Option Rn)} {eps buf B W:Int}
theorem ade (h:aP HR w p rs eps buf B W) (j:Nat) (hj:j<40) :
  Calls prog 86 #[IS p,By (j:Int)] w fun e w'=>(∃ ao,e=χ (.slice ao (rs.drop (j+1)).length (39-j))/\PR HR w ao (rs.drop (j+1)))/\w'=w:=by
 have HD:ag _:=h.drop (j+1);have LE:ag ((rs.drop (j+1)).length=39-j):=by show _=_;rw [qax,h.len];omega
 obtain ⟨k,hk⟩:=qbr (j+1);have hp:=h.lt;have wk:IntKind.i64.wrap ((j:Int)+1)=(k:Int):=by rw [Δ];omega
 clear h;by_cases q:j=39
 ·subst q
  have av:ag (PR HR w (some (φ p 2)) (rs.drop 40)):=⟨fun h0=>by have h1:(rs.drop 40).length=0:=LE.o;omega,HD.o.runs⟩
  subst hk;clear wk;go_enter func86,ntmps86;go_wp2_with fail;go_ret;exact ⟨⟨_,by rw [LE.o];rfl,av.o⟩,rfl⟩
 ·have h1:¬ (40:Int)=(k:Int):=by omega
  have h2:(k:Int)<=40:=ω;have h3:¬ (40:Nat)=k:=ω;have h4:k<=40:=ω;have HK:ag _:=hk;clear hk q;go_enter func86,ntmps86;go_wp2_with fail;go_ret;refine ⟨⟨some ⟨p,2+k,none⟩,?_,?_⟩,rfl⟩
  ·rw [LE.o,show 39-j=40-k by have:=HK.o;omega];rfl
  ·have:=HD.o;rw [HK.o] at this ⊢;exact this
def fJ (eps buf:Int):Prop:=(2<=eps/\eps<=64)/\1<=buf/\buf<=4294967296
theorem adf (eps buf:Int) (w:World) :
  Calls prog 73 #[By eps,By buf] w fun e w'=>((¬ fJ eps buf/\e=π #[.pointer none,By 1])\/(fJ eps buf/\∃ p,e=π #[IS p,By 0]/\w.heap.size<=p/\aP HR w' p (List.replicate 40 none) eps buf 0 0))/\Gw w w':=by
 have NO:(eps<2\/(¬ eps<2/\64<eps)\/(¬ eps<2/\¬ 64<eps/\buf<1)\/(¬ eps<2/\¬ 64<eps/\¬ buf<1/\4294967296<buf))/\¬ fJ eps buf\/fJ eps buf:=by
  by_cases h:fJ eps buf
  ·exact .inr h
  ·refine .inl ⟨?_,h⟩
   unfold fJ at h;omega
 rcases NO with ⟨a,b⟩ | a
 ·have BB:ag (¬ fJ eps buf):=b
  clear b;rcases a with a | ⟨a,b⟩ | ⟨a,b,c⟩ | ⟨a,b,c,d⟩
  ·have t1:decide (eps<2)=true:=(by simpa using a);clear a;go_enter func73,ntmps73;go_wp2_with fail;go_ret2;exact ⟨.inl ⟨BB.o,rfl⟩,Gw.refl w⟩
  ·have t1:decide (eps<2)=false:=(by simpa using a);have t2:decide (64<eps)=true:=(by simpa using b);clear a b;go_enter func73,ntmps73;go_wp2_with fail;go_ret2;exact ⟨.inl ⟨BB.o,rfl⟩,Gw.refl w⟩
  ·have t1:decide (eps<2)=false:=(by simpa using a);have t2:decide (64<eps)=false:=(by simpa using b);have t3:decide (buf<1)=true:=(by simpa using c);clear a b c;go_enter func73,ntmps73;go_wp2_with fail;go_ret2;exact ⟨.inl ⟨BB.o,rfl⟩,Gw.refl w⟩
  ·have t1:decide (eps<2)=false:=(by simpa using a);have t2:decide (64<eps)=false:=(by simpa using b);have t3:decide (buf<1)=false:=(by simpa using c);have t4:decide (4294967296<buf)=true:=(by simpa using d);clear a b c d;go_enter func73,ntmps73;go_wp2_with fail;go_ret2;exact ⟨.inl ⟨BB.o,rfl⟩,Gw.refl w⟩
 ·have AA:ag (fJ eps buf):=a
  obtain ⟨⟨a1,a2⟩,a3,a4⟩:=a;have t1:decide (eps<2)=false:=by simpa using a1
  have t2:decide (64<eps)=false:=by simpa using a2
  have t3:decide (buf<1)=false:=by simpa using a3
  have t4:decide (4294967296<buf)=false:=by simpa using a4
  have HC:ag (aP HR (w.alloc (.cells (eW eps buf (List.replicate 40 none) 0 0).toArray 117)) w.heap.size (List.replicate 40 none) eps buf 0 0):=⟨Ω w _,ε,fun r hr=>by simp at hr,a1,a2,a3,a4⟩
  clear a1 a2 a3 a4;go_enter func73,ntmps73;go_wp2_with fail;go_ret2;exact ⟨.inr ⟨AA.o,_,rfl,Yk _,HC.o⟩,(Gw.refl w).alloc _ _⟩
theorem adg (ao:Option Addr) (c:Nat) (rs:List (Option Rn)) (hl:rs.length<=2000000) (w:World) (h:PR HR w ao rs) :
  Calls prog 107 #[.slice ao rs.length c,.pointer none] w fun e w'=>e=χ (By (if free rs<rs.length then (free rs:Int) else -1))/\w'=w:=by
 have HP:ag _:=h;obtain ⟨n,hn⟩:=qbr rs.length;have LN:ag _:=hn;rw [hn] at hl ⊢;obtain ⟨A,hA⟩:=qbr ((if free rs<n then (free rs:Int) else -1))
 have av:ag _:=hA;rw [hA];clear h hn hA;go_enter func107,ntmps107;go_wp2_with fail;go_loopg [8] n (fun gg s8 wr=>∃ i:Nat,s8=By (i:Int)/\i<=n/\n-i<=gg/\wr=w/\ag (∀ j,j<i->∃ r,rs[j]?=some (some r)))
 case atStart=>exact ⟨0,rfl,Γ _,ω,rfl,(show ag _ from fun j hj=>ω)⟩
 case round =>
  obtain ⟨i,rfl,a1,a2,hw,N⟩:=hrel;subst hw;by_cases ar:i<n
  ·have dH:(i:Int)<(n:Int):=(by omega);have hi:i<rs.length:=(by rw [LN.o];exact ar);obtain ⟨b,off,rfl,hb,hc⟩:=HP.o.cells ω;have ci:=hc i hi;have gi:rs[i]?=some (rs.getD i none):=(by rw [fI hi];exact qah hi);clear hc;rcases jk rs i with e | ⟨r,e⟩
   ·rw [e] at ci gi
    have fr:free rs=i:=IB N.o (.inl gi);have e2:A=(i:Int):=(by rw [<-av.o,fr,Ym ar]);subst e2;have cH:wr.cell? (φ b (off+i))=some (.pointer none):=ci;clear ci e gi fr N av hi;go_wp2_with fail;go_ret;exact ⟨rfl,rfl⟩
   ·rw [e] at ci gi
    have cH:wr.cell? (φ b (off+i))=some (IS (r.p)):=ci;have N':ag (∀ j,j<i+1->∃ r,rs[j]?=some (some r)):=fun j hj=>by
     by_cases x:j=i
     ·subst x;exact ⟨r,gi⟩
     ·exact N.o j ω
    generalize r.p=rp at cH;have hq:∀ W:World,(binOp .eql 108 (.pointer none) (IS rp)).run prog W=.ok (.bool false) W:=fun _=>η
    clear ci e gi N hi;go_wp2_with fail;go_roundg (n-(i+1))
    case measure=>omega
    case rel=>exact ⟨i+1,by go_num,ω,Yk _,rfl,N'⟩
  ·have ei:i=n:=(by omega);subst ei;have fr:free rs=i:=IB N.o (.inr LN.o);have e2:A=-1:=(by rw [<-av.o,fr,Yl (Nat.lt_irrefl _)]);subst e2;clear fr N av;go_wp2_with fail;go_ret;exact ⟨rfl,rfl⟩
theorem adh (h:aP HR w p rs eps buf B W) :
  Calls prog 82 #[IS p] w fun e w'=>e=χ (By (freeC rs:Nat))/\w'=w:=by
 have IX:ag (Calls prog 107 #[ψ p 2 40 40,.pointer none] w fun e w'=>e=χ (By (if free rs<40 then (free rs:Int) else -1))/\w'=w):=by
  have:=adg (some (φ p 2)) 40 rs (by rw [h.len];omega) w (h.drop 0)
  rw [h.len] at this;exact this
 have hp:=h.lt;clear h;unfold freeC;generalize free rs=f at IX ⊢;by_cases q:f<40
 ·rw [Ym q] at IX
  have t:decide ((f:Int)<0)=false:=ε;have MM:ag (min f 39=f):=by show _=_;omega
  clear q;go_enter func82,ntmps82;go_wp2_with fail;refine Calls.mono IX.o ?_;rintro e w1 ⟨rfl,rfl⟩;go_wp2_with fail;go_ret;exact ⟨by rw [MM.o];rfl,rfl⟩
 ·rw [Yl q] at IX
  have MM:ag (min f 39=39):=by show _=_;omega
  clear q;go_enter func82,ntmps82;go_wp2_with fail;refine Calls.mono IX.o ?_;rintro e w1 ⟨rfl,rfl⟩;go_wp2_with fail;go_ret;exact ⟨by rw [MM.o];rfl,rfl⟩
theorem adi (ao:Option Addr) (c:Nat) (l:List ah) (bd:Value) (p:Int->Bool) (hn:l.length<=2000000) (w:World) (h:EL w ao l) (FB:∀ W,Gw w W->∀ q:Int,0<=q->q<18446744073709551616->Calls prog 87 #[bd,BY q] W fun e w'=>e=χ (.bool (p q))/\Gw W w') :
  Calls prog 84 #[.slice ao l.length c,.func (.func 87) #[bd] #[]] w fun e w'=>(∃ bo oc,e=χ (.slice bo (l.filter (aW p)).length oc)/\EO w' w.heap.size (.slice bo (l.filter (aW p)).length oc) (l.filter (aW p)))/\Gw w w':=by
 have HE:ag (EL w ao l):=h;have LV:ag _:=FB;obtain ⟨n,ax⟩:=qbr l.length;have LN:ag (l.length=n):=ax;rw [ax] at hn ⊢;clear h ax FB;obtain ⟨ii,aK,hz,hs,aJ⟩:=info_parts kZ;go_enter func84,ntmps84;go_wp2_with fail;go_loopg [5,10] n (fun gg s5 jW wr=>∃ (i m:Nat) (bo:Option Addr) (oc:Nat),s5=.slice bo m oc/\jW=By (i:Int)/\i<=n/\n-i<=gg/\m<=i/\ag (((l.take i).filter (aW p)).length=m)/\ag (EO wr w.heap.size (.slice bo m oc) ((l.take i).filter (aW p)))/\ag (Gw w wr))
 case atStart=>exact ⟨0,0,none,0,rfl,rfl,Γ _,ω,Yk _,(by show _=_;simp),(by show EO _ _ _ _;rw [List.take_zero];exact qaL w w.heap.size 71 3),(show ag _ from Gw.refl w)⟩
 case round =>
  obtain ⟨i,m,bo,oc,rfl,rfl,a1,a2,a3,ML,E,G⟩:=hrel;obtain ⟨wS,aS⟩:=qbs wr;subst aS;by_cases ar:i<n
  ·have dH:(i:Int)<(n:Int):=(by omega);obtain ⟨lb,iJ,rfl,dO,bL⟩:=(ES.gw HE.o G.o).cells (by rw [LN.o];omega)
   obtain ⟨c0,c1,c2⟩:=bL i (by rw [LN.o];exact ar)
   have bd:=HE.o.ok (i:=i) (by rw [LN.o];exact ar)
   have TK:ag ((l.take (i+1)).filter (aW p)=(l.take i).filter (aW p)++(if aW p (l.getD i aq)=true then [l.getD i aq] else [])):=by show _=_;have e:l.take (i+1)=l.take i++[l.getD i aq]:=(by rw [qaW,qah (by rw [LN.o];exact ar),qag,qah (by rw [LN.o];exact ar)];rfl);rw [e,List.filter_append,List.filter_cons];split<;>rfl
   obtain ⟨x,hx⟩:=qbr (l.getD i aq);rw [hx] at c0 c1 c2 TK bd;obtain ⟨xk,xv,xg⟩:=x;obtain ⟨⟨yQ,vX⟩,_⟩:=bd;have d0:wS.cell? (φ lb (iJ+i*3))=some (BY xk):=c0;have d1:wS.cell? (φ lb (iJ+i*3+1))=some (BY xv):=c1;have d2:wS.cell? (φ lb (iJ+i*3+2))=some (.bool xg):=c2;obtain ⟨W1,E1⟩:=qbr (wS.alloc (.cells #[BY xk,BY xv,.bool xg] 71));have G1:ag (Gw wS W1):=(by rw [<-E1];exact (Gw.refl wS).alloc _ _);have b1:W1.heap[wS.heap.size]?=some (.cells #[BY xk,BY xv,.bool xg] 71 (0,0)):=(by rw [<-E1];exact Ω wS _);have CE:ag (∀ W,Gw W1 W->W.cell? (φ wS.heap.size 0)=some (BY xk)/\W.cell? (φ wS.heap.size 1)=some (BY xv)/\W.cell? (φ wS.heap.size 2)=some (.bool xg)/\wS.heap.size<W.heap.size/\W.ownsRow w.heap.size 71 3 (.slice bo m oc) m (((l.take i).filter (aW p)).flatMap aI)):=fun W gg=>by have hb:=(gg.below.block _ (ak b1)).trans b1;refine ⟨aj hb rfl,aj hb rfl,aj hb rfl,ak hb,?_⟩;have:=nC E.o (G1.o.trans gg);unfold EO at this;rw [ML.o] at this;exact this
   have gX:ag (aW p ⟨xk,xv,xg⟩=false->((l.take (i+1)).filter (aW p))=(l.take i).filter (aW p)):=fun q=>by rw [TK.o,Yl (by rw [q];decide),qaJ]
   have kD:ag (aW p ⟨xk,xv,xg⟩=true->((l.take (i+1)).filter (aW p))=(l.take i).filter (aW p)++[⟨xk,xv,xg⟩]):=fun q=>by rw [TK.o,Ym q]
   obtain ⟨kp,tJ⟩:=qbr (p xk);have KP:ag (aW p ⟨xk,xv,xg⟩=(!xg||kp)):=by show _=_;rw [<-tJ];rfl
   have tK:=fun W gg=>LV.o W gg xk yQ vX
   rw [tJ] at tK;have pR:ag _:=tK;have Ry:ag _:=E1;clear E1;have wz:=G.o.size;have aD:ag (∀ (W:World) (v':Value) (w5:World),Gw W1 W->aW p ⟨xk,xv,xg⟩=true->w5.ownsRow w.heap.size 71 3 v' (m+1) (((l.take i).filter (aW p)).flatMap aI++aI ⟨xk,xv,xg⟩)->(W.alloc (.cells #[BY xk,BY xv,.bool xg] 71)).grownBy w5 (Value.slice bo m oc).ownBlock->EO w5 w.heap.size v' ((l.take (i+1)).filter (aW p))/\((l.take (i+1)).filter (aW p)).length=m+1/\Gw w w5):=fun W v' w5 gW q r1 r2=>by
    rw [kD.o q];refine ⟨pQ (by rw [ML.o];exact r1),by rw [Ψ,ML.o];rfl,?_⟩
    exact (((G.o.trans G1.o).trans gW).alloc _ _).grown r2 (fun q hq=>(World.ownsRow.lt (CE.o W gW).2.2.2.2 q hq).1)
   clear bL c0 c1 c2 hx TK tK tJ LV;obtain ⟨k0,k1,k2,k3,OW⟩:=CE.o W1 (Gw.refl _);have IF:ag _:=OW;clear OW;cases xg with
   | false =>
    go_upto_region 5 with fail;rw [Ry.o]
    go_wp2_with (at_builtin;refine wpList_append_own _ rfl _ _ 72 rfl w.heap.size 71 ii (.agg #[BY 0,BY 0,.bool false]) 3 24 underlying72 aK hz hs aJ rfl γ _ m _ rfl (World.ownsRow.alloc IF.o _) ⟨W1.heap.size,0,none⟩ 1 1 (aI ⟨xk,xv,false⟩) rfl rfl (lV W1 ⟨xk,xv,false⟩) (kC _) θ ω ζ ?_)
    intro v' w5 r1 r2 r3;obtain ⟨b5,cB,rfl,dZ,_,_⟩:=cJ r1 (by simpa using r3)
    obtain ⟨f1,f2,f3⟩:=aD.o W1 _ w5 (Gw.refl _) (by rw [KP.o];rfl) r1 r2
    have E5:ag _:=f1;have M5:ag _:=f2;have G5:ag _:=f3;clear r1 r2 r3 f1 f2 f3 E IF aD kD gX pR d0 d1 d2 CE k0 k1 k2;go_wp2_with fail;go_roundg (n-(i+1))
    case measure=>omega
    case rel=>exact ⟨i+1,m+1,_,cB,rfl,by go_num,ω,Yk _,ω,M5,E5,G5⟩
   | true =>
    go_upto_region 5 with fail;rw [Ry.o]
    go_wp2_with fail;refine Calls.mono (pR.o _ (G.o.trans G1.o)) ?_
    rintro e w3 ⟨rfl,g3⟩;have G3:ag _:=g3;obtain ⟨j0,j1,j2,j3,OW⟩:=CE.o w3 g3;have IG:ag _:=OW;have z3:=g3.size;clear g3 OW k0 k1 k2 IF;cases kp with
    | true =>
     go_wp2_with (at_builtin;refine wpList_append_own _ rfl _ _ 72 rfl w.heap.size 71 ii (.agg #[BY 0,BY 0,.bool false]) 3 24 underlying72 aK hz hs aJ rfl γ _ m _ rfl (World.ownsRow.alloc IG.o _) ⟨w3.heap.size,0,none⟩ 1 1 (aI ⟨xk,xv,true⟩) rfl rfl (lV w3 ⟨xk,xv,true⟩) (kC _) θ ω ζ ?_)
     intro v' w5 r1 r2 r3;obtain ⟨b5,cB,rfl,dZ,_,_⟩:=cJ r1 (by simpa using r3)
     obtain ⟨f1,f2,f3⟩:=aD.o w3 _ w5 G3.o (by rw [KP.o];rfl) r1 r2
     have E5:ag _:=f1;have M5:ag _:=f2;have G5:ag _:=f3;clear r1 r2 r3 f1 f2 f3 E IG aD kD gX pR d0 d1 d2 CE j0 j1 j2;go_wp2_with fail;go_roundg (n-(i+1))
     case measure=>omega
     case rel=>exact ⟨i+1,m+1,_,cB,rfl,by go_num,ω,Yk _,ω,M5,E5,G5⟩
    | false =>
     have ST:=gX.o (by rw [KP.o];rfl)
     have E5:ag (EO w3 w.heap.size (.slice bo m oc) ((l.take (i+1)).filter (aW p))):=(by rw [ST];exact nC E.o (G1.o.trans G3.o));have M5:ag (((l.take (i+1)).filter (aW p)).length=m):=(by rw [ST];exact ML.o);have G5:ag _:=(G.o.trans G1.o).trans G3.o;clear ST aD kD gX pR CE IG;go_wp2_with fail;go_roundg (n-(i+1))
     case measure=>omega
     case rel=>exact ⟨i+1,m,bo,oc,rfl,by go_num,ω,Yk _,ω,M5,E5,G5⟩
  ·have ei:i=n:=(by omega);subst ei;have TT:l.take i=l:=qaQ (by rw [LN.o];exact Yk _)
   rw [TT] at ML E;have yI:ag _:=ML;have E2:ag (EO wS w.heap.size (.slice bo (l.filter (aW p)).length oc) (l.filter (aW p))):=(by rw [yI.o];exact E.o);clear ML E TT LV;go_wp2_with fail;refine bodyPost_ret (v:=.slice bo m oc) (by simp [results,results84,go_sem]) rfl ⟨⟨bo,oc,by rw [yI.o],E2.o⟩,G.o⟩
variable {r:Rn}
theorem adj (H:bj HR) (bd:Value) (p:Int->Bool) (w:World) (h:RA HR w r) (FB:∀ W,Gw w W->∀ q:Int,0<=q->q<18446744073709551616->Calls prog 87 #[bd,BY q] W fun e w'=>e=χ (.bool (p q))/\Gw W w') :
  Calls prog 103 #[IS (r.p),.func (.func 87) #[bd] #[]] w fun e w'=>e=χ (.bool (r.l.all (aW p)))/\Gw w w':=by
 have LE:ag _:=H.len h.h;have AT:ag (∀ (W:World) (i:Nat),Gw w W->i<r.l.length->Calls prog 120 #[IS (r.p),By (i:Int)] W fun e w'=>e=χ (.tuple #[.agg #[BY (r.l.getD i aq).k,BY (r.l.getD i aq).v,.bool (r.l.getD i aq).g],By 0])/\Gw W w'):=fun W i gg hi=>by
  have:=H.at_ (h.gw H.kp gg).h (i:Int) ω (by have:=h.few;omega)
  have e:tD (ek r.l) (ev r.l) (eg r.l) r.l.length (i:Int)=(oB (ek r.l i) (ev r.l i) (eg r.l i),0):=by unfold tD;rw [Ym ω];simp
  rw [e] at this;exact this
 have BD:ag (∀ i,i<r.l.length->(r.l.getD i aq).ok):=fun i hi=>by rw [ji hi];exact h.bd _ (qaz hi)
 have LV:ag _:=FB;have few:=h.few;clear h H FB;obtain ⟨l,hl⟩:=qbr r.l;rw [hl] at LE AT BD few ⊢;generalize r.p=rp at LE AT ⊢;clear hl;obtain ⟨n,hn⟩:=qbr l.length;have LN:ag _:=hn;rw [hn] at LE few;obtain ⟨A,hA⟩:=qbr (l.all (aW p));have av:ag _:=hA;rw [hA];clear hn hA;go_enter func103,ntmps103;go_wp2_with fail;refine Calls.mono LE.o ?_;rintro e w1 ⟨rfl,g1⟩;have G1:ag _:=g1;clear g1 LE;go_wp2_with fail;go_loopg [10] n (fun gg jW wr=>∃ i:Nat,jW=By (i:Int)/\i<=n/\n-i<=gg/\ag (Gw w wr)/\ag ((l.drop i).all (aW p)=A))
 case atStart=>exact ⟨0,rfl,Γ _,ω,G1,av⟩
 case round =>
  clear G1 av;obtain ⟨i,rfl,a1,a2,G,N⟩:=hrel;obtain ⟨wS,aS⟩:=qbs wr;subst aS;by_cases ar:i<n
  ·have dH:(i:Int)<(n:Int):=(by omega);have hl:i<l.length:=(by rw [LN.o];exact ar);have A1:=AT.o wS i G.o hl;have DR:l.drop i=l.getD i aq::l.drop (i+1):=(by rw [ji hl,List.drop_eq_getElem_cons hl]);have NN:=N.o;rw [DR,List.all_cons] at NN;obtain ⟨⟨yQ,vX⟩,_⟩:=BD.o i hl;obtain ⟨x,hx⟩:=qbr (l.getD i aq);rw [hx] at A1 NN yQ vX;obtain ⟨xk,xv,xg⟩:=x;have AH:ag _:=A1;have LQ:ag (∀ W,Gw w W->Calls prog 87 #[bd,BY xk] W fun e w'=>e=χ (.bool (p xk))/\Gw W w'):=fun W gg=>LV.o W gg xk yQ vX
   have NE:ag _:=NN;have KP:ag (aW p ⟨xk,xv,xg⟩=(!xg||p xk)):=rfl
   generalize p xk=kp at LQ KP;clear A1 DR NN yQ vX hx N;go_wp2_with fail;refine Calls.mono AH.o ?_;rintro e u1 ⟨rfl,gg⟩;have G2:ag (Gw w (u1.alloc (.cells #[BY xk,BY xv,.bool xg] 71))):=(G.o.trans gg).alloc _ _;clear gg AH G;cases xg with
   | false =>
    have N':ag ((l.drop (i+1)).all (aW p)=A):=(by have:=NE.o;rw [KP.o] at this;exact this);clear NE KP LQ;go_wp2_with fail;go_roundg (n-(i+1))
    case measure=>omega
    case rel=>exact ⟨i+1,by go_num,ω,Yk _,G2,N'⟩
   | true =>
    go_wp2_with fail;refine Calls.mono (LQ.o _ G2.o) ?_
    rintro e u2 ⟨rfl,gg⟩;have G3:ag _:=G2.o.trans gg;clear gg G2;cases kp with
    | true =>
     have N':ag ((l.drop (i+1)).all (aW p)=A):=(by have:=NE.o;rw [KP.o] at this;exact this);clear NE KP LQ;go_wp2_with fail;go_roundg (n-(i+1))
     case measure=>omega
     case rel=>exact ⟨i+1,by go_num,ω,Yk _,G3,N'⟩
    | false =>
     have e:A=false:=(by have:=NE.o;rw [KP.o] at this;exact this.symm);subst e;clear NE KP LQ;go_wp2_with fail;go_ret;exact ⟨rfl,G3.o⟩
  ·have ei:i=n:=(by omega);subst ei;have e:A=true:=by
    rw [<-N.o,qbo (by rw [LN.o];exact Yk _)]
    rfl
   subst e;clear N;go_wp2_with fail;go_ret;exact ⟨rfl,G.o⟩
variable {w':World}
theorem EL.keep15 {bo:Option Addr} {l:List ah} (h:EL w bo l) (k:∀ a,bo=some a->0<l.length->w'.heap[a.block]?=w.heap[a.block]?):EL w' bo l :=
 ⟨fun h0=>by
  obtain ⟨b,off,e,hb,hc⟩:=h.cells h0;have kb:=k _ e h0;have eQ:b<w'.heap.size:=by have vP:w'.heap[b]?=w.heap[b]?:=kb;rw [Array.getElem?_eq_getElem hb] at vP;exact (qab.1 vP).1
  have eq:∀ o,w'.cell? (φ b o)=w.cell? (φ b o):=fun o=>qba (a:=⟨b,o,none⟩) kb
  exact ⟨b,off,e,eQ,fun i hi=>⟨(eq _).trans (hc i hi).1,(eq _).trans (hc i hi).2.1,(eq _).trans (hc i hi).2.2⟩⟩,h.bd⟩
structure TL (w:World) (ob:Nat) (au:List Value) (L:List (List ah)):Prop where
 len:au.length=L.length
 row:∀ i,i<L.length->∃ bo c,au[i]?=some (.slice bo (L.getD i []).length c)/\(L.getD i []).length<=c/\EL w bo (L.getD i [])/\(bo=none->(L.getD i []).length=0/\c=0)/\∀ a,bo=some a->0<(L.getD i []).length->a.block≠ob/\a.block<w.heap.size
variable {ob:Nat} {au:List Value} {L:List (List ah)}
theorem TL.gw (h:TL w ob au L) (g:Gw w w'):TL w' ob au L :=
 ⟨h.len,fun i hi=>by
  obtain ⟨bo,c,h1,h2,h3,h4,h5⟩:=h.row i hi;exact ⟨bo,c,h1,h2,h3.gw g,h4,fun a e z=>⟨(h5 a e z).1,Θ (h5 a e z).2 g.size⟩⟩⟩
theorem TL.more {w8:World} {o:Obj} {j9:Nat} {l:List ah} {bo:Option Addr} {c:Nat} (h:TL w ob au L) (r2:(w.alloc o).grownBy w8 (some ob)) (o8:j9=ob\/w.heap.size<=j9) (hc:l.length<=c) (el:EL w bo l) (hn:bo=none->l.length=0/\c=0) (ha:∀ a,bo=some a->0<l.length->a.block≠ob/\a.block<w.heap.size):TL w8 j9 (au++[.slice bo l.length c]) (L++[l]):=by
 have kp:∀ q,q<w.heap.size->q≠ob->w8.heap[q]?=w.heap[q]?:=fun q hq hn=>(r2.block q ζ (fun e=>hn (by cases e;rfl))).trans (qap w _ hq)
 have nD:∀ q,q<w.heap.size->q≠ob->q<w8.heap.size:=fun q hq hn=>by have e:=kp q hq hn;rw [Array.getElem?_eq_getElem hq] at e;exact (qab.1 e).1
 have mv:∀ (m:List ah) (bb:Option Addr),EL w bb m->(∀ a,bb=some a->0<m.length->a.block≠ob/\a.block<w.heap.size)->EL w8 bb m/\∀ a,bb=some a->0<m.length->a.block≠j9/\a.block<w8.heap.size:=fun m bb e hb =>
  ⟨e.keep15 fun a x z=>kp _ (hb a x z).2 (hb a x z).1,fun a x z=>⟨by
   obtain ⟨q1,q2⟩:=hb a x z;rcases o8 with q | q
   ·rw [q];exact q1
   ·omega,nD _ (hb a x z).2 (hb a x z).1⟩⟩
 refine ⟨by rw [Ψ,Ψ,h.len];rfl,fun i hi=>?_⟩
 by_cases e:i<L.length
 ·obtain ⟨b,c,h1,h2,h3,h4,h5⟩:=h.row i e
  have eg:(L++[l]).getD i []=L.getD i []:=by rw [qag,qau e,<-List.getD_eq_getElem?_getD]
  rw [eg];exact ⟨b,c,by rw [qau (by rw [h.len];exact e)];exact h1,h2,(mv _ _ h3 h5).1,h4,(mv _ _ h3 h5).2⟩
 ·have ei:i=L.length:=by rw [Ψ] at hi;simp at hi;omega
  subst ei;have eg:(L++[l]).getD L.length []=l:=by simp [List.getD]
  rw [eg];exact ⟨bo,c,by rw [<-h.len];simp,hc,(mv _ _ el ha).1,hn,(mv _ _ el ha).2⟩
variable {base:Nat}
theorem TL.ev {n oc:Nat} (h:TL w ob au L) (o:w.ownsRow base 72 1 (ψ ob 0 n oc) n au) (hn:L.length=n):EV w (some (φ ob 0)) L :=
 ⟨fun h0=>⟨ob,0,rfl,(o.lt ob rfl).2,fun i hi=>by
  obtain ⟨bo,c,h1,h2,h3,h4,_⟩:=h.row i hi;refine ⟨bo,c,?_,h2,h3,h4⟩;rw [qai,World.ownsRow.cellAt o i ω];exact h1⟩⟩
theorem bj.told (H:bj HR) (h:RA HR w r) :
  Calls prog 61 #[IS (r.p)] w fun e w'=>(∃ bo c,e=χ (.slice bo r.l.length c)/\EL w' bo r.l/\r.l.length<=c/\(bo=none->r.l.length=0/\c=0)/\∀ a,bo=some a->w.heap.size<=a.block/\a.block<w'.heap.size)/\Gw w w' :=
 (H.list h.h).mono fun e w' ⟨⟨bo,c,he,er⟩,gg⟩=>by
  refine ⟨⟨bo,c,he,Hz er (fun i hi=>by have:=h.bd _ (qaz hi);rw [<-ji hi] at this;exact this),?_⟩,gg⟩
  rcases er.2 with ⟨e,z⟩ | ⟨b,cap,cur,e,hb,hh,hc,_⟩
  ·injection e with e1 e2 e3
   subst e1 e3;exact ⟨ω,(fun _=>⟨z,rfl⟩),fun a x=>(by cases x)⟩
  ·injection e with e1 e2 e3
   subst e1 e3;exact ⟨hc,(fun x=>by cases x),fun a x=>(by cases x;exact ⟨hb,ak hh⟩)⟩
theorem adk (H:bj HR) (h:aP HR w p rs eps buf B W) (ao:Option Addr) (c:Nat) (l:List ah) (hl:EL w ao l) (hc:l.length<=c) (hz:ao=none->l.length=0/\c=0) (j:Nat) (hj:j<40) :
  Calls prog 83 #[IS p,.slice ao l.length c,By (j:Int)] w fun e w'=>(∃ ob m oc,e=χ (ψ ob 0 m oc)/\EV w' (some (φ ob 0)) (l::lists (rs.take (j+1)))/\(l::lists (rs.take (j+1))).length=m/\m<=oc/\w.heap.size<=ob)/\Gw w w':=by
 have HC:ag (aP HR w p rs eps buf B W):=h;have HH:ag (bj HR):=H;obtain ⟨n,hn⟩:=qbr (j+1);have wn:IntKind.i64.wrap ((j:Int)+1)=(n:Int):=by rw [Δ];omega
 have n40:n<=40:=ω;have ait:(n:Int)<=40:=ω;rw [hn];obtain ⟨jj,ka,jz,js,kg⟩:=info_parts Iv;have R1:ag ((w.alloc (.cells #[.slice ao l.length c] 72)).ownsRow w.heap.size 72 1 (ψ w.heap.size 0 1 1) 1 [.slice ao l.length c]):=⟨rfl,.inr ⟨w.heap.size,1,_,rfl,Yk _,Ω w _,Yk _,γ,rfl,rfl⟩⟩;have K1:ag (TL (w.alloc (.cells #[.slice ao l.length c] 72)) w.heap.size [.slice ao l.length c] (l::lists (rs.take 0))):=by
  refine ⟨rfl,fun i hi=>?_⟩
  have dQ:i<1:=hi;have e:i=0:=ω;subst e;refine ⟨ao,c,rfl,hc,hl.gw ((Gw.refl w).alloc _ _),hz,fun a e z=>?_⟩
  obtain ⟨b,off,e',hb,_⟩:=hl.cells z;rw [e] at e';cases e';exact ⟨Nat.ne_of_lt hb,Θ hb ((Gw.refl w).alloc _ _).size⟩
 have G1:ag (Gw w (w.alloc (.cells #[.slice ao l.length c] 72))):=(Gw.refl w).alloc _ _;have hp:=h.lt;obtain ⟨ll,yR⟩:=qbr l.length;rw [yR] at R1 K1 G1 ⊢;clear h H hl hc hz hn yR;go_enter func83,ntmps83;go_wp2_with fail;generalize w.alloc (.cells #[.slice ao ll c] 72)=w1 at R1 K1 G1 ⊢;go_loopg [7,19] n (fun gg s7 s19 wr=>∃ (i m ob oc:Nat) (au:List Value),s7=ψ ob 0 m oc/\s19=By (i:Int)/\i<=n/\n-i<=gg/\m<=i+1/\ag ((l::lists (rs.take i)).length=m)/\ag (wr.ownsRow w.heap.size 72 1 (ψ ob 0 m oc) m au)/\ag (TL wr ob au (l::lists (rs.take i)))/\ag (Gw w wr))
 case atStart=>exact ⟨0,1,w.heap.size,1,_,rfl,rfl,Γ _,ω,Yk _,(by show _=_;rfl),R1,K1,G1⟩
 case round =>
  clear R1 K1 G1;obtain ⟨i,m,ob,oc,au,rfl,rfl,a1,a2,a3,ML,R,KK,G⟩:=hrel;obtain ⟨wS,aS⟩:=qbs wr;subst aS;by_cases ar:i<n
  ·have dH:(i:Int)<(n:Int):=(by omega);have ci:=(HC.o.gw HH.o.kp G.o).cell (i:=i) ω;have pl:p<wS.heap.size:=Θ HC.o.lt G.o.size;have TK:=vW (rs:=rs) (i:=i) (by rw [HC.o.len];omega)
   rcases jk rs i with e | ⟨r,e⟩
   ·rw [e] at ci TK
    have cH:wS.cell? (φ p (2+i))=some (.pointer none):=ci;have LI:lists (rs.take (i+1))=lists (rs.take i):=(by rw [TK,vS];exact qaJ _);have tQ:ag ((l::lists (rs.take (i+1))).length=m):=(by rw [LI];exact ML);have IJ:ag (TL wS ob au (l::lists (rs.take (i+1)))):=(by rw [LI];exact KK);clear ci e TK LI ML KK;go_wp2_with fail;go_roundg (n-(i+1))
    case measure=>omega
    case rel=>exact ⟨i+1,m,ob,oc,au,rfl,by go_num,ω,Yk _,ω,tQ,R,IJ,G⟩
   ·rw [e] at ci TK
    have cH:wS.cell? (φ p (2+i))=some (IS (r.p)):=ci;have LI:ag (l::lists (rs.take (i+1))=(l::lists (rs.take i))++[r.l]):=(by show _=_;rw [TK,vS];rfl);have LT:ag (Calls prog 61 #[IS (r.p)] wS fun e w'=>(∃ bo c,e=χ (.slice bo r.l.length c)/\EL w' bo r.l/\r.l.length<=c/\(bo=none->r.l.length=0/\c=0)/\∀ a,bo=some a->wS.heap.size<=a.block/\a.block<w'.heap.size)/\Gw wS w'):=HH.o.told ((HC.o.runs r (kG (by rw [HC.o.len];omega) e)).1.gw HH.o.kp G.o)
    generalize r.p=rp at cH LT;generalize r.l=rl at LI LT;clear ci e TK;go_wp2_with fail;refine Calls.mono LT.o ?_;rintro e u1 ⟨⟨bo,cc,rfl,el,oJ,Rz,bG⟩,gg⟩;have pT:=(R.o.lt ob rfl).2;have lA:ag (EL u1 bo rl/\rl.length<=cc/\(bo=none->rl.length=0/\cc=0)/\∀ a,bo=some a->0<rl.length->a.block≠ob/\a.block<u1.heap.size):=⟨el,oJ,Rz,fun a x _=>⟨by have:=(bG a x).1;omega,(bG a x).2⟩⟩
    have R6:ag (u1.ownsRow w.heap.size 72 1 (ψ ob 0 m oc) m au):=QZ R.o gg;have K6:ag (TL u1 ob au (l::lists (rs.take i))):=KK.o.gw gg;have G6:ag (Gw w u1):=G.o.trans gg;have wz:=G6.o.size;obtain ⟨rn,kH⟩:=qbr rl.length;have RN:ag (rl.length=rn):=kH;rw [kH];clear gg el oJ Rz bG R KK LT kH;go_wp2_with (at_builtin;refine wpList_append_own_at _ rfl _ _ 101 rfl w.heap.size 72 jj (.slice none 0 0) 1 24 underlying101 ka jz js kg rfl γ _ m _ rfl (R6.o.alloc _) ⟨u1.heap.size,0,none⟩ 1 1 [(.slice bo rn cc)] rfl rfl (Cw u1 (.slice bo rn cc) 72) (fun u hu=>by simp at hu;subst hu;rfl) θ ω ζ ?_)
    intro v' w8 r1 r2 r3 r4;obtain ⟨b8,cap8,rfl,pM,_,_⟩:=cJ r1 (by simpa using r3)
    have pO:b8=ob\/u1.heap.size<=b8:=by
     rcases r4 with q | q
     ·have q':b8=ob:=(by simpa [Value.ownBlock] using q);exact .inl q'
     ·have q':b8=u1.heap.size+1:=(by simpa [Value.ownBlock] using q);exact .inr ω
    have iF:(u1.alloc (.cells #[(.slice bo rn cc)] 72)).grownBy w8 (some ob):=r2;have K8:ag (TL w8 b8 (au++[(.slice bo rn cc)]) (l::lists (rs.take (i+1)))):=(by rw [LI.o];have:=K6.o.more iF pO lA.o.2.1 lA.o.1 lA.o.2.2.1 lA.o.2.2.2;rw [RN.o] at this;exact this);have G8:ag (Gw w w8):=(G6.o.alloc _ _).grown r2 (fun q hq=>(World.ownsRow.lt R6.o q hq).1)
    have R8:ag (w8.ownsRow w.heap.size 72 1 (ψ b8 0 (m+1) cap8) (m+1) (au++[(.slice bo rn cc)])):=r1;have tQ:ag ((l::lists (rs.take (i+1))).length=m+1):=(by show _=_;rw [LI.o,Ψ,ML.o];rfl);clear r1 r2 r3 r4 iF pM R6 K6 G6 lA;go_wp2_with fail;go_roundg (n-(i+1))
    case measure=>omega
    case rel=>exact ⟨i+1,m+1,b8,cap8,_,rfl,by go_num,ω,Yk _,ω,tQ,R8,K8,G8⟩
  ·have ei:i=n:=(by omega);subst ei;have X1:ag (EV wS (some (φ ob 0)) (l::lists (rs.take i))):=KK.o.ev R.o ML.o;have moc:m<=oc:=(cJ R.o ε).elim fun _ ⟨_,ev,_,h,_⟩=>by cases ev;exact h
   have pT:w.heap.size<=ob:=(R.o.lt ob rfl).1;clear R KK;go_wp2_with fail;go_ret;exact ⟨⟨ob,m,oc,rfl,X1.o,ML.o,moc,pT⟩,G.o⟩
structure HV (w:World) (ao:Option Addr) (L:List (List ah)):Prop where
 cells:0<L.length->∃ b off,ao=some (φ b off)/\b<w.heap.size/\∀ i,i<L.length->∃ bo c,w.cell? (φ b (off+i))=some (.slice bo (L.getD i []).length c)
variable {ao:Option Addr}
theorem EV.hv (h:EV w ao L):HV w ao L :=
 ⟨fun h0=>by
  obtain ⟨b,off,e,hb,hc⟩:=h.cells h0;exact ⟨b,off,e,hb,fun i hi=>by obtain ⟨bo,c,c1,_⟩:=hc i hi;exact ⟨bo,c,c1⟩⟩⟩
variable {F:Nat->Prop} {b:Nat}
theorem HV.gx (h:HV w (some (φ b 0)) L) (g:Gx F w w') (hb:¬ F b):HV w' (some (φ b 0)) L :=
 ⟨fun h0=>by
  obtain ⟨b',off,e,eQ,hc⟩:=h.cells h0;cases e;have eq:∀ o,w'.cell? (φ b o)=w.cell? (φ b o):=fun o=>qba (a:=⟨b,o,none⟩) (g.block b eQ hb)
  exact ⟨b,0,rfl,Θ eQ g.size,fun i hi=>by obtain ⟨bo,c,c1⟩:=hc i hi;exact ⟨bo,c,(eq _).trans c1⟩⟩⟩
theorem adl (ao:Option Addr) (c:Nat) (L:List (List ah)) (hL:L.length<=2000000) (hs:aN L<=2000000) (w:World) (h:HV w ao L) :
  Calls prog 89 #[.slice ao L.length c] w fun e w'=>e=χ (By (aN L:Nat))/\w'=w:=by
 have HE:ag _:=h;obtain ⟨n,hn⟩:=qbr L.length;have LN:ag _:=hn;have HS:ag _:=hs;obtain ⟨S,hS⟩:=qbr (aN L);have SS:ag _:=hS;rw [hS];rw [hn] at hL ⊢;clear h hn hs hS;have TOT:ag (∀ i,i<L.length->aN (L.take (i+1))=aN (L.take i)+(L.getD i []).length/\aN (L.take (i+1))<=aN L):=fun i hi=>by
  have e:L.take (i+1)=L.take i++[L.getD i []]:=by rw [qaW,qah hi,qag,qah hi];rfl
  have f:aN (L.take (i+1))+aN (L.drop (i+1))=aN L:=by rw [<-rC,List.take_append_drop]
  refine ⟨by rw [e,rC];simp [aN],ω⟩
 go_enter func89,ntmps89;go_wp2_with fail;go_loopg [3,8] n (fun gg s3 s8 wr=>∃ i t:Nat,s3=By (t:Int)/\s8=By (i:Int)/\i<=n/\n-i<=gg/\t<=2000000/\ag (aN (L.take i)=t)/\wr=w)
 case atStart=>exact ⟨0,0,rfl,rfl,Γ _,ω,ω,(by show _=_;rfl),rfl⟩
 case round =>
  obtain ⟨i,t,rfl,rfl,a1,a2,a3,T,hw⟩:=hrel;subst hw;by_cases ar:i<n
  ·have dH:(i:Int)<(n:Int):=(by omega);have hi:i<L.length:=(by rw [LN.o];exact ar);obtain ⟨b,off,rfl,hb,hc⟩:=HE.o.cells ω;obtain ⟨bo,cc,c1⟩:=hc i hi;obtain ⟨t1,t2⟩:=TOT.o i hi;rw [T.o] at t1;have t3:=HS.o;obtain ⟨m,hm⟩:=qbr ((L.getD i []).length);rw [hm] at c1 t1;have T':ag _:=t1;have tm:t+m<=2000000:=ω;clear hc t1 t2 t3 hm T hi;go_wp2_with fail;go_roundg (n-(i+1))
   case measure=>omega
   case rel=>exact ⟨i+1,t+m,by go_num,by go_num,ω,Yk _,tm,T',rfl⟩
  ·have ei:i=n:=(by omega);subst ei;have e:S=t:=(by rw [<-SS.o,<-T.o,qaQ (by rw [LN.o];exact Yk _)]);subst e;clear T SS;go_wp2_with fail;go_ret;exact ⟨rfl,rfl⟩
structure cX (rs:List (Option Rn)) (t:Nat):Prop where
 le:t<=rs.length
 no:∀ i,t<=i->rs.getD i none=none
 is:t=0\/∃ r,rs.getD (t-1) none=some r
theorem cX.one {t t':Nat} (h:cX rs t) (h':cX rs t'):t=t':=by
 have key:∀ {a b:Nat},cX rs a->cX rs b->¬ a<b:=fun {a b} ha hb lt=>by
  rcases hb.is with e | ⟨r,e⟩
  ·omega
  ·rw [ha.no (b-1) ω] at e;cases e
 have:=key h h'
 have:=key h' h
 omega
theorem RC (h:aP HR w p rs eps buf B W) :
  Calls prog 64 #[IS p] w fun e w'=>(∃ t:Nat,e=χ (ψ p 2 t 40)/\cX rs t)/\w'=w:=by
 have HC:ag _:=h;have hp:=h.lt;clear h;go_enter func64,ntmps64;go_wp2_with fail;go_loopg [3] 40 (fun gg s3 wr=>∃ m:Nat,s3=By (m:Int)/\m<=40/\m<=gg/\wr=w/\ag (∀ i,m<=i->rs.getD i none=none))
 case atStart=>exact ⟨40,rfl,Yk _,Yk _,rfl,(show ag _ from fun i hi=>by rw [qag,qbb (by rw [HC.o.len];exact hi)];rfl)⟩
 case round =>
  obtain ⟨m,rfl,a1,a2,hw,N⟩:=hrel;subst hw;have aD:ag ((m=0\/∃ r,rs.getD (m-1) none=some r)->cX rs m):=fun x=>⟨by rw [HC.o.len];exact a1,N.o,x⟩
  by_cases q:0<m
  ·obtain ⟨k,hk⟩:∃ k:Nat,m=k+1:=⟨m-1,ω⟩
   have wm:IntKind.i64.wrap ((m:Int)-1)=(k:Int):=(by rw [Δ];omega);have IK:(k:Int)<40:=ω;have m40:(m:Int)<=40:=ω;have ck:=HC.o.cell (i:=k) ω;have HK:ag _:=hk;rcases jk rs k with e | ⟨r,e⟩
   ·rw [e] at ck
    have vY:wr.cell? (φ p (2+k))=some (.pointer none):=ck;have N':ag (∀ i,k<=i->rs.getD i none=none):=fun i hi=>by
     by_cases x:i=k
     ·rw [x];exact e
     ·exact N.o i ω
    clear ck e N hk aD;go_wp2_with fail;go_roundg k
    case measure=>have:=HK.o;omega
    case rel=>exact ⟨k,rfl,ω,Yk _,rfl,N'⟩
   ·rw [e] at ck
    have vY:wr.cell? (φ p (2+k))=some (IS (r.p)):=ck;have RR:ag _:=aD.o (.inr ⟨r,by rw [hk];exact e⟩)
    generalize r.p=rp at vY;clear ck e N hk aD;go_wp2_with fail;go_ret;exact ⟨⟨m,rfl,RR.o⟩,rfl⟩
  ·have m0:m=0:=(by omega);have RR:ag (cX rs 0):=(by rw [<-m0];exact aD.o (.inl m0));subst m0;clear N q aD;go_wp2_with fail;go_ret;exact ⟨⟨0,rfl,RR.o⟩,rfl⟩
theorem IL:(prog.info? 108).map (fun i=>(i.zero,i.size,i.bytes))=some (some (.pointer none),1,8):=η
def RO (w:World) (base:Nat) (v:Value) (rs:List (Option Rn)):Prop:=w.ownsRow base 108 1 v rs.length (rs.map ptr)
theorem adm (o:Option Rn):(ptr o).oneCell'=true:=by cases o<;>rfl
theorem CU (rs:List (Option Rn)):∀ u∈rs.map ptr,u.oneCell'=true:=by intro u hu;obtain ⟨o,_,rfl⟩:=qaA.1 hu;exact adm o
theorem PR.news (h:PR HR w ao rs):∀ ad,ao=some ad->∀ j u,(rs.map ptr)[j]?=some u->w.cell? (ad.add j)=some u:=by
 intro ad e j u hu;have hj:j<rs.length:=by
  have:=(qaT.1 hu).1
  simpa using this
 obtain ⟨b,off,e',_,hc⟩:=h.cells ω;rw [e] at e';cases e';rw [Addr.add_lit,hc j hj,fI hj];simpa [hj] using hu
theorem RO.gw {v:Value} (h:RO w base v rs) (g:Gw w w'):RO w' base v rs:=by
 refine ⟨h.1,?_⟩;rcases h.2 with q | ⟨b,cap,cur,rfl,hb,hh,r⟩
 ·exact .inl q
 ·exact .inr ⟨b,cap,cur,rfl,hb,(g.below.block b (ak hh)).trans hh,r⟩
theorem RO.pr {c:Nat} (h:RO w base (.slice ao rs.length c) rs) (hr:∀ r,some r∈rs->RA HR w r):PR HR w ao rs:=by
 refine ⟨fun h0=>?_,hr⟩
 rcases h.2 with ⟨_,z⟩ | ⟨b,cap,cur,e,hb,hh,r⟩
 ·omega
 ·injection e with e1 e2 e3
  subst e1 e3;refine ⟨b,0,rfl,ak hh,fun i hi=>?_⟩
  have:=World.ownsRow.cellAt h i ω
  rw [qai,this,fI hi];simp [hi]
theorem adn (ad:Addr) (c:Nat) (rs:List (Option Rn)) (hl:rs.length<=2000000) (w:World) (h:PR HR w (some ad) rs) :
  Calls prog 78 #[.slice (some ad) rs.length c] w fun e w'=>(∃ b cp,e=χ (ψ b 0 rs.length cp)/\RO w' w.heap.size (ψ b 0 rs.length cp) rs)/\Gw w w':=by
 have O0:ag ((w.alloc (.cells #[] 108)).ownsRow w.heap.size 108 1 (ψ w.heap.size 0 0 0) 0 []):=World.ownsRow_made w #[] 0 (Yk _) (Γ _) rfl;have NW:ag (∀ x,(some ad:Option Addr)=some x->∀ j u,(rs.map ptr)[j]?=some u->(w.alloc (.cells #[] 108)).cell? (x.add j)=some u):=by intro x hx j u hu;have:=h.news x hx j u hu;exact Go.Lib.cell?_alloc_some _ this
 obtain ⟨ii,aK,hz,hs,aJ⟩:=info_parts IL;have hq:∀ W:World,(binOp .eql 118 (.slice (some ad) rs.length c) (.slice none 0 0)).run prog W=.ok (.bool false) W:=fun _=>η
 have LN:ag ((rs.map ptr).length=rs.length*1):=by show _=_;simp
 clear h;go_enter func78,ntmps78;go_wp2_with (at_builtin;refine qG _ rfl _ _ 118 rfl w.heap.size 108 ii (.pointer none) 1 8 underlying118 aK hz hs aJ rfl γ _ 0 [] rfl O0.o (some ad) rs.length c (rs.map ptr) rfl (fun e=>by cases e) LN.o NW.o (CU rs) (by unfold maxLen;omega) ω ε ?_)
 intro v' w7 q1 q2 q3;have G7:ag (Gw w w7):=((Gw.refl w).alloc _ _).grown q2 (fun k hk=>by cases hk;exact Yk _)
 have R5:w7.ownsRow w.heap.size 108 1 v' rs.length (rs.map ptr):=by simpa using q1
 obtain ⟨b5,cB,rfl,_,_,_⟩:=cJ R5 (by simpa using q3)
 have av:ag _:=R5;clear q1 q2 q3 R5 aK hz hs aJ;go_wp2_with fail;go_ret;exact ⟨⟨b5,cB,rfl,av.o⟩,G7.o⟩
theorem RE (h:aP HR w p rs eps buf B W) :
  Calls prog 45 #[IS p] w fun e w'=>(∃ (t b c:Nat),e=χ (ψ b 0 t c)/\cX rs t/\RO w' w.heap.size (ψ b 0 t c) (rs.take t))/\Gw w w':=by
 have TO:ag _:=RC h;have CL:ag (∀ t,t<=40->Calls prog 78 #[ψ p 2 t 40] w fun e w'=>(∃ b cp,e=χ (ψ b 0 t cp)/\RO w' w.heap.size (ψ b 0 t cp) (rs.take t))/\Gw w w'):=fun t ht=>by
  have:=adn ⟨p,2,none⟩ 40 (rs.take t) (by rw [qav];omega) w (h.take t)
  rw [show (rs.take t).length=t by rw [qav,h.len];omega] at this
  exact this
 have IM:ag _:=h.len;clear h;go_enter func45,ntmps45;go_wp2_with fail;refine Calls.mono TO.o ?_;rintro e w1 ⟨⟨t,rfl,tr⟩,hw⟩;have eJ:w=w1:=hw.symm;subst eJ;have TR:ag _:=tr;have ht:t<=40:=by have:=tr.le;have:=IM.o;omega
 clear hw tr;go_wp2_with fail;refine Calls.mono (CL.o t ht) ?_;rintro e w2 ⟨⟨b,cp,rfl,ro⟩,g2⟩;have RR:ag _:=ro;have G2:ag _:=g2;clear ro g2;go_wp2_with fail;go_ret;exact ⟨⟨t,b,cp,rfl,TR.o,RR.o⟩,G2.o⟩
variable {i:Nat}
theorem RG {j a:Nat} (x:¬ j=i):(if j<i+1 then a else b)=if j<i then a else b:=by
 by_cases y:j<i
 ·rw [Ym y,Ym ω]
 ·rw [Yl y,Yl ω]
def fQ (o:Option Rn):Nat:=match o with
 | some r=>r.l.length
 | none=>0
theorem ado (H:bj HR) (h:aP HR w p rs eps buf B W) :
  Calls prog 39 #[IS p] w fun e w'=>(∃ (t b:Nat),e=χ (ψ b 0 t t)/\cX rs t/\w'.rowIs b 3 t (fun i=>By (fQ (rs.getD i none):Int))/\w.heap.size<=b)/\Gw w w':=by
 have TO:ag (Calls prog 64 #[IS p] w fun e w'=>(∃ t:Nat,e=χ (ψ p 2 t 40)/\cX rs t)/\w'=w):=RC h
 have HC:ag (aP HR w p rs eps buf B W):=h;have HH:ag (bj HR):=H;clear h H;go_enter func39,ntmps39;go_wp2_with fail;refine Calls.mono TO.o ?_;rintro e w1 ⟨⟨t,rfl,tr⟩,hw⟩;have eJ:w=w1:=hw.symm;subst eJ;have TR:ag (cX rs t):=tr;have ht:t<=40:=by have:=tr.le;have:=HC.o.len;omega
 have mk:=QM t (t:Int) rfl ω w;obtain ⟨bq,aE⟩:=qbr w.heap.size;have BQ:ag (w.heap.size=bq):=aE;have RW:ag ((w.alloc (.cells (madeCells #[By 0] t) 3)).rowIs bq 3 t (fun i=>By ((if i<0 then fQ (rs.getD i none) else 0:Nat):Int))):=by rw [<-aE];exact (World.rowIs_made w (By 0) t 3).congr fun i _=>ε
 have G1:ag (Gw w (w.alloc (.cells (madeCells #[By 0] t) 3))):=(Gw.refl w).alloc _ _;rw [aE] at mk;clear hw tr aE TO;go_wp2_with fail;generalize w.alloc (.cells (madeCells #[By 0] t) 3)=w1 at RW G1 ⊢;clear mk;go_loopg [14] t (fun gg IP wr=>∃ i:Nat,IP=By (i:Int)/\i<=t/\t-i<=gg/\ag (wr.rowIs bq 3 t (fun j=>By ((if j<i then fQ (rs.getD j none) else 0:Nat):Int)))/\ag (Gw w wr))
 case atStart=>exact ⟨0,rfl,Γ _,ω,RW,G1⟩
 case round =>
  clear RW G1;obtain ⟨i,rfl,a1,a2,RW,G⟩:=hrel;obtain ⟨wS,aS⟩:=qbs wr;subst aS;by_cases ar:i<t
  ·have dH:(i:Int)<(t:Int):=(by omega);have ci:=(HC.o.gw HH.o.kp G.o).cell (i:=i) ω;have pl:p<wS.heap.size:=Θ HC.o.lt G.o.size;rcases jk rs i with e | ⟨r,e⟩
   ·rw [e] at ci
    have cH:wS.cell? (φ p (2+i))=some (.pointer none):=ci;have IQ:ag (wS.rowIs bq 3 t (fun j=>By ((if j<i+1 then fQ (rs.getD j none) else 0:Nat):Int))):=RW.o.congr fun j hj=>by
     by_cases x:j=i
     ·subst x;rw [e];simp [fQ]
     ·rw [RG x]
    clear ci e RW;go_wp2_with fail;go_roundg (t-(i+1))
    case measure=>omega
    case rel=>exact ⟨i+1,by go_num,ω,Yk _,IQ,G⟩
   ·rw [e] at ci
    have cH:wS.cell? (φ p (2+i))=some (IS (r.p)):=ci;have LE:ag (Calls prog 65 #[IS (r.p)] wS fun e w'=>e=χ (By (r.l.length:Int))/\Gw wS w'):=HH.o.len ((HC.o.runs r (kG (by rw [HC.o.len];omega) e)).1.gw HH.o.kp G.o).h
    have SZ:ag (fQ (rs.getD i none)=r.l.length):=(by rw [e];rfl);generalize r.p=rp at cH LE;generalize r.l.length=rn at SZ LE;clear ci e;go_wp2_with fail;refine Calls.mono LE.o ?_;rintro e u1 ⟨rfl,gg⟩;have R1:=RW.o.of_block (gg.below.block bq RW.o.lt);have m0:=R1.cell (i:=i) ar;have z0:=R1.frozen i;have bl:=R1.lt;have IQ:ag ((u1.setCell (φ bq i) (By (rn:Int))).rowIs bq 3 t (fun j=>By ((if j<i+1 then fQ (rs.getD j none) else 0:Nat):Int))):=(R1.set i (By (rn:Int))).congr fun j hj=>by
     by_cases x:j=i
     ·subst x;rw [Ym rfl,Ym (Nat.lt_succ_self _),SZ.o]
     ·rw [Yl x,RG x]
    have G2:ag (Gw w (u1.setCell (φ bq i) (By (rn:Int)))):=(G.o.trans gg).setCell (qad BQ.o) _;have w0:(if i<i then fQ (rs.getD i none) else 0:Nat)=0:=Yl (Nat.lt_irrefl _)
    rw [w0] at m0;clear gg LE R1 RW G SZ w0;go_wp2_with fail;go_roundg (t-(i+1))
    case measure=>omega
    case rel=>exact ⟨i+1,by go_num,ω,Yk _,IQ,G2⟩
  ·have ei:i=t:=(by omega);subst ei;have RR:ag (wS.rowIs bq 3 i (fun j=>By (fQ (rs.getD j none):Int))):=RW.o.congr fun j hj=>by rw [Ym hj]
   clear RW;go_wp2_with fail;go_ret;exact ⟨⟨i,bq,rfl,TR.o,RR.o,qad BQ.o⟩,G.o⟩
theorem adp (H:bj HR) (h:aP HR w p rs eps buf B W) (q:Int) (q0:0<=q) (q1:q<18446744073709551616) :
  Calls prog 67 #[IS p,BY q] w fun e w'=>e=π #[(dE (nw q rs)).1,.bool (dE (nw q rs)).2]/\Gw w w':=by
 obtain ⟨x,y,z,t,f1,f2,f3⟩:=pV (nw q rs);have NW:ag (∀ W,Gw w W->Calls prog 99 #[ψ p 2 40 40,BY q] W fun e w'=>e=χ (.tuple #[.agg #[BY x,BY y,.bool z],.bool t])/\Gw W w'):=fun W gg=>by
  have:=Rv H (some (φ p 2)) 40 rs q q0 q1 (by rw [h.len];omega) W (PR.gw H.kp (h.drop 0) gg)
  rw [f1,h.len] at this;exact this
 have hp:=h.lt;rw [f1];clear f1 f2 f3 h H;go_enter func67,ntmps67;go_wp2_with fail;refine Calls.mono (NW.o _ ((Gw.refl w).alloc _ _)) ?_;rintro e u1 ⟨rfl,gg⟩;have GU:ag (Gw w u1):=((Gw.refl w).alloc _ _).trans gg;have E0:u1.heap[w.heap.size]?=some (.cells #[BY 0,BY 0,.bool false] 71 (0,0)):=(gg.below.block _ ε).trans (Ω _ _);obtain ⟨bq,aE⟩:=qbr w.heap.size;have BQ:ag _:=aE;rw [aE] at E0 ⊢;obtain ⟨m0,m1,m2,z0,z1,z2,bl,TT⟩:=lY E0;have T3:=TT x y z;clear E0 gg NW TT aE;go_wp2_with fail;exact bodyPost_ret (v:=.tuple #[.agg #[BY x,BY y,.bool z],.bool t]) (by simp [results,results67,go_sem,T3.1,T3.2.1,T3.2.2]) rfl ⟨rfl,((GU.o.setCell (qad BQ.o) _).setCell (qad BQ.o) _).setCell (qad BQ.o) _⟩
theorem adq (h:aP HR w p rs eps buf B W) :
  Calls prog 37 #[IS p] w fun e w'=>e=χ (By B)/\w'=w:=by
 have c:=h.c2;have hp:=h.lt;clear h;go_enter func37,ntmps37;go_wp2_with fail;go_ret;exact ⟨rfl,rfl⟩
theorem adr (h:aP HR w p rs eps buf B W) :
  Calls prog 38 #[IS p] w fun e w'=>e=χ (By W)/\w'=w:=by
 have c:=h.c3;have hp:=h.lt;clear h;go_enter func38,ntmps38;go_wp2_with fail;go_ret;exact ⟨rfl,rfl⟩
theorem oK {o:Nat} {vs:Array Value} {t:TypeId} (h:w.heap[b]?=some (.cells vs t (0,0))) (u:Value):(w.setCell (φ b o) u).heap[b]?=some (.cells (vs.setIfInBounds o u) t (0,0)):=by simp [World.setCell,Array.getElem?_modify,h]
section
variable {eps buf B W:Int}
variable {rs:List (Option Rn)}
theorem RH {j:Nat} (hj:j<rs.length) (o:Option Rn):(eW eps buf rs B W).toArray.setIfInBounds (2+j) (ptr o)=(eW eps buf (rs.set j o) B W).toArray:=by
 rw [List.setIfInBounds_toArray];congr 1;have e:2+j=j+1+1:=ω;rw [e];show _::_::(rs.map ptr++_).set j (ptr o)=_;rw [List.set_append_left _ _ (by simpa using hj),<-List.map_set]
 rfl
theorem ads (h:rs.length=40) (B':Int):(eW eps buf rs B W).toArray.setIfInBounds 42 (By B')=(eW eps buf rs B' W).toArray:=by
 rw [List.setIfInBounds_toArray];congr 1;show _::_::(rs.map ptr++_).set 40 _=_;rw [List.set_append_right _ _ (by simp [h]),qaS,h]
 rfl
theorem adt (h:rs.length=40) (W':Int):(eW eps buf rs B W).toArray.setIfInBounds 43 (By W')=(eW eps buf rs B W').toArray:=by
 rw [List.setIfInBounds_toArray];congr 1;show _::_::(rs.map ptr++_).set 41 _=_;rw [List.set_append_right _ _ (by simp [h]),qaS,h]
 rfl
variable {p:Nat}
theorem IU {t:TypeId}:∀ (r1:List (Option Rn)) (j:Nat) (rs:List (Option Rn)) (w:World),j+r1.length<=rs.length->w.heap[p]?=some (.cells (eW eps buf rs B W).toArray t (0,0))->(w.setCells p (2+j) (r1.map ptr)).heap[p]?=some (.cells (eW eps buf (rs.take j++r1++rs.drop (j+r1.length)) B W).toArray t (0,0))
 | [],j,rs,w,_,h=>by simpa [World.setCells] using h
 | a::r1,j,rs,w,hl,h=>by
  have hj:j<rs.length:=by simp at hl;omega
  have h1:=oK (o:=2+j) h (ptr a);rw [RH hj] at h1;have ih:=IU r1 (j+1) (rs.set j a) _ (by simp at hl ⊢;omega) h1
  rw [qaw,World.setCells];rw [show 2+j+1=2+(j+1) by omega,ih]
  congr 4
  have e1:(rs.set j a).take (j+1)=rs.take j++[a]:=by rw [qaW,List.take_set_of_le (Yk _),List.getElem?_set_self hj];rfl
  have e2:(rs.set j a).drop (j+1+r1.length)=rs.drop (j+(r1.length+1)):=by rw [List.drop_set_of_lt ω,show j+1+r1.length=j+(r1.length+1) by omega]
  rw [e1,e2];simp
theorem yS:∀ (vs:List Value) (o:Nat) (w:World),Gx (fun q=>q=p) w (w.setCells p o vs)
 | [],_,w=>Gx.refl _ w
 | v::r,o,w=>by rw [World.setCells];exact ((Gx.refl (fun q=>q=p) w).set (.inl rfl) o v).trans (yS r (o+1) _) (fun q hq=>.inl hq)
theorem RJ (n:Nat):(List.replicate n (none:Option Rn)).map ptr=List.replicate n (.pointer none):=by simp [ptr]
end
def gY (l:List ah):Int:=if l=[] then 0 else 1
def gZ (HR:bH) (w w':World) (eps:Int) (kept:List ah) (o:Option Rn):Prop :=
 (kept=[]/\o=none)\/(kept≠[]/\∃ r,o=some r/\r.eps=eps/\r.l=kept/\du eps (ek kept) kept.length r.L/\(∀ q,r.S q->w.heap.size<=q)/\RA HR w' r)
variable {HR:bH} {w:World} {p:Nat} {rs:List (Option Rn)} {eps buf B W:Int}
theorem adu (H:bj HR) (h:aP HR w p rs eps buf B W) (ao:Option Addr) (c:Nat) (kept:List ah) (hk:EL w ao kept) (ok:aR kept) (hc:kept.length<=c) (hz:ao=none->kept.length=0/\c=0) (hn:kept.length<=2000000) (hB:0<=B/\B<4611686018427387904) (hW:0<=W/\W<4611686018427387904) (j:Nat) (hj:j<40) :
  Calls prog 88 #[IS p,.slice ao kept.length c,By (j:Int)] w fun e w'=>(∃ o,e=χ (By 0)/\gZ HR w w' eps kept o/\aP HR w' p (List.replicate j none++o::rs.drop (j+1)) eps buf (B+gY kept) (W+kept.length))/\Gx (fun q=>q=p) w w':=by
 have HC:ag _:=h;have HH:ag _:=H;have NW:ag _:=H.new eps ao kept.length c (ek kept) (ev kept) (eg kept) (by have:=h.e0;omega) (by have:=h.e1;omega) hn hc hz w hk
 have OK:ag _:=ok;have BD:ag _:=hk.all;have hp:=h.lt;have c0:=h.c0;obtain ⟨n,IV⟩:=qbr kept.length;have KN:ag _:=IV;rw [IV] at hn NW ⊢;obtain ⟨k,RQ⟩:=qbr (j+1);have JK:ag _:=RQ;have wk:IntKind.i64.wrap ((j:Int)+1)=(k:Int):=by rw [Δ];omega
 have IK:k<=40:=ω;have aiu:(k:Int)<=40:=ω;have oL:(j:Int)<40:=ω;clear h H hk ok hc hz IV RQ;go_enter func88,ntmps88;go_wp2_with fail;refine Calls.mono NW.o ?_;rintro e w1 ⟨⟨E,ne,x⟩,g1⟩;have e0:=HC.o.e0;have e1:=HC.o.e1;have E0:E=0:=by
  rcases ne with ⟨a,_⟩ | ⟨_,b⟩
  ·exact absurd ⟨e0,e1⟩ a
  ·rw [<-KN.o] at b;exact b.one OK.o
 rcases x with ⟨a,_⟩ | ⟨_,rp,S,L,rfl,hS,br,hr⟩
 ·exact absurd E0 a
 have jm:=HC.o.gw HH.o.kp g1;have IM:=HC.o.len;obtain ⟨W1,nF⟩:=qbr (w1.setCells p 2 (List.replicate k (.pointer none)));have zv:∀ w,(zeroValue 108).run prog w=.ok (.pointer none) w:=fun w=>by obtain ⟨ii,aK,oE,_,_⟩:=info_parts IL;simp [zeroValue,typeInfo,aK,oE]
 have oM:∀ ty,(Builtin.clear_ #[74] ty #[ψ p 2 k 40]).run prog w1=.ok (.tuple #[]) W1:=fun ty=>by rw [<-nF];exact Go.Lib.run_clear_slice w1 74 108 ty (.pointer none) underlying74 zv rfl rfl p 2 k 40 (by have:=JK.o;omega) (fun i hi=>by rw [jm.cell ω];rfl) (fun i _=>bC jm.blk)
 have nG:W1.heap[p]?=some (.cells (eW eps buf (List.replicate k none++rs.drop k) B W).toArray 117 (0,0)):=by
  have:=IU (List.replicate k (none:Option Rn)) 0 rs w1 ζ jm.blk
  rw [RJ] at this;rw [<-nF];simpa using this
 have oN:Gx (fun q=>q=p) w W1:=by rw [<-nF];exact (g1.gx _).trans (yS _ _ _) (fun q hq=>.inl hq)
 have RV:Gx (fun q=>q=p) w1 W1:=by rw [<-nF];exact yS _ _ _
 have l1:(List.replicate k (none:Option Rn)++rs.drop k).length=40:=by simp;omega
 have R1:∀ r,some r∈rs.drop k->RA HR W1 r/\¬ r.S p:=fun r hr=>by obtain ⟨q1,q2⟩:=HC.o.runs r (qbn hr);exact ⟨q1.gx HH.o.kp oN (fun q hq=>by rw [hq];exact q2),q2⟩
 have pS:¬ S p:=fun x=>by have:=hS p x;omega
 have RR:RA HR W1 ⟨rp,S,eps,kept,L⟩:=RA.keep HH.o.kp (w:=w1) ⟨by show HR w1 rp S eps _ _ _ kept.length L;rw [KN.o];exact hr,OK.o,BD.o,by show kept.length<=_;rw [KN.o];exact hn⟩ (fun q hq=>RV.block q (HH.o.lt hr q hq) (fun x=>by rw [x] at hq;exact pS hq))
 have BR:ag _:=br;have SS:ag _:=hS;have RZ:ag _:=R1;have vZ:ag (RA HR W1 ⟨rp,S,eps,kept,L⟩/\¬ S p):=⟨RR,pS⟩;have pW:ag _:=oN;have nH:ag _:=nG;have L1:ag _:=l1;have hp1:p<w1.heap.size:=jm.lt;clear ne g1 jm zv nG oN RV l1 R1 pS RR br hS hr nF E0 e0 e1 NW IM;by_cases n0:n=0
 ·subst n0
  have kn:kept=[]:=qbh.1 KN.o;have HE:ag (aP HR W1 p (List.replicate j none++none::rs.drop (j+1)) eps buf (B+gY kept) (W+(0:Nat))):=by
   have e:List.replicate j (none:Option Rn)++none::rs.drop (j+1)=List.replicate k none++rs.drop k:=(by rw [<-JK.o,List.replicate_succ',qaI];rfl);rw [e,show gY kept=0 from Ym kn];refine ⟨by simpa using nH.o,L1.o,fun r hr=>?_,HC.o.e0,HC.o.e1,HC.o.b0,HC.o.b1⟩
   rcases qaq.1 hr with q | q
   ·simp at q
   ·exact RZ.o r q
  have KE:ag _:=kn;clear kn;go_wp2_with fail;go_ret;exact ⟨⟨none,rfl,.inl ⟨KE.o,rfl⟩,HE.o⟩,pW.o⟩
 ·have kn:kept≠[]:=fun e=>n0 (by rw [<-KN.o,e];rfl)
  have KE:ag _:=kn;have Sa:0<n:=ω;have jl:j<(List.replicate k (none:Option Rn)++rs.drop k).length:=by rw [L1.o];exact hj
  obtain ⟨W2,nI⟩:=qbr (W1.setCell (φ p (2+j)) (IS rp));have jY:W2.heap[p]?=some (.cells (eW eps buf (List.replicate j none++some ⟨rp,S,eps,kept,L⟩::rs.drop (j+1)) B W).toArray 117 (0,0)):=by
   have:=oK (o:=2+j) nH.o (ptr (some ⟨rp,S,eps,kept,L⟩))
   rw [RH jl] at this;rw [<-nI];have e:(List.replicate k (none:Option Rn)++rs.drop k).set j (some ⟨rp,S,eps,kept,L⟩)=List.replicate j none++some ⟨rp,S,eps,kept,L⟩::rs.drop (j+1):=(by rw [<-JK.o,List.replicate_succ',qaI,List.set_append_right _ _ ε];simp);rw [e] at this;exact this
  have l2:(List.replicate j none++some (⟨rp,S,eps,kept,L⟩:Rn)::rs.drop (j+1)).length=40:=by
   have:=L1.o
   rw [<-JK.o] at this;simp at this ⊢;omega
  obtain ⟨W3,v8⟩:=qbr (W2.setCell (φ p 42) (By (B+1)));have pX:W3.heap[p]?=some (.cells (eW eps buf (List.replicate j none++some ⟨rp,S,eps,kept,L⟩::rs.drop (j+1)) (B+1) W).toArray 117 (0,0)):=by
   have:=oK (o:=42) jY (By (B+1))
   rw [ads l2] at this;rw [<-v8];exact this
  obtain ⟨W4,Sc⟩:=qbr (W3.setCell (φ p 43) (By (W+n)));have BC:W4.heap[p]?=some (.cells (eW eps buf (List.replicate j none++some ⟨rp,S,eps,kept,L⟩::rs.drop (j+1)) (B+1) (W+n)).toArray 117 (0,0)):=by
   have:=oK (o:=43) pX (By (W+n))
   rw [adt l2] at this;rw [<-Sc];exact this
  have m1:=aj nH.o (Rx L1.o hj);have lB:W1.cell? (φ p (2+j))=some (.pointer none):=by
   rw [m1,fI jl,List.getElem_append_left (by simp;have:=JK.o;omega),List.getElem_replicate]
   rfl
  have z1:=bC (o:=2+j) nH.o;have m2:=aj jY (CQ l2).1;have z2:=bC (o:=42) jY;have m3:=aj pX (CQ l2).2;have z3:=bC (o:=43) pX;have p1:=ak nH.o;have p2:=ak jY;have p3:=ak pX;have CW:Gx (fun q=>q=p) W1 W4:=by rw [<-Sc,<-v8,<-nI];exact (((Gx.refl (fun q=>q=p) W1).set (.inl rfl) _ _).set (.inl rfl) _ _).set (.inl rfl) _ _
  have GX4:ag _:=pW.o.trans CW (fun q hq=>.inl hq)
  have R4:RA HR W4 ⟨rp,S,eps,kept,L⟩:=vZ.o.1.gx HH.o.kp CW (fun q hq=>by rw [hq];exact vZ.o.2)
  have av:ag (gZ HR w W4 eps kept (some ⟨rp,S,eps,kept,L⟩)):=.inr ⟨KE.o,_,rfl,rfl,rfl,by rw [KN.o];exact BR.o,SS.o,R4⟩
  have HE:ag (aP HR W4 p (List.replicate j none++some ⟨rp,S,eps,kept,L⟩::rs.drop (j+1)) eps buf (B+gY kept) (W+n)):=by
   rw [show gY kept=1 from Yl kn];refine ⟨BC,l2,fun r hr=>?_,HC.o.e0,HC.o.e1,HC.o.b0,HC.o.b1⟩
   rcases qaq.1 hr with q | q
   ·simp at q
   ·rcases qaf.1 q with q | q
    ·cases q;exact ⟨R4,vZ.o.2⟩
    ·obtain ⟨a,b⟩:=RZ.o r (by rw [<-JK.o];exact q)
     exact ⟨a.gx HH.o.kp CW (fun q hq=>by rw [hq];exact b),b⟩
  have wB:IntKind.i64.wrap (B+1)=B+1:=by rw [Δ];omega
  have wW:IntKind.i64.wrap (W+(n:Int))=W+n:=by rw [Δ];omega
  clear jY pX BC l2 CW R4 m1 kn jl;go_wp2_with fail;go_ret;exact ⟨⟨_,rfl,av.o,HE.o⟩,GX4.o⟩
