/- The document's layer 15: classes in memory; New, Newest, Get. -/
import Derived.OpenShut
import Derived.Test.YtklkpldicbkjeaaGreatVUOf2
set_option linter.unusedVariables false
set_option maxHeartbeats 8000000
set_option maxRecDepth 10000
open Go.Proofs.Tryz
namespace Go.Proofs.YtklkpldicbkjeaaGreat
open Go.RowKit
theorem aR.kp:Kp aR:=⟨fun h k=>h.keep k,fun h=>h.lt⟩
structure aG (w:World) (p b:Nat) (rs:List (Option Rn)) (eps buf B W:Int):Prop where
 blk:∃ c,40<=c/\w.heap[p]?=some (.cells #[.int .i64 eps,.int .i64 buf,.slice (some ⟨b,0,none⟩) 40 c,.int .i64 B,.int .i64 W] 56 (0,0))
 row:∃ x:List Value,w.heap[b]?=some (.cells (rs.map ptr++x).toArray 65 (0,0))
 len:rs.length=40
 runs:∀ r,some r∈rs->RA aR w r/\¬ r.S p/\¬ r.S b
 ne:b≠p
 e0:2<=eps
 e1:eps<=64
 b0:1<=buf
 b1:buf<=4294967296
section
variable {w w':World} {p b:Nat} {rs:List (Option Rn)} {eps buf B W:Int}
theorem aG.plt (h:aG w p b rs eps buf B W):p<w.heap.size:=h.blk.elim fun _ x=>aE x.2
theorem aG.blt (h:aG w p b rs eps buf B W):b<w.heap.size:=h.row.elim fun _ x=>aE x
theorem aG.fz (h:aG w p b rs eps buf B W) (i:Nat):w.frozen? ⟨b,i,none⟩=false:=h.row.elim fun _ x=>dR x
theorem aG.fp (h:aG w p b rs eps buf B W) (i:Nat):w.frozen? ⟨p,i,none⟩=false:=h.blk.elim fun _ x=>dR x.2
theorem aG.gw (h:aG w p b rs eps buf B W) (g:Gw w w'):aG w' p b rs eps buf B W :=
 ⟨h.blk.elim fun c x=>⟨c,x.1,(g.below.block p (aE x.2)).trans x.2⟩,h.row.elim fun y x=>⟨y,(g.below.block b (aE x)).trans x⟩,h.len,fun r hr=>⟨(h.runs r hr).1.gw aR.kp g,(h.runs r hr).2⟩,h.ne,h.e0,h.e1,h.b0,h.b1⟩
theorem aG.gx {F:Nat->Prop} (h:aG w p b rs eps buf B W) (g:Gx F w w') (np:¬ F p) (nb:¬ F b) (d:∀ q,F q->∀ r,some r∈rs->¬ r.S q):aG w' p b rs eps buf B W :=
 ⟨h.blk.elim fun c x=>⟨c,x.1,(g.block p (aE x.2) np).trans x.2⟩,h.row.elim fun y x=>⟨y,(g.block b (aE x) nb).trans x⟩,h.len,fun r hr=>⟨(h.runs r hr).1.gx aR.kp g (fun q hq=>d q hq r hr),(h.runs r hr).2⟩,h.ne,h.e0,h.e1,h.b0,h.b1⟩
theorem aG.c0 (h:aG w p b rs eps buf B W):w.cell? ⟨p,0,none⟩=some (.int .i64 eps):=h.blk.elim fun _ x=>aD x.2 rfl
theorem aG.c1 (h:aG w p b rs eps buf B W):w.cell? ⟨p,1,none⟩=some (.int .i64 buf):=h.blk.elim fun _ x=>aD x.2 rfl
theorem aG.c2 (h:aG w p b rs eps buf B W):∃ c,40<=c/\w.cell? ⟨p,2,none⟩=some (.slice (some ⟨b,0,none⟩) 40 c):=h.blk.elim fun c x=>⟨c,x.1,aD x.2 rfl⟩
theorem aG.c3 (h:aG w p b rs eps buf B W):w.cell? ⟨p,3,none⟩=some (.int .i64 B):=h.blk.elim fun _ x=>aD x.2 rfl
theorem aG.c4 (h:aG w p b rs eps buf B W):w.cell? ⟨p,4,none⟩=some (.int .i64 W):=h.blk.elim fun _ x=>aD x.2 rfl
theorem aG.cell (h:aG w p b rs eps buf B W) {i:Nat} (hi:i<40):w.cell? ⟨b,i,none⟩=some (ptr (rs.getD i none)):=by
 have hl:i<rs.length:=by rw [h.len];exact hi
 obtain ⟨y,x⟩:=h.row;refine aD x ?_;rw [List.getElem?_toArray,List.getElem?_append_left (by simpa using hl),List.getElem?_map,List.getElem?_eq_getElem hl,dL hl]
 rfl
end
theorem QD:(prog.info? 65).map (fun i=>(i.zero,i.size,i.bytes))=some (some (.pointer none),1,8):=by kernel_rfl
theorem abW (w:World):(Instr.makeSlice 54 (.int .i64 40) (.int .i64 40)).run prog w=.ok (.slice (some ⟨w.heap.size,0,none⟩) 40 40) (w.alloc (.cells (madeCells #[.pointer none] 40) 65)):=by
 obtain ⟨i,hi,mA,hs,hb⟩:=info_parts QD;exact run_make_row (P:=prog) 54 65 i (.pointer none) underlying54 hi mA hs rfl .i64 .i64 40 (by rw [hb];omega) (by omega) w
theorem abX:madeCells #[Value.pointer none] 40=((List.replicate 40 (none:Option Rn)).map ptr).toArray:=by
 rw [Pb];refine Array.ext_getElem? fun i=>?_
 by_cases h:i<40
 ·have e1:(madeCells #[Value.pointer none] 40)[i]?=some (.pointer none):=by simp [madeCells,h,Nat.mod_one]
  have e2:((List.replicate 40 (Value.pointer none)).toArray)[i]?=some (.pointer none):=by rw [List.getElem?_toArray,List.getElem?_replicate,if_pos h]
  rw [e1,e2]
 ·have e1:(madeCells #[Value.pointer none] 40)[i]?=none:=Array.getElem?_eq_none (by simp [madeCells];omega)
  have e2:((List.replicate 40 (Value.pointer none)).toArray)[i]?=none:=by rw [List.getElem?_toArray,List.getElem?_replicate,if_neg h]
  rw [e1,e2]
theorem Fp (eps buf:Int) (w:World) :
  Calls prog 7 #[.int .i64 eps,.int .i64 buf] w fun e w'=>((¬ dM eps buf/\e=.returned (.tuple #[.pointer none,.int .i64 1]))\/(dM eps buf/\∃ p b,e=.returned (.tuple #[.pointer (some ⟨p,0,none⟩),.int .i64 0])/\w.heap.size<=p/\w.heap.size<=b/\aG w' p b (List.replicate 40 none) eps buf 0 0))/\Gw w w':=by
 have NO:(eps<2\/(¬ eps<2/\64<eps)\/(¬ eps<2/\¬ 64<eps/\buf<1)\/(¬ eps<2/\¬ 64<eps/\¬ buf<1/\4294967296<buf))/\¬ dM eps buf\/dM eps buf:=by
  by_cases h:dM eps buf
  ·exact .inr h
  ·refine .inl ⟨?_,h⟩
   unfold dM at h;omega
 rcases NO with ⟨a,b⟩ | a
 ·have BB:ag (¬ dM eps buf):=b
  clear b;rcases a with a | ⟨a,b⟩ | ⟨a,b,c⟩ | ⟨a,b,c,d⟩
  ·have t1:decide (eps<2)=true:=by simpa using a
   clear a;go_enter func7,ntmps7;go_wp2_with fail;go_ret2;exact ⟨.inl ⟨BB.o,rfl⟩,Gw.refl w⟩
  ·have t1:decide (eps<2)=false:=by simpa using a
   have t2:decide (64<eps)=true:=by simpa using b
   clear a b;go_enter func7,ntmps7;go_wp2_with fail;go_ret2;exact ⟨.inl ⟨BB.o,rfl⟩,Gw.refl w⟩
  ·have t1:decide (eps<2)=false:=by simpa using a
   have t2:decide (64<eps)=false:=by simpa using b
   have t3:decide (buf<1)=true:=by simpa using c
   clear a b c;go_enter func7,ntmps7;go_wp2_with fail;go_ret2;exact ⟨.inl ⟨BB.o,rfl⟩,Gw.refl w⟩
  ·have t1:decide (eps<2)=false:=by simpa using a
   have t2:decide (64<eps)=false:=by simpa using b
   have t3:decide (buf<1)=false:=by simpa using c
   have t4:decide (4294967296<buf)=true:=by simpa using d
   clear a b c d;go_enter func7,ntmps7;go_wp2_with fail;go_ret2;exact ⟨.inl ⟨BB.o,rfl⟩,Gw.refl w⟩
 ·have AA:ag (dM eps buf):=a
  obtain ⟨⟨a1,a2⟩,a3,a4⟩:=a;have t1:decide (eps<2)=false:=by simpa using a1
  have t2:decide (64<eps)=false:=by simpa using a2
  have t3:decide (buf<1)=false:=by simpa using a3
  have t4:decide (4294967296<buf)=false:=by simpa using a4
  obtain ⟨W1,lH⟩:∃ W1,w.alloc (.cells (madeCells #[.pointer none] 40) 65)=W1:=⟨_,rfl⟩;obtain ⟨bq,bQ⟩:∃ b,w.heap.size=b:=⟨_,rfl⟩;have mk:=abW w;rw [lH,bQ] at mk;have HC:ag (aG (W1.alloc (.cells #[.int .i64 eps,.int .i64 buf,.slice (some ⟨bq,0,none⟩) 40 40,.int .i64 0,.int .i64 0] 56)) W1.heap.size bq (List.replicate 40 none) eps buf 0 0):=by
   have s1:W1.heap.size=bq+1:=by rw [<-lH,<-bQ];simp
   refine ⟨⟨40,Nat.le_refl _,heap_alloc_new _ _⟩,⟨[],?_⟩,by simp,(fun r hr=>by simp at hr),by omega,a1,a2,a3,a4⟩
   rw [List.append_nil,heap_alloc_old _ _ (by omega),<-lH,<-bQ,<-abX]
   exact heap_alloc_new _ _
  have GG:ag (Gw w W1/\w.heap.size<=bq):=⟨by rw [<-lH];exact (Gw.refl w).alloc _ _,Nat.le_of_eq bQ⟩
  clear a1 a2 a3 a4 lH bQ;go_enter func7,ntmps7;go_wp2_with fail;go_ret2;exact ⟨.inr ⟨AA.o,_,bq,rfl,GG.o.1.size,GG.o.2,HC.o⟩,GG.o.1.alloc _ _⟩
theorem abY {w:World} {r:Rn} (h:RA aR w r) (q:Int) :
  Calls prog 71 #[.pointer (some ⟨r.p,0,none⟩),.int .u64 q] w fun e w'=>e=.returned (.tuple #[(dC (look ah.k q r.l)).1,.bool (dC (look ah.k q r.l)).2])/\Gw w w':=by
 have:=aat h.h h.ok.up q
 rw [Of h.ok.rise] at this;exact this
theorem QF {w:World} {p rb:Nat} {rs:List (Option Rn)} {eps buf B W:Int} (h:aG w p rb rs eps buf B W) (j:Nat) (hj:j<=40) (q:Int) :
  Calls prog 40 #[.pointer (some ⟨p,0,none⟩),.int .i64 (j:Int),.int .u64 q] w fun e w'=>e=.returned (.tuple #[(dC (nw q (rs.drop j))).1,.bool (dC (nw q (rs.drop j))).2])/\Gw w w':=by
 have HC:ag _:=h;obtain ⟨A,hA⟩:∃ A,dC (nw q (rs.drop j))=A:=⟨_,rfl⟩;have aK:ag _:=hA;rw [hA];clear h hA;obtain ⟨bq,bQ⟩:∃ b,w.heap.size=b:=⟨_,rfl⟩;have BQ:ag _:=bQ;have B0:ag (bA w [(bq,#[.int .u64 0,.int .u64 0,.bool false],40)] (w.alloc (.cells #[.int .u64 0,.int .u64 0,.bool false] 40))):=by rw [<-bQ];exact (bA.nil (Gw.refl w)).add _ _
 clear bQ;go_enter func40,ntmps40;go_wp2_with fail;rw [BQ.o];generalize w.alloc (.cells #[.int .u64 0,.int .u64 0,.bool false] 40)=w1 at B0 ⊢;go_loopg [8] 41 (fun gg s8 wr=>∃ i:Nat,s8=.int .i64 (i:Int)/\i<=40/\41-i<=gg/\ag (bA w [(bq,#[.int .u64 0,.int .u64 0,.bool false],40)] wr)/\ag (dC (nw q (rs.drop i))=A))
 case atStart=>exact ⟨j,rfl,hj,by omega,B0,aK⟩
 case round =>
  clear B0 aK;obtain ⟨i,rfl,a1,a2,B',N⟩:=hrel;obtain ⟨wS,aZ⟩:∃ wx,wx=wr:=⟨_,rfl⟩;subst aZ;have pH:=HC.o.gw B'.o.gw0;obtain ⟨cc,_,c2⟩:=pH.c2;have pl:=pH.plt;have bl:=pH.blt;by_cases ak:i<40
  ·have dG:(i:Int)<40:=by omega
   have ci:=pH.cell ak;have DR:=zQ (rs:=rs) (i:=i) (by rw [HC.o.len];exact ak)
   rcases iJ rs i with e | ⟨r,e⟩
   ·rw [e] at ci DR
    have N':ag (dC (nw q (rs.drop (i+1)))=A):=by have:=N.o;rw [DR,Oh] at this;exact this
    have cu:wS.cell? ⟨rb,i,none⟩=some (.pointer none):=ci;clear ci e DR N pH;go_wp2_with fail;go_roundg (41-(i+1))
    case measure=>omega
    case rel=>exact ⟨i+1,by go_num,by omega,Nat.le_refl _,B',N'⟩
   ·rw [e] at ci DR
    have cu:wS.cell? ⟨rb,i,none⟩=some (.pointer (some ⟨r.p,0,none⟩)):=ci;have RR:=(pH.runs r (jN (by rw [HC.o.len];exact ak) e)).1
    obtain ⟨x,y,z,t,f1,f2,f3⟩:=ri (look ah.k q r.l);have GT:ag (Calls prog 71 #[.pointer (some ⟨r.p,0,none⟩),.int .u64 q] wS fun e w'=>e=.returned (.tuple #[.agg #[.int .u64 x,.int .u64 y,.bool z],.bool t])/\Gw wS w'):=by
     have:=abY RR q
     rw [f1] at this;exact this
    have NR:=N.o;rw [DR,vS] at NR;have NT:ag (t=true->A=(.agg #[.int .u64 x,.int .u64 y,.bool z],true)):=fun h=>by
     rw [f2] at h;cases hk:look ah.k q r.l with
     | none=>rw [hk] at h;cases h
     | some en =>
      rw [<-NR,hk];show dC (some en)=_;rw [<-hk,f1,f2,h]
    have NF:ag (t=false->dC (nw q (rs.drop (i+1)))=A):=fun h=>by
     rw [f2] at h;cases hk:look ah.k q r.l with
     | none=>rw [hk] at NR;exact NR
     | some en=>rw [hk] at h;cases h
    generalize r.p=rp at cu GT;clear ci e DR N RR f1 f2 f3 NR pH;go_wp2_with fail;refine Calls.mono GT.o ?_;rintro e u1 ⟨rfl,gg⟩;have B1:=(B'.o.gw gg).add #[.int .u64 x,.int .u64 y,.bool z] 40;obtain ⟨bx,eV⟩:∃ b,u1.heap.size=b:=⟨_,rfl⟩;have BX:ag _:=eV;rw [eV] at B1;clear gg GT eV;go_upto_region 6 with fail;rw [BX.o];generalize u1.alloc (.cells #[.int .u64 x,.int .u64 y,.bool z] 40)=U at B1 ⊢;have E0:U.heap[bq]?=some (.cells #[.int .u64 0,.int .u64 0,.bool false] 40 (0,0)):=B1.lie (bq,#[.int .u64 0,.int .u64 0,.bool false],40) (by simp)
    have E1:U.heap[bx]?=some (.cells #[.int .u64 x,.int .u64 y,.bool z] 40 (0,0)):=B1.lie (bx,#[.int .u64 x,.int .u64 y,.bool z],40) (by simp)
    have GU:ag _:=B1.gw0;cases t with
    | false =>
     have B2:ag (bA w [(bq,#[.int .u64 0,.int .u64 0,.bool false],40)] U):=⟨B1.gw0,fun x hx=>by rw [List.mem_singleton.1 hx];exact E0⟩
     have N':ag _:=NF.o rfl;clear E0 E1 B1 B' NF NT;go_wp2_with fail;go_roundg (41-(i+1))
     case measure=>omega
     case rel=>exact ⟨i+1,by go_num,by omega,Nat.le_refl _,B2,N'⟩
    | true =>
     have e:=NT.o rfl;subst e;obtain ⟨x0,x1,x2,_⟩:=lG E1;obtain ⟨m0,m1,m2,z0,z1,z2,tY,TT⟩:=lG E0;have T3:=TT x y z;clear E0 E1 B1 B' NT NF TT;go_wp2_with fail;exact bodyPost_ret (v:=.tuple #[.agg #[.int .u64 x,.int .u64 y,.bool z],.bool true]) (by simp [results,results40,go_sem,T3.1,T3.2.1,T3.2.2]) rfl ⟨rfl,((GU.o.setCell (Nat.le_of_eq BQ.o) _).setCell (Nat.le_of_eq BQ.o) _).setCell (Nat.le_of_eq BQ.o) _⟩
  ·have ei:i=40:=by omega
   subst ei;have e:A=(.agg #[.int .u64 0,.int .u64 0,.bool false],false):=by
    rw [<-N.o,List.drop_of_length_le (by rw [HC.o.len];exact Nat.le_refl _)]
    rfl
   subst e;have E0:wS.heap[bq]?=some (.cells #[.int .u64 0,.int .u64 0,.bool false] 40 (0,0)):=B'.o.lie (bq,#[.int .u64 0,.int .u64 0,.bool false],40) (by simp)
   have GU:ag _:=B'.o.gw0;obtain ⟨m0,m1,m2,z0,z1,z2,tY,TT⟩:=lG E0;have T3:=TT 0 0 false;clear E0 B' N TT pH;go_wp2_with fail;exact bodyPost_ret (v:=.tuple #[.agg #[.int .u64 0,.int .u64 0,.bool false],.bool false]) (by simp [results,results40,go_sem,T3.1,T3.2.1,T3.2.2]) rfl ⟨rfl,((GU.o.setCell (Nat.le_of_eq BQ.o) _).setCell (Nat.le_of_eq BQ.o) _).setCell (Nat.le_of_eq BQ.o) _⟩
end Go.Proofs.YtklkpldicbkjeaaGreat
namespace Go.Proofs.YtklkpldicbkjeaaGreat
open Go.RowKit
attribute [local go_sem] fZ uH
theorem abZ (ao bo:Option Addr) (ca cb:Nat) (L:List (List Sg)) (hL:L.length<=4000000) (hl:∀ i,i<L.length->(L.getD i []).length<=4000000) (w:World) (ha:VS w ao L) (hb:VS w bo L) :
  Calls prog 51 #[.slice ao L.length ca,.slice bo L.length cb] w fun e w'=>e=.returned (.bool true)/\Gw w w':=by
 have VA:ag _:=ha;have VB:ag _:=hb;have HL:ag _:=hl;clear ha hb hl;obtain ⟨ln,aA⟩:∃ ln,L.length=ln:=⟨_,rfl⟩;have LN:ag _:=aA;rw [aA] at hL ⊢;clear aA;go_enter func51,ntmps51;go_wp2_with fail;go_loopg [5] ln (fun gg s5 wr=>∃ i:Nat,s5=.int .i64 i/\i<=ln/\ln-i<=gg/\ag (Gw w wr))
 case atStart=>exact ⟨0,rfl,Nat.zero_le _,by omega,(show ag _ from Gw.refl w)⟩
 case round =>
  obtain ⟨i,rfl,h1,h2,G⟩:=hrel;by_cases ak:i<ln
  ·obtain ⟨ab,af,rfl,cO,pC⟩:=(VA.o.gw G.o).cells (by rw [LN.o];omega)
   obtain ⟨so,sc,p1,_,_,p4⟩:=pC i (by rw [LN.o];exact ak)
   obtain ⟨bb,bf,rfl,iY,vX⟩:=(VB.o.gw G.o).cells (by rw [LN.o];omega)
   obtain ⟨QG,tc,q1,_,_,q4⟩:=vX i (by rw [LN.o];exact ak)
   have sl:=HL.o i (by rw [LN.o];exact ak)
   clear pC vX;generalize L.getD i []=l at p1 p4 q1 q4 sl;have GA:ag _:=p4;have GB:ag _:=q4;obtain ⟨sn,ja⟩:∃ sn,l.length=sn:=⟨_,rfl⟩;have SN:ag _:=ja;rw [ja] at p1 q1 sl;have L8:ag ((wr.cell? ⟨ab,af+i,none⟩=some (.slice so sn sc)/\ab<wr.heap.size)/\(wr.cell? ⟨bb,bf+i,none⟩=some (.slice QG sn tc)/\bb<wr.heap.size)):=⟨⟨p1,cO⟩,⟨q1,iY⟩⟩;obtain ⟨w8,hw8⟩:∃ wx,wx=wr:=⟨_,rfl⟩;subst hw8;clear ja p4 q4;go_wp2_with fail;go_quiet (fail);go_wp2_with fail;have D9:ag (Gw w8 (w8.drewN nq)):=(Gw.refl w8).drewN _;generalize w8.drewN nq=w9 at D9 ⊢;clear p1 q1 cO iY;go_loopg [6] sn (fun gg s6 wr=>∃ k:Nat,s6=.int .i64 k/\k<=sn/\sn-k<=gg/\ag (Gw w8 wr))
   case atStart=>exact ⟨0,rfl,Nat.zero_le _,by omega,D9⟩
   case round =>
    obtain ⟨k,rfl,j1,j2,GW⟩:=hrel;have p1:wr.cell? ⟨ab,af+i,none⟩=some (.slice so sn sc):=(GW.o.cell _ _ L8.o.1.2).trans L8.o.1.1;have cO:ab<wr.heap.size:=Nat.lt_of_lt_of_le L8.o.1.2 GW.o.size;by_cases QH:k<sn
    ·have q1:wr.cell? ⟨bb,bf+i,none⟩=some (.slice QG sn tc):=(GW.o.cell _ _ L8.o.2.2).trans L8.o.2.1
     have iY:bb<wr.heap.size:=Nat.lt_of_lt_of_le L8.o.2.2 GW.o.size;obtain ⟨sb,sf,rfl,lA,lB⟩:=(GA.o.gw GW.o).cells (by rw [SN.o];omega)
     obtain ⟨tb,tf,rfl,Ai,QI⟩:=(GB.o.gw GW.o).cells (by rw [SN.o];omega)
     have C:=lB k (by rw [SN.o];exact QH)
     have D:=QI k (by rw [SN.o];exact QH)
     clear lB QI;generalize l.getD k az=s at C D;obtain ⟨sk,bR,bS,bF,bC⟩:=s;have c0:wr.cell? ⟨sb,sf+k*5,none⟩=some (.int .u64 sk):=C.c0;have c1:wr.cell? ⟨sb,sf+k*5+1,none⟩=some (.float .f64 bR):=C.c1;have c2:wr.cell? ⟨sb,sf+k*5+2,none⟩=some (.float .f64 bS):=C.c2;have c3:wr.cell? ⟨sb,sf+k*5+3,none⟩=some (.int .i64 bF):=C.c3;have c4:wr.cell? ⟨sb,sf+k*5+4,none⟩=some (.int .i64 bC):=C.c4;have d0:wr.cell? ⟨tb,tf+k*5,none⟩=some (.int .u64 sk):=D.c0;have d1:wr.cell? ⟨tb,tf+k*5+1,none⟩=some (.float .f64 bR):=D.c1;have d2:wr.cell? ⟨tb,tf+k*5+2,none⟩=some (.float .f64 bS):=D.c2;have d3:wr.cell? ⟨tb,tf+k*5+3,none⟩=some (.int .i64 bF):=D.c3;have d4:wr.cell? ⟨tb,tf+k*5+4,none⟩=some (.int .i64 bC):=D.c4;have Fq:ag _:=GW.o;clear C D;go_wp2_with fail;go_quiet (first | simp only [uH])
     go_wp2_with fail;go_roundg (sn-(k+1))
     case measure=>omega
     case rel=>exact ⟨k+1,by go_num,by omega,Nat.le_refl _,(show ag _ from ((Fq.o.alloc _ _).alloc _ _).drewN _)⟩
    ·have ek:k=sn:=by omega
     subst ek;go_wp2_with fail;go_roundg (ln-(i+1))
     case measure=>omega
     case rel=>exact ⟨i+1,by go_num,by omega,Nat.le_refl _,(show ag _ from G.o.trans GW.o)⟩
  ·go_wp2_with fail
   go_ret
   exact ⟨rfl,G.o⟩
end Go.Proofs.YtklkpldicbkjeaaGreat
namespace Go.Proofs.YtklkpldicbkjeaaGreat
open Go.ChangeShapes Go.WideShapes Go.ChangeAt Go.RowKit Go.Joins
theorem ab1 {H:Type} (d:DataW H):1<=Rows.uptoBulk d:=by
 cases d with
 | lit l=>cases l<;>simp [Rows.uptoBulk]
 | nil=>simp [Rows.uptoBulk]
 | ptr d=>simp [Rows.uptoBulk]
 | slice elems spare=>simp [Rows.uptoBulk]
 | agg parts=>simp [Rows.uptoBulk]
 | iface t d=>simp [Rows.uptoBulk]
 | map entries=>simp [Rows.uptoBulk]
 | held h=>simp [Rows.uptoBulk]
theorem QJ {H:Type} (l:List (DataW H)):l.length<=Rows.uptoBulkAll l:=by
 induction l with
 | nil=>simp [Rows.uptoBulkAll]
 | cons x r ih=>have:=ab1 x;simp only [Rows.uptoBulkAll,List.length_cons];omega
theorem QK {H:Type} (c:Nat):∀ l:List (DataW H),(∀ x∈l,∃ ps,x=.agg ps/\ps.length=c)->(c+1)*l.length<=Rows.uptoBulkAll l
 | [],_=>by simp [Rows.uptoBulkAll]
 | x::r,h=>by
  have ih:=QK c r fun y hy=>h y (List.mem_cons_of_mem _ hy)
  obtain ⟨ps,rfl,e⟩:=h x (List.mem_cons_self ..);have:=QJ ps;simp only [Rows.uptoBulkAll,Rows.uptoBulk,List.length_cons,Nat.mul_add,Nat.mul_one];omega
theorem ab2:prog.cellsOf 40=3:=by kernel_rfl
theorem QL:prog.cellsOf 34=1:=by kernel_rfl
theorem ab3:prog.cellsOf 4=1:=by kernel_rfl
theorem ab4:prog.cellsOf 35=1:=by kernel_rfl
theorem Fs {x:Int} (h:(Lit.int .u64 x).wf=true):0<=x/\x<18446744073709551616:=by
 simp [Lit.wf,IntKind.min,IntKind.max,IntKind.signed,IntKind.bits] at h
 exact ⟨by omega,by omega⟩
theorem QN {w:World} {a:Addr} {v:Value} (h:w.cell? a=some v):a=⟨a.block,a.off,none⟩:=by
 obtain ⟨b,o,s⟩:=a;cases s with
 | none=>rfl
 | some s=>unfold World.cell? at h;split at h<;>simp at h
theorem ab6 {H:Type} {enc:TypeId×Value->H} {W:World} {fuel:Nat} {cs:List Value} {y:DataW H×List MemPlace} (hf:DataW.trod enc prog W 0 (fun _=>true) true fuel 35 cs=some y) :
  ∃ (ao:Option Addr) (c:Nat) (l:List ah),cs=[.slice ao l.length c]/\EL W ao l/\l.length<=c/\(ao=none->l.length=0/\c=0)/\1+4*l.length<=Rows.uptoBulk y.1:=by
 rcases Go.Deep.open_slice underlying35 hf with ⟨rfl,rfl⟩ | ⟨a,n,c,m,fu,D,Pl,rfl,_,hl,hmx,hm,rfl,lL⟩
 ·exact ⟨none,0,[],rfl,⟨fun h0=>by simp at h0,fun i hi=>by simp at hi⟩,Nat.le_refl _,fun _=>⟨rfl,rfl⟩,by simp [Rows.uptoBulk]⟩
 ·simp only [if_true] at hm
  subst hm;have each:∀ i,i<n->∃ e:ah,(W.cell? (a.add (i*3))=some (.int .u64 e.k)/\W.cell? (a.add (i*3+1))=some (.int .u64 e.v)/\W.cell? (a.add (i*3+2))=some (.bool e.g))/\e.ok:=by
   intro i hi;obtain ⟨Aj,h1,h2⟩:=lL i (by omega)
   rw [ab2] at h1;obtain ⟨_,hlen,gI⟩:=World.cells?_some h1;obtain ⟨y0,y1,y2,QO,_,_,q0,q1,q2⟩:=Go.Deep.trod_struct3 underlying40 h2
   match Aj,hlen with
   | [u0,u1,u2],_ =>
    simp [QL,ab3] at q0 q1 q2
    obtain ⟨x0,e0,_,w0⟩:=DataW.trod_int underlying34 q0;obtain ⟨x1,e1,_,w1⟩:=DataW.trod_int underlying34 q1;obtain ⟨x2,e2,_⟩:=DataW.trod_bool underlying4 q2;simp at e0 e1 e2;subst e0 e1 e2;have c0:=gI 0 (by omega)
    have c1:=gI 1 (by omega)
    have c2:=gI 2 (by omega)
    rw [Go.Deep.add_add] at c0 c1 c2;exact ⟨⟨x0,x1,x2⟩,⟨by simpa using c0,by simpa using c1,by simpa using c2⟩,Fs w0,Fs w1⟩
  have inh:Inhabited ah:=⟨aF⟩;obtain ⟨q,hq⟩:=Go.Deep.choose_lt each;have ln:((List.range n).map q).length=n:=by simp
  have gt:∀ i,i<n->((List.range n).map q).getD i aF=q i:=fun i hi=>by simp [List.getD,hi]
  refine ⟨some a,_,(List.range n).map q,by rw [ln],⟨fun h0=>?_,fun i hi=>?_⟩,by rw [ln];exact hl,(fun e=>by cases e),?_⟩
  ·rw [ln] at h0
   have c0:=(hq 0 h0).1.1;have e0:a.add (0*3)=a:=by simp [Addr.add]
   rw [e0] at c0;have ea:=QN c0;refine ⟨a.block,a.off,by rw [<-ea],World.block_lt_of_cell? _ _ c0,fun i hi=>?_⟩
   rw [ln] at hi;rw [gt i hi];obtain ⟨⟨a1,a2,a3⟩,_⟩:=hq i hi;rw [ea,Addr.add_lit] at a1 a2 a3;exact ⟨a1,by rw [Nat.add_assoc];exact a2,by rw [Nat.add_assoc];exact a3⟩
  ·rw [ln] at hi
   show (((List.range n).map q).getD i aF).ok;rw [gt i hi];exact (hq i hi).2
  ·have:=QK 3 ((List.range n).map D) fun x hx=>by
    obtain ⟨i,hi,rfl⟩:=List.mem_map.1 hx;have bV:i<n:=List.mem_range.1 hi;obtain ⟨Aj,h1,h2⟩:=lL i (by omega)
    obtain ⟨y0,y1,y2,QO,hx,_⟩:=Go.Deep.trod_struct3 underlying40 h2;simp only [Prod.mk.injEq] at hx;exact ⟨_,hx.1,rfl⟩
   rw [ln];simp only [Rows.uptoBulk];simp at this;omega
open Go.RowKit Go.Joins Go.ChangeAt Go.WideShapes Go.ChangeShapes
theorem ab7 {HR:aV} {HC:World->List (Option Rn)->Int->Int->Prop} {F:Nat->Prop} {w w1:World} {e:Ending} {rs:List (Option Rn)} {l:List ah} {eps buf B W:Int} (h:dp HR HC F w w1 e rs l eps buf B W):∃ a b c E:Int,e=.returned (.tuple #[.agg #[.int .i64 a,.int .i64 b,.int .i64 c],.int .i64 E]):=by
 obtain ⟨⟨r0,c0,x⟩,_⟩:=h;rcases x with ⟨_,x,_⟩ | ⟨_,_,x,_⟩ | ⟨_,_,o,kept,rn,_,x,_⟩
 ·exact ⟨_,_,_,_,x⟩
 ·exact ⟨_,_,_,_,x⟩
 ·exact ⟨_,_,_,_,x⟩
section
variable {HR:aV} {w0 wr:World} {mb mc tb tc:Nat} {A D:List (Option Rn)}
end
theorem ab8:prog.cellsOf 3=1:=by kernel_rfl
theorem ab9 {x:Int} (h:(Lit.int .i64 x).wf=true):-9223372036854775808<=x/\x<9223372036854775808:=by
 simp [Lit.wf,IntKind.min,IntKind.max,IntKind.signed,IntKind.bits] at h
 exact ⟨by omega,by omega⟩
open Go.RowKit
theorem ab' {w:World} {p rb:Nat} {rs:List (Option Rn)} {eps buf B W:Int} (h:aG w p rb rs eps buf B W) (q:Int) :
  Calls prog 13 #[.pointer (some ⟨p,0,none⟩),.int .u64 q] w fun e w'=>e=.returned (.tuple #[(dC (nw q rs)).1,.bool (dC (nw q rs)).2])/\Gw w w':=by
 obtain ⟨x,y,z,t,f1,f2,f3⟩:=ri (nw q rs);have NW:ag (∀ W',Gw w W'->Calls prog 40 #[.pointer (some ⟨p,0,none⟩),.int .i64 0,.int .u64 q] W' fun e w'=>e=.returned (.tuple #[.agg #[.int .u64 x,.int .u64 y,.bool z],.bool t])/\Gw W' w'):=fun W' gg=>by
  have:=QF (h.gw gg) 0 (by omega) q
  rw [List.drop_zero,f1] at this;exact this
 rw [f1];clear f1 f2 f3 h;go_enter func13,ntmps13;go_wp2_with fail;refine Calls.mono (NW.o _ ((Gw.refl w).alloc _ _)) ?_;rintro e u1 ⟨rfl,gg⟩;have GU:ag (Gw w u1):=((Gw.refl w).alloc _ _).trans gg;have E0:u1.heap[w.heap.size]?=some (.cells #[.int .u64 0,.int .u64 0,.bool false] 40 (0,0)):=(gg.below.block _ (by simp)).trans (heap_alloc_new _ _)
 obtain ⟨bq,bQ⟩:∃ b,w.heap.size=b:=⟨_,rfl⟩;have BQ:ag _:=bQ;rw [bQ] at E0 ⊢;obtain ⟨m0,m1,m2,z0,z1,z2,bl,TT⟩:=lG E0;have T3:=TT x y z;clear E0 gg NW TT bQ;go_wp2_with fail;exact bodyPost_ret (v:=.tuple #[.agg #[.int .u64 x,.int .u64 y,.bool z],.bool t]) (by simp [results,results13,go_sem,T3.1,T3.2.1,T3.2.2]) rfl ⟨rfl,((GU.o.setCell (Nat.le_of_eq BQ.o) _).setCell (Nat.le_of_eq BQ.o) _).setCell (Nat.le_of_eq BQ.o) _⟩
def tZ (up:List (Option Rn)) (e:ah):Bool:=e.g&&bX up e.k
def aY (up:List (Option Rn)) (l:List ah):List Int:=(l.filter (tZ up)).map ah.k
def rN (A:List Int):List Value:=A.map (Value.int .u64)
theorem QR (up:List (Option Rn)) (l:List ah):(aY up l).length<=l.length:=by unfold aY;rw [List.length_map];exact List.length_filter_le ..
theorem aca (up:List (Option Rn)) (l:List ah) (e:ah):aY up (l++[e])=aY up l++(if tZ up e=true then [e.k] else []):=by
 unfold aY;rw [List.filter_append,List.map_append,List.filter_cons];split<;>rfl
theorem acb (up:List (Option Rn)) (l:List ah):l.filter (dK (aY up l).length (fun i=>(aY up l).getD i 0))=l.filter (aS (bX up)):=by
 refine List.filter_congr fun e he=>?_
 unfold dK aS;cases hg:e.g with
 | false=>rfl
 | true =>
  show mB _ _ e.k=bX up e.k;unfold mB;cases hl:bX up e.k with
  | true =>
   have hm:e.k∈aY up l:=by
    unfold aY;refine List.mem_map.2 ⟨e,List.mem_filter.2 ⟨he,?_⟩,rfl⟩;unfold tZ;rw [hg,hl];rfl
   obtain ⟨i,hi,ei⟩:=List.mem_iff_getElem.1 hm;rw [List.any_eq_true];exact ⟨i,List.mem_range.2 hi,by simp [List.getD,hi,ei]⟩
  | false =>
   rw [List.any_eq_false];intro i hi;have bV:=List.mem_range.1 hi;have e2:(aY up l).getD i 0=(aY up l)[i]:=by simp [List.getD,bV]
   show ¬ ((aY up l).getD i 0 == e.k)=true;rw [e2];intro q;have q':(aY up l)[i]=e.k:=by simpa using q
   have hm:e.k∈aY up l:=by rw [<-q'];exact List.getElem_mem bV
   unfold aY at hm;obtain ⟨e',Ft,Fu⟩:=List.mem_map.1 hm;have:=(List.mem_filter.1 Ft).2;unfold tZ at this;rw [Fu,hl,Bool.and_false] at this;cases this
theorem QT {w:World} {p rb:Nat} {rs:List (Option Rn)} {eps buf B W:Int} (h:aG w p rb rs eps buf B W) (ao:Option Addr) (c:Nat) (l:List ah) (hl:EL w ao l) (hn:l.length<=2000000) (j:Nat) (hj:j<40) :
  Calls prog 38 #[.pointer (some ⟨p,0,none⟩),.slice ao l.length c,.int .i64 (j:Int)] w fun e w'=>(∃ ob m oc,e=.returned (.slice (some ⟨ob,0,none⟩) m oc)/\(aY (rs.drop (j+1)) l).length=m/\KS w' (some ⟨ob,0,none⟩) m (fun i=>(aY (rs.drop (j+1)) l).getD i 0))/\Gw w w':=by
 have HE:ag (EL w ao l):=hl;have HC:ag (aG w p rb rs eps buf B W):=h;obtain ⟨n,aA⟩:∃ n,l.length=n:=⟨_,rfl⟩;have LN:ag (l.length=n):=aA;rw [aA] at hn ⊢;obtain ⟨up,sO⟩:∃ up,rs.drop (j+1)=up:=⟨_,rfl⟩;have UP:ag (rs.drop (j+1)=up):=sO;rw [sO];have NW:ag (∀ W' q,Gw w W'->Calls prog 40 #[.pointer (some ⟨p,0,none⟩),.int .i64 ((j+1:Nat):Int),.int .u64 q] W' fun e w'=>e=.returned (.tuple #[(dC (nw q up)).1,.bool (dC (nw q up)).2])/\Gw W' w'):=fun W' q gg=>by
  have:=QF (h.gw gg) (j+1) (by omega) q
  rw [sO] at this;exact this
 obtain ⟨k1,o9⟩:∃ k1,j+1=k1:=⟨_,rfl⟩;rw [o9] at NW;have wk:IntKind.i64.wrap ((j:Int)+1)=(k1:Int):=by rw [IntKind.wrap_i64];omega
 obtain ⟨ii,aM,mA,dT,aL⟩:=info_parts oF;have O1:ag ((w.alloc (.cells #[] 34)).ownsRow w.heap.size 34 1 (.slice (some ⟨w.heap.size,0,none⟩) 0 0) 0 (rN (aY up (l.take 0)))):=World.ownsRow_made w #[] 0 (Nat.le_refl _) (Nat.zero_le _) rfl;have G1:ag (Gw w (w.alloc (.cells #[] 34))):=(Gw.refl w).alloc _ _;clear h hl aA sO o9;go_enter func38,ntmps38;go_wp2_with fail;generalize w.alloc (.cells #[] 34)=w1 at O1 G1 ⊢;go_loopg [7,8] n (fun gg s7 s8 wr=>∃ (i m ob oc:Nat),s7=.slice (some ⟨ob,0,none⟩) m oc/\s8=.int .i64 (i:Int)/\i<=n/\n-i<=gg/\m<=i/\ag ((aY up (l.take i)).length=m)/\ag (wr.ownsRow w.heap.size 34 1 (.slice (some ⟨ob,0,none⟩) m oc) m (rN (aY up (l.take i))))/\ag (Gw w wr))
 case atStart=>exact ⟨0,0,w.heap.size,0,rfl,rfl,Nat.zero_le _,by omega,Nat.le_refl _,(show ag _ from rfl),O1,G1⟩
 case round =>
  clear O1 G1;obtain ⟨i,m,ob,oc,rfl,rfl,a1,a2,a3,ML,O,G⟩:=hrel;obtain ⟨wS,aZ⟩:∃ wx,wx=wr:=⟨_,rfl⟩;subst aZ;by_cases ak:i<n
  ·have dG:(i:Int)<(n:Int):=by omega
   have hi:i<l.length:=by rw [LN.o];exact ak
   obtain ⟨lb,lf,rfl,fs,bP⟩:=(HE.o.gw G.o).cells (by omega)
   obtain ⟨c0,c1,c2⟩:=bP i hi;have TK:l.take (i+1)=l.take i++[l.getD i aF]:=by rw [List.take_add_one,List.getElem?_eq_getElem hi,mD hi];rfl
   have LK:=aca up (l.take i) (l.getD i aF);rw [<-TK] at LK;have bd:=(HE.o.ok hi).1;obtain ⟨x,hx⟩:∃ x,l.getD i aF=x:=⟨_,rfl⟩;rw [hx] at c0 c1 c2 LK bd;obtain ⟨xk,xv,xg⟩:=x;have d0:wS.cell? ⟨lb,lf+i*3,none⟩=some (.int .u64 xk):=c0;have d2:wS.cell? ⟨lb,lf+i*3+2,none⟩=some (.bool xg):=c2;obtain ⟨a,b,z,t,f1,f2,f3⟩:=ri (nw xk up);have NQ:ag (Calls prog 40 #[.pointer (some ⟨p,0,none⟩),.int .i64 (k1:Int),.int .u64 xk] wS fun e w'=>e=.returned (.tuple #[.agg #[.int .u64 a,.int .u64 b,.bool z],.bool t])/\Gw wS w'):=by
    have:=NW.o wS xk G.o
    rw [f1] at this;exact this
   have Ak:ag (aY up (l.take (i+1))=aY up (l.take i)++(if (xg&&(t&&!z))=true then [xk] else [])):=by
    show _=_;rw [LK];have e:tZ up ⟨xk,xv,xg⟩=(xg&&(t&&!z)):=by
     show (xg&&DZ (nw xk up))=_;rw [f3]
    rw [e]
   have BD:ag (0<=xk/\xk<18446744073709551616):=bd;have CE:ag (∀ W',Gw wS W'->W'.cell? ⟨lb,lf+i*3,none⟩=some (.int .u64 xk)/\W'.cell? ⟨lb,lf+i*3+2,none⟩=some (.bool xg)/\lb<W'.heap.size):=fun W' gg=>⟨(gg.cell _ _ fs).trans d0,(gg.cell _ _ fs).trans d2,Nat.lt_of_lt_of_le fs gg.size⟩
   clear bP c0 c1 c2 TK LK hx f1 f2 f3 hi bd;go_wp2_with fail;refine Calls.mono NQ.o ?_;rintro e u1 ⟨rfl,gg⟩;obtain ⟨bx,eV⟩:∃ b,u1.heap.size=b:=⟨_,rfl⟩;have BX:ag (u1.heap.size=bx):=eV;have E1:(u1.alloc (.cells #[.int .u64 a,.int .u64 b,.bool z] 40)).heap[bx]?=some (.cells #[.int .u64 a,.int .u64 b,.bool z] 40 (0,0)):=by rw [<-eV];exact heap_alloc_new _ _
   have GU:ag (Gw wS (u1.alloc (.cells #[.int .u64 a,.int .u64 b,.bool z] 40))):=gg.alloc _ _;clear gg NQ eV;go_upto_region 6 with fail;rw [BX.o];generalize u1.alloc (.cells #[.int .u64 a,.int .u64 b,.bool z] 40)=U at E1 GU ⊢;obtain ⟨x0,x1,x2,_,_,_,bl,_⟩:=lG E1;obtain ⟨g0,g2,gl⟩:=CE.o U GU.o;have OU:ag (U.ownsRow w.heap.size 34 1 (.slice (some ⟨ob,0,none⟩) m oc) m (rN (aY up (l.take i)))):=Nv O.o GU.o;have xu:ag (Gw w U):=G.o.trans GU.o;have wz:=xu.o.size;clear E1 O CE GU d0 d2;by_cases yes:xg=true/\t=true/\z=false
   ·obtain ⟨rfl,rfl,rfl⟩:=yes
    go_wp2_with (at_builtin;refine wpList_append_own _ rfl _ _ 90 rfl w.heap.size 34 ii (.int .u64 0) 1 8 underlying90 aM mA dT aL rfl (by decide) _ m _ rfl (OU.o.alloc _) ⟨U.heap.size,0,none⟩ 1 1 [.int .u64 xk] rfl rfl (sK U xk) (fun u hu=>by simp at hu;subst hu;rfl) (by simp only [maxLen];omega) (by omega) (by simp;omega) ?_)
    intro v6 w6 r1 r2 r3;obtain ⟨b6,c6,rfl,hb6,_,_⟩:=cS r1 (by simpa using r3)
    have G6:ag (Gw w w6):=(xu.o.alloc _ _).grown r2 (fun q hq=>(World.ownsRow.lt OU.o q hq).1)
    have LE:aY up (l.take (i+1))=aY up (l.take i)++[xk]:=Ak.o;have O6:ag (w6.ownsRow w.heap.size 34 1 (.slice (some ⟨b6,0,none⟩) (m+1) c6) (m+1) (rN (aY up (l.take (i+1))))):=by
     show World.ownsRow _ _ _ _ _ _ _;rw [LE];unfold rN at r1 ⊢;rw [List.map_append];exact r1
    have M6:ag ((aY up (l.take (i+1))).length=m+1):=by show _=_;rw [LE,List.length_append,ML.o];rfl
    clear r1 r2 r3 hb6 LE OU Ak ML;go_wp2_with fail;go_roundg (n-(i+1))
    case measure=>omega
    case rel=>exact ⟨i+1,m+1,b6,c6,rfl,by go_num,by omega,Nat.le_refl _,by omega,M6,O6,G6⟩
   ·have no:(xg&&(t&&!z))=false:=by
     cases xg<;>cases t<;>cases z<;>simp_all
    have LE:aY up (l.take (i+1))=aY up (l.take i):=by rw [Ak.o,if_neg (by rw [no];decide),List.append_nil]
    have O6:ag (U.ownsRow w.heap.size 34 1 (.slice (some ⟨ob,0,none⟩) m oc) m (rN (aY up (l.take (i+1))))):=by rw [LE];exact OU
    have M6:ag ((aY up (l.take (i+1))).length=m):=by rw [LE];exact ML
    clear LE OU Ak ML yes;cases xg with
    | false =>
     clear no;go_wp2_with fail;go_roundg (n-(i+1))
     case measure=>omega
     case rel=>exact ⟨i+1,m,ob,oc,rfl,by go_num,by omega,Nat.le_refl _,by omega,M6,O6,xu⟩
    | true =>
     cases t with
     | false =>
      clear no;go_wp2_with fail;go_roundg (n-(i+1))
      case measure=>omega
      case rel=>exact ⟨i+1,m,ob,oc,rfl,by go_num,by omega,Nat.le_refl _,by omega,M6,O6,xu⟩
     | true =>
      cases z with
      | false=>cases no
      | true =>
       clear no;go_wp2_with fail;go_roundg (n-(i+1))
       case measure=>omega
       case rel=>exact ⟨i+1,m,ob,oc,rfl,by go_num,by omega,Nat.le_refl _,by omega,M6,O6,xu⟩
  ·have ei:i=n:=by omega
   subst ei;have TT:l.take i=l:=List.take_of_length_le (by rw [LN.o];exact Nat.le_refl _)
   rw [TT] at ML O;have aK:ag ((aY up l).length=m/\KS wS (some ⟨ob,0,none⟩) m (fun i=>(aY up l).getD i 0)):=by
    refine ⟨ML.o,uB O.o (Nat.le_refl _) (fun k hk=>?_) (fun k hk=>?_)⟩
    ·have sX:k<(aY up l).length:=by rw [ML.o];exact hk
     unfold rN;simp [List.getD,sX]
    ·have sX:k<(aY up l).length:=by rw [ML.o];exact hk
     have e2:(aY up l).getD k 0=(aY up l)[k]:=by simp [List.getD,sX]
     show 0<=(aY up l).getD k 0/\(aY up l).getD k 0<18446744073709551616;rw [e2];have hm:=List.getElem_mem sX;unfold aY at hm;obtain ⟨e',Ft,Fu⟩:=List.mem_map.1 hm;have:=(HE.o.all e' (List.mem_filter.1 Ft).1).1;rw [Fu] at this;exact this
   clear ML O TT;go_wp2_with fail;go_ret;exact ⟨⟨ob,m,oc,rfl,aK.o.1,aK.o.2⟩,G.o⟩
end Go.Proofs.YtklkpldicbkjeaaGreat
