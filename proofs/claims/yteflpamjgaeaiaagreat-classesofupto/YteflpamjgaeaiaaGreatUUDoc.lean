/- The document's layer 15: classes in memory; New, Newest, Get. -/
import Derived.Test.YteflpamjgaeaiaaGreatUUOf2
set_option linter.unusedVariables false
set_option maxHeartbeats 8000000
set_option maxRecDepth 10000
open Go.Proofs.Tryz
namespace Go.Proofs.YteflpamjgaeaiaaGreat
open Go.RowKit
theorem HDoc.kp:Kp HDoc:=⟨fun h k=>h.keep k,fun h=>h.lt⟩
structure HDl (w:World) (p b:Nat) (rs:List (Option Rn)) (eps buf B W:Int):Prop where
 blk:w.heap[p]?=some (.cells #[.int .i64 eps,.int .i64 buf,.slice (some ⟨b,0,none⟩) 40 40,.int .i64 B,.int .i64 W] 56 (0,0))
 row:w.heap[b]?=some (.cells (rs.map ptr).toArray 65 (0,0))
 len:rs.length=40
 runs:∀ r,some r∈rs->RA HDoc w r/\¬ r.S p/\¬ r.S b
 ne:b≠p
 e0:2<=eps
 e1:eps<=64
 b0:1<=buf
 b1:buf<=4294967296
section
variable {w w':World} {p b:Nat} {rs:List (Option Rn)} {eps buf B W:Int}
theorem HDl.gw (h:HDl w p b rs eps buf B W) (g:Gw w w'):HDl w' p b rs eps buf B W :=
 ⟨(g.below.block p (blkl h.blk)).trans h.blk,(g.below.block b (blkl h.row)).trans h.row,h.len,fun r hr=>⟨(h.runs r hr).1.gw HDoc.kp g,(h.runs r hr).2⟩,h.ne,h.e0,h.e1,h.b0,h.b1⟩
theorem HDl.gx {F:Nat->Prop} (h:HDl w p b rs eps buf B W) (g:Gx F w w') (np:¬ F p) (nb:¬ F b) (d:∀ q,F q->∀ r,some r∈rs->¬ r.S q):HDl w' p b rs eps buf B W :=
 ⟨(g.block p (blkl h.blk) np).trans h.blk,(g.block b (blkl h.row) nb).trans h.row,h.len,fun r hr=>⟨(h.runs r hr).1.gx HDoc.kp g (fun q hq=>d q hq r hr),(h.runs r hr).2⟩,h.ne,h.e0,h.e1,h.b0,h.b1⟩
theorem HDl.c0 (h:HDl w p b rs eps buf B W):w.cell? ⟨p,0,none⟩=some (.int .i64 eps):=blkc h.blk rfl
theorem HDl.c1 (h:HDl w p b rs eps buf B W):w.cell? ⟨p,1,none⟩=some (.int .i64 buf):=blkc h.blk rfl
theorem HDl.c2 (h:HDl w p b rs eps buf B W):w.cell? ⟨p,2,none⟩=some (.slice (some ⟨b,0,none⟩) 40 40):=blkc h.blk rfl
theorem HDl.c3 (h:HDl w p b rs eps buf B W):w.cell? ⟨p,3,none⟩=some (.int .i64 B):=blkc h.blk rfl
theorem HDl.c4 (h:HDl w p b rs eps buf B W):w.cell? ⟨p,4,none⟩=some (.int .i64 W):=blkc h.blk rfl
theorem HDl.cell (h:HDl w p b rs eps buf B W) {i:Nat} (hi:i<40):w.cell? ⟨b,i,none⟩=some (ptr (rs.getD i none)):=by
 have hl:i<rs.length:=by rw [h.len];exact hi
 refine blkc h.row ?_;rw [List.getElem?_toArray,List.getElem?_map,List.getElem?_eq_getElem hl,getD_rs hl];rfl
theorem HDl.plt (h:HDl w p b rs eps buf B W):p<w.heap.size:=blkl h.blk
theorem HDl.blt (h:HDl w p b rs eps buf B W):b<w.heap.size:=blkl h.row
end
theorem info_d15:(prog.info? 65).map (fun i=>(i.zero,i.size,i.bytes))=some (some (.pointer none),1,8):=by kernel_rfl
theorem made_d15 (w:World):(Instr.makeSlice 54 (.int .i64 40) (.int .i64 40)).run prog w=.ok (.slice (some ⟨w.heap.size,0,none⟩) 40 40) (w.alloc (.cells (madeCells #[.pointer none] 40) 65)):=by
 obtain ⟨i,hi,hz',hs,hb⟩:=info_parts info_d15;exact run_make_row (P:=prog) 54 65 i (.pointer none) underlying54 hi hz' hs rfl .i64 .i64 40 (by rw [hb];omega) (by omega) w
theorem mades15:madeCells #[Value.pointer none] 40=((List.replicate 40 (none:Option Rn)).map ptr).toArray:=by
 rw [rep_ptr];refine Array.ext_getElem? fun i=>?_
 by_cases h:i<40
 ·have e1:(madeCells #[Value.pointer none] 40)[i]?=some (.pointer none):=by simp [madeCells,h,Nat.mod_one]
  have e2:((List.replicate 40 (Value.pointer none)).toArray)[i]?=some (.pointer none):=by rw [List.getElem?_toArray,List.getElem?_replicate,if_pos h]
  rw [e1,e2]
 ·have e1:(madeCells #[Value.pointer none] 40)[i]?=none:=Array.getElem?_eq_none (by simp [madeCells];omega)
  have e2:((List.replicate 40 (Value.pointer none)).toArray)[i]?=none:=by rw [List.getElem?_toArray,List.getElem?_replicate,if_neg h]
  rw [e1,e2]
theorem rnew15 (eps buf:Int) (w:World) :
  Calls prog 10 #[.int .i64 eps,.int .i64 buf] w fun e w'=>((¬ NewOk eps buf/\e=.returned (.tuple #[.pointer none,.int .i64 1]))\/(NewOk eps buf/\∃ p b,e=.returned (.tuple #[.pointer (some ⟨p,0,none⟩),.int .i64 0])/\w.heap.size<=p/\w.heap.size<=b/\HDl w' p b (List.replicate 40 none) eps buf 0 0))/\Gw w w':=by
 have NO:(eps<2\/(¬ eps<2/\64<eps)\/(¬ eps<2/\¬ 64<eps/\buf<1)\/(¬ eps<2/\¬ 64<eps/\¬ buf<1/\4294967296<buf))/\¬ NewOk eps buf\/NewOk eps buf:=by
  by_cases h:NewOk eps buf
  ·exact .inr h
  ·refine .inl ⟨?_,h⟩
   unfold NewOk at h;omega
 rcases NO with ⟨a,b⟩ | a
 ·have BB:Aside (¬ NewOk eps buf):=b
  clear b;rcases a with a | ⟨a,b⟩ | ⟨a,b,c⟩ | ⟨a,b,c,d⟩
  ·have t1:decide (eps<2)=true:=by simpa using a
   clear a;go_enter func10,ntmps10;go_wp2_with fail;go_ret2;exact ⟨.inl ⟨BB.out,rfl⟩,Gw.refl w⟩
  ·have t1:decide (eps<2)=false:=by simpa using a
   have t2:decide (64<eps)=true:=by simpa using b
   clear a b;go_enter func10,ntmps10;go_wp2_with fail;go_ret2;exact ⟨.inl ⟨BB.out,rfl⟩,Gw.refl w⟩
  ·have t1:decide (eps<2)=false:=by simpa using a
   have t2:decide (64<eps)=false:=by simpa using b
   have t3:decide (buf<1)=true:=by simpa using c
   clear a b c;go_enter func10,ntmps10;go_wp2_with fail;go_ret2;exact ⟨.inl ⟨BB.out,rfl⟩,Gw.refl w⟩
  ·have t1:decide (eps<2)=false:=by simpa using a
   have t2:decide (64<eps)=false:=by simpa using b
   have t3:decide (buf<1)=false:=by simpa using c
   have t4:decide (4294967296<buf)=true:=by simpa using d
   clear a b c d;go_enter func10,ntmps10;go_wp2_with fail;go_ret2;exact ⟨.inl ⟨BB.out,rfl⟩,Gw.refl w⟩
 ·have AA:Aside (NewOk eps buf):=a
  obtain ⟨⟨a1,a2⟩,a3,a4⟩:=a;have t1:decide (eps<2)=false:=by simpa using a1
  have t2:decide (64<eps)=false:=by simpa using a2
  have t3:decide (buf<1)=false:=by simpa using a3
  have t4:decide (4294967296<buf)=false:=by simpa using a4
  obtain ⟨W1,hW1⟩:∃ W1,w.alloc (.cells (madeCells #[.pointer none] 40) 65)=W1:=⟨_,rfl⟩;obtain ⟨bq,hbq⟩:∃ b,w.heap.size=b:=⟨_,rfl⟩;have mk:=made_d15 w;rw [hW1,hbq] at mk;have HC:Aside (HDl (W1.alloc (.cells #[.int .i64 eps,.int .i64 buf,.slice (some ⟨bq,0,none⟩) 40 40,.int .i64 0,.int .i64 0] 56)) W1.heap.size bq (List.replicate 40 none) eps buf 0 0):=by
   have s1:W1.heap.size=bq+1:=by rw [<-hW1,<-hbq];simp
   refine ⟨heap_alloc_new _ _,?_,by simp,(fun r hr=>by simp at hr),by omega,a1,a2,a3,a4⟩
   rw [heap_alloc_old _ _ (by omega),<-hW1,<-hbq,<-mades15]
   exact heap_alloc_new _ _
  have GG:Aside (Gw w W1/\w.heap.size<=bq):=⟨by rw [<-hW1];exact (Gw.refl w).alloc _ _,Nat.le_of_eq hbq⟩
  clear a1 a2 a3 a4 hW1 hbq;go_enter func10,ntmps10;go_wp2_with fail;go_ret2;exact ⟨.inr ⟨AA.out,_,bq,rfl,GG.out.1.size,GG.out.2,HC.out⟩,GG.out.1.alloc _ _⟩
theorem dlook15 {w:World} {r:Rn} (h:RA HDoc w r) (q:Int) :
  Calls prog 108 #[.pointer (some ⟨r.p,0,none⟩),.int .u64 q] w fun e w'=>e=.returned (.tuple #[(lookV (look Ent.k q r.l)).1,.bool (lookV (look Ent.k q r.l)).2])/\Gw w w':=by
 have:=dc_get h.h h.ok.up q
 rw [getV_look h.ok.rise] at this;exact this
theorem rnewest15 {w:World} {p rb:Nat} {rs:List (Option Rn)} {eps buf B W:Int} (h:HDl w p rb rs eps buf B W) (j:Nat) (hj:j<=40) (q:Int) :
  Calls prog 59 #[.pointer (some ⟨p,0,none⟩),.int .i64 (j:Int),.int .u64 q] w fun e w'=>e=.returned (.tuple #[(lookV (nw q (rs.drop j))).1,.bool (lookV (nw q (rs.drop j))).2])/\Gw w w':=by
 have HC:Aside _:=h;obtain ⟨A,hA⟩:∃ A,lookV (nw q (rs.drop j))=A:=⟨_,rfl⟩;have RES:Aside _:=hA;rw [hA];clear h hA;obtain ⟨bq,hbq⟩:∃ b,w.heap.size=b:=⟨_,rfl⟩;have BQ:Aside _:=hbq;have B0:Aside (Bxs w [(bq,#[.int .u64 0,.int .u64 0,.bool false],40)] (w.alloc (.cells #[.int .u64 0,.int .u64 0,.bool false] 40))):=by rw [<-hbq];exact (Bxs.nil (Gw.refl w)).add _ _
 clear hbq;go_enter func59,ntmps59;go_wp2_with fail;rw [BQ.out];generalize w.alloc (.cells #[.int .u64 0,.int .u64 0,.bool false] 40)=w1 at B0 ⊢;go_loopg [8] 41 (fun gg s8 wr=>∃ i:Nat,s8=.int .i64 (i:Int)/\i<=40/\41-i<=gg/\Aside (Bxs w [(bq,#[.int .u64 0,.int .u64 0,.bool false],40)] wr)/\Aside (lookV (nw q (rs.drop i))=A))
 case atStart=>exact ⟨j,rfl,hj,by omega,B0,RES⟩
 case round =>
  clear B0 RES;obtain ⟨i,rfl,a1,a2,B',N⟩:=hrel;obtain ⟨wS,hwS⟩:∃ wx,wx=wr:=⟨_,rfl⟩;subst hwS;have HCS:=HC.out.gw B'.out.gw0;have c2:=HCS.c2;have pl:=HCS.plt;have bl:=HCS.blt;by_cases hlt:i<40
  ·have hlt':(i:Int)<40:=by omega
   have ci:=HCS.cell hlt;have DR:=drop_rs (rs:=rs) (i:=i) (by rw [HC.out.len];exact hlt)
   rcases cases_rs rs i with e | ⟨r,e⟩
   ·rw [e] at ci DR
    have N':Aside (lookV (nw q (rs.drop (i+1)))=A):=by have:=N.out;rw [DR,nw_none] at this;exact this
    have ci':wS.cell? ⟨rb,i,none⟩=some (.pointer none):=ci;clear ci e DR N HCS;go_wp2_with fail;go_roundg (41-(i+1))
    case measure=>omega
    case rel=>exact ⟨i+1,by go_num,by omega,Nat.le_refl _,B',N'⟩
   ·rw [e] at ci DR
    have ci':wS.cell? ⟨rb,i,none⟩=some (.pointer (some ⟨r.p,0,none⟩)):=ci;have RR:=(HCS.runs r (mem_rs (by rw [HC.out.len];exact hlt) e)).1
    obtain ⟨x,y,z,t,f1,f2,f3⟩:=lookV_form (look Ent.k q r.l);have GT:Hid (Calls prog 108 #[.pointer (some ⟨r.p,0,none⟩),.int .u64 q] wS fun e w'=>e=.returned (.tuple #[.agg #[.int .u64 x,.int .u64 y,.bool z],.bool t])/\Gw wS w'):=by
     have:=dlook15 RR q
     rw [f1] at this;exact this
    have NR:=N.out;rw [DR,nw_some] at NR;have NT:Aside (t=true->A=(.agg #[.int .u64 x,.int .u64 y,.bool z],true)):=fun h=>by
     rw [f2] at h;cases hk:look Ent.k q r.l with
     | none=>rw [hk] at h;cases h
     | some en =>
      rw [<-NR,hk];show lookV (some en)=_;rw [<-hk,f1,f2,h]
    have NF:Aside (t=false->lookV (nw q (rs.drop (i+1)))=A):=fun h=>by
     rw [f2] at h;cases hk:look Ent.k q r.l with
     | none=>rw [hk] at NR;exact NR
     | some en=>rw [hk] at h;cases h
    generalize r.p=rp at ci' GT;clear ci e DR N RR f1 f2 f3 NR HCS;go_wp2_with fail;refine Calls.mono GT.out ?_;rintro e u1 ⟨rfl,gg⟩;have B1:=(B'.out.gw gg).add #[.int .u64 x,.int .u64 y,.bool z] 40;obtain ⟨bx,hbx⟩:∃ b,u1.heap.size=b:=⟨_,rfl⟩;have BX:Aside _:=hbx;rw [hbx] at B1;clear gg GT hbx;go_upto_region 6 with fail;rw [BX.out];generalize u1.alloc (.cells #[.int .u64 x,.int .u64 y,.bool z] 40)=U at B1 ⊢;have E0:U.heap[bq]?=some (.cells #[.int .u64 0,.int .u64 0,.bool false] 40 (0,0)):=B1.lie (bq,#[.int .u64 0,.int .u64 0,.bool false],40) (by simp)
    have E1:U.heap[bx]?=some (.cells #[.int .u64 x,.int .u64 y,.bool z] 40 (0,0)):=B1.lie (bx,#[.int .u64 x,.int .u64 y,.bool z],40) (by simp)
    have GU:Aside _:=B1.gw0;cases t with
    | false =>
     have B2:Aside (Bxs w [(bq,#[.int .u64 0,.int .u64 0,.bool false],40)] U):=⟨B1.gw0,fun x hx=>by rw [List.mem_singleton.1 hx];exact E0⟩
     have N':Aside _:=NF.out rfl;clear E0 E1 B1 B' NF NT;go_wp2_with fail;go_roundg (41-(i+1))
     case measure=>omega
     case rel=>exact ⟨i+1,by go_num,by omega,Nat.le_refl _,B2,N'⟩
    | true =>
     have e:=NT.out rfl;subst e;obtain ⟨x0,x1,x2,_⟩:=box_facts E1;obtain ⟨m0,m1,m2,z0,z1,z2,bl',TT⟩:=box_facts E0;have T3:=TT x y z;clear E0 E1 B1 B' NT NF TT;go_wp2_with fail;exact bodyPost_ret (v:=.tuple #[.agg #[.int .u64 x,.int .u64 y,.bool z],.bool true]) (by simp [results,results59,go_sem,T3.1,T3.2.1,T3.2.2]) rfl ⟨rfl,((GU.out.setCell (Nat.le_of_eq BQ.out) _).setCell (Nat.le_of_eq BQ.out) _).setCell (Nat.le_of_eq BQ.out) _⟩
  ·have ei:i=40:=by omega
   subst ei;have e:A=(.agg #[.int .u64 0,.int .u64 0,.bool false],false):=by
    rw [<-N.out,List.drop_of_length_le (by rw [HC.out.len];exact Nat.le_refl _)]
    rfl
   subst e;have E0:wS.heap[bq]?=some (.cells #[.int .u64 0,.int .u64 0,.bool false] 40 (0,0)):=B'.out.lie (bq,#[.int .u64 0,.int .u64 0,.bool false],40) (by simp)
   have GU:Aside _:=B'.out.gw0;obtain ⟨m0,m1,m2,z0,z1,z2,bl',TT⟩:=box_facts E0;have T3:=TT 0 0 false;clear E0 B' N TT HCS;go_wp2_with fail;exact bodyPost_ret (v:=.tuple #[.agg #[.int .u64 0,.int .u64 0,.bool false],.bool false]) (by simp [results,results59,go_sem,T3.1,T3.2.1,T3.2.2]) rfl ⟨rfl,((GU.out.setCell (Nat.le_of_eq BQ.out) _).setCell (Nat.le_of_eq BQ.out) _).setCell (Nat.le_of_eq BQ.out) _⟩
end Go.Proofs.YteflpamjgaeaiaaGreat
namespace Go.Proofs.YteflpamjgaeaiaaGreat
open Go.RowKit
attribute [local go_sem] run_store_float f64bits
theorem same15_lev (ao bo:Option Addr) (ca cb:Nat) (L:List (List Sg)) (hL:L.length<=4000000) (hl:∀ i,i<L.length->(L.getD i []).length<=4000000) (w:World) (ha:VS w ao L) (hb:VS w bo L) :
  Calls prog 70 #[.slice ao L.length ca,.slice bo L.length cb] w fun e w'=>e=.returned (.bool true)/\Gw w w':=by
 have VA:Aside _:=ha;have VB:Aside _:=hb;have HL:Aside _:=hl;clear ha hb hl;obtain ⟨ln,hln⟩:∃ ln,L.length=ln:=⟨_,rfl⟩;have LN:Aside _:=hln;rw [hln] at hL ⊢;clear hln;go_enter func70,ntmps70;go_wp2_with fail;go_loopg [5] ln (fun gg s5 wr=>∃ i:Nat,s5=.int .i64 i/\i<=ln/\ln-i<=gg/\Aside (Gw w wr))
 case atStart=>exact ⟨0,rfl,Nat.zero_le _,by omega,(show Aside _ from Gw.refl w)⟩
 case round =>
  obtain ⟨i,rfl,h1,h2,G⟩:=hrel;by_cases hlt:i<ln
  ·obtain ⟨ab,af,rfl,hab,hac⟩:=(VA.out.gw G.out).cells (by rw [LN.out];omega)
   obtain ⟨so,sc,p1,_,_,p4⟩:=hac i (by rw [LN.out];exact hlt)
   obtain ⟨bb,bf,rfl,hbb,hbc⟩:=(VB.out.gw G.out).cells (by rw [LN.out];omega)
   obtain ⟨to_,tc,q1,_,_,q4⟩:=hbc i (by rw [LN.out];exact hlt)
   have sl:=HL.out i (by rw [LN.out];exact hlt)
   clear hac hbc;generalize L.getD i []=l at p1 p4 q1 q4 sl;have GA:Aside _:=p4;have GB:Aside _:=q4;obtain ⟨sn,hsn⟩:∃ sn,l.length=sn:=⟨_,rfl⟩;have SN:Aside _:=hsn;rw [hsn] at p1 q1 sl;have L8:Aside ((wr.cell? ⟨ab,af+i,none⟩=some (.slice so sn sc)/\ab<wr.heap.size)/\(wr.cell? ⟨bb,bf+i,none⟩=some (.slice to_ sn tc)/\bb<wr.heap.size)):=⟨⟨p1,hab⟩,⟨q1,hbb⟩⟩;obtain ⟨w8,hw8⟩:∃ wx,wx=wr:=⟨_,rfl⟩;subst hw8;clear hsn p4 q4;go_wp2_with fail;go_quiet (fail);go_wp2_with fail;have D9:Aside (Gw w8 (w8.drewN nq)):=(Gw.refl w8).drewN _;generalize w8.drewN nq=w9 at D9 ⊢;clear p1 q1 hab hbb;go_loopg [6] sn (fun gg s6 wr=>∃ k:Nat,s6=.int .i64 k/\k<=sn/\sn-k<=gg/\Aside (Gw w8 wr))
   case atStart=>exact ⟨0,rfl,Nat.zero_le _,by omega,D9⟩
   case round =>
    obtain ⟨k,rfl,j1,j2,GW⟩:=hrel;have p1:wr.cell? ⟨ab,af+i,none⟩=some (.slice so sn sc):=(GW.out.cell _ _ L8.out.1.2).trans L8.out.1.1;have hab:ab<wr.heap.size:=Nat.lt_of_lt_of_le L8.out.1.2 GW.out.size;by_cases klt:k<sn
    ·have q1:wr.cell? ⟨bb,bf+i,none⟩=some (.slice to_ sn tc):=(GW.out.cell _ _ L8.out.2.2).trans L8.out.2.1
     have hbb:bb<wr.heap.size:=Nat.lt_of_lt_of_le L8.out.2.2 GW.out.size;obtain ⟨sb,sf,rfl,hsb,hsc⟩:=(GA.out.gw GW.out).cells (by rw [SN.out];omega)
     obtain ⟨tb,tf,rfl,htb,htc⟩:=(GB.out.gw GW.out).cells (by rw [SN.out];omega)
     have C:=hsc k (by rw [SN.out];exact klt)
     have D:=htc k (by rw [SN.out];exact klt)
     clear hsc htc;generalize l.getD k sg0=s at C D;obtain ⟨sk,ssl,sic,sfr,ste⟩:=s;have c0:wr.cell? ⟨sb,sf+k*5,none⟩=some (.int .u64 sk):=C.c0;have c1:wr.cell? ⟨sb,sf+k*5+1,none⟩=some (.float .f64 ssl):=C.c1;have c2:wr.cell? ⟨sb,sf+k*5+2,none⟩=some (.float .f64 sic):=C.c2;have c3:wr.cell? ⟨sb,sf+k*5+3,none⟩=some (.int .i64 sfr):=C.c3;have c4:wr.cell? ⟨sb,sf+k*5+4,none⟩=some (.int .i64 ste):=C.c4;have d0:wr.cell? ⟨tb,tf+k*5,none⟩=some (.int .u64 sk):=D.c0;have d1:wr.cell? ⟨tb,tf+k*5+1,none⟩=some (.float .f64 ssl):=D.c1;have d2:wr.cell? ⟨tb,tf+k*5+2,none⟩=some (.float .f64 sic):=D.c2;have d3:wr.cell? ⟨tb,tf+k*5+3,none⟩=some (.int .i64 sfr):=D.c3;have d4:wr.cell? ⟨tb,tf+k*5+4,none⟩=some (.int .i64 ste):=D.c4;have GW9:Aside _:=GW.out;clear C D;go_wp2_with fail;go_quiet (first | simp only [f64bits])
     go_wp2_with fail;go_roundg (sn-(k+1))
     case measure=>omega
     case rel=>exact ⟨k+1,by go_num,by omega,Nat.le_refl _,(show Aside _ from ((GW9.out.alloc _ _).alloc _ _).drewN _)⟩
    ·have ek:k=sn:=by omega
     subst ek;go_wp2_with fail;go_roundg (ln-(i+1))
     case measure=>omega
     case rel=>exact ⟨i+1,by go_num,by omega,Nat.le_refl _,(show Aside _ from G.out.trans GW.out)⟩
  ·go_wp2_with fail
   go_ret
   exact ⟨rfl,G.out⟩
end Go.Proofs.YteflpamjgaeaiaaGreat
