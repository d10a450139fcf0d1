import Derived.Test.YtaemofgeciklkaaGreatEUOf2
import Derived.Test.YtaemofgeciklkaaGreatEUTk
set_option linter.unusedVariables false
set_option maxHeartbeats 16000000
set_option maxRecDepth 20000
open Go.Proofs.Tryz
namespace Go.Proofs.YtaemofgeciklkaaGreat
open Go.RowKit
theorem ba.kp:Kp ba:=⟨fun h k=>h.keep k,fun h=>h.lt⟩
structure aQ (w:World) (p b:Nat) (rs:List (Option Rn)) (eps buf B W:Int):Prop where
 blk:∃ c,40<=c/\w.heap[p]?=some (.cells #[By eps,By buf,ψ b 0 40 c,By B,By W] 83 (0,0))
 row:∃ x:List Value,w.heap[b]?=some (.cells (rs.map ptr++x).toArray 102 (0,0))
 len:rs.length=40
 runs:∀ r,some r∈rs->RA ba w r/\¬ r.S p/\¬ r.S b
 ne:b≠p
 e0:2<=eps
 e1:eps<=64
 b0:1<=buf
 b1:buf<=4294967296
section
variable {w w':World} {p b:Nat} {rs:List (Option Rn)} {eps buf B W:Int}
theorem aQ.plt (h:aQ w p b rs eps buf B W):p<w.heap.size:=h.blk.elim fun _ x=>ak x.2
theorem aQ.blt (h:aQ w p b rs eps buf B W):b<w.heap.size:=h.row.elim fun _ x=>ak x
theorem aQ.fz (h:aQ w p b rs eps buf B W) (i:Nat):w.frozen? (φ b i)=false:=h.row.elim fun _ x=>bC x
theorem aQ.fp (h:aQ w p b rs eps buf B W) (i:Nat):w.frozen? (φ p i)=false:=h.blk.elim fun _ x=>bC x.2
theorem aQ.gw (h:aQ w p b rs eps buf B W) (g:Gw w w'):aQ w' p b rs eps buf B W :=
 ⟨h.blk.elim fun c x=>⟨c,x.1,(g.below.block p (ak x.2)).trans x.2⟩,h.row.elim fun y x=>⟨y,(g.below.block b (ak x)).trans x⟩,h.len,fun r hr=>⟨(h.runs r hr).1.gw ba.kp g,(h.runs r hr).2⟩,h.ne,h.e0,h.e1,h.b0,h.b1⟩
theorem aQ.gx {F:Nat->Prop} (h:aQ w p b rs eps buf B W) (g:Gx F w w') (np:¬ F p) (nb:¬ F b) (d:∀ q,F q->∀ r,some r∈rs->¬ r.S q):aQ w' p b rs eps buf B W :=
 ⟨h.blk.elim fun c x=>⟨c,x.1,(g.block p (ak x.2) np).trans x.2⟩,h.row.elim fun y x=>⟨y,(g.block b (ak x) nb).trans x⟩,h.len,fun r hr=>⟨(h.runs r hr).1.gx ba.kp g (fun q hq=>d q hq r hr),(h.runs r hr).2⟩,h.ne,h.e0,h.e1,h.b0,h.b1⟩
theorem aQ.c0 (h:aQ w p b rs eps buf B W):w.cell? (φ p 0)=some (By eps):=h.blk.elim fun _ x=>aj x.2 rfl
theorem aQ.c1 (h:aQ w p b rs eps buf B W):w.cell? (φ p 1)=some (By buf):=h.blk.elim fun _ x=>aj x.2 rfl
theorem aQ.c2 (h:aQ w p b rs eps buf B W):∃ c,40<=c/\w.cell? (φ p 2)=some (ψ b 0 40 c):=h.blk.elim fun c x=>⟨c,x.1,aj x.2 rfl⟩
theorem aQ.c3 (h:aQ w p b rs eps buf B W):w.cell? (φ p 3)=some (By B):=h.blk.elim fun _ x=>aj x.2 rfl
theorem aQ.c4 (h:aQ w p b rs eps buf B W):w.cell? (φ p 4)=some (By W):=h.blk.elim fun _ x=>aj x.2 rfl
variable {i:Nat}
theorem aQ.cell (h:aQ w p b rs eps buf B W) (hi:i<40):w.cell? (φ b i)=some (ptr (rs.getD i none)):=by
 have hl:i<rs.length:=by rw [h.len];exact hi
 obtain ⟨y,x⟩:=h.row;refine aj x ?_;rw [List.getElem?_toArray,qau (by simpa using hl),List.getElem?_map,qah hl,fI hl]
 rfl
end
theorem Ve:(prog.info? 102).map (fun i=>(i.zero,i.size,i.bytes))=some (some (.pointer none),1,8):=η
theorem aeN (w:World):(Instr.makeSlice 81 (By 40) (By 40)).run prog w=.ok (ψ w.heap.size 0 40 40) (w.alloc (.cells (madeCells #[.pointer none] 40) 102)):=by obtain ⟨i,hi,oE,hs,hb⟩:=info_parts Ve;exact run_make_row (P:=prog) 81 102 i (.pointer none) underlying81 hi oE hs rfl .i64 .i64 40 (by rw [hb];omega) ω w
theorem aeO:madeCells #[Value.pointer none] 40=((List.replicate 40 (none:Option Rn)).map ptr).toArray:=by
 rw [RJ];refine Array.ext_getElem? fun i=>?_
 by_cases h:i<40
 ·have e1:(madeCells #[Value.pointer none] 40)[i]?=some (.pointer none):=by simp [madeCells,h,Nat.mod_one]
  have e2:((List.replicate 40 (Value.pointer none)).toArray)[i]?=some (.pointer none):=by rw [List.getElem?_toArray,qbk,Ym h]
  rw [e1,e2]
 ·have e1:(madeCells #[Value.pointer none] 40)[i]?=none:=Array.getElem?_eq_none (by simp [madeCells];omega)
  have e2:((List.replicate 40 (Value.pointer none)).toArray)[i]?=none:=by rw [List.getElem?_toArray,qbk,Yl h]
  rw [e1,e2]
theorem aeP (eps buf:Int) (w:World) :
  Calls prog 21 #[By eps,By buf] w fun e w'=>((¬ fJ eps buf/\e=π #[.pointer none,By 1])\/(fJ eps buf/\∃ p b,e=π #[IS p,By 0]/\w.heap.size<=p/\w.heap.size<=b/\aQ w' p b (List.replicate 40 none) eps buf 0 0))/\Gw w w':=by
 have NO:(eps<2\/(¬ eps<2/\64<eps)\/(¬ eps<2/\¬ 64<eps/\buf<1)\/(¬ eps<2/\¬ 64<eps/\¬ buf<1/\4294967296<buf))/\¬ fJ eps buf\/fJ eps buf:=by
  by_cases h:fJ eps buf
  ·exact .inr h
  ·refine .inl ⟨?_,h⟩
   unfold fJ at h;omega
 rcases NO with ⟨a,b⟩ | a
 ·have BB:ag (¬ fJ eps buf):=b
  clear b;rcases a with a | ⟨a,b⟩ | ⟨a,b,c⟩ | ⟨a,b,c,d⟩
  ·have t1:decide (eps<2)=true:=(by simpa using a);clear a;go_enter func21,ntmps21;go_wp2_with fail;go_ret2;exact ⟨.inl ⟨BB.o,rfl⟩,Gw.refl w⟩
  ·have t1:decide (eps<2)=false:=(by simpa using a);have t2:decide (64<eps)=true:=(by simpa using b);clear a b;go_enter func21,ntmps21;go_wp2_with fail;go_ret2;exact ⟨.inl ⟨BB.o,rfl⟩,Gw.refl w⟩
  ·have t1:decide (eps<2)=false:=(by simpa using a);have t2:decide (64<eps)=false:=(by simpa using b);have t3:decide (buf<1)=true:=(by simpa using c);clear a b c;go_enter func21,ntmps21;go_wp2_with fail;go_ret2;exact ⟨.inl ⟨BB.o,rfl⟩,Gw.refl w⟩
  ·have t1:decide (eps<2)=false:=(by simpa using a);have t2:decide (64<eps)=false:=(by simpa using b);have t3:decide (buf<1)=false:=(by simpa using c);have t4:decide (4294967296<buf)=true:=(by simpa using d);clear a b c d;go_enter func21,ntmps21;go_wp2_with fail;go_ret2;exact ⟨.inl ⟨BB.o,rfl⟩,Gw.refl w⟩
 ·have AA:ag (fJ eps buf):=a
  obtain ⟨⟨a1,a2⟩,a3,a4⟩:=a;have t1:decide (eps<2)=false:=by simpa using a1
  have t2:decide (64<eps)=false:=by simpa using a2
  have t3:decide (buf<1)=false:=by simpa using a3
  have t4:decide (4294967296<buf)=false:=by simpa using a4
  obtain ⟨W1,nF⟩:=qbr (w.alloc (.cells (madeCells #[.pointer none] 40) 102));obtain ⟨bq,aE⟩:=qbr w.heap.size;have mk:=aeN w;rw [nF,aE] at mk;have HC:ag (aQ (W1.alloc (.cells #[By eps,By buf,ψ bq 0 40 40,By 0,By 0] 83)) W1.heap.size bq (List.replicate 40 none) eps buf 0 0):=by
   have s1:W1.heap.size=bq+1:=(by rw [<-nF,<-aE];simp);refine ⟨⟨40,Yk _,Ω _ _⟩,⟨[],?_⟩,ε,(fun r hr=>by simp at hr),ω,a1,a2,a3,a4⟩
   rw [qaJ,qap _ _ ω,<-nF,<-aE,<-aeO];exact Ω _ _
  have GG:ag (Gw w W1/\w.heap.size<=bq):=⟨by rw [<-nF];exact (Gw.refl w).alloc _ _,qad aE⟩
  clear a1 a2 a3 a4 nF aE;go_enter func21,ntmps21;go_wp2_with fail;go_ret2;exact ⟨.inr ⟨AA.o,_,bq,rfl,GG.o.1.size,GG.o.2,HC.o⟩,GG.o.1.alloc _ _⟩
variable {w:World} {r:Rn}
theorem aeQ (h:RA ba w r) (q:Int) :
  Calls prog 128 #[IS (r.p),BY q] w fun e w'=>e=π #[(dE (look ah.k q r.l)).1,.bool (dE (look ah.k q r.l)).2]/\Gw w w':=by
 have:=ack h.h h.ok.up q
 rw [Rh h.ok.rise] at this;exact this
variable {p rb:Nat} {rs:List (Option Rn)} {eps buf B W:Int}
theorem aeR (h:aQ w p rb rs eps buf B W) (j:Nat) (hj:j<=40) (q:Int) :
  Calls prog 114 #[IS p,By (j:Int),BY q] w fun e w'=>e=χ (.tuple #[(dE (nw q (rs.drop j))).1,.bool (dE (nw q (rs.drop j))).2])/\Gw w w':=by
 have HC:ag _:=h;obtain ⟨A,hA⟩:=qbr (dE (nw q (rs.drop j)));have av:ag _:=hA;rw [hA];clear h hA;obtain ⟨bq,aE⟩:=qbr w.heap.size;have BQ:ag _:=aE;have B0:ag (bD w [(bq,#[BY 0,BY 0,.bool false],71)] (w.alloc (.cells #[BY 0,BY 0,.bool false] 71))):=by rw [<-aE];exact (bD.nil (Gw.refl w)).add _ _
 clear aE;go_enter func114,ntmps114;go_wp2_with fail;rw [BQ.o];generalize w.alloc (.cells #[BY 0,BY 0,.bool false] 71)=w1 at B0 ⊢;go_loopg [8] 41 (fun gg s8 wr=>∃ i:Nat,s8=By (i:Int)/\i<=40/\41-i<=gg/\ag (bD w [(bq,#[BY 0,BY 0,.bool false],71)] wr)/\ag (dE (nw q (rs.drop i))=A))
 case atStart=>exact ⟨j,rfl,hj,ω,B0,av⟩
 case round =>
  clear B0 av;obtain ⟨i,rfl,a1,a2,B',N⟩:=hrel;obtain ⟨wS,aS⟩:=qbs wr;subst aS;have rZ:=HC.o.gw B'.o.gw0;obtain ⟨cc,_,c2⟩:=rZ.c2;have pl:=rZ.plt;have bl:=rZ.blt;by_cases ar:i<40
  ·have dH:(i:Int)<40:=(by omega);have ci:=rZ.cell ar;have DR:=rJ (rs:=rs) (i:=i) (by rw [HC.o.len];exact ar)
   rcases jk rs i with e | ⟨r,e⟩
   ·rw [e] at ci DR
    have N':ag (dE (nw q (rs.drop (i+1)))=A):=(by have:=N.o;rw [DR,yO] at this;exact this);have cH:wS.cell? (φ rb i)=some (.pointer none):=ci;clear ci e DR N rZ;go_wp2_with fail;go_roundg (41-(i+1))
    case measure=>omega
    case rel=>exact ⟨i+1,by go_num,ω,Yk _,B',N'⟩
   ·rw [e] at ci DR
    have cH:wS.cell? (φ rb i)=some (IS (r.p)):=ci;have RR:=(rZ.runs r (kG (by rw [HC.o.len];exact ar) e)).1
    obtain ⟨x,y,z,t,f1,f2,f3⟩:=pV (look ah.k q r.l);have GT:ag (Calls prog 128 #[IS (r.p),BY q] wS fun e w'=>e=χ (.tuple #[.agg #[BY x,BY y,.bool z],.bool t])/\Gw wS w'):=by
     have:=aeQ RR q
     rw [f1] at this;exact this
    have NR:=N.o;rw [DR,rI] at NR;have NT:ag (t=true->A=(.agg #[BY x,BY y,.bool z],true)):=fun h=>by
     rw [f2] at h;cases hk:look ah.k q r.l with
     | none=>rw [hk] at h;cases h
     | some en =>
      rw [<-NR,hk];show dE (some en)=_;rw [<-hk,f1,f2,h]
    have NF:ag (t=false->dE (nw q (rs.drop (i+1)))=A):=fun h=>by
     rw [f2] at h;cases hk:look ah.k q r.l with
     | none=>rw [hk] at NR;exact NR
     | some en=>rw [hk] at h;cases h
    generalize r.p=rp at cH GT;clear ci e DR N RR f1 f2 f3 NR rZ;go_wp2_with fail;refine Calls.mono GT.o ?_;rintro e u1 ⟨rfl,gg⟩;have B1:=(B'.o.gw gg).add #[BY x,BY y,.bool z] 71;obtain ⟨bx,eM⟩:=qbr u1.heap.size;have BX:ag _:=eM;rw [eM] at B1;clear gg GT eM;go_upto_region 6 with fail;rw [BX.o];generalize u1.alloc (.cells #[BY x,BY y,.bool z] 71)=U at B1 ⊢;have E0:U.heap[bq]?=some (.cells #[BY 0,BY 0,.bool false] 71 (0,0)):=B1.lie (bq,#[BY 0,BY 0,.bool false],71) ε;have E1:U.heap[bx]?=some (.cells #[BY x,BY y,.bool z] 71 (0,0)):=B1.lie (bx,#[BY x,BY y,.bool z],71) ε;have GU:ag _:=B1.gw0;cases t with
    | false =>
     have B2:ag (bD w [(bq,#[BY 0,BY 0,.bool false],71)] U):=⟨B1.gw0,fun x hx=>by rw [qbg.1 hx];exact E0⟩
     have N':ag _:=NF.o rfl;clear E0 E1 B1 B' NF NT;go_wp2_with fail;go_roundg (41-(i+1))
     case measure=>omega
     case rel=>exact ⟨i+1,by go_num,ω,Yk _,B2,N'⟩
    | true =>
     have e:=NT.o rfl;subst e;obtain ⟨x0,x1,x2,_⟩:=lY E1;obtain ⟨m0,m1,m2,z0,z1,z2,zM,TT⟩:=lY E0;have T3:=TT x y z;clear E0 E1 B1 B' NT NF TT;go_wp2_with fail;exact bodyPost_ret (v:=.tuple #[.agg #[BY x,BY y,.bool z],.bool true]) (by simp [results,results114,go_sem,T3.1,T3.2.1,T3.2.2]) rfl ⟨rfl,((GU.o.setCell (qad BQ.o) _).setCell (qad BQ.o) _).setCell (qad BQ.o) _⟩
  ·have ei:i=40:=(by omega);subst ei;have e:A=(.agg #[BY 0,BY 0,.bool false],false):=by
    rw [<-N.o,qbo (by rw [HC.o.len];exact Yk _)]
    rfl
   subst e;have E0:wS.heap[bq]?=some (.cells #[BY 0,BY 0,.bool false] 71 (0,0)):=B'.o.lie (bq,#[BY 0,BY 0,.bool false],71) ε;have GU:ag _:=B'.o.gw0;obtain ⟨m0,m1,m2,z0,z1,z2,zM,TT⟩:=lY E0;have T3:=TT 0 0 false;clear E0 B' N TT rZ;go_wp2_with fail;exact bodyPost_ret (v:=.tuple #[.agg #[BY 0,BY 0,.bool false],.bool false]) (by simp [results,results114,go_sem,T3.1,T3.2.1,T3.2.2]) rfl ⟨rfl,((GU.o.setCell (qad BQ.o) _).setCell (qad BQ.o) _).setCell (qad BQ.o) _⟩
def zN (up:List (Option Rn)) (e:ah):Bool:=e.g&&aM up e.k
def bX (up:List (Option Rn)) (l:List ah):List Int:=(l.filter (zN up)).map ah.k
def ux (A:List Int):List Value:=A.map (Value.int .u64)
theorem aeS (up:List (Option Rn)) (l:List ah):(bX up l).length<=l.length:=by unfold bX;rw [qaS];exact List.length_filter_le ..
theorem aeT (up:List (Option Rn)) (l:List ah) (e:ah):bX up (l++[e])=bX up l++(if zN up e=true then [e.k] else []):=by unfold bX;rw [List.filter_append,qaV,List.filter_cons];split<;>rfl
theorem aeU (up:List (Option Rn)) (l:List ah):l.filter (eu (bX up l).length (fun i=>(bX up l).getD i 0))=l.filter (aW (aM up)):=by
 refine List.filter_congr fun e he=>?_
 unfold eu aW;cases hg:e.g with
 | false=>rfl
 | true =>
  show oF _ _ e.k=aM up e.k;unfold oF;cases hl:aM up e.k with
  | true =>
   have hm:e.k∈bX up l:=(by unfold bX;refine qaA.2 ⟨e,List.mem_filter.2 ⟨he,?_⟩,rfl⟩;unfold zN;rw [hg,hl];rfl);obtain ⟨i,hi,ei⟩:=List.mem_iff_getElem.1 hm;rw [List.any_eq_true];exact ⟨i,List.mem_range.2 hi,by simp [List.getD,hi,ei]⟩
  | false =>
   rw [List.any_eq_false];intro i hi;have dQ:=List.mem_range.1 hi;have e2:(bX up l).getD i 0=(bX up l)[i]:=(by simp [List.getD,dQ]);show ¬ ((bX up l).getD i 0 == e.k)=true;rw [e2];intro q;have q':(bX up l)[i]=e.k:=(by simpa using q);have hm:e.k∈bX up l:=(by rw [<-q'];exact qaz dQ);unfold bX at hm;obtain ⟨e',J6,J7⟩:=qaA.1 hm;have:=(List.mem_filter.1 J6).2;unfold zN at this;rw [J7,hl,Bool.and_false] at this;cases this
theorem aeV (h:aQ w p rb rs eps buf B W) (ao:Option Addr) (c:Nat) (l:List ah) (hl:EL w ao l) (hn:l.length<=2000000) (j:Nat) (hj:j<40) :
  Calls prog 94 #[IS p,.slice ao l.length c,By (j:Int)] w fun e w'=>(∃ ob m oc,e=χ (ψ ob 0 m oc)/\(bX (rs.drop (j+1)) l).length=m/\KS w' (some (φ ob 0)) m (fun i=>(bX (rs.drop (j+1)) l).getD i 0))/\Gw w w':=by
 have HE:ag (EL w ao l):=hl;have HC:ag (aQ w p rb rs eps buf B W):=h;obtain ⟨n,ax⟩:=qbr l.length;have LN:ag (l.length=n):=ax;rw [ax] at hn ⊢;obtain ⟨up,vh⟩:=qbr (rs.drop (j+1));have UP:ag (rs.drop (j+1)=up):=vh;rw [vh];have NW:ag (∀ W' q,Gw w W'->Calls prog 114 #[IS p,By ((j+1:Nat):Int),BY q] W' fun e w'=>e=π #[(dE (nw q up)).1,.bool (dE (nw q up)).2]/\Gw W' w'):=fun W' q gg=>by
  have:=aeR (h.gw gg) (j+1) ω q
  rw [vh] at this;exact this
 obtain ⟨k1,ru⟩:=qbr (j+1);rw [ru] at NW;have wk:IntKind.i64.wrap ((j:Int)+1)=(k1:Int):=by rw [Δ];omega
 obtain ⟨ii,aK,oE,eI,aJ⟩:=info_parts qF;have O1:ag ((w.alloc (.cells #[] 35)).ownsRow w.heap.size 35 1 (ψ w.heap.size 0 0 0) 0 (ux (bX up (l.take 0)))):=World.ownsRow_made w #[] 0 (Yk _) (Γ _) rfl;have G1:ag (Gw w (w.alloc (.cells #[] 35))):=(Gw.refl w).alloc _ _;clear h hl ax vh ru;go_enter func94,ntmps94;go_wp2_with fail;generalize w.alloc (.cells #[] 35)=w1 at O1 G1 ⊢;go_loopg [7,8] n (fun gg s7 s8 wr=>∃ (i m ob oc:Nat),s7=ψ ob 0 m oc/\s8=By (i:Int)/\i<=n/\n-i<=gg/\m<=i/\ag ((bX up (l.take i)).length=m)/\ag (wr.ownsRow w.heap.size 35 1 (ψ ob 0 m oc) m (ux (bX up (l.take i))))/\ag (Gw w wr))
 case atStart=>exact ⟨0,0,w.heap.size,0,rfl,rfl,Γ _,ω,Yk _,(show ag _ from rfl),O1,G1⟩
 case round =>
  clear O1 G1;obtain ⟨i,m,ob,oc,rfl,rfl,a1,a2,a3,ML,O,G⟩:=hrel;obtain ⟨wS,aS⟩:=qbs wr;subst aS;by_cases ar:i<n
  ·have dH:(i:Int)<(n:Int):=(by omega);have hi:i<l.length:=(by rw [LN.o];exact ar);obtain ⟨lb,lf,rfl,dO,bL⟩:=(HE.o.gw G.o).cells ω;obtain ⟨c0,c1,c2⟩:=bL i hi;have TK:l.take (i+1)=l.take i++[l.getD i aq]:=(by rw [qaW,qah hi,ji hi];rfl);have LK:=aeT up (l.take i) (l.getD i aq);rw [<-TK] at LK;have bd:=(HE.o.ok hi).1;obtain ⟨x,hx⟩:=qbr (l.getD i aq);rw [hx] at c0 c1 c2 LK bd;obtain ⟨xk,xv,xg⟩:=x;have d0:wS.cell? (φ lb (lf+i*3))=some (BY xk):=c0;have d2:wS.cell? (φ lb (lf+i*3+2))=some (.bool xg):=c2;obtain ⟨a,b,z,t,f1,f2,f3⟩:=pV (nw xk up);have NQ:ag (Calls prog 114 #[IS p,By (k1:Int),BY xk] wS fun e w'=>e=χ (.tuple #[.agg #[BY a,BY b,.bool z],.bool t])/\Gw wS w'):=by
    have:=NW.o wS xk G.o
    rw [f1] at this;exact this
   have Dx:ag (bX up (l.take (i+1))=bX up (l.take i)++(if (xg&&(t&&!z))=true then [xk] else [])):=by show _=_;rw [LK];have e:zN up ⟨xk,xv,xg⟩=(xg&&(t&&!z)):=(by show (xg&&iK (nw xk up))=_;rw [f3]);rw [e]
   have BD:ag (0<=xk/\xk<18446744073709551616):=bd;have CE:ag (∀ W',Gw wS W'->W'.cell? (φ lb (lf+i*3))=some (BY xk)/\W'.cell? (φ lb (lf+i*3+2))=some (.bool xg)/\lb<W'.heap.size):=fun W' gg=>⟨(gg.cell _ _ dO).trans d0,(gg.cell _ _ dO).trans d2,Θ dO gg.size⟩
   clear bL c0 c1 c2 TK LK hx f1 f2 f3 hi bd;go_wp2_with fail;refine Calls.mono NQ.o ?_;rintro e u1 ⟨rfl,gg⟩;obtain ⟨bx,eM⟩:=qbr u1.heap.size;have BX:ag (u1.heap.size=bx):=eM;have E1:(u1.alloc (.cells #[BY a,BY b,.bool z] 71)).heap[bx]?=some (.cells #[BY a,BY b,.bool z] 71 (0,0)):=(by rw [<-eM];exact Ω _ _);have GU:ag (Gw wS (u1.alloc (.cells #[BY a,BY b,.bool z] 71))):=gg.alloc _ _;clear gg NQ eM;go_upto_region 6 with fail;rw [BX.o];generalize u1.alloc (.cells #[BY a,BY b,.bool z] 71)=U at E1 GU ⊢;obtain ⟨x0,x1,x2,_,_,_,bl,_⟩:=lY E1;obtain ⟨g0,g2,gl⟩:=CE.o U GU.o;have OU:ag (U.ownsRow w.heap.size 35 1 (ψ ob 0 m oc) m (ux (bX up (l.take i)))):=QZ O.o GU.o;have zO:ag (Gw w U):=G.o.trans GU.o;have wz:=zO.o.size;clear E1 O CE GU d0 d2;by_cases yes:xg=true/\t=true/\z=false
   ·obtain ⟨rfl,rfl,rfl⟩:=yes
    go_wp2_with (at_builtin;refine wpList_append_own _ rfl _ _ 143 rfl w.heap.size 35 ii (BY 0) 1 8 underlying143 aK oE eI aJ rfl γ _ m _ rfl (OU.o.alloc _) ⟨U.heap.size,0,none⟩ 1 1 [BY xk] rfl rfl (uY U xk) (fun u hu=>by simp at hu;subst hu;rfl) θ ω ζ ?_)
    intro v6 w6 r1 r2 r3;obtain ⟨b6,c6,rfl,hb6,_,_⟩:=cJ r1 (by simpa using r3)
    have G6:ag (Gw w w6):=(zO.o.alloc _ _).grown r2 (fun q hq=>(World.ownsRow.lt OU.o q hq).1)
    have LE:bX up (l.take (i+1))=bX up (l.take i)++[xk]:=Dx.o;have O6:ag (w6.ownsRow w.heap.size 35 1 (ψ b6 0 (m+1) c6) (m+1) (ux (bX up (l.take (i+1))))):=(by show World.ownsRow _ _ _ _ _ _ _;rw [LE];unfold ux at r1 ⊢;rw [qaV];exact r1);have M6:ag ((bX up (l.take (i+1))).length=m+1):=(by show _=_;rw [LE,Ψ,ML.o];rfl);clear r1 r2 r3 hb6 LE OU Dx ML;go_wp2_with fail;go_roundg (n-(i+1))
    case measure=>omega
    case rel=>exact ⟨i+1,m+1,b6,c6,rfl,by go_num,ω,Yk _,ω,M6,O6,G6⟩
   ·have no:(xg&&(t&&!z))=false:=(by cases xg<;>cases t<;>cases z<;>simp_all);have LE:bX up (l.take (i+1))=bX up (l.take i):=(by rw [Dx.o,Yl (by rw [no];decide),qaJ]);have O6:ag (U.ownsRow w.heap.size 35 1 (ψ ob 0 m oc) m (ux (bX up (l.take (i+1))))):=(by rw [LE];exact OU);have M6:ag ((bX up (l.take (i+1))).length=m):=(by rw [LE];exact ML);clear LE OU Dx ML yes;cases xg with
    | false =>
     clear no;go_wp2_with fail;go_roundg (n-(i+1))
     case measure=>omega
     case rel=>exact ⟨i+1,m,ob,oc,rfl,by go_num,ω,Yk _,ω,M6,O6,zO⟩
    | true =>
     cases t with
     | false =>
      clear no;go_wp2_with fail;go_roundg (n-(i+1))
      case measure=>omega
      case rel=>exact ⟨i+1,m,ob,oc,rfl,by go_num,ω,Yk _,ω,M6,O6,zO⟩
     | true =>
      cases z with
      | false=>cases no
      | true =>
       clear no;go_wp2_with fail;go_roundg (n-(i+1))
       case measure=>omega
       case rel=>exact ⟨i+1,m,ob,oc,rfl,by go_num,ω,Yk _,ω,M6,O6,zO⟩
  ·have ei:i=n:=(by omega);subst ei;have TT:l.take i=l:=qaQ (by rw [LN.o];exact Yk _)
   rw [TT] at ML O;have av:ag ((bX up l).length=m/\KS wS (some (φ ob 0)) m (fun i=>(bX up l).getD i 0)):=by
    refine ⟨ML.o,xA O.o (Yk _) (fun k hk=>?_) (fun k hk=>?_)⟩
    ·have vz:k<(bX up l).length:=(by rw [ML.o];exact hk);unfold ux;simp [List.getD,vz]
    ·have vz:k<(bX up l).length:=(by rw [ML.o];exact hk);have e2:(bX up l).getD k 0=(bX up l)[k]:=(by simp [List.getD,vz]);show 0<=(bX up l).getD k 0/\(bX up l).getD k 0<18446744073709551616;rw [e2];have hm:=qaz vz;unfold bX at hm;obtain ⟨e',J6,J7⟩:=qaA.1 hm;have:=(HE.o.all e' (List.mem_filter.1 J6).1).1;rw [J7] at this;exact this
   clear ML O TT;go_wp2_with fail;go_ret;exact ⟨⟨ob,m,oc,rfl,av.o.1,av.o.2⟩,G.o⟩
theorem aeW (l:rs.length=40) (h:∀ i,i<39->∃ r,rs.getD i none=some r):freeC rs=39:=by
 have:39<=free rs:=Nat.le_of_not_lt fun q=>by have e:=Rl (rs:=rs) ω;obtain ⟨r,hr⟩:=h _ q;rw [qag,e] at hr;cases hr
 unfold freeC;omega
variable {j:Nat}
theorem aeX (l:rs.length=40) (hj:j<39) (h:∀ i,i<j->∃ r,rs.getD i none=some r) (n:rs.getD j none=none):freeC rs=j:=by
 have e:free rs=j:=IB (fun i hi=>by
  obtain ⟨r,hr⟩:=h i hi;have hl:i<rs.length:=ω;exact ⟨r,by rw [qah hl,<-fI hl,hr]⟩) (.inl (by
  have hl:j<rs.length:=ω;rw [qah hl,<-fI hl,n]))
 unfold freeC;omega
def NB (rb:Nat) (au:List Value) (L:List (List ah)):Prop:=∀ i,i<L.length->∀ bo c,au[i]?=some (.slice bo (L.getD i []).length c)->∀ a,bo=some a->0<(L.getD i []).length->a.block≠rb
theorem NB.more {au:List Value} {L:List (List ah)} {l:List ah} {bo:Option Addr} {c:Nat} (h:NB rb au L) (hl:au.length=L.length) (ha:∀ a,bo=some a->0<l.length->a.block≠rb):NB rb (au++[.slice bo l.length c]) (L++[l]):=by
 intro i hi;by_cases e:i<L.length
 ·rw [show (L++[l]).getD i []=L.getD i [] by rw [qag,qau e,<-List.getD_eq_getElem?_getD],qau (by rw [hl];exact e)]
  exact h i e
 ·have ei:i=L.length:=by rw [Ψ] at hi;simp at hi;omega
  subst ei;rw [show (L++[l]).getD L.length []=l by simp [List.getD]]
  intro ze c' hv;rw [<-hl] at hv;simp at hv;obtain ⟨rfl,_⟩:=hv;exact ha
theorem TL.set {ob o:Nat} {v:Value} {au:List Value} {L:List (List ah)} (h:TL w ob au L) (nb:NB rb au L):TL (w.setCell (φ rb o) v) ob au L :=
 ⟨h.len,fun i hi=>by
  obtain ⟨bo,c,h1,h2,h3,h4,h5⟩:=h.row i hi;exact ⟨bo,c,h1,h2,h3.keep15 (fun a e z=>qac _ _ _ _ (nb i hi bo c h1 a e z)),h4,fun a e z=>⟨(h5 a e z).1,by simpa [World.setCell] using (h5 a e z).2⟩⟩⟩
theorem ba.openS {S:Nat->Prop} {k v:Nat->Int} {g:Nat->Bool} {n:Nat} {L:List (List Sg)} (h:ba w p S eps k v g n L):∃ eo ec lo lc,w.heap[p]?=some (.cells #[.slice eo n ec,By eps,.slice lo L.length lc] 105 (0,0))/\ES w eo n k v g/\S p/\(n<=ec/\(eo=none->n=0/\ec=0))/\∀ a,eo=some a->0<n->S a.block:=by
 obtain ⟨u,base,ko,kc,lo,lc,h1,h2,h3,h4,h5,h6,h7,h8,h9⟩:=h.lies;have pu:p<u.heap.size:=(qab.1 h4).1;refine ⟨ko,kc,lo,lc,(h3 p h5 pu).trans h4,h6.kept h7 h2 h3,(h1 p).2 ⟨h5,pu⟩,h9,fun a e z=>?_⟩
 obtain ⟨b,off,e',hb,_⟩:=h6.cells z;have:=h7 a e;rw [e] at e';cases e';exact (h1 b).2 ⟨this,hb⟩
section
variable {w:World} {p b:Nat} {rs:List (Option Rn)} {eps buf B W:Int}
variable {i:Nat}
theorem aQ.put (h:aQ w p b rs eps buf B W) (hi:i<40) (o:Option Rn) (ho:∀ r,o=some r->RA ba w r/\¬ r.S p/\¬ r.S b):aQ (w.setCell (φ b i) (ptr o)) p b (rs.set i o) eps buf B W:=by
 have gx:Gx (fun q=>q=b) w (w.setCell (φ b i) (ptr o)):=(Gx.refl (fun q=>q=b) w).set (.inl rfl) i _
 have mv:∀ r,RA ba w r/\¬ r.S p/\¬ r.S b->RA ba (w.setCell (φ b i) (ptr o)) r/\¬ r.S p/\¬ r.S b:=fun r ⟨q1,q2,q3⟩=>⟨q1.gx ba.kp gx (fun q hq=>by rw [hq];exact q3),q2,q3⟩
 obtain ⟨y,x⟩:=h.row;refine ⟨h.blk.elim fun c x=>⟨c,x.1,(gx.block p (ak x.2) (fun e=>h.ne e.symm)).trans x.2⟩,⟨y,?_⟩,by rw [List.length_set];exact h.len,fun r hr=>?_,h.ne,h.e0,h.e1,h.b0,h.b1⟩
 ·rw [oK x,List.setIfInBounds_toArray,List.set_append_left _ _ (by rw [qaS,h.len];exact hi),<-List.map_set]
 ·rcases List.mem_or_eq_of_mem_set hr with q | q
  ·exact mv r (h.runs r q)
  ·exact mv r (ho r q.symm)
theorem aQ.put3 (h:aQ w p b rs eps buf B W) (B':Int):aQ (w.setCell (φ p 3) (By B')) p b rs eps buf B' W:=by
 have gx:Gx (fun q=>q=p) w (w.setCell (φ p 3) (By B')):=(Gx.refl (fun q=>q=p) w).set (.inl rfl) 3 _
 refine ⟨h.blk.elim fun c x=>⟨c,x.1,by rw [oK x.2];rfl⟩,h.row.elim fun y x=>⟨y,(gx.block b (ak x) (fun e=>h.ne e)).trans x⟩,h.len,fun r hr=>?_,h.ne,h.e0,h.e1,h.b0,h.b1⟩
 obtain ⟨q1,q2,q3⟩:=h.runs r hr;exact ⟨q1.gx ba.kp gx (fun q hq=>by rw [hq];exact q2),q2,q3⟩
theorem aQ.put4 (h:aQ w p b rs eps buf B W) (W':Int):aQ (w.setCell (φ p 4) (By W')) p b rs eps buf B W':=by
 have gx:Gx (fun q=>q=p) w (w.setCell (φ p 4) (By W')):=(Gx.refl (fun q=>q=p) w).set (.inl rfl) 4 _
 refine ⟨h.blk.elim fun c x=>⟨c,x.1,by rw [oK x.2];rfl⟩,h.row.elim fun y x=>⟨y,(gx.block b (ak x) (fun e=>h.ne e)).trans x⟩,h.len,fun r hr=>?_,h.ne,h.e0,h.e1,h.b0,h.b1⟩
 obtain ⟨q1,q2,q3⟩:=h.runs r hr;exact ⟨q1.gx ba.kp gx (fun q hq=>by rw [hq];exact q2),q2,q3⟩
end
variable {rs:List (Option Rn)} {i:Nat}
theorem aeY (hi:i<rs.length):(List.replicate i (none:Option Rn)++rs.drop i).set i none=List.replicate (i+1) none++rs.drop (i+1):=by rw [List.set_append_right _ _ ε,qbc,Nat.sub_self,List.drop_eq_getElem_cons hi,List.set_cons_zero,List.replicate_succ',qaI];rfl
variable {w:World} {p rb:Nat} {eps buf B W:Int}
theorem aeZ (h:aQ w p rb rs eps buf B W) :
  Calls prog 24 #[IS p] w fun e w'=>(∃ p' b',e=χ (.pointer (some (φ p' 0)))/\w.heap.size<=p'/\w.heap.size<=b'/\aQ w' p' b' rs eps buf B W)/\Gw w w':=by
 have HC:ag (aQ w p rb rs eps buf B W):=h;obtain ⟨ii,aK,hz,hs,aJ⟩:=info_parts Ve;obtain ⟨cc,_,c2⟩:=h.c2;have c0:=h.c0;have c1:=h.c1;have c3:=h.c3;have c4:=h.c4;have pl:=h.plt;have KP:ag (∀ V,Gw w V->Gw w V/\V.cell? (φ p 0)=some (By eps)/\V.cell? (φ p 1)=some (By buf)/\V.cell? (φ p 2)=some (ψ rb 0 40 cc)/\V.cell? (φ p 3)=some (By B)/\V.cell? (φ p 4)=some (By W)/\p<V.heap.size):=fun V g=>⟨g,(h.gw g).c0,(h.gw g).c1,(g.cell _ _ pl).trans c2,(h.gw g).c3,(h.gw g).c4,(h.gw g).plt⟩
 have aD:ag (∀ (V:World) (b c:Nat),V.ownsRow w.heap.size 102 1 (ψ b 0 40 c) 40 (rs.map ptr)->Gw w V->(∃ p' b',Ending.returned (IS (V.heap.size))=χ (.pointer (some (φ p' 0)))/\w.heap.size<=p'/\w.heap.size<=b'/\aQ (V.alloc (.cells #[By eps,By buf,ψ b 0 40 c,By B,By W] 83)) p' b' rs eps buf B W)/\Gw w (V.alloc (.cells #[By eps,By buf,ψ b 0 40 c,By B,By W] 83))):=fun V b c o g=>by
  rcases o.2 with ⟨x,_⟩ | ⟨b',c',cur,x,hb,hh,hc,_,_,ht⟩
  ·cases x
  injection x with x1 x2 x3;injection x1 with x1;injection x1 with x1;subst x1 x3;have bl:=ak hh;refine ⟨⟨_,b,rfl,g.size,hb,⟨⟨c,hc,Ω _ _⟩,⟨cur.toList.drop 40,?_⟩,HC.o.len,fun r hr=>⟨((HC.o.runs r hr).1.gw ba.kp g).gw ba.kp ((Gw.refl _).alloc _ _),fun x=>?_,fun x=>?_⟩,ω,HC.o.e0,HC.o.e1,HC.o.b0,HC.o.b1⟩⟩,g.alloc _ _⟩
  ·rw [qap _ _ bl,hh,<-ht,qaE,List.take_append_drop]
  ·have:=ba.lt (HC.o.runs r hr).1.h _ x;have:=g.size;omega
  ·have:=ba.lt (HC.o.runs r hr).1.h _ x;omega
 have NW:ag (∀ V,Gw w V->∀ j u,(rs.map ptr)[j]?=some u->V.cell? ((⟨rb,0,none⟩:Addr).add j)=some u):=fun V g j u hu=>by
  have hj:j<rs.length:=by have:=(qaT.1 hu).1;simpa using this
  rw [Addr.add_lit,qai,(h.gw g).cell (by rw [<-h.len];exact hj),<-hu,List.getElem?_map,qah hj,fI hj]
  rfl
 have LE:ag ((rs.map ptr).length=40*1):=by show _=_;rw [qaS,h.len]
 have O0:ag ((w.alloc (.cells #[] 102)).drew.ownsRow w.heap.size 102 1 (ψ w.heap.size 0 0 0) 0 []):=World.ownsRow_made w #[] 0 (Yk _) (Γ _) rfl;have G0:ag (Gw w (w.alloc (.cells #[] 102)).drew):=((Gw.refl w).alloc _ _).drew;have PO:ag (∀ u∈rs.map ptr,u.oneCell'=true):=CU rs;clear h c0 c1 c2 c3 c4;go_enter func24,ntmps24;go_wp2_with fail;go_region_held3 (fun w'=>Gw w w'/\w'.cell? (φ p 0)=some (By eps)/\w'.cell? (φ p 1)=some (By buf)/\w'.cell? (φ p 2)=some (ψ rb 0 40 cc)/\w'.cell? (φ p 3)=some (By B)/\w'.cell? (φ p 4)=some (By W)/\p<w'.heap.size)
  ((refine KP.o _ ?_;(repeat (first | exact Gw.refl _ | exact Ξ δ | exact ag.o δ | refine Gw.drew ?_ | refine Gw.alloc ?_ _ _));done))
  (first | (refine QY _ rfl (.tmp 11) (.tmp 15) 81 rfl w.heap.size 102 ii _ 1 8 underlying81 aK hz hs aJ rfl γ w.heap.size 0 0 [] κ O0.o (some (φ rb 0)) 40 cc (rs.map ptr) κ (fun q=>by cases q) LE.o (fun ad e'=>(by cases e';exact NW.o _ G0.o)) PO.o θ ω G0.o.size ?_;intro b7 cp7 w7 r1 r2 r3 r4;have G7:ag (Gw w w7):=(G0.o.grown r2 (fun q hq=>by cases hq;exact Yk _));have F7:ag _:=aD.o w7 b7 cp7 (by simpa using r1) G7.o;clear r1 r2 r3 r4))
 all_goals go_wp2_with fail
 all_goals go_ret
 all_goals exact F7.o
theorem ae0 {t:Nat} (hi:i<rs.length) (h:cX (rs.take i) t) (e:rs.getD i none=none):cX (rs.take (i+1)) t:=by
 have g:∀ k,(rs.take (i+1)).getD k none=(rs.take i).getD k none:=fun k=>by
  rw [vW hi,e,qag,qag];by_cases q:k<(rs.take i).length
  ·rw [qau q]
  ·rw [qaZ ω,qbb (l:=rs.take i) ω]
   match k-(rs.take i).length with
   | 0=>rfl
   | _+1=>rfl
 have l1:(rs.take i).length<=(rs.take (i+1)).length:=by rw [qav,qav];omega
 refine ⟨Φ h.le l1,fun k hk=>by rw [g];exact h.no k hk,?_⟩
 rcases h.is with x | ⟨r,x⟩
 ·exact .inl x
 ·exact .inr ⟨r,by rw [g];exact x⟩
variable {r:Rn}
theorem ae1 (hi:i<rs.length) (e:rs.getD i none=some r):cX (rs.take (i+1)) (i+1):=by
 refine ⟨by rw [qav];omega,fun k hk=>?_,.inr ⟨r,?_⟩⟩
 ·rw [qag,qbb (by rw [qav];omega)]
  rfl
 ·rw [Nat.add_sub_cancel,qag,List.getElem?_take,Ym ω,<-List.getD_eq_getElem?_getD,e]
def oX (rs:List (Option Rn)):List Value:=rs.map fun o=>By (fQ o:Int)
theorem ae2 (h:aQ w p rb rs eps buf B W) :
  Calls prog 60 #[IS p] w fun e w'=>(∃ t b c,e=χ (ψ b 0 t c)/\cX rs t/\(∀ i,i<t->w'.cell? (φ b i)=some (By (fQ (rs.getD i none):Int)))/\w.heap.size<=b/\b<w'.heap.size)/\Gw w w':=by
 have HC:ag _:=h;obtain ⟨ii,aK,oE,eI,aJ⟩:=info_parts GM;have O1:ag ((w.alloc (.cells #[] 3)).ownsRow w.heap.size 3 1 (ψ w.heap.size 0 0 0) 0 (oX (rs.take 0))):=World.ownsRow_made w #[] 0 (Yk _) (Γ _) rfl;have G1:ag (Gw w (w.alloc (.cells #[] 3))):=(Gw.refl w).alloc _ _;clear h;go_enter func60,ntmps60;go_wp2_with fail;generalize w.alloc (.cells #[] 3)=w1 at O1 G1 ⊢;go_loopg [3,4,5] 40 (fun gg s3 s4 s5 wr=>∃ (i t ob oc:Nat),s3=ψ ob 0 i oc/\s4=By (t:Int)/\s5=By (i:Int)/\i<=40/\40-i<=gg/\ag (cX (rs.take i) t)/\ag (wr.ownsRow w.heap.size 3 1 (ψ ob 0 i oc) i (oX (rs.take i)))/\ag (Gw w wr))
 case atStart=>exact ⟨0,0,w.heap.size,0,rfl,rfl,rfl,Γ _,ω,(show ag _ from ⟨Γ _,fun i _=>ε,.inl rfl⟩),O1,G1⟩
 case round =>
  clear O1 G1;obtain ⟨i,t,ob,oc,rfl,rfl,rfl,a1,a2,TP,O,G⟩:=hrel;obtain ⟨wS,aS⟩:=qbs wr;subst aS;by_cases ar:i<40
  ·have dH:(i:Int)<40:=(by omega);have hi:i<rs.length:=(by rw [HC.o.len];exact ar);have HD:=HC.o.gw G.o;obtain ⟨cc,_,c2⟩:=HD.c2;have pl:=HD.plt;have bl:=HD.blt;have ci:=HD.cell ar;have TK:=vW hi;have wz:=G.o.size;have kW:ag (∀ (t' n:Nat),fQ (rs.getD i none)=n->cX (rs.take (i+1)) t'->∀ (v':Value) (w8:World),w8.ownsRow w.heap.size 3 1 v' (i+1) (oX (rs.take i)++[By (n:Int)])->w8.ownsRow w.heap.size 3 1 v' (i+1) (oX (rs.take (i+1)))):=fun t' n e _ v' w8 r1=>by
    have:oX (rs.take (i+1))=oX (rs.take i)++[By (n:Int)]:=by unfold oX;rw [TK,qaV,<-e];rfl
    rw [this];exact r1
   rcases jk rs i with e | ⟨r,e⟩
   ·rw [e] at ci kW
    have cH:wS.cell? (φ rb i)=some (.pointer none):=ci;have T':ag _:=ae0 hi TP.o e;clear ci e TK HD TP hi;go_wp2_with (at_builtin;refine wpList_append_own _ rfl _ _ 44 rfl w.heap.size 3 ii (By 0) 1 8 underlying44 aK oE eI aJ rfl γ _ i _ rfl (O.o.alloc _) ⟨wS.heap.size,0,none⟩ 1 1 [By 0] rfl rfl (Cw wS (By 0) 3) (fun u hu=>by simp at hu;subst hu;rfl) θ ω ζ ?_)
    intro v' w8 r1 r2 r3;obtain ⟨b8,c8,rfl,_,_,_⟩:=cJ r1 (by simpa using r3)
    have G8:ag (Gw w w8):=(G.o.alloc _ _).grown r2 (fun q hq=>(World.ownsRow.lt O.o q hq).1)
    have O8:ag (w8.ownsRow w.heap.size 3 1 (ψ b8 0 (i+1) c8) (i+1) (oX (rs.take (i+1)))):=kW.o t 0 rfl T'.o _ _ r1;clear r1 r2 r3 O kW;go_wp2_with fail;go_roundg (40-(i+1))
    case measure=>omega
    case rel=>exact ⟨i+1,t,b8,c8,rfl,rfl,by go_num,ω,Yk _,T',O8,G8⟩
   ·have RR:=(HD.runs r (kG hi e)).1
    obtain ⟨eo,ec,lo,lc,hb,_⟩:=RR.h.openS;obtain ⟨f0,f1,f2⟩:=tE hb;have rl:=(qab.1 hb).1;rw [e] at ci kW;have cH:wS.cell? (φ rb i)=some (IS (r.p)):=ci;have T':ag _:=ae1 hi e;have SZ:ag (fQ (some r)=r.l.length):=rfl;generalize r.p=rp at cH f0 rl;generalize r.l.length=rn at f0 SZ;clear ci e TK HD TP hi RR hb f1 f2;go_wp2_with (at_builtin;refine wpList_append_own _ rfl _ _ 44 rfl w.heap.size 3 ii (By 0) 1 8 underlying44 aK oE eI aJ rfl γ _ i _ rfl (O.o.alloc _) ⟨wS.heap.size,0,none⟩ 1 1 [By (rn:Int)] rfl rfl (Cw wS (By (rn:Int)) 3) (fun u hu=>by simp at hu;subst hu;rfl) θ ω ζ ?_)
    intro v' w8 r1 r2 r3;obtain ⟨b8,c8,rfl,_,_,_⟩:=cJ r1 (by simpa using r3)
    have G8:ag (Gw w w8):=(G.o.alloc _ _).grown r2 (fun q hq=>(World.ownsRow.lt O.o q hq).1)
    have O8:ag (w8.ownsRow w.heap.size 3 1 (ψ b8 0 (i+1) c8) (i+1) (oX (rs.take (i+1)))):=kW.o (i+1) rn SZ.o T'.o _ _ r1;clear r1 r2 r3 O kW;go_wp2_with fail;go_roundg (40-(i+1))
    case measure=>omega
    case rel=>exact ⟨i+1,i+1,b8,c8,rfl,by go_num,by go_num,ω,Yk _,T',O8,G8⟩
  ·have ei:i=40:=(by omega);subst ei;have TT:rs.take 40=rs:=qaQ (by rw [HC.o.len];exact Yk _)
   rw [TT] at TP O;have tle:t<=40:=(by have:=TP.o.le;rw [HC.o.len] at this;exact this);have oQ:40<=oc:=(cJ O.o ε).elim fun _ ⟨_,ev,_,h,_⟩=>by cases ev;exact h
   have pT:=O.o.lt ob rfl;have CE:ag (∀ i,i<t->wS.cell? (φ ob i)=some (By (fQ (rs.getD i none):Int))):=fun i hi=>by have dQ:i<rs.length:=(by rw [HC.o.len];omega);rw [World.ownsRow.cellAt O.o i ω];unfold oX;rw [List.getElem?_map,qah dQ,fI dQ];rfl
   have h1:(t:Int)<=(oc:Int):=ω;clear TT O;go_wp2_with fail;go_ret;exact ⟨⟨t,ob,oc,rfl,TP.o,CE.o,pT⟩,G.o⟩
theorem Vf (hi:i<rs.length):(List.replicate i (none:Option Rn)++rs.drop i).getD i none=rs.getD i none:=by rw [qag,qaZ ε,qbc,Nat.sub_self,List.getElem?_drop,Nat.add_zero,<-List.getD_eq_getElem?_getD]
theorem ae3 (h:some r∈List.replicate i (none:Option Rn)++rs.drop i):some r∈rs:=by
 rcases qaq.1 h with q | q
 ·simp at q
 ·exact qbn q
theorem ae4 {k:Nat} (h:i<=k):(List.replicate i (none:Option Rn)++rs.drop i).drop k=rs.drop k:=by rw [List.drop_append,qbo ζ,List.nil_append,qbc,List.drop_drop,show i+(k-i)=k by omega]
variable {j:Nat}
theorem ae5 (h:rs.length=40) (hj:freeC rs=j) (o:Option Rn):(List.replicate (j+1) (none:Option Rn)++rs.drop (j+1)).set j o=laid rs o:=by unfold laid;rw [hj,List.set_append_left _ _ ε,List.replicate_succ',List.set_append_right _ _ ε,qbc,Nat.sub_self,List.set_cons_zero,qaI];rfl
theorem ae6 (hj:freeC rs=j):List.replicate (j+1) (none:Option Rn)++rs.drop (j+1)=laid rs none:=by unfold laid;rw [hj,List.replicate_succ',qaI];rfl
theorem ae7 (O5:jH) (h:aQ w p rb rs eps buf B W) (ao:Option Addr) (c:Nat) (l:List ah) (hl:EL w ao l) (hc:l.length<=c) (hz:ao=none->l.length=0/\c=0) (ha:∀ a,ao=some a->0<l.length->a.block≠rb) (hs:l.length+tot rs<=2000000) (hB:0<=B/\B<4611686018427387904) (hW:0<=W/\W<4611686018427387904) :
  Calls prog 56 #[IS p,.slice ao l.length c] w fun e w'=>oS ba (fun w' rs B W=>aQ w' p rb rs eps buf B W) (fun q=>q=p\/q=rb) w w' e rs l eps buf B W:=by
 have HC:ag _:=h;have OO:ag jH:=O5;have HL:ag _:=hl;have CK:ag (∀ W,Gw w W->Calls prog 91 #[.slice ao l.length c] W fun e w'=>(∃ r:Int,e=χ (By r)/\dS (ek l) (ev l) (eg l) l.length r)/\Gw W w'):=fun W gg=>Qb ao l.length c (ek l) (ev l) (eg l) ω W (hl.gw gg)
 have HA:ag (∀ a,ao=some a->0<l.length->a.block≠rb):=ha;have HS:ag (l.length+tot rs<=2000000/\l.length<=c/\(ao=none->l.length=0/\c=0)):=⟨hs,hc,hz⟩;have zg:ag ((0<=B/\B<4611686018427387904)/\0<=W/\W<4611686018427387904):=⟨hB,hW⟩;obtain ⟨n,hn⟩:=qbr l.length;have LN:ag _:=hn;rw [hn] at CK ⊢;have n1:n<=2000000:=ω;obtain ⟨bq,aE⟩:=qbr w.heap.size;have BQ:ag _:=aE;have hp:=h.plt;have vO:=h.blt;have pq:p≠bq/\rb≠bq:=⟨ω,ω⟩;have PQ:ag _:=pq;have BX:ag (bD w [(bq,#[By 0,By 0,By 0],98)] (w.alloc (.cells #[By 0,By 0,By 0] 98))):=by rw [<-aE];exact (bD.nil (Gw.refl w)).add _ _
 clear h ha hl hc hz hs hB hW hn aE O5 pq;go_enter func56,ntmps56;go_wp2_with fail;rw [BQ.o];generalize w.alloc (.cells #[By 0,By 0,By 0] 98)=w1 at BX ⊢;refine Calls.mono (CK.o w1 BX.o.gw0) ?_;rintro e w2 ⟨⟨r,rfl,cr⟩,g2⟩;have CR:ag (dS (ek l) (ev l) (eg l) n r):=by have:=cr;rw [<-LN.o] at this ⊢;exact this
 have B2:ag _:=BX.o.gw g2;clear g2 cr CK BX;by_cases r0:r=0
 ·subst r0
  have c1:=(HC.o.gw B2.o.gw0).c1;have pl:=(HC.o.gw B2.o.gw0).plt;have bl:=(HC.o.gw B2.o.gw0).blt;by_cases nb:(n:Int)=buf
  ·have l9:ag (aR l):=(by have:=CR.o;rw [<-LN.o] at this;exact this);have J8:ag _:=nb;have jT:((n:Int) != buf)=false:=(by simpa using nb);obtain ⟨j,hj⟩:=qbr (freeC rs);have JJ:ag _:=hj;have oL:j<40:=(by rw [<-hj];exact aP.freeC_lt rs);clear nb hj;go_upto_block 0 with fail;go_cut [6] (fun s6 wc=>s6=By (j:Int)/\wc=w2)
   case first =>
    obtain ⟨cc,_,c2⟩:=(HC.o.gw B2.o.gw0).c2;go_wp2_with fail;go_loopg [6] 40 (fun gg s6 wr=>∃ i:Nat,s6=By (i:Int)/\i<=39/\40-i<=gg/\wr=w2/\ag (∀ k,k<i->∃ r,rs.getD k none=some r))
    case atStart=>exact ⟨0,rfl,ω,ω,rfl,(show ag _ from fun k hk=>ω)⟩
    case round =>
     obtain ⟨i,rfl,a1,a2,hw,N⟩:=hrel;subst hw;by_cases ar:i<39
     ·have dH:(i:Int)<39:=(by omega);have i40:(i:Int)<40:=ω;have ci:=(HC.o.gw B2.o.gw0).cell (i:=i) ω;rcases jk rs i with e | ⟨r,e⟩
      ·rw [e] at ci
       have cH:wr.cell? (φ rb i)=some (.pointer none):=ci;have EI:ag (i=j):=(by rw [<-JJ.o];exact (aeX HC.o.len ar N.o e).symm);clear ci e N;go_wp2_with fail;go_meet
       case rel=>exact ⟨by rw [EI.o],rfl⟩
      ·rw [e] at ci
       have cH:wr.cell? (φ rb i)=some (IS (r.p)):=ci;have N':ag (∀ k,k<i+1->∃ r,rs.getD k none=some r):=fun k hk=>by
        by_cases x:k=i
        ·subst x;exact ⟨r,e⟩
        ·exact N.o k ω
       generalize r.p=rp at cH;clear ci e N;go_wp2_with fail;go_roundg (40-(i+1))
       case measure=>omega
       case rel=>exact ⟨i+1,by go_num,ω,Yk _,rfl,N'⟩
     ·have ei:i=39:=(by omega);subst ei;have EI:ag (39=j):=(by rw [<-JJ.o];exact (aeW HC.o.len N.o).symm);clear N;go_wp2_with fail;go_meet
      case rel=>exact ⟨by rw [<-EI.o],rfl⟩
   case rest =>
    obtain ⟨rfl,x8⟩:=hcut;have GJ:w2=wc:=x8.symm;subst GJ;clear x8 c1;obtain ⟨jj,ka,jz,js,kg⟩:=info_parts Iv;have z2:=B2.o.gw0.size;have Vg:ag _:=ak (B2.o.lie (bq,#[By 0,By 0,By 0],98) ε);have R1:ag ((w2.alloc (.cells #[.slice ao n c] 72)).ownsRow w2.heap.size 72 1 (ψ w2.heap.size 0 1 1) 1 [.slice ao n c]):=⟨rfl,.inr ⟨w2.heap.size,1,_,rfl,Yk _,Ω w2 _,Yk _,γ,rfl,rfl⟩⟩;have K1:ag (TL (w2.alloc (.cells #[.slice ao n c] 72)) w2.heap.size [.slice ao n c] (l::lists (rs.take 0))):=by
     refine ⟨rfl,fun i hi=>?_⟩
     have dQ:i<1:=hi;have e:i=0:=ω;subst e;have Vh:=HL.o.gw B2.o.gw0;refine ⟨ao,c,by show some (Value.slice ao n c)=some (.slice ao l.length c);rw [LN.o],HS.o.2.1,Vh.gw ((Gw.refl w2).alloc _ _),HS.o.2.2,fun a e z=>?_⟩
     obtain ⟨b,off,e',hb,_⟩:=Vh.cells z;rw [e] at e';cases e';exact ⟨Nat.ne_of_lt hb,Θ hb ((Gw.refl w2).alloc _ _).size⟩
    have N1:ag (NB rb [.slice ao n c] (l::lists (rs.take 0))):=by intro i hi bo c' hv a e z;have dQ:i<1:=hi;have e0:i=0:=ω;subst e0;have aZ:Value.slice ao n c=.slice bo l.length c':=(by simpa using hv);injection aZ with h1 h2 h3;subst h1;exact HA.o a e z
    have D1:ag (aQ (w2.alloc (.cells #[.slice ao n c] 72)) p rb (List.replicate 0 none++rs.drop 0) eps buf B W):=HC.o.gw (B2.o.gw0.alloc _ _);have X1:ag ((w2.alloc (.cells #[.slice ao n c] 72)).heap[bq]?=some (.cells #[By 0,By 0,By 0] 98 (0,0))/\Gx (fun q=>q=rb) w (w2.alloc (.cells #[.slice ao n c] 72))):=⟨(qap _ _ Vg.o).trans (B2.o.lie (bq,#[By 0,By 0,By 0],98) ε),(B2.o.gw0.alloc _ _).gx _⟩
    have T1:ag _:=LN.o;have tb:∀ i,l.length+tot (rs.take i)<=2000000:=fun i=>by have:=pU rs i;have:=HS.o.1;omega
    have TB:ag _:=tb;clear tb;go_wp2_with fail;generalize w2.alloc (.cells #[.slice ao n c] 72)=W1 at R1 K1 D1 X1 ⊢;go_loopg [7,8,9] (j+1) (fun gg s7 s8 s9 wr=>∃ (i m ob oc t:Nat) (au:List Value),s7=ψ ob 0 m oc/\s8=By (t:Int)/\s9=By (i:Int)/\i<=j+1/\j+1-i<=gg/\m<=i+1/\t<=2000000/\ag (l.length+tot (rs.take i)=t)/\ag ((l::lists (rs.take i)).length=m)/\ag (wr.ownsRow w2.heap.size 72 1 (ψ ob 0 m oc) m au)/\ag (TL wr ob au (l::lists (rs.take i)))/\ag (NB rb au (l::lists (rs.take i)))/\ag (aQ wr p rb (List.replicate i none++rs.drop i) eps buf B W)/\ag (wr.heap[bq]?=some (.cells #[By 0,By 0,By 0] 98 (0,0))/\Gx (fun q=>q=rb) w wr))
    case atStart=>exact ⟨0,1,w2.heap.size,1,n,_,rfl,rfl,rfl,Γ _,ω,Yk _,n1,T1,(show ag _ from rfl),R1,K1,N1,D1,X1⟩
    case round =>
     clear R1 K1 N1 D1 X1 T1;obtain ⟨i,m,ob,oc,t,au,rfl,rfl,rfl,a1,a2,a3,a4,TT,ML,R,KK,NN,HD,XX⟩:=hrel;obtain ⟨wS,aS⟩:=qbs wr;subst aS;by_cases ar:i<=j
     ·have dH:(i:Int)<=(j:Int):=(by omega);have i40:i<40:=ω;have aix:(i:Int)<40:=ω;obtain ⟨cc,_,c2⟩:=HD.o.c2;have pl:=HD.o.plt;have bl:=HD.o.blt;have ci:=HD.o.cell i40;rw [Vf (by rw [HC.o.len];exact i40)] at ci
      have TK:=vW (rs:=rs) (i:=i) (by rw [HC.o.len];exact i40)
      have RS:=aeY (rs:=rs) (i:=i) (by rw [HC.o.len];exact i40)
      rcases jk rs i with e | ⟨r,e⟩
      ·rw [e] at ci TK
       have cH:wS.cell? (φ rb i)=some (.pointer none):=ci;have LI:lists (rs.take (i+1))=lists (rs.take i):=(by rw [TK,vS];exact qaJ _);have TT':ag (l.length+tot (rs.take (i+1))=t):=(by show _=_;unfold tot;rw [LI];exact TT.o);have tQ:ag ((l::lists (rs.take (i+1))).length=m):=(by rw [LI];exact ML);have IJ:ag (TL wS ob au (l::lists (rs.take (i+1)))):=(by rw [LI];exact KK);have NN':ag (NB rb au (l::lists (rs.take (i+1)))):=(by rw [LI];exact NN);have HD':ag (aQ wS p rb (List.replicate (i+1) none++rs.drop (i+1)) eps buf B W):=by have eq:List.replicate i (none:Option Rn)++rs.drop i=List.replicate (i+1) none++rs.drop (i+1):=(by rw [rJ (by rw [HC.o.len];exact i40),e,List.replicate_succ',qaI];rfl);rw [<-eq];exact HD
       clear ci e TK RS LI TT ML KK NN HD;go_wp2_with fail;go_roundg (j+1-(i+1))
       case measure=>omega
       case rel=>exact ⟨i+1,m,ob,oc,t,au,rfl,rfl,by go_num,ω,Yk _,ω,a4,TT',tQ,R,IJ,NN',HD',XX⟩
      ·rw [e] at ci TK
       have cH:wS.cell? (φ rb i)=some (IS (r.p)):=ci;have LI:ag (l::lists (rs.take (i+1))=(l::lists (rs.take i))++[r.l]):=(by show _=_;rw [TK,vS];rfl);have rm:some r∈rs:=kG (by rw [HC.o.len];exact i40) e
       have Vi:some r∈List.replicate i (none:Option Rn)++rs.drop i:=List.mem_append_right _ (by rw [rJ (by rw [HC.o.len];exact i40),e];exact qat ..)
       obtain ⟨RR,rp1,Vj⟩:=HD.o.runs r Vi;have SL:=ba.lt (HC.o.runs r rm).1.h;obtain ⟨eo,ec,lo,lc,hb,zP,sp,oQ,rE⟩:=RR.h.openS;obtain ⟨f0,f1,f2⟩:=tE hb;have rl:=(qab.1 hb).1;have pT:=R.o.lt ob rfl;have Vk:r.p≠ob:=(by have:=SL r.p sp;omega);have TE:ag (l.length+tot (rs.take (i+1))=t+r.l.length):=(by show _=_;rw [TK,vU,vT];have:=TT.o;have e0:tot []=0:=rfl;omega);have t2:t+r.l.length<=2000000:=(by rw [<-TE.o];exact TB.o _);have lA:ag (EL wS eo r.l/\r.l.length<=ec/\(eo=none->r.l.length=0/\ec=0)/\∀ a,eo=some a->0<r.l.length->(a.block≠ob/\a.block<wS.heap.size)/\a.block≠rb):=⟨zP,oQ.1,oQ.2,fun a x z=>by
        have h1:=rE a x z;have h2:=SL _ h1;have h3:=ba.lt RR.h _ h1;exact ⟨⟨ω,h3⟩,fun q=>Vj (by rw [<-q];exact h1)⟩⟩
       have jx:ag (∀ w8,Gx (fun q=>q=ob) wS w8->(∃ c,40<=c/\w8.cell? (φ p 2)=some (ψ rb 0 40 c))/\p<w8.heap.size/\rb<w8.heap.size/\w8.cell? (φ rb i)=some (IS (r.p))/\w8.cell? (φ r.p 0)=some (.slice eo r.l.length ec)/\r.p<w8.heap.size/\w8.frozen? (φ rb i)=false/\aQ w8 p rb (List.replicate i none++rs.drop i) eps buf B W):=fun w8 g8=>by
        have hp0:=HC.o.plt;have pt:=HC.o.blt;have D8:=HD.o.gx g8 ω ω (fun q hq r' fP hx=>by
         have:=ba.lt (HC.o.runs r' (ae3 fP)).1.h q hx
         omega)
        have h8:=(g8.block r.p rl Vk).trans hb;have cc:=D8.cell i40;rw [Vf (by rw [HC.o.len];exact i40),e] at cc
        exact ⟨D8.c2,D8.plt,D8.blt,cc,(tE h8).1,ak h8,D8.fz i,D8⟩
       have RSA:ag _:=RS;have J9:ag ((ob≠rb/\ob≠bq)/\w2.heap.size<=ob):=⟨⟨by have:=HC.o.blt;omega,by have:=Vg.o;omega⟩,pT.1⟩
       generalize r.p=rp at cH f0 rl jx;obtain ⟨rll,Vl⟩:=qbr r.l;rw [Vl] at f0 TE t2 lA jx LI;obtain ⟨rn,kH⟩:=qbr rll.length;have RN:ag _:=kH;rw [kH] at f0 t2 jx TE;have wt:IntKind.i64.wrap ((t:Int)+(rn:Int))=((t+rn:Nat):Int):=(by rw [Δ];omega);clear f1 f2 ci e TK RS RR rp1 Vj SL hb zP sp oQ rE Vk rm Vi pT Vl kH TT HD;go_wp2_with (at_builtin;refine wpList_append_own_at _ rfl _ _ 101 rfl w2.heap.size 72 jj (.slice none 0 0) 1 24 underlying101 ka jz js kg rfl γ _ m _ rfl (R.o.alloc _) ⟨wS.heap.size,0,none⟩ 1 1 [(.slice eo rn ec)] rfl rfl (Cw wS (.slice eo rn ec) 72) (fun u hu=>by simp at hu;subst hu;rfl) θ ω (by have:=R.o.lt ob rfl;simp;omega) ?_)
       intro v' w8 r1 r2 r3 r4;obtain ⟨b8,cap8,rfl,pM,_,_⟩:=cJ r1 (by simpa using r3)
       have pO:b8=ob\/wS.heap.size<=b8:=by
        rcases r4 with q | q
        ·have q':b8=ob:=(by simpa [Value.ownBlock] using q);exact .inl q'
        ·have q':b8=wS.heap.size+1:=(by simpa [Value.ownBlock] using q);exact .inr ω
       have iF:(wS.alloc (.cells #[(.slice eo rn ec)] 72)).grownBy w8 (some ob):=r2;have g8:Gx (fun q=>q=ob) wS w8:=((Gx.refl _ wS).alloc _ _).grown iF (fun k e=>by cases e;exact .inl rfl)
       obtain ⟨⟨cc8,_,d2⟩,d3,d4,d5,d6,d7,d8,D8⟩:=jx.o w8 g8;have J':NB rb (au++[(.slice eo rn ec)]) (l::lists (rs.take (i+1))):=by
        rw [LI.o];have:=NN.o.more (c:=ec) KK.o.len (fun a x z=>(lA.o.2.2.2 a x z).2)
        rw [RN.o] at this;exact this
       have K8:TL w8 b8 (au++[(.slice eo rn ec)]) (l::lists (rs.take (i+1))):=by
        rw [LI.o];have:=KK.o.more iF pO lA.o.2.1 lA.o.1 lA.o.2.2.1 (fun a x z=>(lA.o.2.2.2 a x z).1)
        rw [RN.o] at this;exact this
       have Vm:b8≠rb:=by
        rcases pO with q | q
        ·rw [q];exact J9.o.1.1
        ·omega
       have K9:ag (TL (w8.setCell (φ rb i) (.pointer none)) b8 (au++[(.slice eo rn ec)]) (l::lists (rs.take (i+1)))):=K8.set J';have R9:ag ((w8.setCell (φ rb i) (.pointer none)).ownsRow w2.heap.size 72 1 (ψ b8 0 (m+1) cap8) (m+1) (au++[(.slice eo rn ec)])):=OX r1 fun q hq=>qac _ _ _ _ (by
        have e:b8=q:=(by simpa [Value.ownBlock] using hq);rw [<-e];exact Vm)
       have N9:ag _:=J';have D9:ag (aQ (w8.setCell (φ rb i) (.pointer none)) p rb (List.replicate (i+1) none++rs.drop (i+1)) eps buf B W):=by
        have:=D8.put i40 none (fun r hr=>by cases hr)
        rw [RSA.o] at this;exact this
       have X9:ag ((w8.setCell (φ rb i) (.pointer none)).heap[bq]?=some (.cells #[By 0,By 0,By 0] 98 (0,0))/\Gx (fun q=>q=rb) w (w8.setCell (φ rb i) (.pointer none))):=by
        refine ⟨(qac _ _ _ _ (fun e=>PQ.o.2 e.symm)).trans ((g8.block bq (ak XX.o.1) (fun e=>J9.o.1.2 e.symm)).trans XX.o.1),?_⟩
        have gA:Gx (fun q=>q=rb) w w8:=XX.o.2.trans g8 (fun q hq=>.inr (by have:=J9.o.2;rw [hq];omega))
        exact gA.set (.inl rfl) _ _
       have tQ:ag ((l::lists (rs.take (i+1))).length=m+1):=(by show _=_;rw [LI.o,Ψ,ML.o];rfl);clear r1 r2 r3 r4 iF pM pO g8 D8 J' K8 jx R KK NN XX lA Vm;go_wp2_with fail;go_roundg (j+1-(i+1))
       case measure=>omega
       case rel=>exact ⟨i+1,m+1,b8,cap8,t+rn,_,rfl,rfl,by go_num,ω,Yk _,ω,t2,TE,tQ,R9,K9,N9,D9,X9⟩
     ·have ei:i=j+1:=(by omega);subst ei;have SX:¬ ((j+1:Nat):Int)<=(j:Int):=ω;have ud:ag _:=KK.o.ev R.o ML.o;have jM:ag (aN (l::lists (rs.take (j+1)))=t/\t=took rs l):=⟨by rw [jb];exact TT.o,by unfold took;rw [JJ.o];exact TT.o.symm⟩
      have EN:ag (Calls prog 92 #[ψ ob 0 m oc] wS fun e w'=>(∃ bo oc o,e=χ (ψ bo 0 o.length oc)/\EO w' wS.heap.size (ψ bo 0 o.length oc) o/\Mg ah.k (l::lists (rs.take (j+1))) o)/\Gw wS w'):=by
       have:=ac4 (some (φ ob 0)) oc (l::lists (rs.take (j+1))) (by rw [ML.o];omega) (fun i hi=>Φ (Rg hi) (by rw [jM.o.1];exact a4)) (by rw [jM.o.1];exact a4) wS ud.o
       rw [ML.o] at this;exact this
      clear R KK NN TT;go_wp2_with fail;refine Calls.mono EN.o ?_;rintro e w4 ⟨⟨bo,ue,o,rfl,zh,mg⟩,g4⟩;have rN:ag (EL w4 (some (φ bo 0)) o):=je zh (mg.oks ud.o.oks);have TR:ag (fV rs l o (o.filter (aW (aM (rs.drop (j+1)))))):=⟨by rw [JJ.o];exact mg,by rw [JJ.o]⟩
      have FC:ag ((aR o/\aR (o.filter (aW (aM (rs.drop (j+1))))))/\o.length<=2000000):=⟨TR.o.facts l9.o (fun r hr=>(HC.o.runs r hr).1.ok),Φ TR.o.few.2 (by rw [<-jM.o.2];exact a4)⟩
      have Ka:ag _:=HD.o.gw g4;have X4:ag (w4.heap[bq]?=some (.cells #[By 0,By 0,By 0] 98 (0,0))/\Gx (fun q=>q=rb) w w4):=⟨(g4.below.block bq (ak XX.o.1)).trans XX.o.1,XX.o.2.tw g4⟩
      obtain ⟨on,oR⟩:=qbr o.length;have ON:ag _:=oR;have LV:ag (Calls prog 94 #[IS p,ψ bo 0 on ue,By (j:Int)] w4 fun e w'=>(∃ ob m oc,e=χ (ψ ob 0 m oc)/\(bX (rs.drop (j+1)) o).length=m/\KS w' (some (φ ob 0)) m (fun i=>(bX (rs.drop (j+1)) o).getD i 0))/\Gw w4 w'):=by
       have:=aeV Ka.o (some (φ bo 0)) ue o rN.o FC.o.2 j oL
       rw [ae4 (Yk _),ON.o] at this;exact this
      rw [oR];clear zh mg g4 EN ud HD XX oR;go_wp2_with fail;refine Calls.mono LV.o ?_;rintro e w5 ⟨⟨kb,km,kc,rfl,sV,Vn⟩,g5⟩;have SF:ag (Calls prog 93 #[ψ bo 0 on ue,ψ kb 0 km kc] w5 fun e w'=>(∃ ob oc,e=χ (ψ ob 0 (o.filter (aW (aM (rs.drop (j+1))))).length oc)/\EO w' w5.heap.size (ψ ob 0 (o.filter (aW (aM (rs.drop (j+1))))).length oc) (o.filter (aW (aM (rs.drop (j+1))))))/\Gw w5 w'):=by
       have few:=FC.o.2;have:=acP (some (φ bo 0)) ue o (some (φ kb 0)) km kc (fun i=>(bX (rs.drop (j+1)) o).getD i 0) ω (by have:=aeS (rs.drop (j+1)) o;omega) w5 (rN.o.gw g5) Vn
       rw [ON.o,<-sV,aeU] at this;rw [<-sV];exact this
      have Vo:ag _:=Ka.o.gw g5;have X5:ag (w5.heap[bq]?=some (.cells #[By 0,By 0,By 0] 98 (0,0))/\Gx (fun q=>q=rb) w w5):=⟨(g5.below.block bq (ak X4.o.1)).trans X4.o.1,X4.o.2.tw g5⟩
      clear sV Vn g5 LV Ka X4;go_wp2_with fail;refine Calls.mono SF.o ?_;rintro e w6 ⟨⟨bk,Kb,rfl,Dy⟩,g6⟩;obtain ⟨kept,ug⟩:=qbr (o.filter (aW (aM (rs.drop (j+1)))));have zm:∀ e∈kept,e.ok:=fun e he=>by rw [<-ug] at he;exact rN.o.all e (List.mem_filter.1 he).1
      rw [ug] at Dy TR FC ⊢;have Dz:ag (EL w6 (some (φ bk 0)) kept/\kept.length<=Kb):=⟨je Dy zm,(Jr Dy).1⟩;have kn:kept.length<=2000000:=Φ TR.o.few.1 (by rw [<-jM.o.2];exact a4)
      have se:ag _:=Vo.o.gw g6;have X6:ag (w6.heap[bq]?=some (.cells #[By 0,By 0,By 0] 98 (0,0))/\Gx (fun q=>q=rb) w w6):=⟨(g6.below.block bq (ak X5.o.1)).trans X5.o.1,X5.o.2.tw g6⟩
      obtain ⟨kl,uh⟩:=qbr kept.length;have KL:ag _:=uh;have aD:ag (∀ (wF:World) (rn:Option Rn),aQ wF p rb (laid rs rn) eps buf (B+gY kept) (W+kept.length)->Gx (fun q=>q=p\/q=rb) w wF->gZ ba w wF eps kept rn->(∀ r,rn=some r->¬ r.S bq)->∀ a b c:Value,oS ba (fun w' rs B W=>aQ w' p rb rs eps buf B W) (fun q=>q=p\/q=rb) w (((wF.setCell (φ bq 0) a).setCell (φ bq 1) b).setCell (φ bq 2) c) (χ (.tuple #[.agg #[By (j:Int),By (t:Int),By (kl:Int)],By 0])) rs l eps buf B W):=fun wF rn hd gx ld ns a b c=>by
       have gz:Gx (fun q=>q=bq) wF (((wF.setCell (φ bq 0) a).setCell (φ bq 1) b).setCell (φ bq 2) c):=(((Gx.refl (fun q=>q=bq) wF).set (.inl rfl) _ _).set (.inl rfl) _ _).set (.inl rfl) _ _
       have nS:∀ r,some r∈laid rs rn->¬ r.S bq:=fun r hr hx=>by
        unfold laid at hr;rcases qaq.1 hr with q | q
        ·simp at q
        ·rcases qaf.1 q with q | q
         ·exact ns r q.symm hx
         ·have:=ba.lt (HC.o.runs r (qbn q)).1.h bq hx
          rw [BQ.o] at this;omega
       refine ⟨⟨0,by rw [LN.o];exact CR.o,.inr (.inr ⟨rfl,by rw [LN.o];exact J8.o,o,kept,rn,TR.o,?_,?_,hd.gx gz PQ.o.1 PQ.o.2 (fun q hq r hr=>by rw [hq];exact nS r hr)⟩)⟩,gx.trans gz (fun q hq=>.inr (by rw [hq];exact qad BQ.o))⟩
       ·unfold zf;rw [JJ.o,KL.o,<-jM.o.2]
       ·rcases ld with ⟨a,b⟩ | ⟨a,r,b1,b2,b3,b4,b5,b6⟩
        ·exact .inl ⟨a,b⟩
        ·exact .inr ⟨a,r,b1,b2,b3,b4,b5,b6.gx ba.kp gz (fun q hq=>by rw [hq];exact ns r b1)⟩
      rw [uh] at kn ⊢;clear Dy g6 SF Vo X5 rN zm ug uh;by_cases k0:kl=0
      ·subst k0
       have ke:kept=[]:=qbh.1 KL.o;obtain ⟨m0,m1,m2,z0,z1,zQ,zM,TT⟩:=uc X6.o.1;have T3:=TT (j:Int) (t:Int) 0;have av:ag (∀ a b c:Value,oS ba (fun w' rs B W=>aQ w' p rb rs eps buf B W) (fun q=>q=p\/q=rb) w (((w6.setCell (φ bq 0) a).setCell (φ bq 1) b).setCell (φ bq 2) c) (χ (.tuple #[.agg #[By (j:Int),By (t:Int),By (0:Nat)],By 0])) rs l eps buf B W):=aD.o w6 none (by
        have e1:B+gY kept=B:=(by rw [show gY kept=0 from Ym ke];omega);have e2:W+kept.length=W:=(by rw [KL.o];simp);rw [e1,e2,<-ae6 JJ.o];exact se.o) (X6.o.2.mono fun q hq=>.inl (.inr hq)) (.inl ⟨ke,rfl⟩) (fun r hr=>by cases hr)
       clear ke TT aD se X6;go_wp2_with fail;exact bodyPost_ret (v:=.tuple #[.agg #[By (j:Int),By (t:Int),By 0],By 0]) (by simp [results,results56,go_sem,T3.1,T3.2.1,T3.2.2]) rfl (av.o _ _ _)
      ·have k0':0<kl:=(by omega);have k0d:(0:Int)<(kl:Int):=ω;have NW:ag (Calls prog 95 #[ψ bk 0 kl Kb,By eps] w6 fun ex w'=>vI ba w6 w' ex eps (ek kept) (ev kept) (eg kept) kl/\Gw w6 w'):=by
        have e0:=HC.o.e0;have e1:=HC.o.e1;have:=aco OO.o eps (some (φ bk 0)) kept.length Kb (ek kept) (ev kept) (eg kept) ω ω (by rw [KL.o];exact kn) Dz.o.2 (fun x=>by cases x) w6 Dz.o.1
        rw [KL.o] at this;exact this
       have c0:=se.o.c0;have pl:=se.o.plt;clear k0;go_wp2_with fail;refine Calls.mono NW.o ?_;rintro e w7 ⟨⟨E,ne,x⟩,g7⟩;have E0:E=0:=by
        rcases ne with ⟨a,_⟩ | ⟨_,b⟩
        ·exact absurd ⟨HC.o.e0,HC.o.e1⟩ a
        ·rw [<-KL.o] at b;exact b.one FC.o.1.2
       rcases x with ⟨a,_⟩ | ⟨_,rp,S,L,rfl,hS,br,hr⟩
       ·exact absurd E0 a
       have D7:=se.o.gw g7;have X7:w7.heap[bq]?=some (.cells #[By 0,By 0,By 0] 98 (0,0)):=(g7.below.block bq (ak X6.o.1)).trans X6.o.1;have np:¬ S p:=fun x=>by have:=hS p x;have:=se.o.plt;omega
       have nr:¬ S rb:=fun x=>by have:=hS rb x;have:=se.o.blt;omega
       have nq:¬ S bq:=fun x=>by have:=hS bq x;have:=ak X6.o.1;omega
       have RR:RA ba w7 ⟨rp,S,eps,kept,L⟩:=⟨by show ba w7 rp S eps _ _ _ kept.length L;rw [KL.o];exact hr,FC.o.1.2,Dz.o.1.all,by show kept.length<=_;rw [KL.o];exact kn⟩
       have D8:=D7.put (i:=j) oL (some ⟨rp,S,eps,kept,L⟩) (fun r hr=>by cases hr;exact ⟨RR,np,nr⟩)
       rw [ae5 HC.o.len JJ.o] at D8;have D9:=D8.put3 (B+1);have Vp:=D9.put4 (W+kl);have gx:Gx (fun q=>q=p\/q=rb) w7 (((w7.setCell (φ rb j) (ptr (some ⟨rp,S,eps,kept,L⟩))).setCell (φ p 3) (By (B+1))).setCell (φ p 4) (By (W+kl))):=(((Gx.refl _ w7).set (.inl (.inr rfl)) _ _).set (.inl (.inl rfl)) _ _).set (.inl (.inl rfl)) _ _
       have Kc:kept≠[]:=fun x=>by have:=KL.o;rw [x] at this;simp at this;omega
       have av:ag (∀ a b c:Value,oS ba (fun w' rs B W=>aQ w' p rb rs eps buf B W) (fun q=>q=p\/q=rb) w ((((((w7.setCell (φ rb j) (IS rp)).setCell (φ p 3) (By (B+1))).setCell (φ p 4) (By (W+kl))).setCell (φ bq 0) a).setCell (φ bq 1) b).setCell (φ bq 2) c) (χ (.tuple #[.agg #[By (j:Int),By (t:Int),By (kl:Int)],By 0])) rs l eps buf B W):=aD.o _ (some ⟨rp,S,eps,kept,L⟩) (by
        have e1:gY kept=1:=Yl Kc;rw [e1,KL.o];exact Vp) (((X6.o.2.tw g7).mono (S':=fun q=>q=p\/q=rb) fun q hq=>.inl (.inr hq)).trans gx (fun q hq=>.inl hq)) (.inr ⟨Kc,⟨rp,S,eps,kept,L⟩,rfl,rfl,rfl,by rw [KL.o];exact br,fun q hq=>Φ X6.o.2.size (hS q hq),RR.gx ba.kp gx (fun q hq hx=>by
         rcases hq with x | x
         ·rw [x] at hx;exact np hx
         ·rw [x] at hx;exact nr hx)⟩) (fun r hr=>by cases hr;exact nq)
       have wY:((((w7.setCell (φ rb j) (IS rp)).setCell (φ p 3) (By (B+1))).setCell (φ p 4) (By (W+kl)))).heap[bq]?=some (.cells #[By 0,By 0,By 0] 98 (0,0)):=(gx.block bq (ak X7) (fun x=>by
        rcases x with x | x
        ·exact PQ.o.1 x.symm
        ·exact PQ.o.2 x.symm)).trans X7
       obtain ⟨cc7,_,q1⟩:=D7.c2;have q2:w7.cell? (φ rb j)=some (ptr ((List.replicate (j+1) none++rs.drop (j+1)).getD j none)):=D7.cell oL;have q3:w7.frozen? (φ rb j)=false:=D7.fz j;have q4:(w7.setCell (φ rb j) (IS rp)).cell? (φ p 3)=some (By B):=D8.c3;have q5:(w7.setCell (φ rb j) (IS rp)).frozen? (φ p 3)=false:=D8.fp 3;have q6:((w7.setCell (φ rb j) (IS rp)).setCell (φ p 3) (By (B+1))).cell? (φ p 4)=some (By W):=D9.c4;have q7:((w7.setCell (φ rb j) (IS rp)).setCell (φ p 3) (By (B+1))).frozen? (φ p 4)=false:=D9.fp 4;have q8:p<w7.heap.size:=D7.plt;have q9:rb<w7.heap.size:=D7.blt;have wB:IntKind.i64.wrap (B+1)=B+1:=(by have:=zg.o.1;rw [Δ];omega);have wW:IntKind.i64.wrap (W+(kl:Int))=W+(kl:Int):=(by have:=zg.o.2;rw [Δ];omega);have aiy:(j:Int)<40:=ω;generalize ptr ((List.replicate (j+1) none++rs.drop (j+1)).getD j none)=pv at q2;obtain ⟨m0,m1,m2,z0,z1,zQ,zM,TT⟩:=uc wY;have T3:=TT (j:Int) (t:Int) (kl:Int);clear ne hS br hr D7 X7 np nr nq RR D8 D9 Vp gx Kc wY TT aD se X6 NW g7 E0 FC Dz TR;go_wp2_with fail;exact bodyPost_ret (v:=.tuple #[.agg #[By (j:Int),By (t:Int),By (kl:Int)],By 0]) (by simp [results,results56,go_sem,T3.1,T3.2.1,T3.2.2]) rfl (av.o _ _ _)
  ·have jT:((n:Int) != buf)=true:=(by simpa using nb);have E0:=B2.o.lie (bq,#[By 0,By 0,By 0],98) ε;obtain ⟨m0,m1,m2,z0,z1,z2,zM,TT⟩:=uc E0;have T3:=TT 0 0 0;have J8:ag _:=nb;have GU:ag _:=B2.o.gw0;have GF:ag (∀ a b c:Value,oS ba (fun w' rs B W=>aQ w' p rb rs eps buf B W) (fun q=>q=p\/q=rb) w (((w2.setCell (φ bq 0) a).setCell (φ bq 1) b).setCell (φ bq 2) c) (χ (.tuple #[.agg #[By 0,By 0,By 0],By 151])) rs l eps buf B W):=fun a b c=>by have gz:Gw w (((w2.setCell (φ bq 0) a).setCell (φ bq 1) b).setCell (φ bq 2) c):=((GU.o.setCell (qad BQ.o) _).setCell (qad BQ.o) _).setCell (qad BQ.o) _;exact ⟨⟨0,by rw [LN.o];exact CR.o,.inr (.inl ⟨rfl,by rw [LN.o];exact J8.o,rfl,HC.o.gw gz,gz⟩)⟩,gz.gx _⟩
   clear E0 TT nb;go_wp2_with fail;exact bodyPost_ret (v:=.tuple #[.agg #[By 0,By 0,By 0],By 151]) (by simp [results,results56,go_sem,T3.1,T3.2.1,T3.2.2]) rfl (GF.o _ _ _)
 ·have vK:(r != 0)=true:=by simpa using r0
  have R0:ag _:=r0;have E0:=B2.o.lie (bq,#[By 0,By 0,By 0],98) ε;obtain ⟨m0,m1,m2,z0,z1,z2,zM,TT⟩:=uc E0;have T3:=TT 0 0 0;have GU:ag _:=B2.o.gw0;have GF:ag (∀ a b c:Value,oS ba (fun w' rs B W=>aQ w' p rb rs eps buf B W) (fun q=>q=p\/q=rb) w (((w2.setCell (φ bq 0) a).setCell (φ bq 1) b).setCell (φ bq 2) c) (χ (.tuple #[.agg #[By 0,By 0,By 0],By 150])) rs l eps buf B W):=fun a b c=>by have gz:Gw w (((w2.setCell (φ bq 0) a).setCell (φ bq 1) b).setCell (φ bq 2) c):=((GU.o.setCell (qad BQ.o) _).setCell (qad BQ.o) _).setCell (qad BQ.o) _;exact ⟨⟨r,by rw [LN.o];exact CR.o,.inl ⟨R0.o,rfl,HC.o.gw gz,gz⟩⟩,gz.gx _⟩
  clear E0 TT r0;go_wp2_with fail;exact bodyPost_ret (v:=.tuple #[.agg #[By 0,By 0,By 0],By 150]) (by simp [results,results56,go_sem,T3.1,T3.2.1,T3.2.2]) rfl (GF.o _ _ _)
