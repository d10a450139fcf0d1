/- Package tower: stocked, Of, New. -/
import Derived.Test.YtcboobmfnmgldaaGreatBIMem
set_option linter.unusedVariables false
set_option maxHeartbeats 8000000
set_option maxRecDepth 20000
open Go.Proofs.Tryz
namespace Go.Proofs.YtcboobmfnmgldaaGreat
open Go.RowKit
variable {l:List ah} {x:ah}
theorem acG (h:∀ y∈l,y.k<x.k):ins ah.k x l=l++[x]:=by
 induction l with
 | nil=>rfl
 | cons y l ih =>
  unfold ins;rw [if_pos (h y (List.mem_cons_self ..)),ih fun z hz=>h z (List.mem_cons_of_mem _ hz)]
  rfl
variable {i:Nat}
theorem acH (r:aG ah.k l) (hi:i<l.length):ins ah.k (l.getD i ax) (l.take i)=l.take (i+1):=by
 have e:l.take (i+1)=l.take i++[l.getD i ax]:=by
  rw [List.take_add_one,List.getElem?_eq_getElem hi,jP hi];rfl
 rw [e];refine acG fun y hy=>?_
 have:=List.pairwise_append.1 (by rw [<-e];exact r.sublist (List.take_sublist _ _):((l.take i++[l.getD i ax]).Pairwise fun a b=>a.k<b.k))
 exact this.2.2 y hy _ (List.mem_singleton.2 rfl)
theorem acI (most:Int) (m0:1<=most) (m1:most<=4294967296) (ao:Option Addr) (c:Nat) (l:List ah) (hl:l.length<=2000000) (ok:aW l) (room:(l.length:Int)<most) (pc:Nat) (w:World) (he:EL w ao l) :
  Calls prog 36 #[AI most,.slice ao l.length c,BY pc] w fun e w'=>(∃ pb Sb,e=.returned (.agg #[BY pb,BY pc])/\HB 115 w' pb Sb most l/\∀ q,Sb q->w.heap.size<=q)/\Gw w w':=by
 have EA:ag (EL w ao l):=he;have OK:ag (aW l):=ok;obtain ⟨n,hn⟩:∃ n,l.length=n:=⟨_,rfl⟩;have LN:ag (l.length=n):=hn;have RM:ag ((n:Int)<most):=by rw [<-hn];exact room
 have NW:ag (∀ W,Calls prog 70 #[AI most] W fun e w'=>(e=.returned (.tuple #[BY (W.heap.size),AI 0])/\HB 115 w' W.heap.size (fun q=>q=W.heap.size) most [])/\Gw W w'):=fun W=>acx most m0 m1 W
 rw [hn] at hl ⊢;clear he ok room hn;obtain ⟨bq,aE⟩:∃ b,w.heap.size=b:=⟨_,rfl⟩;have BQ:ag (w.heap.size=bq):=aE;have B0:ag (aT w [(bq,#[.pointer none,.pointer none],67)] (w.alloc (.cells #[.pointer none,.pointer none] 67))):=by
  have a:=(aT.nil (Gw.refl w)).add #[.pointer none,.pointer none] 67;rw [aE] at a;exact a
 clear aE;go_enter func36,ntmps36;go_wp2_with fail;rw [BQ.o];generalize w.alloc (.cells #[.pointer none,.pointer none] 67)=w1 at B0 ⊢;refine Calls.mono (NW.o w1) ?_;rintro e w2 ⟨⟨rfl,iU⟩,g2⟩;have B2:ag (aT w [(bq,#[.pointer none,.pointer none],67)] w2):=B0.o.gw g2;have Hh:=aC (B0.o.lie (bq,#[.pointer none,.pointer none],67) (by simp))
 dsimp only at Hh;obtain ⟨pb,lP⟩:∃ p,w1.heap.size=p:=⟨_,rfl⟩;rw [lP] at iU Hh ⊢;have H2:ag (HB 115 w2 pb (fun q=>q=pb) most (l.take 0)):=iU
 have S2:ag (∀ q,(fun q=>q=pb) q->bq<q):=fun q (hq:q=pb)=>by omega
 clear iU g2 B0 lP NW Hh;go_wp2_with fail;go_loopg [18] n (fun gg s18 wr=>∃ (i:Nat) (S:Nat->Prop),s18=AI (i:Int)/\i<=n/\n-i<=gg/\ag (HB 115 wr pb S most (l.take i))/\ag (∀ q,S q->bq<q)/\ag (aT w [(bq,#[.pointer none,.pointer none],67)] wr))
 case atStart=>exact ⟨0,_,rfl,Nat.zero_le _,by omega,H2,S2,B2⟩
 case round =>
  clear H2 S2 B2;obtain ⟨i,S,rfl,a1,a2,A4,SS,BX⟩:=hrel;obtain ⟨wS,bj⟩:∃ wx,wx=wr:=⟨_,rfl⟩;subst bj;by_cases ar:i<n
  ·have eZ:(i:Int)<(n:Int):=by omega
   have il:i<l.length:=by rw [LN.o];exact ar
   obtain ⟨ab,af,rfl,cT,jX⟩:=(EA.o.gw BX.o.gw0).cells (by rw [LN.o];omega)
   obtain ⟨c0,c1,c2⟩:=jX i il;have xF:=EA.o.ok il;have PU:ag (Calls prog 45 #[BY pb,.agg #[By (l.getD i ax).k,By (l.getD i ax).v,.bool (l.getD i ax).g]] (wS.alloc (.cells #[By (l.getD i ax).k,By (l.getD i ax).v,.bool (l.getD i ax).g] 75)) fun ex w'=>ex=.returned (AI 0)/\kL 115 (wS.alloc (.cells #[By (l.getD i ax).k,By (l.getD i ax).v,.bool (l.getD i ax).g] 75)) w' pb S most (l.take (i+1))):=by
    have lt:(l.take i).length=i:=by rw [List.length_take];omega
    have:=Rh pb S most (l.take i) (l.getD i ax) (by omega) xF (wS.alloc (.cells #[By (l.getD i ax).k,By (l.getD i ax).v,.bool (l.getD i ax).g] 75)) (A4.o.gw ((Gw.refl wS).alloc _ _))
    rw [Rl (by rw [jP il];exact (aW.iff.1 OK.o).2 _ (List.getElem_mem il)) (by have:=RM.o;omega),acH OK.o.rise il] at this
    exact this
   generalize (l.getD i ax).k=ki at c0 PU;generalize (l.getD i ax).v=vi at c1 PU;generalize (l.getD i ax).g=gi at c2 PU;have B1:ag (aT w [(bq,#[.pointer none,.pointer none],67)] (wS.alloc (.cells #[By ki,By vi,.bool gi] 75))):=BX.o.gw ((Gw.refl wS).alloc _ _);clear jX xF;go_wp2_with fail;refine Calls.mono PU.o ?_;rintro e u1 ⟨rfl,S',eP,Hi,RB⟩;have H9:ag (HB 115 u1 pb S' most (l.take (i+1))):=eP;have bl:=aC (B1.o.lie (bq,#[.pointer none,.pointer none],67) (by simp))
   dsimp only at bl;have S9:ag (∀ q,S' q->bq<q):=fun q hq=>by
    rcases RB q hq with x | x
    ·exact SS.o q x
    ·omega
   have B9:ag (aT w [(bq,#[.pointer none,.pointer none],67)] u1):=⟨Gx.gw B1.o.gw0 Hi (fun q hq=>by have:=SS.o q hq;have:=BQ.o;omega),fun x hx=>by
    have:=B1.o.lie x hx
    rw [List.mem_singleton.1 hx] at this ⊢;exact (Hi.block bq bl (fun y=>by have:=SS.o bq y;omega)).trans this⟩
   clear eP Hi RB bl PU B1 BX A4 SS;go_wp2_with fail;go_roundg (n-(i+1))
   case measure=>omega
   case rel=>exact ⟨i+1,S',by go_num,by omega,Nat.le_refl _,H9,S9,B9⟩
  ·have ei:i=n:=by omega
   subst ei;have bb:wS.heap[bq]?=some (.cells #[.pointer none,.pointer none] 67 (0,0)):=BX.o.lie (bq,#[.pointer none,.pointer none],67) (by simp)
   have T:=kY (o:=1) (u:=BY pc) (kY (o:=0) (u:=BY pb) bb);have T0:((wS.setCell ⟨bq,0,none⟩ (BY pb)).setCell ⟨bq,1,none⟩ (BY pc)).cell? ⟨bq,0,none⟩=some (BY pb):=aj T rfl;have T1:((wS.setCell ⟨bq,0,none⟩ (BY pb)).setCell ⟨bq,1,none⟩ (BY pc)).cell? ⟨bq,1,none⟩=some (BY pc):=aj T rfl;have z0:wS.cell? ⟨bq,0,none⟩=some (.pointer none):=aj bb rfl;have z1:wS.cell? ⟨bq,1,none⟩=some (.pointer none):=aj bb rfl;have z2:=bT (o:=0) bb;have z3:=bT (o:=1) bb;have z4:=aC bb;have ak:ag ((HB 115 ((wS.setCell ⟨bq,0,none⟩ (BY pb)).setCell ⟨bq,1,none⟩ (BY pc)) pb S most l/\∀ q,S q->w.heap.size<=q)/\Gw w ((wS.setCell ⟨bq,0,none⟩ (BY pb)).setCell ⟨bq,1,none⟩ (BY pc))):=by
    have gz:Gx (fun q=>q=bq) wS ((wS.setCell ⟨bq,0,none⟩ (BY pb)).setCell ⟨bq,1,none⟩ (BY pc)):=((Gx.refl (fun q=>q=bq) wS).set (.inl rfl) _ _).set (.inl rfl) _ _
    have h9:=A4.o;rw [List.take_of_length_le (by rw [LN.o];exact Nat.le_refl _)] at h9
    refine ⟨⟨h9.gx gz (fun q hq hx=>?_),fun q hq=>?_⟩,Gx.gw BX.o.gw0 gz (fun q hq=>by have:=BQ.o;omega)⟩
    ·have:=SS.o q hq;omega
    ·have:=SS.o q hq;have:=BQ.o;omega
   clear T bb BX A4 SS;go_wp2_with fail;exact bodyPost_ret (v:=.agg #[BY pb,BY pc]) (by simp [results,results36,go_sem,T0,T1]) rfl ⟨⟨pb,S,rfl,ak.o.1.1,ak.o.1.2⟩,ak.o.2⟩
variable {rs:List (Option Rn)} {t:Nat}
theorem RC (h:eu rs t) (i:Nat) (q:Int):nw q ((rs.take t).drop i)=nw q (rs.drop i):=by
 have e:rs.drop i=(rs.take t).drop i++List.replicate ((rs.drop i).length-((rs.take t).drop i).length) none:=by
  refine List.ext_getElem? fun j=>?_
  have hj:rs[i+j]?=(rs.drop i)[j]?:=by rw [List.getElem?_drop]
  rw [<-hj];have l1:((rs.take t).drop i).length=t-i:=by rw [List.length_drop,List.length_take,Nat.min_eq_left h.le]
  have l2:(rs.drop i).length=rs.length-i:=List.length_drop;rw [l1,l2];by_cases a:i+j<t
  ·rw [List.getElem?_append_left (by rw [l1];omega),List.getElem?_drop,List.getElem?_take,if_pos a]
  ·rw [List.getElem?_append_right (by rw [l1];omega),List.getElem?_replicate]
   by_cases b:i+j<rs.length
   ·have:=h.no (i+j) (by omega)
    rw [List.getD_eq_getElem?_getD,List.getElem?_eq_getElem b] at this;have hle:=h.le;rw [List.getElem?_eq_getElem b,if_pos (by rw [l1];omega)]
    exact congrArg some this
   ·have hle:=h.le
    rw [List.getElem?_eq_none (by omega),if_neg (by rw [l1];omega)]
 rw [e,Ow];have:=v8 q ((rs.drop i).length-((rs.take t).drop i).length) [];rw [List.append_nil] at this;rw [this];cases nw q ((rs.take t).drop i)<;>rfl
variable {n:Nat}
theorem fA.top {most:Int} {ok:Bool} (h:eu rs t) (c:fA l (rs.take t) most n ok):fA l rs most n ok:=by
 have e1:∀ i q,aI (rs.drop i) q=aI ((rs.take t).drop i) q:=fun i q=>by unfold aI;rw [RC h]
 have e2:∀ q,bE l rs q=bE l (rs.take t) q:=fun q=>by
  have:=RC h 0 q
  rw [List.drop_zero,List.drop_zero] at this;unfold bE dB;rw [this]
 rcases c with ⟨a,b,c,d⟩ | ⟨a,b,c⟩
 ·refine .inl ⟨a,fun i=>?_,c.same e2,d⟩
  obtain ⟨m,m1,m2⟩:=b i;exact ⟨m,m1.same (e1 i),m2⟩
 ·refine .inr ⟨a,b,?_⟩
  rcases c with ⟨i,m,m1,m2⟩ | ⟨m,m1,m2⟩
  ·exact .inl ⟨i,m,m1.same (e1 i),m2⟩
  ·exact .inr ⟨m,m1.same e2,m2⟩
theorem RD (l:List (Option Rn)):tot (aH l)<=tot l:=by
 unfold aH;have r:∀ n,tot (List.replicate n (none:Option Rn))=0:=fun n=>by
  induction n with
  | zero=>rfl
  | succ n ih=>rw [List.replicate_succ,vX];exact ih
 rw [vY,r];have:=pE l 40;omega
variable {w:World}
theorem acJ {base pB:Nat} {v:Value} (h:RO w base v rs) (hb:pB<=base):RO w pB v rs:=by
 refine ⟨h.1,?_⟩;rcases h.2 with q | ⟨b,cap,cur,rfl,hg,r⟩
 ·exact .inl q
 ·exact .inr ⟨b,cap,cur,rfl,Nat.le_trans hb hg,r⟩
def lQ (eps buf keys:Int) (b:List ah) (l:List (Option Rn)) (E:Int) (n:Nat):Prop :=
 (¬ eX eps buf keys/\E=160)\/(eX eps buf keys/\((E≠0/\dw (ek b) (ev b) (eg b) b.length E)\/(aW b/\((buf<=b.length/\E=140)\/((b.length:Int)<buf/\((E≠0/\lI eps buf l E)\/(lI eps buf l 0/\((E=161/\fA b (aH l) keys n false)\/(E=0/\fA b (aH l) keys n true)))))))))
def kO (HR:bQ) (w w':World) (ex:Ending) (eps buf keys:Int) (b:List ah) (l:List (Option Rn)):Prop :=
 ∃ E n,lQ eps buf keys b l E n/\((E≠0/\ex=.returned (.tuple #[.pointer none,AI E]))\/(E=0/\∃ p F,ex=.returned (.tuple #[BY p,AI 0])/\HT HR w' p F eps buf keys b (aH l) 0 0 n/\∀ q,F q->w.heap.size<=q))
variable {HR:bQ}
theorem RE (H:bJ HR) (eps buf keys:Int) (ao bo:Option Addr) (c d:Nat) (b:List ah) (l:List (Option Rn)) (hb:b.length+tot l<=2000000) (hl:l.length<=2000000) (hc:b.length<=c) (hd:l.length<=d) (hz:bo=none->l.length=0/\d=0) (w:World) (he:EL w ao b) (hp:PR HR w bo l) :
  Calls prog 18 #[.agg #[AI eps,AI buf,AI keys],.slice ao b.length c,.slice bo l.length d] w fun e w'=>kO HR w w' e eps buf keys b l/\Gw w w':=by
 have HH:ag (bJ HR):=H;have CK:ag (∀ W,Calls prog 32 #[.agg #[AI eps,AI buf,AI keys]] W fun e w'=>e=.returned (AI (eO eps buf keys))/\Gw W w'):=fun W=>Xe eps buf keys W
 have KC:ag (∀ W,Gw w W->Calls prog 33 #[.slice ao b.length c] W fun e w'=>(∃ r:Int,e=.returned (AI r)/\dw (ek b) (ev b) (eg b) b.length r)/\Gw W w'):=fun W gg=>D8 ao b.length c (ek b) (ev b) (eg b) (by omega) hc W (he.gw gg)
 have CO:ag (∀ W,Gw w W->Calls prog 34 #[AI eps,AI buf,.slice bo l.length d] W fun e w'=>lJ (fun w' p rs=>aP HR w' p rs eps buf 0 0) W w' e eps buf l/\Gw W w'):=fun W gg=>abV H eps buf bo d l hl hd hz W (hp.gw H.kp gg)
 have EA:ag (EL w ao b):=he;have TB:ag (b.length+tot (aH l)<=2000000):=by have:=RD l;show _<=_;omega
 obtain ⟨bq,aE⟩:∃ b,w.heap.size=b:=⟨_,rfl⟩;have BQ:ag (w.heap.size=bq):=aE;have B0:ag (aT w [(bq,#[AI eps,AI buf,AI keys],23)] (w.alloc (.cells #[AI eps,AI buf,AI keys] 23))):=by
  have a:=(aT.nil (Gw.refl w)).add #[AI eps,AI buf,AI keys] 23;rw [aE] at a;exact a
 have FC:ag (∀ W,aT w [(bq,#[AI eps,AI buf,AI keys],23)] W->W.heap[bq]?=some (.cells #[AI eps,AI buf,AI keys] 23 (0,0))):=fun W h=>h.lie (bq,#[AI eps,AI buf,AI keys],23) (by simp)
 obtain ⟨bn,fL⟩:∃ n,b.length=n:=⟨_,rfl⟩;have BN:ag (b.length=bn):=fL;obtain ⟨ln,au⟩:∃ n,l.length=n:=⟨_,rfl⟩;rw [fL] at KC hc hb ⊢;rw [au] at CO hl hd ⊢;clear H he hp hz aE fL au;go_enter func18,ntmps18;go_wp2_with fail;rw [BQ.o];generalize w.alloc (.cells #[AI eps,AI buf,AI keys] 23)=w1 at B0 ⊢;refine Calls.mono (CK.o w1) ?_;rintro e w2 ⟨rfl,g2⟩;have B2:ag (aT w [(bq,#[AI eps,AI buf,AI keys],23)] w2):=B0.o.gw g2;clear g2 B0 CK;by_cases cf:eX eps buf keys
 ·have ce:eO eps buf keys=0:=if_pos cf
  rw [ce];have CF:ag (eX eps buf keys):=cf;have RG:=cf.2.1;clear ce cf;go_wp2_with fail;refine Calls.mono (KC.o w2 B2.o.gw0) ?_;rintro e w3 ⟨⟨r,rfl,cr⟩,g3⟩;have B3:ag (aT w [(bq,#[AI eps,AI buf,AI keys],23)] w3):=B2.o.gw g3;have CR:ag (dw (ek b) (ev b) (eg b) b.length r):=by have:=cr;rw [<-BN.o] at this;exact this
  clear g3 cr B2 KC;by_cases r0:r=0
  ·subst r0
   have rV:ag (aW b):=CR.o;have bb:=FC.o w3 B3.o;have k0:w3.cell? ⟨bq,0,none⟩=some (AI eps):=aj bb rfl;have k1:w3.cell? ⟨bq,1,none⟩=some (AI buf):=aj bb rfl;have kl:=aC bb;clear bb CR;by_cases rm:(bn:Int)<buf
   ·have t1:decide (buf<=(bn:Int))=false:=by simp;omega
    have RM:ag ((b.length:Int)<buf):=by rw [BN.o];exact rm
    clear rm;go_wp2_with fail;refine Calls.mono (CO.o w3 B3.o.gw0) ?_;rintro e w4 ⟨⟨E,A5,hE⟩,g4⟩;have B4:ag (aT w [(bq,#[AI eps,AI buf,AI keys],23)] w4):=B3.o.gw g4;rcases hE with ⟨e0,rfl⟩ | ⟨rfl,p4,rfl,n4,A6⟩
    ·have Nw:(E != 0)=true:=by simpa using e0
     have ak:ag (∀ W,Gw w W->kO HR w W (.returned (.tuple #[.pointer none,AI E])) eps buf keys b l/\Gw w W):=fun W g=>⟨⟨E,0,.inr ⟨CF.o,.inr ⟨rV.o,.inr ⟨RM.o,.inl ⟨e0,A5⟩⟩⟩⟩,.inl ⟨e0,rfl⟩⟩,g⟩
     clear e0 A5 g4 CO t1 k0 k1 kl;go_wp2_with fail;go_ret2;exact ak.o _ B4.o.gw0
    ·have Hj:ag (lI eps buf l 0):=A5
     have rK:ag (aP HR w4 p4 (aH l) eps buf 0 0/\w3.heap.size<=p4):=⟨A6,n4⟩;have RN:ag (∀ W,Gw w4 W->Calls prog 21 #[BY p4] W fun e w'=>(∃ (t b c:Nat),e=.returned (.slice (some ⟨b,0,none⟩) t c)/\eu (aH l) t/\RO w' w4.heap.size (.slice (some ⟨b,0,none⟩) t c) ((aH l).take t))/\Gw W w'):=fun W gg=>(O3 (A6.gw HH.o.kp gg)).mono fun e w' ⟨⟨t,b,c,x1,x2,x3⟩,x4⟩=>⟨⟨t,b,c,x1,x2,acJ x3 gg.size⟩,x4⟩
     have GN:=A6.lt;have bb:=FC.o w4 B4.o;have k0:w4.cell? ⟨bq,0,none⟩=some (AI eps):=aj bb rfl;have k2:w4.cell? ⟨bq,2,none⟩=some (AI keys):=aj bb rfl;have kl:=aC bb;have CN:ag (∀ (wA W:World) (t bR cR:Nat),Gw w4 wA->Gw wA W->eu (aH l) t->RO wA w4.heap.size (.slice (some ⟨bR,0,none⟩) t cR) ((aH l).take t)->Calls prog 35 #[.slice ao bn c,.slice (some ⟨bR,0,none⟩) t cR,AI keys] W fun e w'=>(∃ (n:Nat) (ok:Bool),e=.returned (.tuple #[AI (n:Int),.bool ok])/\fA b (aH l) keys n ok)/\Gw W w'):=fun wA W t bR cR g1 g2 tp ro=>by
      have tl:t<=40:=by have:=tp.le;rw [AJ] at this;exact this
      have lt:((aH l).take t).length=t:=by rw [List.length_take,AJ];omega
      have kP:RO wA w4.heap.size (.slice (some ⟨bR,0,none⟩) ((aH l).take t).length cR) ((aH l).take t):=by rw [lt];exact ro
      have prA:PR HR W (some ⟨bR,0,none⟩) ((aH l).take t):=(kP.pr (HR:=HR) fun r hr=>(rK.o.1.runs r (List.mem_of_mem_take hr)).1.gw HH.o.kp g1).gw HH.o.kp g2
      have cap:t<=cR:=by
       rcases ro.2 with ⟨x,_⟩ | ⟨b',cap,cur,x,_,_,hc,_⟩
       ·cases x
       ·injection x with _ _ x3;rw [x3,<-lt];exact hc
      have tt:tot ((aH l).take t)<=tot (aH l):=by have:=pE (aH l) t;omega
      have:=ab4 HH.o ao c bR 0 cR b ((aH l).take t) keys (by have:=CF.o.2.2.1;omega) (by have:=TB.o;omega) (by rw [lt];exact tl) (by rw [lt];exact cap) rV.o.rise W ((EA.o.gw B4.o.gw0).gw (g1.trans g2)) prA
      rw [lt,BN.o] at this;exact this.mono fun e w' ⟨⟨n,ok,e1,e2⟩,g⟩=>⟨⟨n,ok,e1,e2.top tp⟩,g⟩
     have HW:ag (∀ w':World,Gw w4 w'->Gw w4 w'/\w'.cell? ⟨bq,2,none⟩=some (AI keys)/\bq<w'.heap.size):=fun w' gg=>⟨gg,(gg.cell _ _ kl).trans k2,Nat.lt_of_lt_of_le kl gg.size⟩
     have I4:ag (Gw w4 w4):=Gw.refl w4;clear A5 g4 CO n4 A6 t1 k1 bb;go_wp2_with fail;go_region_held3 (fun w'=>Gw w4 w'/\w'.cell? ⟨bq,2,none⟩=some (AI keys)/\bq<w'.heap.size)
      (((refine HW.o _ ?_;repeat (first | exact And.left (by assumption) | exact ag.o (by assumption) | refine Gw.drew ?_));done))
      ((
       first
       | (go_at_call 21;refine (RN.o _ (by repeat (first | exact Gw.refl _ | exact And.left (by assumption) | exact ag.o (by assumption) | refine Gw.drew ?_ | refine Gw.drewN ?_ _))).mono ?_;rintro ex wA ⟨⟨tA,bA,cA,rfl,RH,RJ⟩,gA⟩;have FA:ag (Gw w4 wA):=(Gw.trans (by repeat (first | exact Gw.refl _ | exact And.left (by assumption) | exact ag.o (by assumption) | refine Gw.drew ?_ | refine Gw.drewN ?_ _)) gA);have pU:ag (eu (aH l) tA/\RO wA w4.heap.size (.slice (some ⟨bA,0,none⟩) tA cA) ((aH l).take tA)):=⟨RH,RJ⟩;clear gA RH RJ)
       | (go_at_call 35;refine (CN.o wA _ tA bA cA FA.o (by first | exact Gw.refl _ | exact (Gw.refl _).drew) pU.o.1 pU.o.2).mono ?_;rintro ex wB ⟨⟨m,RQ,rfl,RV⟩,gB⟩;have FB:ag (Gw w4 wB):=(Gw.trans (by repeat (first | exact Gw.refl _ | exact And.left (by assumption) | exact ag.o (by assumption) | refine Gw.drew ?_ | refine Gw.drewN ?_ _)) gB);have Hk:ag (fA b (aH l) keys m RQ):=RV;clear gB RV)))
     all_goals
      have B5:ag (aT w [(bq,#[AI eps,AI buf,AI keys],23)] wB):=B4.o.gw FB.o;have xI:ag (aP HR wB p4 (aH l) eps buf 0 0/\w3.heap.size<=p4):=⟨rK.o.1.gw HH.o.kp FB.o,rK.o.2⟩;clear FB RN CN HW;cases RQ with
      | false =>
       have ak:ag (∀ W,Gw w W->kO HR w W (.returned (.tuple #[.pointer none,AI 161])) eps buf keys b l/\Gw w W):=fun W g=>⟨⟨161,m,.inr ⟨CF.o,.inr ⟨rV.o,.inr ⟨RM.o,.inr ⟨Hj.o,.inl ⟨rfl,Hk.o⟩⟩⟩⟩⟩,.inl ⟨by decide,rfl⟩⟩,g⟩
       go_wp2_with fail;go_ret2
       exact ak.o _ B5.o.gw0
      | true =>
       obtain ⟨w5,hw5⟩:∃ wx,wx=wB:=⟨_,rfl⟩;subst hw5;have bb:=FC.o w5 B5.o;have HW:ag (∀ w':World,Gw w5 w'->Gw w5 w'/\w'.cell? ⟨bq,0,none⟩=some (AI eps)/\w'.cell? ⟨bq,1,none⟩=some (AI buf)/\w'.cell? ⟨bq,2,none⟩=some (AI keys)/\bq<w'.heap.size):=fun w' gg=>by
        have hh:=(gg.below.block bq (aC bb)).trans bb;exact ⟨gg,aj hh rfl,aj hh rfl,aj hh rfl,aC hh⟩
       have I5:ag (Gw w5 w5):=Gw.refl w5;have SK:ag (∀ W,Gw w5 W->Calls prog 36 #[AI buf,.slice ao bn c,BY p4] W fun e w'=>(∃ pb Sb,e=.returned (.agg #[BY pb,BY p4])/\HB 115 w' pb Sb buf b/\∀ q,Sb q->W.heap.size<=q)/\Gw W w'):=fun W gg=>by
        have:=acI buf RG.1 RG.2 ao c b (by have:=TB.o;omega) rV.o RM.o p4 W (EA.o.gw (B5.o.gw0.trans gg))
        rw [BN.o] at this;exact this
       have aL:ag (∀ (wS:World) (lR:Nat) (pV:Nat->Prop),Gw w5 wS->HB 115 wS lR pV buf b->(∀ q,pV q->w5.heap.size<=q)->kO HR w (wS.alloc (.cells #[AI eps,AI buf,AI keys,BY lR,BY p4,AI (m:Int)] 69)) (.returned (.tuple #[BY (wS.heap.size),AI 0])) eps buf keys b l/\Gw w (wS.alloc (.cells #[AI eps,AI buf,AI keys,BY lR,BY p4,AI (m:Int)] 69))):=fun wS lR pV g pW nS=>by
        have hs:HS HR wS lR pV p4 eps buf b (aH l) 0 0:=⟨pW,xI.o.1.gw HH.o.kp g,fun x=>by have:=nS p4 x;have:=xI.o.1.lt;omega,fun r hr q hq hx=>by have:=nS q hq;have:=HH.o.lt (xI.o.1.runs r hr).1.h q hx;omega⟩
        have inv:gh eps buf keys b (aH l) m:=by
         rcases Hk.o with ⟨_,x1,x2,x3⟩ | ⟨x,_⟩
         ·refine gh.of (AJ l) ?_ (fun r hr=>(xI.o.1.runs r hr).1.ok) x1 rV.o RM.o x2 x3
          rcases Hj.o with ⟨x,_⟩ | ⟨x,_⟩ | ⟨_,_,x⟩
          ·cases x
          ·cases x
          ·exact x
         ·cases x
        refine ⟨⟨0,m,.inr ⟨CF.o,.inr ⟨rV.o,.inr ⟨RM.o,.inr ⟨Hj.o,.inr ⟨rfl,Hk.o⟩⟩⟩⟩⟩,.inr ⟨rfl,_,_,rfl,HT.made HH.o.kp hs inv CF.o,fun q hq=>?_⟩⟩,(B5.o.gw0.trans g).alloc _ _⟩
        have z:=B5.o.gw0.size;have z2:=g.size;rcases hq with x | x | x
        ·omega
        ·have:=xI.o.2;have:=B3.o.gw0.size;omega
        ·have:=nS q x;omega
       clear bb;go_wp2_with fail;go_region_held3 (fun w'=>Gw w5 w'/\w'.cell? ⟨bq,0,none⟩=some (AI eps)/\w'.cell? ⟨bq,1,none⟩=some (AI buf)/\w'.cell? ⟨bq,2,none⟩=some (AI keys)/\bq<w'.heap.size)
        (((refine HW.o _ ?_;repeat (first | exact And.left (by assumption) | exact ag.o (by assumption) | refine Gw.drew ?_ | refine Gw.alloc ?_ _ _));done))
        ((
         first
         | (go_at_call 36;refine (SK.o _ (by repeat (first | exact Gw.refl _ | exact And.left (by assumption) | exact ag.o (by assumption) | refine Gw.drew ?_ | refine Gw.drewN ?_ _))).mono ?_;rintro ex wS ⟨⟨lR,pV,rfl,pW,nS⟩,gS⟩;have FS_:ag (Gw w5 wS):=(Gw.trans (by repeat (first | exact Gw.refl _ | exact And.left (by assumption) | exact ag.o (by assumption) | refine Gw.drew ?_ | refine Gw.drewN ?_ _)) gS);have RZ:ag (HB 115 wS lR pV buf b/\∀ q,pV q->w5.heap.size<=q):=⟨pW,fun q hq=>Nat.le_trans (Gw.size (show Gw w5 _ from (by repeat (first | exact Gw.refl _ | exact And.left (by assumption) | exact ag.o (by assumption) | refine Gw.drew ?_ | refine Gw.drewN ?_ _)))) (nS q hq)⟩;clear gS pW nS)))
       all_goals
        have ak:ag (kO HR w (wS.alloc (.cells #[AI eps,AI buf,AI keys,BY lR,BY p4,AI (m:Int)] 69)) (.returned (.tuple #[BY (wS.heap.size),AI 0])) eps buf keys b l/\Gw w (wS.alloc (.cells #[AI eps,AI buf,AI keys,BY lR,BY p4,AI (m:Int)] 69))):=aL.o wS lR pV FS_.o RZ.o.1 RZ.o.2;generalize wS.heap.size=pN at ak ⊢;generalize (wS.alloc (.cells #[AI eps,AI buf,AI keys,BY lR,BY p4,AI (m:Int)] 69))=wN at ak ⊢;go_wp2_with fail;go_ret2;exact ak.o
   ·have t1:decide (buf<=(bn:Int))=true:=by simp;omega
    have ak:ag (∀ W,Gw w W->kO HR w W (.returned (.tuple #[.pointer none,AI 140])) eps buf keys b l/\Gw w W):=fun W g=>⟨⟨140,0,.inr ⟨CF.o,.inr ⟨rV.o,.inl ⟨by rw [BN.o];omega,rfl⟩⟩⟩,.inl ⟨by decide,rfl⟩⟩,g⟩
    clear rm;go_wp2_with fail;go_ret2;exact ak.o _ B3.o.gw0
  ·have vN:(r != 0)=true:=by simpa using r0
   have ak:ag (∀ W,Gw w W->kO HR w W (.returned (.tuple #[.pointer none,AI r])) eps buf keys b l/\Gw w W):=fun W g=>⟨⟨r,0,.inr ⟨CF.o,.inl ⟨r0,CR.o⟩⟩,.inl ⟨r0,rfl⟩⟩,g⟩
   clear r0 CR;go_wp2_with fail;go_ret2;exact ak.o _ B3.o.gw0
 ·have ce:eO eps buf keys=160:=if_neg cf
  rw [ce];have ak:ag (∀ W,Gw w W->kO HR w W (.returned (.tuple #[.pointer none,AI 160])) eps buf keys b l/\Gw w W):=fun W g=>⟨⟨160,0,.inl ⟨cf,rfl⟩,.inl ⟨by decide,rfl⟩⟩,g⟩
  clear ce cf;go_wp2_with fail;go_ret2;exact ak.o _ B2.o.gw0
variable {eps buf:Int}
theorem acK {keys E:Int} (h:lQ eps buf keys [] [] E n) (cf:eX eps buf keys):E=0/\n=0:=by
 have up:aH []=List.replicate 40 none:=rfl;have lv:∀ i q,aI ((List.replicate 40 (none:Option Rn)).drop i) q=false:=fun i q=>by
  rw [List.drop_replicate];have:=v8 q (40-i) [];rw [List.append_nil] at this;unfold aI;rw [this];rfl
 have ft:fitAll eps buf (aH []) 40:=fun j hj=>by
  rw [up,List.getD_eq_getElem?_getD,List.getElem?_replicate,if_pos hj];rfl
 have rM:eK eps buf:=⟨cf.1,cf.2.1⟩;rcases h with ⟨a,_⟩ | ⟨_,h⟩
 ·exact absurd cf a
 ·rcases h with ⟨a,b⟩ | ⟨_,h⟩
  ·exact absurd (b.one (aW.iff.2 ⟨List.Pairwise.nil,by simp⟩:aW [])) a
  ·rcases h with ⟨a,_⟩ | ⟨_,h⟩
   ·have:=cf.2.1.1
    simp at a;omega
   ·rcases h with ⟨a,b⟩ | ⟨_,h⟩
    ·rcases b with ⟨_,x | ⟨r,x⟩⟩ | ⟨_,_,x⟩ | ⟨x,_⟩
     ·exact absurd rM x
     ·simp at x
     ·exact absurd ft x
     ·exact absurd x a
    ·rcases h with ⟨_,b⟩ | ⟨e,b⟩
     ·rcases b with ⟨x,_⟩ | ⟨_,_,x⟩
      ·cases x
      ·rw [up] at x
       have k0:=cf.2.2.1.1;rcases x with ⟨i,m,m1,m2⟩ | ⟨m,m1,m2⟩
       ·have:m=0:=m1.one (aS.nil (lv i))
        omega
       ·have:m=0:=m1.one (aS.nil (lv 0))
        omega
     ·rcases b with ⟨_,_,x,_⟩ | ⟨x,_⟩
      ·rw [up] at x
       exact ⟨e,x.one (aS.nil (lv 0))⟩
      ·cases x
def Hl (HR:bQ) (w w':World) (ex:Ending) (eps buf keys:Int):Prop :=
 (¬ eX eps buf keys/\ex=.returned (.tuple #[.pointer none,AI 160]))\/(eX eps buf keys/\∃ p F,ex=.returned (.tuple #[BY p,AI 0])/\HT HR w' p F eps buf keys [] (List.replicate 40 none) 0 0 0/\∀ q,F q->w.heap.size<=q)
theorem acL (H:bJ HR) (eps buf keys:Int) (w:World) :
  Calls prog 12 #[.agg #[AI eps,AI buf,AI keys]] w fun e w'=>Hl HR w w' e eps buf keys/\Gw w w':=by
 have OF:ag (∀ W,Gw w W->Calls prog 18 #[.agg #[AI eps,AI buf,AI keys],.slice none 0 0,.slice none 0 0] W fun e w'=>((¬ eX eps buf keys/\e=.returned (.tuple #[.pointer none,AI 160]))\/(eX eps buf keys/\∃ p F,e=.returned (.tuple #[BY p,AI 0])/\HT HR w' p F eps buf keys [] (List.replicate 40 none) 0 0 0/\∀ q,F q->w.heap.size<=q))/\Gw W w'):=fun W gg=>(RE H eps buf keys none none 0 0 [] [] (by decide) (by decide) (by decide) (by decide) (fun _=>⟨rfl,rfl⟩) W ⟨fun h=>by simp at h,fun i hi=>by simp at hi⟩ ⟨fun h=>by simp at h,fun r hr=>by cases hr⟩).mono fun e w' ⟨⟨E,n,h1,h2⟩,g⟩=>by
  refine ⟨?_,g⟩;by_cases cf:eX eps buf keys
  ·obtain ⟨rfl,rfl⟩:=acK h1 cf
   rcases h2 with ⟨x,_⟩ | ⟨_,p,F,x1,x2,x3⟩
   ·exact absurd rfl x
   ·exact .inr ⟨cf,p,F,x1,x2,fun q hq=>Nat.le_trans gg.size (x3 q hq)⟩
  ·have eE:E=160:=by
    rcases h1 with ⟨_,x⟩ | ⟨x,_⟩
    ·exact x
    ·exact absurd x cf
   subst eE;rcases h2 with ⟨_,x⟩ | ⟨x,_⟩
   ·exact .inl ⟨cf,x⟩
   ·exact absurd x (by decide)
 clear H;go_enter func12,ntmps12;go_wp2_with fail;refine Calls.mono (OF.o _ ((Gw.refl w).alloc _ _)) ?_;rintro e w1 ⟨h,gg⟩;have GG:ag (Gw w w1):=((Gw.refl w).alloc _ _).trans gg;clear gg OF;rcases h with ⟨cf,rfl⟩ | ⟨cf,p,F,rfl,ht,hF⟩
 ·have ak:ag (Hl HR w w1 (.returned (.tuple #[.pointer none,AI 160])) eps buf keys):=.inl ⟨cf,rfl⟩
  clear cf;go_wp2_with fail;go_ret2;exact ⟨ak.o,GG.o⟩
 ·have ak:ag (Hl HR w w1 (.returned (.tuple #[BY p,AI 0])) eps buf keys):=.inr ⟨cf,p,F,rfl,ht,hF⟩
  clear cf ht hF;go_wp2_with fail;go_ret2;exact ⟨ak.o,GG.o⟩
structure Tw (HR:bQ) (w0 w:World) (p:Nat) (F:Nat->Prop) (eps buf keys:Int) (l:List ah) (rs:List (Option Rn)) (B W:Int) (live:Nat):Prop where
 ht:HT HR w p F eps buf keys l rs B W live
 new:∀ q,F q->w0.heap.size<=q
 gw:Gw w0 w
section
variable {HR:bQ} {w0 w w':World} {p:Nat} {F:Nat->Prop} {eps buf keys:Int} {l l':List ah} {rs aM:List (Option Rn)} {B W B' W':Int} {live n:Nat} {e:ah}
theorem Tw.to (K:Kp HR) (h:Tw HR w0 w p F eps buf keys l rs B W live) (g:Gw w w'):Tw HR w0 w' p F eps buf keys l rs B W live:=⟨h.ht.gw K g,h.new,h.gw.trans g⟩
theorem Tw.step (h:Tw HR w0 w p F eps buf keys l rs B W live) (c:rT HR w w' p F eps buf keys l rs B W e n):∃ F' l' aM B' W',Tw HR w0 w' p F' eps buf keys l' aM B' W' n/\mT HR w w' eps buf l rs B W l' aM B' W' e/\GM w F F' rs aM/\Gx F w w':=by
 obtain ⟨F',l',aM,B',W',a,b,c,d⟩:=c;refine ⟨F',l',aM,B',W',⟨a,fun q hq=>?_,Gx.gw h.gw d h.new⟩,b,c,d⟩
 rcases c.1 q hq with x | x
 ·exact h.new q x
 ·exact Nat.le_trans h.gw.size x
theorem mT.tot (ok:aW l) (h:mT HR w w' eps buf l rs B W l' aM B' W' e):l'.length+Go.Proofs.YtcboobmfnmgldaaGreat.tot aM<=l.length+Go.Proofs.YtcboobmfnmgldaaGreat.tot rs+1:=by
 have a:=Ae (x:=e) ok.rise;rcases h with ⟨_,rfl,rfl,_,_⟩ | ⟨_,rfl,o,kept,rn,tr,ld,rfl,_⟩
 ·omega
 ·have:=abX tr ld
  simp only [List.length_nil];omega
theorem mT.bw (ok:aW l) (h:mT HR w w' eps buf l rs B W l' aM B' W' e):B<=B'/\B'<=B+1/\W<=W'/\W'<=W+(l.length+Go.Proofs.YtcboobmfnmgldaaGreat.tot rs+1:Nat):=by
 have a:=Ae (x:=e) ok.rise;rcases h with ⟨_,rfl,rfl,rfl,rfl⟩ | ⟨_,rfl,o,kept,rn,tr,ld,rfl,rfl,rfl⟩
 ·omega
 ·have k:=tr.few.1
  have t:=pE rs (aZ rs+1);have o1:0<=ju kept/\ju kept<=1:=by unfold ju;split<;>decide
  unfold took at k;omega
end
structure BW (l:List ah) (rs:List (Option Rn)) (B W:Int) (t:Nat):Prop where
 few:l.length+tot rs<=t
 b:0<=B/\B<=t
 w:0<=W/\W<=(t:Int)*2000000
variable {HR:bQ} {w w':World} {eps buf B W:Int} {l:List ah} {rs:List (Option Rn)} {e:ah} {t:Nat}
theorem BW.step {l':List ah} {aM:List (Option Rn)} {B' W':Int} (h:BW l rs B W t) (ht:t+1<=2000000) (ok:aW l) (c:mT HR w w' eps buf l rs B W l' aM B' W' e):BW l' aM B' W' (t+1):=by
 have a:=c.tot ok;obtain ⟨b1,b2,b3,b4⟩:=c.bw ok;obtain ⟨c1,c2⟩:=h.b;obtain ⟨d1,d2⟩:=h.w;have f:=h.few;exact ⟨by omega,⟨by omega,by omega⟩,⟨by omega,by push_cast;omega⟩⟩
theorem BW.in (h:BW l rs B W t) (ht:t<=1048576):(l.length+1+tot rs<=2000000)/\(0<=B/\B<4611686018427387904)/\0<=W/\W<4611686018427387904:=by
 obtain ⟨a,b,c⟩:=h;omega
theorem BW.mono {t':Nat} (h:BW l rs B W t) (ht:t<=t'):BW l rs B W t':=by
 obtain ⟨a,b,c⟩:=h;exact ⟨by omega,⟨b.1,by omega⟩,c.1,by omega⟩
section
variable {rs aM:List (Option Rn)}
theorem R' (rs:List (Option Rn)):lists rs=(rs.map (Option.map Rn.l)).filterMap id:=by
 unfold lists;rw [List.filterMap_map];rfl
end
section
variable {rs aM:List (Option Rn)} {l:List ah} {b:List ah} {eps buf keys most E:Int} {n:Nat} {ok:Bool}
theorem fA.al (h:Al rs aM) (c:fA l rs most n ok):fA l aM most n ok:=by
 have a:∀ i,aI (rs.drop i)=aI (aM.drop i):=fun i=>(h.drop i).live
 have b:bE l rs=bE l aM:=by funext q;unfold bE dB;rw [h.nw]
 unfold fA at c ⊢;simpa only [a,b] using c
theorem lQ.al (h:Al rs aM) (o:lQ eps buf keys b rs E n):lQ eps buf keys b aM E n:=by
 rcases o with x | ⟨c,x⟩
 ·exact .inl x
 refine .inr ⟨c,?_⟩;rcases x with x | ⟨ok,x⟩
 ·exact .inl x
 refine .inr ⟨ok,?_⟩;rcases x with x | ⟨r,x⟩
 ·exact .inl x
 refine .inr ⟨r,?_⟩;rcases x with ⟨e,x⟩ | ⟨f,x⟩
 ·exact .inl ⟨e,h.of x⟩
 ·exact .inr ⟨h.of f,x.imp (fun ⟨e,c⟩=>⟨e,c.al h.up⟩) (fun ⟨e,c⟩=>⟨e,c.al h.up⟩)⟩
end
variable {l:List ah} {rs:List (Option Rn)} {n:Nat}
theorem fA.one {most:Int} {n':Nat} {ok Hm:Bool} (h:fA l rs most n ok) (h':fA l rs most n' Hm):ok=Hm:=by
 have Sa:∀ {n n':Nat},fA l rs most n true->fA l rs most n' false->False:=by
  intro n n' h h';rcases h with ⟨_,a,b,c⟩ | ⟨e,_⟩
  ·rcases h' with ⟨e,_⟩ | ⟨_,_,⟨i,m,x,y⟩ | ⟨m,x,y⟩⟩
   ·cases e
   ·obtain ⟨m',a1,a2⟩:=a i
    have:=a1.one x
    omega
   ·have:=b.one x
    omega
  ·cases e
 cases ok<;>cases Hm
 ·rfl
 ·exact (Sa h' h).elim
 ·exact (Sa h h').elim
 ·rfl
variable {eps buf:Int}
theorem lQ.one {keys:Int} {b:List ah} {l:List (Option Rn)} {E E':Int} {n':Nat} (h:lQ eps buf keys b l E n) (h':lQ eps buf keys b l E' n'):E=E':=by
 have Sc:∀ {E:Int},aW b->E≠0->¬ dw (ek b) (ev b) (eg b) b.length E:=fun k0 e0 c=>e0 (c.one k0)
 rcases h with ⟨a,rfl⟩ | ⟨a,x⟩
 ·rcases h' with ⟨_,rfl⟩ | ⟨a',_⟩
  ·rfl
  ·exact absurd a' a
 ·rcases h' with ⟨a',_⟩ | ⟨_,x'⟩
  ·exact absurd a a'
  ·rcases x with ⟨e0,c⟩ | ⟨k0,x⟩
   ·rcases x' with ⟨_,c'⟩ | ⟨k0,_⟩
    ·exact c.one c'
    ·exact absurd c (Sc k0 e0)
   ·rcases x' with ⟨e0,c'⟩ | ⟨_,x'⟩
    ·exact absurd c' (Sc k0 e0)
    ·rcases x with ⟨q,rfl⟩ | ⟨q,x⟩
     ·rcases x' with ⟨_,rfl⟩ | ⟨q',_⟩
      ·rfl
      ·omega
     ·rcases x' with ⟨q',_⟩ | ⟨_,x'⟩
      ·omega
      ·rcases x with ⟨e0,o⟩ | ⟨o,x⟩
       ·rcases x' with ⟨_,o'⟩ | ⟨o',_⟩
        ·exact o.one o'
        ·exact absurd (o.one o') e0
       ·rcases x' with ⟨e0,o'⟩ | ⟨_,x'⟩
        ·exact absurd (o'.one o) e0
        ·rcases x with ⟨rfl,c⟩ | ⟨rfl,c⟩<;>rcases x' with ⟨rfl,c'⟩ | ⟨rfl,c'⟩
         ·rfl
         ·cases c.one c'
         ·cases c.one c'
         ·rfl
def ik (ex:Int) (lx:List ah) (o:Option Rn):Prop :=
 (lx.length=0/\o=none)\/(lx.length≠0/\∃ E,kF ex (ek lx) (ev lx) (eg lx) lx.length E/\((E≠0/\o=none)\/(E=0/\∃ r,o=some r/\r.eps=ex/\r.l=lx/\cQ ex (ek lx) lx.length r.L)))
variable {ex:Int} {lx:List ah} {o:Option Rn}
theorem ik.one {o':Option Rn} (h:ik ex lx o) (h':ik ex lx o'):o.map sig=o'.map sig:=by
 rcases h with ⟨a,e⟩ | ⟨a,E,n,x⟩<;>rcases h' with ⟨a',e'⟩ | ⟨a',E',n',x'⟩
 ·rw [e,e']
 ·exact absurd a a'
 ·exact absurd a' a
 ·obtain rfl:=n.one n'
  rcases x with ⟨z,e⟩ | ⟨z,r,e,b1,b2,b3⟩<;>rcases x' with ⟨z',e'⟩ | ⟨z',r',e',c1,c2,c3⟩
  ·rw [e,e']
  ·exact absurd z' z
  ·exact absurd z z'
  ·rw [e,e']
   simp only [Option.map_some,sig];rw [b1,c1,b2,c2,b3.one c3]
theorem ik.few (h:ik ex lx o):jt o<=lx.length:=by
 rcases h with ⟨a,e⟩ | ⟨a,E,n,x⟩
 ·rw [e];exact Nat.zero_le _
 ·rcases x with ⟨z,e⟩ | ⟨z,r,e,b1,b2,b3⟩
  ·rw [e];exact Nat.zero_le _
  ·rw [e,<-b2];exact Nat.le_refl _
def cW (ex:Int):List (List ah)->List (Option Rn)->Prop
 | [],[]=>True
 | lx::L,o::A=>ik ex lx o/\cW ex L A
 | _,_=>False
theorem cW.len:∀ {L:List (List ah)} {A:List (Option Rn)},cW ex L A->A.length=L.length
 | [],[],_=>rfl
 | [],_::_,h=>h.elim
 | _::_,[],h=>h.elim
 | _::_,_::_,h=>congrArg (·+1) (cW.len h.2)
theorem cW.al:∀ {L:List (List ah)} {A D:List (Option Rn)},cW ex L A->cW ex L D->Al A D
 | [],[],[],_,_=>rfl
 | [],_::_,_,h,_=>h.elim
 | [],[],_::_,_,h=>h.elim
 | _::_,[],_,h,_=>h.elim
 | _::_,_::_,[],_,h=>h.elim
 | _::_,_::_,_::_,h,h'=>by
  have a:=h.1.one h'.1;have b:Al _ _:=cW.al h.2 h'.2;unfold Al at b ⊢;rw [List.map_cons,List.map_cons,a,b]
theorem cW.app:∀ {L:List (List ah)} {A:List (Option Rn)},cW ex L A->ik ex lx o->cW ex (L++[lx]) (A++[o])
 | [],[],_,p=>⟨p,trivial⟩
 | [],_::_,h,_=>h.elim
 | _::_,[],h,_=>h.elim
 | _::_,_::_,h,p=>⟨h.1,cW.app h.2 p⟩
theorem cW.few:∀ {L:List (List ah)} {A:List (Option Rn)},cW ex L A->tot A<=aF L
 | [],[],_=>Nat.le_refl _
 | [],_::_,h=>h.elim
 | _::_,[],h=>h.elim
 | lx::L,o::A,h=>by
  have a:=h.1.few;have b:=cW.few h.2;rw [iF];cases o with
  | none=>rw [vX];omega
  | some r =>
   rw [tR];have:r.l.length<=lx.length:=a;omega
variable {i:Nat}
theorem cW.next {L:List (List ah)} {A:List (Option Rn)} (h:cW ex (L.take i) A) (hi:i<L.length) (p:ik ex (L.getD i []) o):cW ex (L.take (i+1)) (A++[o]):=by
 have e:L.take (i+1)=L.take i++[L.getD i []]:=by
  rw [List.getD_eq_getElem?_getD,List.getElem?_eq_getElem hi,Option.getD_some];exact (List.take_append_getElem hi).symm
 rw [e];exact h.app p
structure RI (HR:bQ) (t:Nat) (w0 wr:World) (mb mc:Nat) (A:List (Option Rn)):Prop where
 own:wr.ownsRow w0.heap.size t 1 (.slice (some ⟨mb,0,none⟩) A.length mc) A.length (A.map ptr)
 ra:∀ r,some r∈A->RA HR wr r/\¬ r.S mb
 gw0:Gw w0 wr
section
variable {HR:bQ} {t:Nat} {w0 wr:World} {mb mc:Nat} {A:List (Option Rn)}
theorem RI.made (w0 w:World) (t:Nat) (g:Gw w0 w):RI HR t w0 (w.alloc (.cells #[] t)) w.heap.size 0 []:=⟨World.ownsRow_made w #[] 0 g.size (Nat.zero_le _) rfl,fun r hr=>by (cases hr),g.alloc _ _⟩
theorem RI.gw (K:Kp HR) {W:World} (h:RI HR t w0 wr mb mc A) (g:Gw wr W):RI HR t w0 W mb mc A :=
 ⟨DQ h.own fun q hq=>g.below.block q (World.ownsRow.lt h.own q hq).2,fun r hr=>⟨(h.ra r hr).1.gw K g,(h.ra r hr).2⟩,h.gw0.trans g⟩
theorem RI.lt (h:RI HR t w0 wr mb mc A):w0.heap.size<=mb/\mb<wr.heap.size:=World.ownsRow.lt h.own mb rfl
variable {o:Option Rn}
theorem RI.app (K:Kp HR) {ob:Obj} {w8:World} {b8 c8:Nat} (h:RI HR t w0 wr mb mc A) (ho:∀ r,o=some r->RA HR wr r/\¬ r.S mb)
  (r1:w8.ownsRow w0.heap.size t 1 (.slice (some ⟨b8,0,none⟩) (A.length+1) c8) (A.length+1) (A.map ptr++[ptr o])) (r2:(wr.alloc ob).grownBy w8 (some mb)) (o8:b8=mb\/wr.heap.size<=b8):RI HR t w0 w8 b8 c8 (A++[o]):=by
 have gx:Gx (fun q=>q=mb) wr w8:=Gx.grown (w':=wr.alloc ob) ⟨rfl,rfl,rfl,by simp,fun q hq _=>heap_alloc_old _ _ hq⟩ r2 (fun k e=>by cases e;exact .inl rfl)
 have mm:=h.lt;have nb:∀ (r:Rn),RA HR wr r/\¬ r.S mb->RA HR w8 r/\¬ r.S b8:=fun r ⟨q1,q2⟩=>⟨q1.gx K gx (fun q hq=>by rw [hq];exact q2),fun x=>by
  rcases o8 with e | e
  ·rw [e] at x;exact q2 x
  ·have:=K.lt q1.h b8 x;omega⟩
 refine ⟨by rw [List.length_append,List.map_append];exact r1,fun r hr=>?_,Gx.gw h.gw0 gx (fun q hq=>by rw [hq];exact mm.1)⟩
 rcases List.mem_append.1 hr with q | q
 ·exact nb r (h.ra r q)
 ·exact nb r (ho r (List.mem_singleton.1 q).symm)
theorem RI.pr (h:RI HR t w0 wr mb mc A):PR HR wr (some ⟨mb,0,none⟩) A :=
 ⟨fun _=>⟨mb,0,rfl,(h.own.lt mb rfl).2,fun i hi=>by
  rw [Nat.zero_add,World.ownsRow.cellAt h.own i (by omega),List.getElem?_map,List.getElem?_eq_getElem hi,<-fs hi]
  rfl⟩,fun r hr=>(h.ra r hr).1⟩
theorem RI.cap (h:RI HR t w0 wr mb mc A):A.length<=mc:=by
 rcases h.own.2 with ⟨e,_⟩ | ⟨_,_,_,e,_,_,hc,_⟩
 ·cases e
 ·cases e;exact hc
variable {w w':World} {ex:Int} {lx:List ah}
theorem nP.place {e:Ending} (h:nP HR w w' e ex (ek lx) (ev lx) (eg lx) lx.length) (bd:∀ e∈lx,e.ok) (few:lx.length<=2000000) (n0:lx.length≠0):∃ (o:Option Rn) (E:Int),e=.returned (.tuple #[ptr o,AI E])/\ik ex lx o/\∀ r,o=some r->RA HR w' r/\∀ q,r.S q->w.heap.size<=q:=by
 obtain ⟨E,ne,x⟩:=h;rcases x with ⟨a,b⟩ | ⟨a,p,S,L,b,hS,br,hr⟩
 ·exact ⟨none,E,b,.inr ⟨n0,E,ne,.inl ⟨a,rfl⟩⟩,fun r e=>by cases e⟩
 ·subst a
  refine ⟨some ⟨p,S,ex,lx,L⟩,0,b,.inr ⟨n0,0,ne,.inr ⟨rfl,_,rfl,rfl,rfl,br⟩⟩,fun r e=>?_⟩
  cases e
  refine ⟨⟨hr,?_,bd,few⟩,hS⟩;rcases ne with ⟨_,y⟩ | ⟨_,y⟩
  ·cases y
  ·exact y
end
variable {buf:Int} {k:Nat}
theorem acM {m:Int} (b0:1<=buf) (b1:buf<=4294967296) (h:ct buf (k:Int)<=m) (hm:m<=8589934592) (m0:1<=m):(m<=4294967296->ct buf ((k+1:Nat):Int)<=2*m/\2*m<=8589934592)/\(4294967296<m->ct buf ((k+1:Nat):Int)<=m):=by
 have up:ct buf ((k+1:Nat):Int)<=4294967296:=by
  unfold ct;split
  ·exact Int.min_le_right _ _
  ·omega
 refine ⟨fun x=>⟨?_,by omega⟩,fun x=>by omega⟩
 unfold ct at h ⊢;by_cases c:(1<=buf/\buf<=4294967296)/\0<=((k+1:Nat):Int)/\((k+1:Nat):Int)<40
 ·rw [if_pos c]
  rw [if_pos ⟨⟨b0,b1⟩,by omega,by have:=c.2.2;omega⟩] at h
  have e:((k+1:Nat):Int).toNat=(k:Int).toNat+1:=by omega
  rw [e,Int.pow_succ,<-Int.mul_assoc];have:(2:Int)^(k:Int).toNat>=0:=Int.pow_nonneg (by decide)
  omega
 ·rw [if_neg c]
  omega
theorem acN (b0:1<=buf) (b1:buf<=4294967296):ct buf ((0:Nat):Int)<=buf:=by
 unfold ct;split
 ·refine Int.le_trans (Int.min_le_left _ _) ?_
  simp
 ·omega
def dM (e:ah):List ah:=if e.g=true then [] else [e]
def om:Nat->List ah->List ah->List ah
 | 0,all,_=>all
 | _+1,all,[]=>all
 | n+1,[],e::r=>dM e++om n [] r
 | n+1,a::bG,e::r=>if a.k<e.k then a::om n bG (e::r) else if a.k=e.k then dM e++om n bG r else dM e++om n (a::bG) r
theorem uz:∀ (n m:Nat) (a l:List ah),a.length+l.length<=n->a.length+l.length<=m->om n a l=om m a l
 | 0,0,_,_,_,_=>rfl
 | 0,m+1,a,l,h,_=>by
  have e:l=[]:=List.eq_nil_of_length_eq_zero (by omega)
  subst e;rfl
 | n+1,0,a,l,_,h=>by
  have e:l=[]:=List.eq_nil_of_length_eq_zero (by omega)
  subst e;rfl
 | n+1,m+1,a,[],_,_=>rfl
 | n+1,m+1,[],e::r,h,h'=>by
  simp only [List.length_cons,List.length_nil] at h h';simp only [om];rw [uz n m [] r (by simp only [List.length_nil];omega) (by simp only [List.length_nil];omega)]
 | n+1,m+1,a::bG,e::r,h,h'=>by
  simp only [List.length_cons] at h h';simp only [om];rw [uz n m bG (e::r) (by simp only [List.length_cons];omega) (by simp only [List.length_cons];omega),uz n m bG r (by omega) (by omega),uz n m (a::bG) r (by simp only [List.length_cons];omega) (by simp only [List.length_cons];omega)]
def aX (a l:List ah):List ah:=om (a.length+l.length) a l
theorem xJ (a:List ah):aX a []=a:=by
 unfold aX;cases a.length+([]:List ah).length<;>rfl
theorem xK (e:ah) (r:List ah):aX [] (e::r)=dM e++aX [] r:=rfl
variable {e:ah}
theorem xL {a:ah} (bG r:List ah) (h:a.k<e.k):aX (a::bG) (e::r)=a::aX bG (e::r):=by
 show (if a.k<e.k then _ else _)=_
 rw [if_pos h];exact congrArg (a::·) (uz (bG.length+1+r.length) _ _ _ (by simp only [List.length_cons];omega) (Nat.le_refl _))
theorem xM {a:ah} (bG r:List ah) (h:a.k=e.k):aX (a::bG) (e::r)=dM e++aX bG r:=by
 show (if a.k<e.k then _ else if a.k=e.k then _ else _)=_
 rw [if_neg (by omega),if_pos h]
 exact congrArg (dM e++·) (uz (bG.length+1+r.length) _ _ _ (by omega) (Nat.le_refl _))
theorem xN {a:ah} (bG r:List ah) (h:e.k<a.k):aX (a::bG) (e::r)=dM e++aX (a::bG) r:=by
 show (if a.k<e.k then _ else if a.k=e.k then _ else _)=_
 rw [if_neg (by omega),if_neg (by omega)]
 rfl
theorem pX {P:List ah->List ah->Prop} (h0:∀ a,P a []) (h1:∀ e r,P [] r->P [] (e::r)) (h2:∀ a bG e r,a.k<e.k->P bG (e::r)->P (a::bG) (e::r)) (h3:∀ a bG e r,a.k=e.k->P bG r->P (a::bG) (e::r)) (h4:∀ a bG e r,e.k<a.k->P (a::bG) r->P (a::bG) (e::r)):∀ (n:Nat) (a l:List ah),a.length+l.length<=n->P a l
 | _,a,[],_=>h0 a
 | 0,a,e::r,h=>by simp only [List.length_cons] at h;omega
 | n+1,[],e::r,h=>h1 e r (pX h0 h1 h2 h3 h4 n [] r (by simp only [List.length_cons,List.length_nil] at h ⊢;omega))
 | n+1,a::bG,e::r,h=>by
  simp only [List.length_cons] at h;rcases Int.lt_trichotomy a.k e.k with c | c | c
  ·exact h2 a bG e r c (pX h0 h1 h2 h3 h4 n bG (e::r) (by simp only [List.length_cons];omega))
  ·exact h3 a bG e r c (pX h0 h1 h2 h3 h4 n bG r (by omega))
  ·exact h4 a bG e r c (pX h0 h1 h2 h3 h4 n (a::bG) r (by simp only [List.length_cons];omega))
variable {x:ah}
theorem Hn (h:x∈dM e):x=e/\e.g=false:=by
 unfold dM at h;split at h
 ·cases h
 ·exact ⟨List.mem_singleton.1 h,by simpa using ‹¬ e.g=true›⟩
theorem uA (a l:List ah):x∈aX a l->x∈a\/(x∈l/\x.g=false):=by
 refine pX (P:=fun a l=>x∈aX a l->x∈a\/(x∈l/\x.g=false)) (fun a h=>?_) (fun e r ih h=>?_) (fun a bG e r c ih h=>?_) (fun a bG e r c ih h=>?_) (fun a bG e r c ih h=>?_) _ a l (Nat.le_refl _)
 ·rw [xJ] at h;exact .inl h
 ·rw [xK] at h
  rcases List.mem_append.1 h with q | q
  ·obtain ⟨rfl,g⟩:=Hn q
   exact .inr ⟨List.mem_cons_self ..,g⟩
  ·rcases ih q with q | ⟨q,g⟩
   ·cases q
   ·exact .inr ⟨List.mem_cons_of_mem _ q,g⟩
 ·rw [xL _ _ c] at h
  rcases List.mem_cons.1 h with q | q
  ·exact .inl (by rw [q];exact List.mem_cons_self ..)
  ·rcases ih q with q | q
   ·exact .inl (List.mem_cons_of_mem _ q)
   ·exact .inr q
 ·rw [xM _ _ c] at h
  rcases List.mem_append.1 h with q | q
  ·obtain ⟨rfl,g⟩:=Hn q
   exact .inr ⟨List.mem_cons_self ..,g⟩
  ·rcases ih q with q | ⟨q,g⟩
   ·exact .inl (List.mem_cons_of_mem _ q)
   ·exact .inr ⟨List.mem_cons_of_mem _ q,g⟩
 ·rw [xN _ _ c] at h
  rcases List.mem_append.1 h with q | q
  ·obtain ⟨rfl,g⟩:=Hn q
   exact .inr ⟨List.mem_cons_self ..,g⟩
  ·rcases ih q with q | ⟨q,g⟩
   ·exact .inl q
   ·exact .inr ⟨List.mem_cons_of_mem _ q,g⟩
theorem Ho {z:List ah} (h:aG ah.k z) (b:∀ x∈z,e.k<x.k):aG ah.k (dM e++z):=by
 unfold dM;split
 ·exact h
 ·exact List.pairwise_cons.2 ⟨b,h⟩
variable {a l:List ah}
theorem acO:aG ah.k a->aG ah.k l->aG ah.k (aX a l):=by
 refine pX (P:=fun a l=>aG ah.k a->aG ah.k l->aG ah.k (aX a l)) (fun a h _=>?_) (fun e r ih h h'=>?_) (fun a bG e r c ih h h'=>?_) (fun a bG e r c ih h h'=>?_) (fun a bG e r c ih h h'=>?_) _ a l (Nat.le_refl _)
 ·rw [xJ];exact h
 ·rw [xK]
  exact Ho (ih h h'.tail) fun x hx=>by
   rcases uA _ _ hx with q | ⟨q,_⟩
   ·cases q
   ·exact h'.head x q
 ·rw [xL _ _ c]
  refine List.pairwise_cons.2 ⟨fun x hx=>?_,ih h.tail h'⟩
  rcases uA _ _ hx with q | ⟨q,_⟩
  ·exact h.head x q
  ·rcases List.mem_cons.1 q with q | q
   ·rw [q];exact c
   ·have:=h'.head x q;omega
 ·rw [xM _ _ c]
  exact Ho (ih h.tail h'.tail) fun x hx=>by
   rcases uA _ _ hx with q | ⟨q,_⟩
   ·have:=h.head x q;omega
   ·exact h'.head x q
 ·rw [xN _ _ c]
  exact Ho (ih h h'.tail) fun x hx=>by
   rcases uA _ _ hx with q | ⟨q,_⟩
   ·rcases List.mem_cons.1 q with q | q
    ·rw [q];exact c
    ·have:=h.head x q;omega
   ·exact h'.head x q
def xO (o p:Option ah):Option ah:=match o with
 | some e=>if e.g=true then none else some e
 | none=>p
theorem Hp (q:Int) (e:ah) (z:List ah):look ah.k q (dM e++z)=if e.k=q then (if e.g=true then look ah.k q z else some e) else look ah.k q z:=by
 unfold dM;cases h:e.g
 ·show look ah.k q (e::z)=_
  rw [cN];simp
 ·simp
theorem acP (q:Int):aG ah.k a->aG ah.k l->look ah.k q (aX a l)=xO (look ah.k q l) (look ah.k q a):=by
 refine pX (P:=fun a l=>aG ah.k a->aG ah.k l->look ah.k q (aX a l)=xO (look ah.k q l) (look ah.k q a)) (fun a h _=>?_) (fun e r ih h h'=>?_) (fun a bG e r c ih h h'=>?_) (fun a bG e r c ih h h'=>?_) (fun a bG e r c ih h h'=>?_) _ a l (Nat.le_refl _)
 ·rw [xJ];rfl
 ·rw [xK,Hp,ih h h'.tail,cN]
  by_cases c:e.k=q
  ·subst c
   rw [if_pos rfl,if_pos rfl,aG.below h'.head];rfl
  ·rw [if_neg c,if_neg c]
 ·rw [xL _ _ c,cN,ih h.tail h',cN q a]
  by_cases d:a.k=q
  ·subst d
   rw [if_pos rfl,if_pos rfl,aG.below (l:=e::r) fun x hx=>by
    rcases List.mem_cons.1 hx with y | y
    ·rw [y];exact c
    ·have:=h'.head x y;omega]
   rfl
  ·rw [if_neg d,if_neg d]
 ·rw [xM _ _ c,Hp,ih h.tail h'.tail,cN q e,cN q a]
  by_cases d:e.k=q
  ·subst d
   rw [if_pos rfl,if_pos rfl,aG.below h'.head,aG.below (l:=bG) fun x hx=>by have:=h.head x hx;omega]
   rfl
  ·rw [if_neg d,if_neg d,if_neg (by omega)]
 ·rw [xN _ _ c,Hp,ih h h'.tail,cN q e]
  by_cases d:e.k=q
  ·subst d
   rw [if_pos rfl,if_pos rfl,aG.below h'.head,aG.below (l:=a::bG) fun x hx=>by
    rcases List.mem_cons.1 hx with y | y
    ·rw [y];exact c
    ·have:=h.head x y;omega]
   rfl
  ·rw [if_neg d,if_neg d]
theorem Sd (q:Int) (x:List ah) (L:List (List ah)):cI ah.k q (x::L)=(look ah.k q x).or (cI ah.k q L):=by
 rw [cI];cases look ah.k q x<;>rfl
def aV (L:List (List ah)):List ah:=L.foldl aX []
theorem Se (L:List (List ah)) (x:List ah):aV (L++[x])=aX (aV L) x:=by unfold aV;rw [List.foldl_append];rfl
theorem Hq (q:Int):∀ L:List (List ah),(∀ l∈L,aG ah.k l)->aG ah.k (aV L.reverse)/\(∀ x∈aV L.reverse,x.g=false)/\look ah.k q (aV L.reverse)=xO (cI ah.k q L) none
 | [],_=>⟨List.Pairwise.nil,fun x hx=>(by cases hx),rfl⟩
 | x::L,h=>by
  obtain ⟨a,b,c⟩:=Hq q L fun l hl=>h l (List.mem_cons_of_mem _ hl)
  have hx:=h x (List.mem_cons_self ..);rw [List.reverse_cons,Se];refine ⟨acO a hx,fun y hy=>?_,?_⟩
  ·rcases uA _ _ hy with z | ⟨_,z⟩
   ·exact b y z
   ·exact z
  ·rw [acP q a hx,c]
   rw [Sd];cases look ah.k q x<;>rfl
variable {rs:List (Option Rn)}
theorem acQ (hl:aG ah.k l) (hr:∀ r,some r∈rs->aG ah.k r.l):aG ah.k (aV ((lists rs).reverse++[l]))/\(∀ x∈aV ((lists rs).reverse++[l]),x.g=false)/\(∀ q,(look ah.k q (aV ((lists rs).reverse++[l]))).map ah.v=dK l rs q)/\aS (bE l rs) (aV ((lists rs).reverse++[l])).length:=by
 have hL:∀ x∈l::lists rs,aG ah.k x:=fun x hx=>by
  rcases List.mem_cons.1 hx with rfl | y
  ·exact hl
  ·rw [R',List.mem_filterMap] at y
   obtain ⟨o,ho,e⟩:=y;obtain ⟨u,hu,rfl⟩:=List.mem_map.1 ho;cases u with
   | none=>cases e
   | some r=>cases e;exact hr r hu
 have e:(lists rs).reverse++[l]=(l::lists rs).reverse:=by rw [List.reverse_cons]
 rw [e];have A:=fun q=>Hq q _ hL
 have V:∀ q,(look ah.k q (aV (l::lists rs).reverse)).map ah.v=dK l rs q:=fun q=>by
  rw [(A q).2.2];show _=wZ ((look ah.k q l).or (cI ah.k q (lists rs)));have f:cI ah.k q (l::lists rs)=(look ah.k q l).or (cI ah.k q (lists rs)):=Sd q l _;rw [f];cases (look ah.k q l).or (cI ah.k q (lists rs)) with
  | none=>rfl
  | some x=>unfold xO wZ;cases hg:x.g<;>simp [hg]
 refine ⟨(A 0).1,(A 0).2.1,V,(aV (l::lists rs).reverse).map ah.k,AM (A 0).1,fun q=>?_,by simp⟩
 rw [<-xd,<-V q,Option.isSome_map];constructor
 ·intro h
  obtain ⟨x,hx,rfl⟩:=List.mem_map.1 h;rw [vV (A 0).1 hx];rfl
 ·intro h
  obtain ⟨x,hx⟩:=Option.isSome_iff_exists.1 h;exact List.mem_map.2 ⟨x,List.mem_of_find?_eq_some hx,vP hx⟩
variable {i:Nat}
theorem uB (l:List ah) (h:i<l.length):l.drop i=l.getD i ax::l.drop (i+1):=by
 rw [List.drop_eq_getElem_cons h];simp [List.getD,h]
variable {j:Nat}
theorem acR (hk:k<a.length) (hj:j<l.length) (c:(a.getD k ax).k<(l.getD j ax).k):aX (a.drop k) (l.drop j)=a.getD k ax::aX (a.drop (k+1)) (l.drop j):=by
 rw [uB a hk,uB l hj,xL _ _ c]
theorem acS (hk:k<a.length) (hj:j<l.length) (c:(a.getD k ax).k=(l.getD j ax).k):aX (a.drop k) (l.drop j)=dM (l.getD j ax)++aX (a.drop (k+1)) (l.drop (j+1)):=by
 rw [uB a hk,uB l hj,xM _ _ c]
theorem Sf (hj:j<l.length) (c:k<a.length->(l.getD j ax).k<(a.getD k ax).k):aX (a.drop k) (l.drop j)=dM (l.getD j ax)++aX (a.drop k) (l.drop (j+1)):=by
 rw [uB l hj];by_cases hk:k<a.length
 ·rw [uB a hk,xN _ _ (c hk)]
 ·rw [List.drop_eq_nil_of_le (Nat.le_of_not_lt hk),xK]
theorem Sh (hj:l.length<=j):aX (a.drop k) (l.drop j)=a.drop k:=by rw [List.drop_eq_nil_of_le hj,xJ]
def oo:ah:=⟨1,10,false⟩
def pY:ah:=⟨2,20,false⟩
def rW:ah:=⟨3,30,false⟩
def uC:ah:=⟨4,40,false⟩
def Si:Nat->List ah
 | 0=>[]
 | 1=>[oo]
 | 2=>[oo,pY]
 | _=>[oo,pY,rW]
def pZ (m:Nat) (l:List ah) (rs:List (Option Rn)) (B W:Int):Prop :=
 (m<=3/\l=Si m/\rs=List.replicate 40 none/\B=0/\W=0)\/(m=4/\l=[]/\(∃ r,rs=some r::List.replicate 39 none/\r.l=[oo,pY,rW,uC])/\B=1/\W=4)
theorem acT (n:Nat) (q:Int):nw q (List.replicate n none)=none:=by
 have:=v8 q n []
 rw [List.append_nil] at this;rw [this];rfl
variable {B W:Int}
theorem acU {m:Nat} (hm:m<4) (h:pZ m l rs B W):dK l rs ((m:Int)+1)=none:=by
 rcases h with ⟨_,rfl,rfl,_,_⟩ | ⟨x,_⟩
 ·unfold dK dB
  rw [acT]
  match m,hm with
  | 0,_=>rfl
  | 1,_=>rfl
  | 2,_=>rfl
  | 3,_=>rfl
 ·omega
variable {HR:bQ} {w w':World}
theorem acV {m:Nat} {l':List ah} {aM:List (Option Rn)} {B' W':Int} (hm:m<4) (h:pZ m l rs B W) (c:mT HR w w' 2 4 l rs B W l' aM B' W' ⟨(m:Int)+1,10*((m:Int)+1),false⟩):pZ (m+1) l' aM B' W':=by
 rcases h with ⟨_,rfl,rfl,rfl,rfl⟩ | ⟨x,_⟩
 ·match m,hm with
  | 0,_ =>
   rcases c with ⟨_,rfl,rfl,rfl,rfl⟩ | ⟨x,_⟩
   ·exact .inl ⟨by decide,rfl,rfl,rfl,rfl⟩
   ·exact absurd x (by decide)
  | 1,_ =>
   rcases c with ⟨_,rfl,rfl,rfl,rfl⟩ | ⟨x,_⟩
   ·exact .inl ⟨by decide,rfl,rfl,rfl,rfl⟩
   ·exact absurd x (by decide)
  | 2,_ =>
   rcases c with ⟨_,rfl,rfl,rfl,rfl⟩ | ⟨x,_⟩
   ·exact .inl ⟨by decide,rfl,rfl,rfl,rfl⟩
   ·exact absurd x (by decide)
  | 3,_ =>
   rcases c with ⟨x,_⟩ | ⟨_,rfl,o,kept,rn,tr,ld,rfl,rfl,rfl⟩
   ·exact absurd x (by decide)
   ·have il:ins ah.k ⟨((3:Nat):Int)+1,10*(((3:Nat):Int)+1),false⟩ (Si 3)=[oo,pY,rW,uC]:=rfl
    have f0:aZ (List.replicate 40 none)=0:=rfl;have eo:o=[oo,pY,rW,uC]:=by
     have mg:=tr.mg;rw [il] at mg;refine mg.one (b:=[oo,pY,rW,uC]) ?_;rw [show lists ((List.replicate 40 (none:Option Rn)).take (aZ (List.replicate 40 none)+1))=[] from rfl];exact ⟨rfl,rfl,rfl,rfl,rfl⟩
    have ek:kept=[oo,pY,rW,uC]:=by rw [tr.kp,eo];rfl
    rcases ld with ⟨x,_⟩ | ⟨_,r,rfl,_,rl,_⟩
    ·rw [ek] at x;cases x
    ·refine .inr ⟨rfl,rfl,⟨r,rfl,by rw [rl,ek]⟩,?_,?_⟩
     ·rw [ek];rfl
     ·rw [ek];rfl
 ·omega
theorem acW (w:World):Calls prog 13 #[] w fun e w'=>e=.returned (.agg #[AI 2,AI 4,AI 100])/\Gw w w':=by
 go_enter func13,ntmps13;go_wp2_with fail;exact bodyPost_ret (v:=.agg #[AI 2,AI 4,AI 100]) (by simp [results,results13,go_sem]) rfl ⟨rfl,(Gw.refl w).alloc _ _⟩
theorem acX (H:bJ HR) (w:World):Calls prog 4 #[] w fun e w'=>e=.returned (.bool true)/\Gw w w':=by
 have HH:ag (bJ HR):=H;have NW:ag (∀ W,Gw w W->Calls prog 12 #[.agg #[AI 2,AI 4,AI 100]] W fun e w'=>(∃ p F,e=.returned (.tuple #[BY p,AI 0])/\Tw HR w w' p F 2 4 100 [] (List.replicate 40 none) 0 0 0)/\Gw W w'):=fun W gg=>(acL H 2 4 100 W).mono fun e w' ⟨h,g⟩=>by
  rcases h with ⟨x,_⟩ | ⟨_,p,F,x1,x2,x3⟩
  ·exact absurd (by unfold eX;decide) x
  ·exact ⟨⟨p,F,x1,x2,fun q hq=>Nat.le_trans gg.size (x3 q hq),gg.trans g⟩,g⟩
 have PU:ag (∀ (W:World) (p:Nat) (F:Nat->Prop) (l:List ah) (rs:List (Option Rn)) (B W_:Int) (m:Nat),m<4->Tw HR w W p F 2 4 100 l rs B W_ m->pZ m l rs B W_->Calls prog 10 #[BY p,By ((m:Int)+1),By (10*((m:Int)+1))] W fun e w'=>e=.returned (AI 0)/\∃ F' l' aM B' W',Tw HR w w' p F' 2 4 100 l' aM B' W' (m+1)/\pZ (m+1) l' aM B' W'):=fun W p F l rs B W_ m hm ht hs=>by
  have bd:(l.length+1+tot rs<=2000000)/\(0<=B/\B<4611686018427387904)/\0<=W_/\W_<4611686018427387904:=by
   rcases hs with ⟨a,rfl,rfl,rfl,rfl⟩ | ⟨a,_⟩
   ·match m,hm with
    | 0,_=>exact ⟨by decide,by decide,by decide⟩
    | 1,_=>exact ⟨by decide,by decide,by decide⟩
    | 2,_=>exact ⟨by decide,by decide,by decide⟩
    | 3,_=>exact ⟨by decide,by decide,by decide⟩
   ·omega
  refine (Rz HH.o ht.ht bd.1 bd.2.1 bd.2.2 ((m:Int)+1) (10*((m:Int)+1)) (by omega) (by omega)).mono fun e w' h=>?_
  have vn:=acU hm hs;rcases h with ⟨⟨_,x⟩,_⟩ | ⟨_,x,y⟩
  ·omega
  ·rw [vn,if_pos rfl] at y
   obtain ⟨F',l',aM,B',W',a,b,_⟩:=ht.step y;exact ⟨x,F',l',aM,B',W',a,acV hm hs b⟩
 clear H;go_enter func4,ntmps4;go_wp2_with fail;refine (acW w).mono ?_;rintro e w1 ⟨rfl,g1⟩;have G1:ag (Gw w w1):=g1;clear g1;go_wp2_with fail;refine Calls.mono (NW.o w1 G1.o) ?_;rintro e w2 ⟨⟨p,F,rfl,ht⟩,g2⟩;have T2:ag (∃ F l rs B W,Tw HR w w2 p F 2 4 100 l rs B W 0/\pZ 0 l rs B W):=⟨F,_,_,_,_,ht,.inl ⟨by decide,rfl,rfl,rfl,rfl⟩⟩
 have qn:∀ (W:World),(binOp .eql 30 (BY p) (.pointer none)).run prog W=.ok (.bool false) W:=fun _=>by kernel_rfl
 clear ht g2 NW G1;go_wp2_with fail;go_loopg [3] 5 (fun gg s3 wr=>∃ m:Nat,s3=By ((m:Int)+1)/\m<=4/\4-m<gg/\ag (∃ F l rs B W,Tw HR w wr p F 2 4 100 l rs B W m/\pZ m l rs B W))
 case atStart=>exact ⟨0,rfl,by omega,by omega,T2⟩
 case round =>
  clear T2;obtain ⟨m,rfl,a1,a2,T⟩:=hrel;by_cases ar:m<4
  ·have t1:decide ((m:Int)+1<=4)=true:=by simp;omega
   have w1:IntKind.u64.wrap (10*((m:Int)+1))=10*((m:Int)+1):=by rw [IntKind.wrap_u64];omega
   have w2:IntKind.u64.wrap ((m:Int)+1+1)=((m+1:Nat):Int)+1:=by rw [IntKind.wrap_u64];omega
   obtain ⟨F,l,rs,B,W,x1,x2⟩:=T.o;have PC:=PU.o wr p F l rs B W m ar x1 x2;clear x1 x2 T;go_wp2_with fail;refine Calls.mono PC ?_;rintro e u1 ⟨rfl,hT⟩;have T':ag (∃ F l rs B W,Tw HR w u1 p F 2 4 100 l rs B W (m+1)/\pZ (m+1) l rs B W):=hT;clear hT PC;go_wp2_with fail;go_roundg (4-m)
   case measure=>omega
   case rel=>exact ⟨m+1,by first | rfl | (rw [w2]) | (congr 1;omega),by omega,by omega,T'⟩
  ·have em:m=4:=by omega
   subst em;obtain ⟨F,l,rs,B,W,x1,x2⟩:=T.o;rcases x2 with ⟨x,_⟩ | ⟨_,rfl,⟨r,rfl,rl⟩,rfl,rfl⟩
   ·exact absurd x (by decide)
   have TW:ag (Tw HR w wr p F 2 4 100 [] (some r::List.replicate 39 none) 1 4 4):=x1;have RL:ag (r.l=[oo,pY,rW,uC]):=rl;have ST:ag (Calls prog 14 #[BY p] wr fun e w'=>(∃ b,e=.returned (.agg #[AI 4,AI 0,AI 1,AI 4,.slice (some ⟨b,0,none⟩) 1 1])/\wr.heap.size<=b/\w'.cell? ⟨b,0,none⟩=some (AI 4)/\b<w'.heap.size)/\Gw wr w'):=(acF HH.o x1.ht).mono fun e w' ⟨⟨b,t,e1,sz⟩,g⟩=>by
    have t1:t=1:=sz.top.one ⟨by simp,fun i hi=>by
     rw [List.getD_eq_getElem?_getD];obtain ⟨j,rfl⟩:∃ j,i=j+1:=⟨i-1,by omega⟩
     rw [List.getElem?_cons_succ,List.getElem?_replicate];split<;>rfl,.inr ⟨r,rfl⟩⟩
    subst t1;refine ⟨⟨b,e1,sz.new,?_⟩,g⟩;have c:=sz.row.cell (i:=0) (by decide)
    rw [show ((some r::List.replicate 39 none:List (Option Rn)).getD 0 none)=some r from rfl,show jt (some r)=4 by show r.l.length=4;rw [rl];rfl] at c
    exact ⟨c,sz.row.lt⟩
   clear x1 rl T;go_wp2_with fail;refine Calls.mono ST.o ?_;rintro e u1 ⟨⟨b,rfl,nb,hb,bu⟩,gg⟩;obtain ⟨bs,Hr⟩:∃ x,u1.heap.size=x:=⟨_,rfl⟩;have BS:ag (u1.heap.size=bs):=Hr;have T1:ag (Tw HR w (u1.alloc (.cells #[AI 4,AI 0,AI 1,AI 4,.slice (some ⟨b,0,none⟩) 1 1] 52)) p F 2 4 100 [] (some r::List.replicate 39 none) 1 4 4):=TW.o.to HH.o.kp (gg.alloc _ _);have K1:ag (aT wr [(bs,#[AI 4,AI 0,AI 1,AI 4,.slice (some ⟨b,0,none⟩) 1 1],52)] (u1.alloc (.cells #[AI 4,AI 0,AI 1,AI 4,.slice (some ⟨b,0,none⟩) 1 1] 52))/\(u1.alloc (.cells #[AI 4,AI 0,AI 1,AI 4,.slice (some ⟨b,0,none⟩) 1 1] 52)).cell? ⟨b,0,none⟩=some (AI 4)/\wr.heap.size<=b/\b<u1.heap.size):=by
    refine ⟨by rw [<-Hr];exact (aT.nil gg).add _ _,?_,nb,bu⟩
    exact (((Gw.refl u1).alloc _ _).cell _ _ bu).trans hb
   clear hb nb gg ST Hr;go_upto_region 11 with fail;rw [BS.o];have Hs:ag (u1.heap.size<(u1.alloc (.cells #[AI 4,AI 0,AI 1,AI 4,.slice (some ⟨b,0,none⟩) 1 1] 52)).heap.size):=by show _<_;simp
   generalize u1.alloc (.cells #[AI 4,AI 0,AI 1,AI 4,.slice (some ⟨b,0,none⟩) 1 1] 52)=v1 at T1 K1 Hs ⊢;have FW:ag (∀ q,F q->q<wr.heap.size):=fun q hq=>TW.o.ht.lt HH.o.kp q (.inl hq)
   have KK:ag (∀ v2,Gx F v1 v2->v2.heap[bs]?=some (.cells #[AI 4,AI 0,AI 1,AI 4,.slice (some ⟨b,0,none⟩) 1 1] 52 (0,0))/\v2.cell? ⟨b,0,none⟩=some (AI 4)/\b<v2.heap.size):=fun v2 g=>by
    have k:=K1.o.1.lie (bs,#[AI 4,AI 0,AI 1,AI 4,.slice (some ⟨b,0,none⟩) 1 1],52) (by simp)
    have z:=K1.o.1.gw0.size;have bw:wr.heap.size<=bs:=by rw [<-BS.o];have:=K1.o.2.2;omega
    refine ⟨(g.block bs (aC k) (fun x=>by have:=FW.o bs x;omega)).trans k,?_,Nat.lt_of_lt_of_le (by have:=Hs.o;have:=K1.o.2.2.2;omega) g.size⟩
    have e:=g.block b (by have:=Hs.o;have:=K1.o.2.2.2;omega) (fun x=>by have:=FW.o b x;have:=K1.o.2.2.1;omega)
    have c:=K1.o.2.1;unfold World.cell? at c ⊢;simp only at c ⊢;rw [e];exact c
   have V2:dK [] (some r::List.replicate 39 none) 2=some 20:=by
    unfold dK dB;rw [nU,RL.o];rfl
   have DL:ag (Calls prog 11 #[BY p,By 2] v1 fun e w'=>e=.returned (.bool true)/\(∃ F',Tw HR w w' p F' 2 4 100 [⟨2,0,true⟩] (some r::List.replicate 39 none) 1 4 3)/\Gx F v1 w'):=(Ha HH.o T1.o.ht (by rw [tR,RL.o];decide) (by decide) (by decide) 2 (by decide)).mono fun e w' h=>by
    rcases h with ⟨x,_⟩ | ⟨_,x,_,y⟩
    ·rw [V2] at x;cases x
    ·obtain ⟨F',l',aM,B',W',a,b,_,d⟩:=T1.o.step y
     rcases b with ⟨_,rfl,rfl,rfl,rfl⟩ | ⟨z,_⟩
     ·exact ⟨x,⟨F',a⟩,d⟩
     ·exact absurd z (by decide)
   clear V2 K1 T1 TW;go_wp2_with fail;refine Calls.mono DL.o ?_;rintro e v2 ⟨rfl,⟨F2,t2⟩,g2⟩;have T2:ag (Tw HR w v2 p F2 2 4 100 [⟨2,0,true⟩] (some r::List.replicate 39 none) 1 4 3):=t2;have K2:ag (v2.heap[bs]?=some (.cells #[AI 4,AI 0,AI 1,AI 4,.slice (some ⟨b,0,none⟩) 1 1] 52 (0,0))/\v2.cell? ⟨b,0,none⟩=some (AI 4)/\b<v2.heap.size):=KK.o v2 g2;have V2:dK [⟨2,0,true⟩] (some r::List.replicate 39 none) 2=none:=by
    unfold dK dB;rw [nU,RL.o];rfl
   have V3:dK [⟨2,0,true⟩] (some r::List.replicate 39 none) 3=some 30:=by
    unfold dK dB;rw [nU,RL.o];rfl
   have Sj:ag (Calls prog 11 #[BY p,By 2] v2 fun e w'=>e=.returned (.bool false)/\Gw v2 w'):=(Ha HH.o t2.ht (by rw [tR,RL.o];decide) (by decide) (by decide) 2 (by decide)).mono fun e w' h=>by
    rcases h with ⟨_,x,g⟩ | ⟨x,_⟩
    ·exact ⟨x,g⟩
    ·exact absurd V2 x
   have G3:ag (∀ W,Gw v2 W->Calls prog 15 #[BY p,By 3] W fun e w'=>e=.returned (.tuple #[By 30,.bool true])/\Gw W w'):=fun W g=>by
    have:=AZ HH.o (t2.ht.gw HH.o.kp g) (by decide) 3 (by decide) (by decide)
    rw [V3] at this;exact this
   have G2:ag (∀ W,Gw v2 W->Calls prog 15 #[BY p,By 2] W fun e w'=>e=.returned (.tuple #[By 0,.bool false])/\Gw W w'):=fun W g=>by
    have:=AZ HH.o (t2.ht.gw HH.o.kp g) (by decide) 2 (by decide) (by decide)
    rw [V2] at this;exact this
   clear V2 V3 t2 g2 DL KK;go_wp2_with fail;refine Calls.mono Sj.o ?_;rintro e v3 ⟨rfl,g3⟩;have GA:ag (Gw v2 v3):=g3;clear g3 Sj;go_wp2_with fail;refine Calls.mono (G3.o v3 GA.o) ?_;rintro e v4 ⟨rfl,g4⟩;have GB:ag (Gw v2 v4):=GA.o.trans g4;clear g4 GA G3;go_wp2_with fail;refine Calls.mono (G2.o v4 GB.o) ?_;rintro e v5 ⟨rfl,g5⟩;have GC:ag (Gw v2 v5):=GB.o.trans g5;have b5:=(GC.o.below.block bs (aC K2.o.1)).trans K2.o.1;have s0:v5.cell? ⟨bs,0,none⟩=some (AI 4):=aj b5 rfl;have s1:v5.cell? ⟨bs,1,none⟩=some (AI 0):=aj b5 rfl;have s2:v5.cell? ⟨bs,2,none⟩=some (AI 1):=aj b5 rfl;have s3:v5.cell? ⟨bs,3,none⟩=some (AI 4):=aj b5 rfl;have s4:v5.cell? ⟨bs,4,none⟩=some (.slice (some ⟨b,0,none⟩) 1 1):=aj b5 rfl;have sl:=aC b5;have sb:v5.cell? ⟨b,0,none⟩=some (AI 4):=(GC.o.cell _ _ K2.o.2.2).trans K2.o.2.1;have sbl:b<v5.heap.size:=Nat.lt_of_lt_of_le K2.o.2.2 GC.o.size;have ak:ag (Gw w v5):=T2.o.gw.trans GC.o;clear g5 b5 GB GC G2 K2 T2;go_wp2_with fail;go_ret;exact ⟨rfl,ak.o⟩
end Go.Proofs.YtcboobmfnmgldaaGreat
