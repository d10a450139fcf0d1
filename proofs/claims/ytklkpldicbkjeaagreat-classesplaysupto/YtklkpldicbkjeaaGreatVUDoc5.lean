/- The document's layer 15: Take. -/
import Derived.Test.YtklkpldicbkjeaaGreatVUPlM
set_option linter.unusedVariables false
set_option maxHeartbeats 16000000
set_option maxRecDepth 20000
open Go.Proofs.Tryz
namespace Go.Proofs.YtklkpldicbkjeaaGreat
open Go.RowKit
theorem Rm {rs:List (Option Rn)} {i:Nat} (hi:i<rs.length):(List.replicate i (none:Option Rn)++rs.drop i).getD i none=rs.getD i none:=by
 rw [List.getD_eq_getElem?_getD,List.getElem?_append_right (by simp),List.length_replicate,Nat.sub_self,List.getElem?_drop,Nat.add_zero,<-List.getD_eq_getElem?_getD]
theorem acs {rs:List (Option Rn)} {i:Nat} {r:Rn} (h:some r∈List.replicate i (none:Option Rn)++rs.drop i):some r∈rs:=by
 rcases List.mem_append.1 h with q | q
 ·simp at q
 ·exact List.mem_of_mem_drop q
theorem acu {rs:List (Option Rn)} {i k:Nat} (h:i<=k):(List.replicate i (none:Option Rn)++rs.drop i).drop k=rs.drop k:=by
 rw [List.drop_append,List.drop_of_length_le (by simp;omega),List.nil_append,List.length_replicate,List.drop_drop,show i+(k-i)=k by omega]
theorem acv {rs:List (Option Rn)} (h:rs.length=40) {j:Nat} (hj:freeC rs=j) (o:Option Rn):(List.replicate (j+1) (none:Option Rn)++rs.drop (j+1)).set j o=laid rs o:=by
 unfold laid;rw [hj,List.set_append_left _ _ (by simp),List.replicate_succ',List.set_append_right _ _ (by simp),List.length_replicate,Nat.sub_self,List.set_cons_zero,List.append_assoc]
 rfl
theorem acw {rs:List (Option Rn)} {j:Nat} (hj:freeC rs=j):List.replicate (j+1) (none:Option Rn)++rs.drop (j+1)=laid rs none:=by
 unfold laid;rw [hj,List.replicate_succ',List.append_assoc];rfl
theorem acx (O5:l6) {w:World} {p rb:Nat} {rs:List (Option Rn)} {eps buf B W:Int} (h:aG w p rb rs eps buf B W) (ao:Option Addr) (c:Nat) (l:List ah) (hl:EL w ao l) (hc:l.length<=c) (hz:ao=none->l.length=0/\c=0) (ha:∀ a,ao=some a->0<l.length->a.block≠rb) (hs:l.length+tot rs<=2000000) (hB:0<=B/\B<4611686018427387904) (hW:0<=W/\W<4611686018427387904) :
  Calls prog 10 #[.pointer (some ⟨p,0,none⟩),.slice ao l.length c] w fun e w'=>dp aR (fun w' rs B W=>aG w' p rb rs eps buf B W) (fun q=>q=p\/q=rb) w w' e rs l eps buf B W:=by
 have HC:ag _:=h;have OO:ag l6:=O5;have HL:ag _:=hl;have CK:ag (∀ W,Gw w W->Calls prog 35 #[.slice ao l.length c] W fun e w'=>(∃ r:Int,e=.returned (.int .i64 r)/\dS (ek l) (ev l) (eg l) l.length r)/\Gw W w'):=fun W gg=>MA ao l.length c (ek l) (ev l) (eg l) (by omega) W (hl.gw gg)
 have HA:ag (∀ a,ao=some a->0<l.length->a.block≠rb):=ha;have HS:ag (l.length+tot rs<=2000000/\l.length<=c/\(ao=none->l.length=0/\c=0)):=⟨hs,hc,hz⟩;have wX:ag ((0<=B/\B<4611686018427387904)/\0<=W/\W<4611686018427387904):=⟨hB,hW⟩;obtain ⟨n,hn⟩:∃ n,l.length=n:=⟨_,rfl⟩;have LN:ag _:=hn;rw [hn] at CK ⊢;have n1:n<=2000000:=by omega
 obtain ⟨bq,bQ⟩:∃ b,w.heap.size=b:=⟨_,rfl⟩;have BQ:ag _:=bQ;have hp:=h.plt;have ly:=h.blt;have pq:p≠bq/\rb≠bq:=⟨by omega,by omega⟩
 have PQ:ag _:=pq;have BX:ag (bA w [(bq,#[.int .i64 0,.int .i64 0,.int .i64 0],42)] (w.alloc (.cells #[.int .i64 0,.int .i64 0,.int .i64 0] 42))):=by rw [<-bQ];exact (bA.nil (Gw.refl w)).add _ _
 clear h ha hl hc hz hs hB hW hn bQ O5 pq;go_enter func10,ntmps10;go_wp2_with fail;rw [BQ.o];generalize w.alloc (.cells #[.int .i64 0,.int .i64 0,.int .i64 0] 42)=w1 at BX ⊢;refine Calls.mono (CK.o w1 BX.o.gw0) ?_;rintro e w2 ⟨⟨r,rfl,cr⟩,g2⟩;have CR:ag (dS (ek l) (ev l) (eg l) n r):=by have:=cr;rw [<-LN.o] at this ⊢;exact this
 have B2:ag _:=BX.o.gw g2;clear g2 cr CK BX;by_cases r0:r=0
 ·subst r0
  have c1:=(HC.o.gw B2.o.gw0).c1;have pl:=(HC.o.gw B2.o.gw0).plt;have bl:=(HC.o.gw B2.o.gw0).blt;by_cases nb:(n:Int)=buf
  ·have Fj:ag (cK l):=by have:=CR.o;rw [<-LN.o] at this;exact this
   have FU:ag _:=nb;have iS:((n:Int) != buf)=false:=by simpa using nb
   obtain ⟨j,hj⟩:∃ j,freeC rs=j:=⟨_,rfl⟩;have JJ:ag _:=hj;have mJ:j<40:=by rw [<-hj];exact au.freeC_lt rs
   clear nb hj;go_upto_block 0 with fail;go_cut [6] (fun s6 wc=>s6=.int .i64 (j:Int)/\wc=w2)
   case first =>
    obtain ⟨cc,_,c2⟩:=(HC.o.gw B2.o.gw0).c2;go_wp2_with fail;go_loopg [6] 40 (fun gg s6 wr=>∃ i:Nat,s6=.int .i64 (i:Int)/\i<=39/\40-i<=gg/\wr=w2/\ag (∀ k,k<i->∃ r,rs.getD k none=some r))
    case atStart=>exact ⟨0,rfl,by omega,by omega,rfl,(show ag _ from fun k hk=>by omega)⟩
    case round =>
     obtain ⟨i,rfl,a1,a2,hw,N⟩:=hrel;subst hw;by_cases ak:i<39
     ·have dG:(i:Int)<39:=by omega
      have i40:(i:Int)<40:=by omega
      have ci:=(HC.o.gw B2.o.gw0).cell (i:=i) (by omega)
      rcases iJ rs i with e | ⟨r,e⟩
      ·rw [e] at ci
       have cu:wr.cell? ⟨rb,i,none⟩=some (.pointer none):=ci;have EI:ag (i=j):=by rw [<-JJ.o];exact (ace HC.o.len ak N.o e).symm
       clear ci e N;go_wp2_with fail;go_meet
       case rel=>exact ⟨by rw [EI.o],rfl⟩
      ·rw [e] at ci
       have cu:wr.cell? ⟨rb,i,none⟩=some (.pointer (some ⟨r.p,0,none⟩)):=ci;have N':ag (∀ k,k<i+1->∃ r,rs.getD k none=some r):=fun k hk=>by
        by_cases x:k=i
        ·subst x;exact ⟨r,e⟩
        ·exact N.o k (by omega)
       generalize r.p=rp at cu;clear ci e N;go_wp2_with fail;go_roundg (40-(i+1))
       case measure=>omega
       case rel=>exact ⟨i+1,by go_num,by omega,Nat.le_refl _,rfl,N'⟩
     ·have ei:i=39:=by omega
      subst ei;have EI:ag (39=j):=by rw [<-JJ.o];exact (acd HC.o.len N.o).symm
      clear N;go_wp2_with fail;go_meet
      case rel=>exact ⟨by rw [<-EI.o],rfl⟩
   case rest =>
    obtain ⟨rfl,vd⟩:=hcut;have Dc:w2=wc:=vd.symm;subst Dc;clear vd c1;obtain ⟨jj,kX,jz,js,kY⟩:=info_parts Nu;have z2:=B2.o.gw0.size;have Ro:ag _:=aE (B2.o.lie (bq,#[.int .i64 0,.int .i64 0,.int .i64 0],42) (by simp))
    have R1:ag ((w2.alloc (.cells #[.slice ao n c] 35)).ownsRow w2.heap.size 35 1 (.slice (some ⟨w2.heap.size,0,none⟩) 1 1) 1 [.slice ao n c]):=⟨rfl,.inr ⟨w2.heap.size,1,_,rfl,Nat.le_refl _,heap_alloc_new w2 _,Nat.le_refl _,(by decide),rfl,rfl⟩⟩
    have K1:ag (TL (w2.alloc (.cells #[.slice ao n c] 35)) w2.heap.size [.slice ao n c] (l::lists (rs.take 0))):=by
     refine ⟨rfl,fun i hi=>?_⟩
     have bV:i<1:=hi;have e:i=0:=by omega
     subst e;have Rp:=HL.o.gw B2.o.gw0;refine ⟨ao,c,by show some (Value.slice ao n c)=some (.slice ao l.length c);rw [LN.o],HS.o.2.1,Rp.gw ((Gw.refl w2).alloc _ _),HS.o.2.2,fun a e z=>?_⟩
     obtain ⟨b,off,e',hb,_⟩:=Rp.cells z;rw [e] at e';cases e';exact ⟨Nat.ne_of_lt hb,Nat.lt_of_lt_of_le hb ((Gw.refl w2).alloc _ _).size⟩
    have N1:ag (NB rb [.slice ao n c] (l::lists (rs.take 0))):=by
     intro i hi bo c' hv a e z;have bV:i<1:=hi;have e0:i=0:=by omega
     subst e0;have aO:Value.slice ao n c=.slice bo l.length c':=by simpa using hv
     injection aO with h1 h2 h3;subst h1;exact HA.o a e z
    have D1:ag (aG (w2.alloc (.cells #[.slice ao n c] 35)) p rb (List.replicate 0 none++rs.drop 0) eps buf B W):=HC.o.gw (B2.o.gw0.alloc _ _);have X1:ag ((w2.alloc (.cells #[.slice ao n c] 35)).heap[bq]?=some (.cells #[.int .i64 0,.int .i64 0,.int .i64 0] 42 (0,0))/\Gx (fun q=>q=rb) w (w2.alloc (.cells #[.slice ao n c] 35))):=⟨(heap_alloc_old _ _ Ro.o).trans (B2.o.lie (bq,#[.int .i64 0,.int .i64 0,.int .i64 0],42) (by simp)),(B2.o.gw0.alloc _ _).gx _⟩
    have T1:ag _:=LN.o;have tb:∀ i,l.length+tot (rs.take i)<=2000000:=fun i=>by have:=zK rs i;have:=HS.o.1;omega
    have TB:ag _:=tb;clear tb;go_wp2_with fail;generalize w2.alloc (.cells #[.slice ao n c] 35)=W1 at R1 K1 D1 X1 ⊢;go_loopg [7,8,9] (j+1) (fun gg s7 s8 s9 wr=>∃ (i m ob oc t:Nat) (aj:List Value),s7=.slice (some ⟨ob,0,none⟩) m oc/\s8=.int .i64 (t:Int)/\s9=.int .i64 (i:Int)/\i<=j+1/\j+1-i<=gg/\m<=i+1/\t<=2000000/\ag (l.length+tot (rs.take i)=t)/\ag ((l::lists (rs.take i)).length=m)/\ag (wr.ownsRow w2.heap.size 35 1 (.slice (some ⟨ob,0,none⟩) m oc) m aj)/\ag (TL wr ob aj (l::lists (rs.take i)))/\ag (NB rb aj (l::lists (rs.take i)))/\ag (aG wr p rb (List.replicate i none++rs.drop i) eps buf B W)/\ag (wr.heap[bq]?=some (.cells #[.int .i64 0,.int .i64 0,.int .i64 0] 42 (0,0))/\Gx (fun q=>q=rb) w wr))
    case atStart=>exact ⟨0,1,w2.heap.size,1,n,_,rfl,rfl,rfl,Nat.zero_le _,by omega,Nat.le_refl _,n1,T1,(show ag _ from rfl),R1,K1,N1,D1,X1⟩
    case round =>
     clear R1 K1 N1 D1 X1 T1;obtain ⟨i,m,ob,oc,t,aj,rfl,rfl,rfl,a1,a2,a3,a4,TT,ML,R,KK,NN,HD,XX⟩:=hrel;obtain ⟨wS,aZ⟩:∃ wx,wx=wr:=⟨_,rfl⟩;subst aZ;by_cases ak:i<=j
     ·have dG:(i:Int)<=(j:Int):=by omega
      have i40:i<40:=by omega
      have acm:(i:Int)<40:=by omega
      obtain ⟨cc,_,c2⟩:=HD.o.c2;have pl:=HD.o.plt;have bl:=HD.o.blt;have ci:=HD.o.cell i40;rw [Rm (by rw [HC.o.len];exact i40)] at ci
      have TK:=tO (rs:=rs) (i:=i) (by rw [HC.o.len];exact i40)
      have RS:=acf (rs:=rs) (i:=i) (by rw [HC.o.len];exact i40)
      rcases iJ rs i with e | ⟨r,e⟩
      ·rw [e] at ci TK
       have cu:wS.cell? ⟨rb,i,none⟩=some (.pointer none):=ci;have LI:lists (rs.take (i+1))=lists (rs.take i):=by rw [TK,vR];exact List.append_nil _
       have TT':ag (l.length+tot (rs.take (i+1))=t):=by show _=_;unfold tot;rw [LI];exact TT.o
       have rj:ag ((l::lists (rs.take (i+1))).length=m):=by rw [LI];exact ML
       have Ej:ag (TL wS ob aj (l::lists (rs.take (i+1)))):=by rw [LI];exact KK
       have NN':ag (NB rb aj (l::lists (rs.take (i+1)))):=by rw [LI];exact NN
       have HD':ag (aG wS p rb (List.replicate (i+1) none++rs.drop (i+1)) eps buf B W):=by
        have eq:List.replicate i (none:Option Rn)++rs.drop i=List.replicate (i+1) none++rs.drop (i+1):=by
         rw [zQ (by rw [HC.o.len];exact i40),e,List.replicate_succ',List.append_assoc];rfl
        rw [<-eq];exact HD
       clear ci e TK RS LI TT ML KK NN HD;go_wp2_with fail;go_roundg (j+1-(i+1))
       case measure=>omega
       case rel=>exact ⟨i+1,m,ob,oc,t,aj,rfl,rfl,by go_num,by omega,Nat.le_refl _,by omega,a4,TT',rj,R,Ej,NN',HD',XX⟩
      ·rw [e] at ci TK
       have cu:wS.cell? ⟨rb,i,none⟩=some (.pointer (some ⟨r.p,0,none⟩)):=ci;have LI:ag (l::lists (rs.take (i+1))=(l::lists (rs.take i))++[r.l]):=by show _=_;rw [TK,vR];rfl
       have rm:some r∈rs:=jN (by rw [HC.o.len];exact i40) e
       have Rq:some r∈List.replicate i (none:Option Rn)++rs.drop i:=List.mem_append_right _ (by rw [zQ (by rw [HC.o.len];exact i40),e];exact List.mem_cons_self ..)
       obtain ⟨RR,rp1,Rr⟩:=HD.o.runs r Rq;have SL:=aR.lt (HC.o.runs r rm).1.h;obtain ⟨eo,ec,lo,lc,hb,uc,sp,wO,lA⟩:=RR.h.openS;obtain ⟨f0,f1,f2⟩:=qP hb;have rl:=(Array.getElem?_eq_some_iff.1 hb).1;have kA:=R.o.lt ob rfl;have Rs:r.p≠ob:=by have:=SL r.p sp;omega
       have TE:ag (l.length+tot (rs.take (i+1))=t+r.l.length):=by
        show _=_;rw [TK,DY,nY];have:=TT.o;have e0:tot []=0:=rfl;omega
       have t2:t+r.l.length<=2000000:=by rw [<-TE.o];exact TB.o _
       have jO:ag (EL wS eo r.l/\r.l.length<=ec/\(eo=none->r.l.length=0/\ec=0)/\∀ a,eo=some a->0<r.l.length->(a.block≠ob/\a.block<wS.heap.size)/\a.block≠rb):=⟨uc,wO.1,wO.2,fun a x z=>by
        have h1:=lA a x z;have h2:=SL _ h1;have h3:=aR.lt RR.h _ h1;exact ⟨⟨by omega,h3⟩,fun q=>Rr (by rw [<-q];exact h1)⟩⟩
       have pL:ag (∀ w8,Gx (fun q=>q=ob) wS w8->(∃ c,40<=c/\w8.cell? ⟨p,2,none⟩=some (.slice (some ⟨rb,0,none⟩) 40 c))/\p<w8.heap.size/\rb<w8.heap.size/\w8.cell? ⟨rb,i,none⟩=some (.pointer (some ⟨r.p,0,none⟩))/\w8.cell? ⟨r.p,0,none⟩=some (.slice eo r.l.length ec)/\r.p<w8.heap.size/\w8.frozen? ⟨rb,i,none⟩=false/\aG w8 p rb (List.replicate i none++rs.drop i) eps buf B W):=fun w8 g8=>by
        have hp0:=HC.o.plt;have yC:=HC.o.blt;have D8:=HD.o.gx g8 (by omega) (by omega) (fun q hq r' jA hx=>by
         have:=aR.lt (HC.o.runs r' (acs jA)).1.h q hx
         omega)
        have h8:=(g8.block r.p rl Rs).trans hb;have cc:=D8.cell i40;rw [Rm (by rw [HC.o.len];exact i40),e] at cc
        exact ⟨D8.c2,D8.plt,D8.blt,cc,(qP h8).1,aE h8,D8.fz i,D8⟩
       have RSA:ag _:=RS;have FY:ag ((ob≠rb/\ob≠bq)/\w2.heap.size<=ob):=⟨⟨by have:=HC.o.blt;omega,by have:=Ro.o;omega⟩,kA.1⟩
       generalize r.p=rp at cu f0 rl pL;obtain ⟨rll,Rt⟩:∃ x,r.l=x:=⟨_,rfl⟩;rw [Rt] at f0 TE t2 jO pL LI;obtain ⟨rn,mG⟩:∃ rn,rll.length=rn:=⟨_,rfl⟩;have RN:ag _:=mG;rw [mG] at f0 t2 pL TE;have wt:IntKind.i64.wrap ((t:Int)+(rn:Int))=((t+rn:Nat):Int):=by rw [IntKind.wrap_i64];omega
       clear f1 f2 ci e TK RS RR rp1 Rr SL hb uc sp wO lA Rs rm Rq kA Rt mG TT HD;go_wp2_with (at_builtin;refine wpList_append_own_at _ rfl _ _ 76 rfl w2.heap.size 35 jj (.slice none 0 0) 1 24 underlying76 kX jz js kY rfl (by decide) _ m _ rfl (R.o.alloc _) ⟨wS.heap.size,0,none⟩ 1 1 [(.slice eo rn ec)] rfl rfl (zG wS (.slice eo rn ec) 35) (fun u hu=>by simp at hu;subst hu;rfl) (by simp only [maxLen];omega) (by omega) (by have:=R.o.lt ob rfl;simp;omega) ?_)
       intro v' w8 r1 r2 r3 r4;obtain ⟨b8,cap8,rfl,nT,_,_⟩:=cS r1 (by simpa using r3)
       have nU:b8=ob\/wS.heap.size<=b8:=by
        rcases r4 with q | q
        ·have q':b8=ob:=by simpa [Value.ownBlock] using q
         exact .inl q'
        ·have q':b8=wS.heap.size+1:=by simpa [Value.ownBlock] using q
         exact .inr (by omega)
       have gD:(wS.alloc (.cells #[(.slice eo rn ec)] 35)).grownBy w8 (some ob):=r2;have g8:Gx (fun q=>q=ob) wS w8:=((Gx.refl _ wS).alloc _ _).grown gD (fun k e=>by cases e;exact .inl rfl)
       obtain ⟨⟨cc8,_,d2⟩,d3,d4,d5,d6,d7,d8,D8⟩:=pL.o w8 g8;have FZ:NB rb (aj++[(.slice eo rn ec)]) (l::lists (rs.take (i+1))):=by
        rw [LI.o];have:=NN.o.more (c:=ec) KK.o.len (fun a x z=>(jO.o.2.2.2 a x z).2)
        rw [RN.o] at this;exact this
       have K8:TL w8 b8 (aj++[(.slice eo rn ec)]) (l::lists (rs.take (i+1))):=by
        rw [LI.o];have:=KK.o.more gD nU jO.o.2.1 jO.o.1 jO.o.2.2.1 (fun a x z=>(jO.o.2.2.2 a x z).1)
        rw [RN.o] at this;exact this
       have Ru:b8≠rb:=by
        rcases nU with q | q
        ·rw [q];exact FY.o.1.1
        ·omega
       have K9:ag (TL (w8.setCell ⟨rb,i,none⟩ (.pointer none)) b8 (aj++[(.slice eo rn ec)]) (l::lists (rs.take (i+1)))):=K8.set FZ;have R9:ag ((w8.setCell ⟨rb,i,none⟩ (.pointer none)).ownsRow w2.heap.size 35 1 (.slice (some ⟨b8,0,none⟩) (m+1) cap8) (m+1) (aj++[(.slice eo rn ec)])):=oR r1 fun q hq=>Go.Deep.blk_setCell_other _ _ _ _ (by
        have e:b8=q:=by simpa [Value.ownBlock] using hq
        rw [<-e];exact Ru)
       have N9:ag _:=FZ;have D9:ag (aG (w8.setCell ⟨rb,i,none⟩ (.pointer none)) p rb (List.replicate (i+1) none++rs.drop (i+1)) eps buf B W):=by
        have:=D8.put i40 none (fun r hr=>by cases hr)
        rw [RSA.o] at this;exact this
       have X9:ag ((w8.setCell ⟨rb,i,none⟩ (.pointer none)).heap[bq]?=some (.cells #[.int .i64 0,.int .i64 0,.int .i64 0] 42 (0,0))/\Gx (fun q=>q=rb) w (w8.setCell ⟨rb,i,none⟩ (.pointer none))):=by
        refine ⟨(Go.Deep.blk_setCell_other _ _ _ _ (fun e=>PQ.o.2 e.symm)).trans ((g8.block bq (aE XX.o.1) (fun e=>FY.o.1.2 e.symm)).trans XX.o.1),?_⟩
        have gA:Gx (fun q=>q=rb) w w8:=XX.o.2.trans g8 (fun q hq=>.inr (by have:=FY.o.2;rw [hq];omega))
        exact gA.set (.inl rfl) _ _
       have rj:ag ((l::lists (rs.take (i+1))).length=m+1):=by show _=_;rw [LI.o,List.length_append,ML.o];rfl
       clear r1 r2 r3 r4 gD nT nU g8 D8 FZ K8 pL R KK NN XX jO Ru;go_wp2_with fail;go_roundg (j+1-(i+1))
       case measure=>omega
       case rel=>exact ⟨i+1,m+1,b8,cap8,t+rn,_,rfl,rfl,by go_num,by omega,Nat.le_refl _,by omega,t2,TE,rj,R9,K9,N9,D9,X9⟩
     ·have ei:i=j+1:=by omega
      subst ei;have PV:¬ ((j+1:Nat):Int)<=(j:Int):=by omega
      have rH:ag _:=KK.o.ev R.o ML.o;have iL:ag (aN (l::lists (rs.take (j+1)))=t/\t=took rs l):=⟨by rw [nV];exact TT.o,by unfold took;rw [JJ.o];exact TT.o.symm⟩
      have EN:ag (Calls prog 36 #[.slice (some ⟨ob,0,none⟩) m oc] wS fun e w'=>(∃ bo oc o,e=.returned (.slice (some ⟨bo,0,none⟩) o.length oc)/\EO w' wS.heap.size (.slice (some ⟨bo,0,none⟩) o.length oc) o/\Mg ah.k (l::lists (rs.take (j+1))) o)/\Gw wS w'):=by
       have:=aa6 (some ⟨ob,0,none⟩) oc (l::lists (rs.take (j+1))) (by rw [ML.o];omega) (fun i hi=>Nat.le_trans (Oc hi) (by rw [iL.o.1];exact a4)) (by rw [iL.o.1];exact a4) wS rH.o
       rw [ML.o] at this;exact this
      clear R KK NN TT;go_wp2_with fail;refine Calls.mono EN.o ?_;rintro e w4 ⟨⟨bo,rI,o,rfl,wY,mg⟩,g4⟩;have pG:ag (EL w4 (some ⟨bo,0,none⟩) o):=vJ wY (mg.oks rH.o.oks);have TR:ag (jK rs l o (o.filter (aS (bX (rs.drop (j+1)))))):=⟨by rw [JJ.o];exact mg,by rw [JJ.o]⟩
      have FC:ag ((cK o/\cK (o.filter (aS (bX (rs.drop (j+1))))))/\o.length<=2000000):=⟨TR.o.facts Fj.o (fun r hr=>(HC.o.runs r hr).1.ok),Nat.le_trans TR.o.few.2 (by rw [<-iL.o.2];exact a4)⟩
      have F8:ag _:=HD.o.gw g4;have X4:ag (w4.heap[bq]?=some (.cells #[.int .i64 0,.int .i64 0,.int .i64 0] 42 (0,0))/\Gx (fun q=>q=rb) w w4):=⟨(g4.below.block bq (aE XX.o.1)).trans XX.o.1,XX.o.2.tw g4⟩
      obtain ⟨on,mO⟩:∃ on,o.length=on:=⟨_,rfl⟩;have ON:ag _:=mO;have LV:ag (Calls prog 38 #[.pointer (some ⟨p,0,none⟩),.slice (some ⟨bo,0,none⟩) on rI,.int .i64 (j:Int)] w4 fun e w'=>(∃ ob m oc,e=.returned (.slice (some ⟨ob,0,none⟩) m oc)/\(aY (rs.drop (j+1)) o).length=m/\KS w' (some ⟨ob,0,none⟩) m (fun i=>(aY (rs.drop (j+1)) o).getD i 0))/\Gw w4 w'):=by
       have:=QT F8.o (some ⟨bo,0,none⟩) rI o pG.o FC.o.2 j mJ
       rw [acu (Nat.le_refl _),ON.o] at this;exact this
      rw [mO];clear wY mg g4 EN rH HD XX mO;go_wp2_with fail;refine Calls.mono LV.o ?_;rintro e w5 ⟨⟨kb,km,kc,rfl,lZ,Rv⟩,g5⟩;have SF:ag (Calls prog 37 #[.slice (some ⟨bo,0,none⟩) on rI,.slice (some ⟨kb,0,none⟩) km kc] w5 fun e w'=>(∃ ob oc,e=.returned (.slice (some ⟨ob,0,none⟩) (o.filter (aS (bX (rs.drop (j+1))))).length oc)/\EO w' w5.heap.size (.slice (some ⟨ob,0,none⟩) (o.filter (aS (bX (rs.drop (j+1))))).length oc) (o.filter (aS (bX (rs.drop (j+1))))))/\Gw w5 w'):=by
       have few:=FC.o.2;have:=aaQ (some ⟨bo,0,none⟩) rI o (some ⟨kb,0,none⟩) km kc (fun i=>(aY (rs.drop (j+1)) o).getD i 0) (by omega) (by have:=QR (rs.drop (j+1)) o;omega) w5 (pG.o.gw g5) Rv
       rw [ON.o,<-lZ,acb] at this;rw [<-lZ];exact this
      have Rw:ag _:=F8.o.gw g5;have X5:ag (w5.heap[bq]?=some (.cells #[.int .i64 0,.int .i64 0,.int .i64 0] 42 (0,0))/\Gx (fun q=>q=rb) w w5):=⟨(g5.below.block bq (aE X4.o.1)).trans X4.o.1,X4.o.2.tw g5⟩
      clear lZ Rv g5 LV F8 X4;go_wp2_with fail;refine Calls.mono SF.o ?_;rintro e w6 ⟨⟨bk,Ge,rfl,Ap⟩,g6⟩;obtain ⟨kept,rJ⟩:∃ kept,o.filter (aS (bX (rs.drop (j+1))))=kept:=⟨_,rfl⟩;have xf:∀ e∈kept,e.ok:=fun e he=>by rw [<-rJ] at he;exact pG.o.all e (List.mem_filter.1 he).1
      rw [rJ] at Ap TR FC ⊢;have Aq:ag (EL w6 (some ⟨bk,0,none⟩) kept/\kept.length<=Ge):=⟨vJ Ap xf,(Fi Ap).1⟩;have kn:kept.length<=2000000:=Nat.le_trans TR.o.few.1 (by rw [<-iL.o.2];exact a4)
      have pM:ag _:=Rw.o.gw g6;have X6:ag (w6.heap[bq]?=some (.cells #[.int .i64 0,.int .i64 0,.int .i64 0] 42 (0,0))/\Gx (fun q=>q=rb) w w6):=⟨(g6.below.block bq (aE X5.o.1)).trans X5.o.1,X5.o.2.tw g6⟩
      obtain ⟨kl,kF⟩:∃ kl,kept.length=kl:=⟨_,rfl⟩;have KL:ag _:=kF;have aJ:ag (∀ (wF:World) (rn:Option Rn),aG wF p rb (laid rs rn) eps buf (B+iK kept) (W+kept.length)->Gx (fun q=>q=p\/q=rb) w wF->mI aR w wF eps kept rn->(∀ r,rn=some r->¬ r.S bq)->∀ a b c:Value,dp aR (fun w' rs B W=>aG w' p rb rs eps buf B W) (fun q=>q=p\/q=rb) w (((wF.setCell ⟨bq,0,none⟩ a).setCell ⟨bq,1,none⟩ b).setCell ⟨bq,2,none⟩ c) (.returned (.tuple #[.agg #[.int .i64 (j:Int),.int .i64 (t:Int),.int .i64 (kl:Int)],.int .i64 0])) rs l eps buf B W):=fun wF rn hd gx ld ns a b c=>by
       have gz:Gx (fun q=>q=bq) wF (((wF.setCell ⟨bq,0,none⟩ a).setCell ⟨bq,1,none⟩ b).setCell ⟨bq,2,none⟩ c):=(((Gx.refl (fun q=>q=bq) wF).set (.inl rfl) _ _).set (.inl rfl) _ _).set (.inl rfl) _ _
       have nS:∀ r,some r∈laid rs rn->¬ r.S bq:=fun r hr hx=>by
        unfold laid at hr;rcases List.mem_append.1 hr with q | q
        ·simp at q
        ·rcases List.mem_cons.1 q with q | q
         ·exact ns r q.symm hx
         ·have:=aR.lt (HC.o.runs r (List.mem_of_mem_drop q)).1.h bq hx
          rw [BQ.o] at this;omega
       refine ⟨⟨0,by rw [LN.o];exact CR.o,.inr (.inr ⟨rfl,by rw [LN.o];exact FU.o,o,kept,rn,TR.o,?_,?_,hd.gx gz PQ.o.1 PQ.o.2 (fun q hq r hr=>by rw [hq];exact nS r hr)⟩)⟩,gx.trans gz (fun q hq=>.inr (by rw [hq];exact Nat.le_of_eq BQ.o))⟩
       ·unfold wR;rw [JJ.o,KL.o,<-iL.o.2]
       ·rcases ld with ⟨a,b⟩ | ⟨a,r,b1,b2,b3,b4,b5,b6⟩
        ·exact .inl ⟨a,b⟩
        ·exact .inr ⟨a,r,b1,b2,b3,b4,b5,b6.gx aR.kp gz (fun q hq=>by rw [hq];exact ns r b1)⟩
      rw [kF] at kn ⊢;clear Ap g6 SF Rw X5 pG xf rJ kF;by_cases k0:kl=0
      ·subst k0
       have ke:kept=[]:=List.length_eq_zero_iff.1 KL.o;obtain ⟨m0,m1,m2,z0,z1,xA,tY,TT⟩:=mP X6.o.1;have T3:=TT (j:Int) (t:Int) 0;have aK:ag (∀ a b c:Value,dp aR (fun w' rs B W=>aG w' p rb rs eps buf B W) (fun q=>q=p\/q=rb) w (((w6.setCell ⟨bq,0,none⟩ a).setCell ⟨bq,1,none⟩ b).setCell ⟨bq,2,none⟩ c) (.returned (.tuple #[.agg #[.int .i64 (j:Int),.int .i64 (t:Int),.int .i64 (0:Nat)],.int .i64 0])) rs l eps buf B W):=aJ.o w6 none (by
        have e1:B+iK kept=B:=by rw [show iK kept=0 from if_pos ke];omega
        have e2:W+kept.length=W:=by rw [KL.o];simp
        rw [e1,e2,<-acw JJ.o];exact pM.o) (X6.o.2.mono fun q hq=>.inl (.inr hq)) (.inl ⟨ke,rfl⟩) (fun r hr=>by cases hr)
       clear ke TT aJ pM X6;go_wp2_with fail;exact bodyPost_ret (v:=.tuple #[.agg #[.int .i64 (j:Int),.int .i64 (t:Int),.int .i64 0],.int .i64 0]) (by simp [results,results10,go_sem,T3.1,T3.2.1,T3.2.2]) rfl (aK.o _ _ _)
      ·have k0':0<kl:=by omega
       have k0d:(0:Int)<(kl:Int):=by omega
       have NW:ag (Calls prog 21 #[.slice (some ⟨bk,0,none⟩) kl Ge,.int .i64 eps] w6 fun ex w'=>tG aR w6 w' ex eps (ek kept) (ev kept) (eg kept) kl/\Gw w6 w'):=by
        have e0:=HC.o.e0;have e1:=HC.o.e1;have:=aaw OO.o eps (some ⟨bk,0,none⟩) kept.length Ge (ek kept) (ev kept) (eg kept) (by omega) (by omega) (by rw [KL.o];exact kn) Aq.o.2 (fun x=>by cases x) w6 Aq.o.1
        rw [KL.o] at this;exact this
       have c0:=pM.o.c0;have pl:=pM.o.plt;clear k0;go_wp2_with fail;refine Calls.mono NW.o ?_;rintro e w7 ⟨⟨E,ne,x⟩,g7⟩;have E0:E=0:=by
        rcases ne with ⟨a,_⟩ | ⟨_,b⟩
        ·exact absurd ⟨HC.o.e0,HC.o.e1⟩ a
        ·rw [<-KL.o] at b;exact b.one FC.o.1.2
       rcases x with ⟨a,_⟩ | ⟨_,rp,S,L,rfl,hS,br,hr⟩
       ·exact absurd E0 a
       have D7:=pM.o.gw g7;have X7:w7.heap[bq]?=some (.cells #[.int .i64 0,.int .i64 0,.int .i64 0] 42 (0,0)):=(g7.below.block bq (aE X6.o.1)).trans X6.o.1;have np:¬ S p:=fun x=>by have:=hS p x;have:=pM.o.plt;omega
       have nr:¬ S rb:=fun x=>by have:=hS rb x;have:=pM.o.blt;omega
       have nq:¬ S bq:=fun x=>by have:=hS bq x;have:=aE X6.o.1;omega
       have RR:RA aR w7 ⟨rp,S,eps,kept,L⟩:=⟨by show aR w7 rp S eps _ _ _ kept.length L;rw [KL.o];exact hr,FC.o.1.2,Aq.o.1.all,by show kept.length<=_;rw [KL.o];exact kn⟩
       have D8:=D7.put (i:=j) mJ (some ⟨rp,S,eps,kept,L⟩) (fun r hr=>by cases hr;exact ⟨RR,np,nr⟩)
       rw [acv HC.o.len JJ.o] at D8;have D9:=D8.put3 (B+1);have Rx:=D9.put4 (W+kl);have gx:Gx (fun q=>q=p\/q=rb) w7 (((w7.setCell ⟨rb,j,none⟩ (ptr (some ⟨rp,S,eps,kept,L⟩))).setCell ⟨p,3,none⟩ (.int .i64 (B+1))).setCell ⟨p,4,none⟩ (.int .i64 (W+kl))):=(((Gx.refl _ w7).set (.inl (.inr rfl)) _ _).set (.inl (.inl rfl)) _ _).set (.inl (.inl rfl)) _ _
       have Gf:kept≠[]:=fun x=>by have:=KL.o;rw [x] at this;simp at this;omega
       have aK:ag (∀ a b c:Value,dp aR (fun w' rs B W=>aG w' p rb rs eps buf B W) (fun q=>q=p\/q=rb) w ((((((w7.setCell ⟨rb,j,none⟩ (.pointer (some ⟨rp,0,none⟩))).setCell ⟨p,3,none⟩ (.int .i64 (B+1))).setCell ⟨p,4,none⟩ (.int .i64 (W+kl))).setCell ⟨bq,0,none⟩ a).setCell ⟨bq,1,none⟩ b).setCell ⟨bq,2,none⟩ c) (.returned (.tuple #[.agg #[.int .i64 (j:Int),.int .i64 (t:Int),.int .i64 (kl:Int)],.int .i64 0])) rs l eps buf B W):=aJ.o _ (some ⟨rp,S,eps,kept,L⟩) (by
        have e1:iK kept=1:=if_neg Gf;rw [e1,KL.o];exact Rx) (((X6.o.2.tw g7).mono (S':=fun q=>q=p\/q=rb) fun q hq=>.inl (.inr hq)).trans gx (fun q hq=>.inl hq)) (.inr ⟨Gf,⟨rp,S,eps,kept,L⟩,rfl,rfl,rfl,by rw [KL.o];exact br,fun q hq=>Nat.le_trans X6.o.2.size (hS q hq),RR.gx aR.kp gx (fun q hq hx=>by
         rcases hq with x | x
         ·rw [x] at hx;exact np hx
         ·rw [x] at hx;exact nr hx)⟩) (fun r hr=>by cases hr;exact nq)
       have ud:((((w7.setCell ⟨rb,j,none⟩ (.pointer (some ⟨rp,0,none⟩))).setCell ⟨p,3,none⟩ (.int .i64 (B+1))).setCell ⟨p,4,none⟩ (.int .i64 (W+kl)))).heap[bq]?=some (.cells #[.int .i64 0,.int .i64 0,.int .i64 0] 42 (0,0)):=(gx.block bq (aE X7) (fun x=>by
        rcases x with x | x
        ·exact PQ.o.1 x.symm
        ·exact PQ.o.2 x.symm)).trans X7
       obtain ⟨cc7,_,q1⟩:=D7.c2;have q2:w7.cell? ⟨rb,j,none⟩=some (ptr ((List.replicate (j+1) none++rs.drop (j+1)).getD j none)):=D7.cell mJ;have q3:w7.frozen? ⟨rb,j,none⟩=false:=D7.fz j;have q4:(w7.setCell ⟨rb,j,none⟩ (.pointer (some ⟨rp,0,none⟩))).cell? ⟨p,3,none⟩=some (.int .i64 B):=D8.c3;have q5:(w7.setCell ⟨rb,j,none⟩ (.pointer (some ⟨rp,0,none⟩))).frozen? ⟨p,3,none⟩=false:=D8.fp 3;have q6:((w7.setCell ⟨rb,j,none⟩ (.pointer (some ⟨rp,0,none⟩))).setCell ⟨p,3,none⟩ (.int .i64 (B+1))).cell? ⟨p,4,none⟩=some (.int .i64 W):=D9.c4;have q7:((w7.setCell ⟨rb,j,none⟩ (.pointer (some ⟨rp,0,none⟩))).setCell ⟨p,3,none⟩ (.int .i64 (B+1))).frozen? ⟨p,4,none⟩=false:=D9.fp 4;have q8:p<w7.heap.size:=D7.plt;have q9:rb<w7.heap.size:=D7.blt;have wB:IntKind.i64.wrap (B+1)=B+1:=by have:=wX.o.1;rw [IntKind.wrap_i64];omega
       have wW:IntKind.i64.wrap (W+(kl:Int))=W+(kl:Int):=by have:=wX.o.2;rw [IntKind.wrap_i64];omega
       have af6:(j:Int)<40:=by omega
       generalize ptr ((List.replicate (j+1) none++rs.drop (j+1)).getD j none)=pv at q2;obtain ⟨m0,m1,m2,z0,z1,xA,tY,TT⟩:=mP ud;have T3:=TT (j:Int) (t:Int) (kl:Int);clear ne hS br hr D7 X7 np nr nq RR D8 D9 Rx gx Gf ud TT aJ pM X6 NW g7 E0 FC Aq TR;go_wp2_with fail;exact bodyPost_ret (v:=.tuple #[.agg #[.int .i64 (j:Int),.int .i64 (t:Int),.int .i64 (kl:Int)],.int .i64 0]) (by simp [results,results10,go_sem,T3.1,T3.2.1,T3.2.2]) rfl (aK.o _ _ _)
  ·have iS:((n:Int) != buf)=true:=by simpa using nb
   have E0:=B2.o.lie (bq,#[.int .i64 0,.int .i64 0,.int .i64 0],42) (by simp)
   obtain ⟨m0,m1,m2,z0,z1,z2,tY,TT⟩:=mP E0;have T3:=TT 0 0 0;have FU:ag _:=nb;have GU:ag _:=B2.o.gw0;have GF:ag (∀ a b c:Value,dp aR (fun w' rs B W=>aG w' p rb rs eps buf B W) (fun q=>q=p\/q=rb) w (((w2.setCell ⟨bq,0,none⟩ a).setCell ⟨bq,1,none⟩ b).setCell ⟨bq,2,none⟩ c) (.returned (.tuple #[.agg #[.int .i64 0,.int .i64 0,.int .i64 0],.int .i64 151])) rs l eps buf B W):=fun a b c=>by
    have gz:Gw w (((w2.setCell ⟨bq,0,none⟩ a).setCell ⟨bq,1,none⟩ b).setCell ⟨bq,2,none⟩ c):=((GU.o.setCell (Nat.le_of_eq BQ.o) _).setCell (Nat.le_of_eq BQ.o) _).setCell (Nat.le_of_eq BQ.o) _;exact ⟨⟨0,by rw [LN.o];exact CR.o,.inr (.inl ⟨rfl,by rw [LN.o];exact FU.o,rfl,HC.o.gw gz,gz⟩)⟩,gz.gx _⟩
   clear E0 TT nb;go_wp2_with fail;exact bodyPost_ret (v:=.tuple #[.agg #[.int .i64 0,.int .i64 0,.int .i64 0],.int .i64 151]) (by simp [results,results10,go_sem,T3.1,T3.2.1,T3.2.2]) rfl (GF.o _ _ _)
 ·have vE:(r != 0)=true:=by simpa using r0
  have R0:ag _:=r0;have E0:=B2.o.lie (bq,#[.int .i64 0,.int .i64 0,.int .i64 0],42) (by simp)
  obtain ⟨m0,m1,m2,z0,z1,z2,tY,TT⟩:=mP E0;have T3:=TT 0 0 0;have GU:ag _:=B2.o.gw0;have GF:ag (∀ a b c:Value,dp aR (fun w' rs B W=>aG w' p rb rs eps buf B W) (fun q=>q=p\/q=rb) w (((w2.setCell ⟨bq,0,none⟩ a).setCell ⟨bq,1,none⟩ b).setCell ⟨bq,2,none⟩ c) (.returned (.tuple #[.agg #[.int .i64 0,.int .i64 0,.int .i64 0],.int .i64 150])) rs l eps buf B W):=fun a b c=>by
   have gz:Gw w (((w2.setCell ⟨bq,0,none⟩ a).setCell ⟨bq,1,none⟩ b).setCell ⟨bq,2,none⟩ c):=((GU.o.setCell (Nat.le_of_eq BQ.o) _).setCell (Nat.le_of_eq BQ.o) _).setCell (Nat.le_of_eq BQ.o) _;exact ⟨⟨r,by rw [LN.o];exact CR.o,.inl ⟨R0.o,rfl,HC.o.gw gz,gz⟩⟩,gz.gx _⟩
  clear E0 TT r0;go_wp2_with fail;exact bodyPost_ret (v:=.tuple #[.agg #[.int .i64 0,.int .i64 0,.int .i64 0],.int .i64 150]) (by simp [results,results10,go_sem,T3.1,T3.2.1,T3.2.2]) rfl (GF.o _ _ _)
section
variable {HR:aV} {w0 wr:World} {ab ac:Nat} {eps buf:Int} {Q:List Pq} {k s:Nat}
theorem aP.pt (H:cV HR) (h:aP HR w0 wr ab ac eps buf Q k s) {q:Pq} (hq:q∈Q) {V:World} (g:Gw wr V) {ao:Option Addr} {c:Nat} {l:List ah} (el:EL V ao l) (hc:l.length<=c) (hz:ao=none->l.length=0/\c=0) (hl:s+l.length<=400) (hk:k<=2000000) :
  Calls prog 9 #[.pointer (some ⟨q.p,0,none⟩),.slice ao l.length c] V fun e w'=>dp HR (fun w' rs B W=>au HR w' q.p rs eps buf B W) (fun x=>x=q.p) V w' e q.rs l eps buf q.B q.W:=by
 obtain ⟨f1,f2,f3,f4⟩:=h.few q hq;exact Ah H ((h.ok q hq).1.gw H.kp g) ao c l el hc hz (by omega) (by omega) (by omega)
theorem aP.rt (O5:l6) (h:aP HR w0 wr ab ac eps buf Q k s) {q:Pq} (hq:q∈Q) {V:World} (g:Gx (fun x=>x=q.p) wr V) {ao:Option Addr} {c:Nat} {l:List ah} (el:EL w0 ao l) (hc:l.length<=c) (hz:ao=none->l.length=0/\c=0) (hl:s+l.length<=400) (hk:k<=2000000) :
  Calls prog 10 #[.pointer (some ⟨q.px,0,none⟩),.slice ao l.length c] V fun e w'=>dp aR (fun w' rs B W=>aG w' q.px q.rb rs eps buf B W) (fun x=>x=q.px\/x=q.rb) V w' e q.ds l eps buf q.B q.W:=by
 obtain ⟨f1,f2,f3,f4⟩:=h.few q hq;have at_:=(h.ok q hq).2.2.tot;have ip:q.p∈q.cb/\q.px∈q.cb/\q.rb∈q.cb:=by unfold Pq.cb;simp
 obtain ⟨n1,n2,n3⟩:=h.ns q hq;have hd:aG V q.px q.rb q.ds eps buf q.B q.W:=(h.ok q hq).2.1.gx g (fun e=>n1 e.symm) (fun e=>n2 e.symm) (fun x hx r hr=>by rw [hx];exact (h.rn q hq r (.inr hr)).2 _ (dh hq ip.1))
 have gV:Gw w0 V:=Gx.gw h.g0 g (fun x hx=>by rw [hx];exact (h.far _ (dh hq ip.1)).1)
 exact acx O5 hd ao c l (el.gw gV) hc hz (fun a x z y=>by
  obtain ⟨b,off,e',hb,_⟩:=el.cells z;rw [x] at e';cases e';have y':b=q.rb:=y;have:=(h.far _ (dh hq ip.2.2)).1;omega) (by omega) (by omega) (by omega)
theorem acy {q:Pq} {U u3:World} (g1:Gx (fun x=>x=q.p) wr U) (g2:Gx (fun x=>x=q.px\/x=q.rb) U u3):Gx (fun x=>x∈q.cb) wr u3 :=
 (g1.mono (fun x hx=>.inl (by rw [hx];unfold Pq.cb;simp))).trans g2 (fun x hx=>.inl (by unfold Pq.cb;rcases hx with rfl | rfl<;>simp))
theorem aP.g0x (h:aP HR w0 wr ab ac eps buf Q k s) {q:Pq} (hq:q∈Q) {V:World} (g:Gx (fun x=>x∈q.cb) wr V):Gw w0 V:=Gx.gw h.g0 g (fun x hx=>(h.far _ (dh hq hx)).1)
theorem mU.keep {x:Nat} (o:mU Q ab x) {q:Pq} (hq:q∈Q) {V:World} (g:Gx (fun x=>x∈q.cb) wr V) (hx:x<wr.heap.size):V.heap[x]?=wr.heap[x]?:=g.block x hx (fun m=>o.2.1 (dh hq m))
end
end Go.Proofs.YtklkpldicbkjeaaGreat
