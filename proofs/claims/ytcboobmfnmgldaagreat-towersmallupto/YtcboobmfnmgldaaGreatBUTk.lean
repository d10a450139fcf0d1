/- Package classes: Take. -/
import Derived.Test.YtcboobmfnmgldaaGreatBUMem
import Derived.Test.YtcboobmfnmgldaaGreatBPEnt3
set_option linter.unusedVariables false
set_option maxHeartbeats 8000000
set_option maxRecDepth 10000
open Go.Proofs.Tryz
namespace Go.Proofs.YtcboobmfnmgldaaGreat
open Go.RowKit
def AE (j t k:Nat):Value:=.agg #[AI (j:Int),AI (t:Int),AI (k:Int)]
def AF (HR:bQ) (HC:World->List (Option Rn)->Int->Int->Prop) (F:Nat->Prop) (w w':World) (e:Ending) (rs:List (Option Rn)) (l:List ah) (eps buf B W:Int):Prop :=
 (∃ r0:Int,dw (ek l) (ev l) (eg l) l.length r0/\(
  (r0≠0/\e=.returned (.tuple #[AE 0 0 0,AI 150])/\HC w' rs B W/\Gw w w') \/
  (r0=0/\(l.length:Int)≠buf/\e=.returned (.tuple #[AE 0 0 0,AI 151])/\HC w' rs B W/\Gw w w') \/
  (r0=0/\(l.length:Int)=buf/\∃ o kept rn,iV rs l o kept/\e=.returned (.tuple #[AE (aZ rs) (took rs l) kept.length,AI 0])/\kI HR w w' eps kept rn/\HC w' (laid rs rn) (B+ju kept) (W+kept.length))))/\Gx F w w'
theorem FJ {U:World} {b:Nat} {t:TypeId} {x y z:Int} (h:U.heap[b]?=some (.cells #[AI x,AI y,AI z] t (0,0))):U.cell? ⟨b,0,none⟩=some (AI x)/\U.cell? ⟨b,1,none⟩=some (AI y)/\U.cell? ⟨b,2,none⟩=some (AI z)/\U.frozen? ⟨b,0,none⟩=false/\U.frozen? ⟨b,1,none⟩=false/\U.frozen? ⟨b,2,none⟩=false/\b<U.heap.size/\∀ (x' y' z':Int),(((U.setCell ⟨b,0,none⟩ (AI x')).setCell ⟨b,1,none⟩ (AI y')).setCell ⟨b,2,none⟩ (AI z')).cell? ⟨b,0,none⟩=some (AI x')/\(((U.setCell ⟨b,0,none⟩ (AI x')).setCell ⟨b,1,none⟩ (AI y')).setCell ⟨b,2,none⟩ (AI z')).cell? ⟨b,1,none⟩=some (AI y')/\(((U.setCell ⟨b,0,none⟩ (AI x')).setCell ⟨b,1,none⟩ (AI y')).setCell ⟨b,2,none⟩ (AI z')).cell? ⟨b,2,none⟩=some (AI z'):=by
 refine ⟨aj h rfl,aj h rfl,aj h rfl,bT h,bT h,bT h,aC h,fun x' y' z'=>?_⟩
 have h3:=pF (o:=2) (pF (o:=1) (pF (o:=0) h (AI x')) (AI y')) (AI z');exact ⟨aj h3 rfl,aj h3 rfl,aj h3 rfl⟩
theorem Ql {w:World} {base oc:Nat} {bo:Option Addr} {l:List ah} (h:EO w base (.slice bo l.length oc) l):l.length<=oc/\(bo=none->l.length=0/\oc=0):=by
 rcases h.2 with ⟨e,z⟩ | ⟨b,cap,cur,e,hb,hh,hc,_⟩
 ·injection e with e1 e2 e3
  exact ⟨by omega,fun _=>⟨z,e3⟩⟩
 ·injection e with e1 e2 e3
  subst e1 e3;exact ⟨hc,fun x=>by cases x⟩
theorem aP.freeC_lt (rs:List (Option Rn)):aZ rs<40:=by unfold aZ;omega
theorem abL {HR:bQ} (H:bJ HR) {w:World} {p:Nat} {rs:List (Option Rn)} {eps buf B W:Int} (h:aP HR w p rs eps buf B W) (ao:Option Addr) (c:Nat) (l:List ah) (hl:EL w ao l) (hc:l.length<=c) (hz:ao=none->l.length=0/\c=0) (hs:l.length+tot rs<=2000000) (hB:0<=B/\B<4611686018427387904) (hW:0<=W/\W<4611686018427387904) :
  Calls prog 47 #[BY p,.slice ao l.length c] w fun e w'=>AF HR (fun w' rs B W=>aP HR w' p rs eps buf B W) (fun q=>q=p) w w' e rs l eps buf B W:=by
 have HC:ag _:=h;have HH:ag _:=H;have HL:ag _:=hl;have CK:ag (∀ W,Gw w W->Calls prog 33 #[.slice ao l.length c] W fun e w'=>(∃ r:Int,e=.returned (AI r)/\dw (ek l) (ev l) (eg l) l.length r)/\Gw W w'):=fun W gg=>D8 ao l.length c (ek l) (ev l) (eg l) (by omega) hc W (hl.gw gg)
 have HS:ag (l.length+tot rs<=2000000/\l.length<=c/\(ao=none->l.length=0/\c=0)):=⟨hs,hc,hz⟩;have Qm:ag ((0<=B/\B<4611686018427387904)/\0<=W/\W<4611686018427387904):=⟨hB,hW⟩;obtain ⟨n,hn⟩:∃ n,l.length=n:=⟨_,rfl⟩;have LN:ag _:=hn;rw [hn] at CK ⊢;have n1:n<=2000000:=by omega
 obtain ⟨bq,aE⟩:∃ b,w.heap.size=b:=⟨_,rfl⟩;have BQ:ag _:=aE;have hp:=h.lt;have pq:p≠bq:=by omega
 have BX:ag (aT w [(bq,#[AI 0,AI 0,AI 0],110)] (w.alloc (.cells #[AI 0,AI 0,AI 0] 110))):=by rw [<-aE];exact (aT.nil (Gw.refl w)).add _ _
 clear h H hl hc hz hs hB hW hn aE;go_enter func47,ntmps47;go_wp2_with fail;rw [BQ.o];generalize w.alloc (.cells #[AI 0,AI 0,AI 0] 110)=w1 at BX ⊢;refine Calls.mono (CK.o w1 BX.o.gw0) ?_;rintro e w2 ⟨⟨r,rfl,cr⟩,g2⟩;have CR:ag (dw (ek l) (ev l) (eg l) n r):=by have:=cr;rw [<-LN.o] at this ⊢;exact this
 have B2:ag _:=BX.o.gw g2;clear g2 cr CK BX;by_cases r0:r=0
 ·subst r0
  have c1:=(HC.o.gw HH.o.kp B2.o.gw0).c1;have pl:=(HC.o.gw HH.o.kp B2.o.gw0).lt;by_cases nb:(n:Int)=buf
  ·have mQ:ag (aW l):=by have:=CR.o;rw [<-LN.o] at this;exact this
   have NB:ag _:=nb;have kB:((n:Int) != buf)=false:=by simpa using nb
   have FR:ag _:=abi (HC.o.gw HH.o.kp B2.o.gw0);have uc:=aP.freeC_lt rs;have J:ag (∃ j,aZ rs=j):=⟨_,rfl⟩;obtain ⟨j,hj⟩:=J.o;have JJ:ag _:=hj;rw [hj] at FR uc;have Qn:ag (Calls prog 84 #[BY p,.slice ao n c,AI (j:Int)] w2 fun e w'=>(∃ ob m oc,e=.returned (.slice (some ⟨ob,0,none⟩) m oc)/\EV w' (some ⟨ob,0,none⟩) (l::lists (rs.take (j+1)))/\(l::lists (rs.take (j+1))).length=m/\m<=oc/\w2.heap.size<=ob)/\Gw w2 w'):=by
    have:=abl HH.o (HC.o.gw HH.o.kp B2.o.gw0) ao c l (HL.o.gw B2.o.gw0) HS.o.2.1 HS.o.2.2 j uc
    rw [LN.o] at this;exact this
   clear nb hj J;go_wp2_with fail;refine Calls.mono FR.o ?_;rintro e w3 ⟨rfl,hw⟩;have dR:w2=w3:=hw.symm;subst dR;clear hw FR c1;go_wp2_with fail;refine Calls.mono Qn.o ?_;rintro e w3 ⟨⟨ob,m,oc,rfl,FQ,hm,hmo,hob⟩,g3⟩;have B3:ag _:=B2.o.gw g3;have FY:ag _:=FQ;have od:ag (aF (l::lists (rs.take (j+1)))=took rs l/\took rs l<=2000000):=by
    have e:aF (l::lists (rs.take (j+1)))=took rs l:=by rw [iF];unfold took;rw [JJ.o];rfl
    refine ⟨e,?_⟩;have:=pE rs (j+1);have:=HS.o.1;unfold took;rw [JJ.o];omega
   have MM:ag _:=hm;have Qo:ob≠p/\ob≠bq:=by
    have h1:=pl;have h2:=aC (B2.o.lie (bq,#[AI 0,AI 0,AI 0],110) (by simp))
    dsimp only at h2;omega
   have OBP:ag _:=Qo.1;have m41:m<=41:=by
    rw [<-hm];have:(lists (rs.take (j+1))).length<=(rs.take (j+1)).length:=List.length_filterMap_le ..;rw [List.length_take] at this;simp only [List.length_cons];omega
   have EN:ag (Calls prog 86 #[.slice (some ⟨ob,0,none⟩) m oc] w3 fun e w'=>(∃ bo oc o,e=.returned (.slice bo o.length oc)/\EO w' w3.heap.size (.slice bo o.length oc) o/\Mg ah.k (l::lists (rs.take (j+1))) o)/\Gw w3 w'):=by
    have:=abK (some ⟨ob,0,none⟩) oc (l::lists (rs.take (j+1))) (by rw [hm];omega) (fun i hi=>Nat.le_trans (aa7 hi) (by rw [od.o.1];exact od.o.2)) (by rw [od.o.1];exact od.o.2) w3 FQ
    rw [hm] at this;exact this
   clear FQ hm hmo hob g3 Qn pl Qo B2;go_wp2_with fail;refine Calls.mono EN.o ?_;rintro e w4 ⟨⟨bo,Qp,o,rfl,Qq,mg⟩,g4⟩;have B4:ag _:=B3.o.gw g4;have Qr:ag _:=FY.o.gw g4;have FZ:ag (EL w4 bo o):=vS Qq (mg.oks FY.o.oks);have TR:ag (iV rs l o (o.filter (bB (aI (rs.drop (j+1)))))):=⟨by rw [JJ.o];exact mg,by rw [JJ.o]⟩
   have FC:ag ((aW o/\aW (o.filter (bB (aI (rs.drop (j+1))))))/\o.length<=2000000):=⟨TR.o.facts mQ.o (fun r hr=>(HC.o.runs r hr).1.ok),Nat.le_trans TR.o.few.2 od.o.2⟩
   have rK:ag _:=HC.o.gw HH.o.kp B4.o.gw0;have AB:ag _:=abf rK.o j uc;obtain ⟨on,um⟩:∃ on,o.length=on:=⟨_,rfl⟩;have ON:ag _:=um;rw [um];clear Qq mg g4 EN FY B3 um;go_wp2_with fail;refine Calls.mono AB.o ?_;rintro e w5 ⟨⟨ab,rfl,Qs⟩,hw⟩;have dR:w4=w5:=hw.symm;subst dR;have SF:ag (Calls prog 85 #[.slice bo on Qp,.func (.func 88) #[.slice ab (rs.drop (j+1)).length (39-j)] #[]] w4 fun e w'=>(∃ bo oc,e=.returned (.slice bo (o.filter (bB (aI (rs.drop (j+1))))).length oc)/\EO w' w4.heap.size (.slice bo (o.filter (bB (aI (rs.drop (j+1))))).length oc) (o.filter (bB (aI (rs.drop (j+1))))))/\Gw w4 w'):=by
    have:=abj bo Qp o (.slice ab (rs.drop (j+1)).length (39-j)) (aI (rs.drop (j+1))) FC.o.2 w4 FZ.o (fun W gg q q0 q1=>OM HH.o ab (39-j) (rs.drop (j+1)) q q0 q1 (by rw [List.length_drop,HC.o.len];omega) W (Qs.gw HH.o.kp gg))
    rw [ON.o] at this;exact this
   generalize (rs.drop (j+1)).length=dn at SF ⊢;clear hw Qs AB;go_wp2_with fail;refine Calls.mono SF.o ?_;rintro e w5 ⟨⟨bk,oc5,rfl,wV⟩,g5⟩;obtain ⟨kept,F8⟩:∃ kept,o.filter (bB (aI (rs.drop (j+1))))=kept:=⟨_,rfl⟩;have Qt:∀ e∈kept,e.ok:=fun e he=>by rw [<-F8] at he;exact FZ.o.all e (List.mem_filter.1 he).1
   rw [F8] at wV TR FC ⊢;have B5:ag _:=B4.o.gw g5;have Qu:ag _:=(Qr.o.gw g5).hv;have kn:kept.length<=2000000:=Nat.le_trans TR.o.few.1 od.o.2;have LY:ag _:=abx HH.o (rK.o.gw HH.o.kp g5) bk oc5 kept (vS wV Qt) FC.o.1.2 (Ql wV).1 (Ql wV).2 kn Qm.o.1 Qm.o.2 j uc;obtain ⟨kl,Ge⟩:∃ kl,kept.length=kl:=⟨_,rfl⟩;have KL:ag _:=Ge;rw [Ge] at LY ⊢;clear wV g5 SF B4 Qr FZ rK Qt kn F8 Ge FC;go_wp2_with fail;refine Calls.mono LY.o ?_;rintro e w6 ⟨⟨rn,rfl,ld,Qv⟩,g6⟩;have HC6:ag (aP HR w6 p (laid rs rn) eps buf (B+ju kept) (W+kept.length)):=by unfold laid;rw [JJ.o,KL.o];exact Qv
   have Qw:ag _:=Qu.o.gx g6 OBP.o;have GX6:ag (Gx (fun q=>q=p) w w6):=(B5.o.gw0.gx _).trans g6 (fun q hq=>.inl hq)
   have E0:ag (w6.heap[bq]?=some (.cells #[AI 0,AI 0,AI 0] 110 (0,0))):=by
    have:=B5.o.lie (bq,#[AI 0,AI 0,AI 0],110) (by simp)
    exact (g6.block bq (aC this) (fun e=>pq e.symm)).trans this
   have LD:ag (∀ W,(∀ q,q<w6.heap.size->q≠bq->W.heap[q]?=w6.heap[q]?)->kI HR w W eps kept rn):=fun W kw=>by
    rcases ld with ⟨a,b⟩ | ⟨a,r,b1,b2,b3,b4,b5,b6⟩
    ·exact .inl ⟨a,b⟩
    ·refine .inr ⟨a,r,b1,b2,b3,b4,fun q hq=>Nat.le_trans B5.o.gw0.size (b5 q hq),b6.keep HH.o.kp fun q hq=>kw q (HH.o.lt b6.h q hq) ?_⟩
     have h1:=b5 q hq;have h2:=aC (B5.o.lie (bq,#[AI 0,AI 0,AI 0],110) (by simp))
     dsimp only at h2;omega
   have NS:ag (∀ r,rn=some r->¬ r.S bq):=fun r hr hx=>by
    rcases ld with ⟨a,b⟩ | ⟨a,r',b1,b2,b3,b4,b5,b6⟩
    ·rw [b] at hr;cases hr
    ·rw [b1] at hr
     cases hr
     have h1:=b5 bq hx;have h2:=aC (B5.o.lie (bq,#[AI 0,AI 0,AI 0],110) (by simp))
     dsimp only at h2;omega
   have TG:ag (Calls prog 90 #[.slice (some ⟨ob,0,none⟩) m oc] w6 fun e w'=>e=.returned (AI (took rs l:Nat))/\w'=w6):=by
    have:=abm (some ⟨ob,0,none⟩) oc (l::lists (rs.take (j+1))) (by rw [MM.o];omega) (by rw [od.o.1];exact od.o.2) w6 Qw.o
    rw [MM.o,od.o.1] at this;exact this
   clear ld Qv g6 LY Qu B5;go_wp2_with fail;refine Calls.mono TG.o ?_;rintro e w7 ⟨rfl,hw⟩;have dR:w6=w7:=hw.symm;subst dR;obtain ⟨m0,m1,m2,z0,z1,z2,bl,TT⟩:=FJ E0.o;have T3:=TT (j:Int) (took rs l:Nat) (kl:Int);have aL:ag (∀ a b c:Value,AF HR (fun w' rs B W=>aP HR w' p rs eps buf B W) (fun q=>q=p) w (((w6.setCell ⟨bq,0,none⟩ a).setCell ⟨bq,1,none⟩ b).setCell ⟨bq,2,none⟩ c) (.returned (.tuple #[.agg #[AI (j:Int),AI (took rs l:Nat),AI (kl:Int)],AI 0])) rs l eps buf B W):=fun a b c=>by
    have gz:Gx (fun q=>q=bq) w6 (((w6.setCell ⟨bq,0,none⟩ a).setCell ⟨bq,1,none⟩ b).setCell ⟨bq,2,none⟩ c):=(((Gx.refl (fun q=>q=bq) w6).set (.inl rfl) _ _).set (.inl rfl) _ _).set (.inl rfl) _ _
    have nS:∀ r,some r∈laid rs rn->¬ r.S bq:=fun r hr hx=>by
     unfold laid at hr;rcases List.mem_append.1 hr with q | q
     ·simp at q
     ·rcases List.mem_cons.1 q with q | q
      ·exact NS.o r q.symm hx
      ·have:=HH.o.lt (HC.o.runs r (List.mem_of_mem_drop q)).1.h bq hx
       rw [BQ.o] at this;omega
    refine ⟨⟨0,?_,.inr (.inr ⟨rfl,?_,o,kept,rn,TR.o,?_,LD.o _ (fun q hq hn=>gz.block q hq hn),HC6.o.gx HH.o.kp gz pq (fun q hq r hr=>by rw [hq];exact nS r hr)⟩)⟩,GX6.o.trans gz (fun q hq=>.inr (by rw [hq];exact Nat.le_of_eq BQ.o))⟩
    ·rw [LN.o];exact CR.o
    ·rw [LN.o];exact NB.o
    ·unfold AE;rw [JJ.o,KL.o]
   clear hw TG Qw E0 TT m41;go_wp2_with fail;exact bodyPost_ret (v:=.tuple #[.agg #[AI (j:Int),AI (took rs l:Nat),AI (kl:Int)],AI 0]) (by simp [results,results47,go_sem,T3.1,T3.2.1,T3.2.2]) rfl (aL.o _ _ _)
  ·have kB:((n:Int) != buf)=true:=by simpa using nb
   have E0:=B2.o.lie (bq,#[AI 0,AI 0,AI 0],110) (by simp)
   obtain ⟨m0,m1,m2,z0,z1,z2,bl,TT⟩:=FJ E0;have T3:=TT 0 0 0;have NB:ag _:=nb;have GU:ag _:=B2.o.gw0;have GF:ag (∀ a b c:Value,AF HR (fun w' rs B W=>aP HR w' p rs eps buf B W) (fun q=>q=p) w (((w2.setCell ⟨bq,0,none⟩ a).setCell ⟨bq,1,none⟩ b).setCell ⟨bq,2,none⟩ c) (.returned (.tuple #[.agg #[AI 0,AI 0,AI 0],AI 151])) rs l eps buf B W):=fun a b c=>by
    have gz:Gw w (((w2.setCell ⟨bq,0,none⟩ a).setCell ⟨bq,1,none⟩ b).setCell ⟨bq,2,none⟩ c):=((GU.o.setCell (Nat.le_of_eq BQ.o) _).setCell (Nat.le_of_eq BQ.o) _).setCell (Nat.le_of_eq BQ.o) _;exact ⟨⟨0,by rw [LN.o];exact CR.o,.inr (.inl ⟨rfl,by rw [LN.o];exact NB.o,rfl,HC.o.gw HH.o.kp gz,gz⟩)⟩,gz.gx _⟩
   clear E0 TT nb;go_wp2_with fail;exact bodyPost_ret (v:=.tuple #[.agg #[AI 0,AI 0,AI 0],AI 151]) (by simp [results,results47,go_sem,T3.1,T3.2.1,T3.2.2]) rfl (GF.o _ _ _)
 ·have vN:(r != 0)=true:=by simpa using r0
  have R0:ag _:=r0;have E0:=B2.o.lie (bq,#[AI 0,AI 0,AI 0],110) (by simp)
  obtain ⟨m0,m1,m2,z0,z1,z2,bl,TT⟩:=FJ E0;have T3:=TT 0 0 0;have GU:ag _:=B2.o.gw0;have GF:ag (∀ a b c:Value,AF HR (fun w' rs B W=>aP HR w' p rs eps buf B W) (fun q=>q=p) w (((w2.setCell ⟨bq,0,none⟩ a).setCell ⟨bq,1,none⟩ b).setCell ⟨bq,2,none⟩ c) (.returned (.tuple #[.agg #[AI 0,AI 0,AI 0],AI 150])) rs l eps buf B W):=fun a b c=>by
   have gz:Gw w (((w2.setCell ⟨bq,0,none⟩ a).setCell ⟨bq,1,none⟩ b).setCell ⟨bq,2,none⟩ c):=((GU.o.setCell (Nat.le_of_eq BQ.o) _).setCell (Nat.le_of_eq BQ.o) _).setCell (Nat.le_of_eq BQ.o) _;exact ⟨⟨r,by rw [LN.o];exact CR.o,.inl ⟨R0.o,rfl,HC.o.gw HH.o.kp gz,gz⟩⟩,gz.gx _⟩
  clear E0 TT r0;go_wp2_with fail;exact bodyPost_ret (v:=.tuple #[.agg #[AI 0,AI 0,AI 0],AI 150]) (by simp [results,results47,go_sem,T3.1,T3.2.1,T3.2.2]) rfl (GF.o _ _ _)
end Go.Proofs.YtcboobmfnmgldaaGreat
