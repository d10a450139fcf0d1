/- Package classes: Take. -/
import Derived.Test.YtklkpldicbkjeaaGreatVUTell
import Derived.Test.YtklkpldicbkjeaaGreatVPEnt2
set_option linter.unusedVariables false
set_option maxHeartbeats 8000000
set_option maxRecDepth 10000
open Go.Proofs.Tryz
namespace Go.Proofs.YtklkpldicbkjeaaGreat
open Go.RowKit
def wR (j t k:Nat):Value:=.agg #[.int .i64 (j:Int),.int .i64 (t:Int),.int .i64 (k:Int)]
def dp (HR:aV) (HC:World->List (Option Rn)->Int->Int->Prop) (F:Nat->Prop) (w w':World) (e:Ending) (rs:List (Option Rn)) (l:List ah) (eps buf B W:Int):Prop :=
 (∃ r0:Int,dS (ek l) (ev l) (eg l) l.length r0/\(
  (r0≠0/\e=.returned (.tuple #[wR 0 0 0,.int .i64 150])/\HC w' rs B W/\Gw w w') \/
  (r0=0/\(l.length:Int)≠buf/\e=.returned (.tuple #[wR 0 0 0,.int .i64 151])/\HC w' rs B W/\Gw w w') \/
  (r0=0/\(l.length:Int)=buf/\∃ o kept rn,jK rs l o kept/\e=.returned (.tuple #[wR (freeC rs) (took rs l) kept.length,.int .i64 0])/\mI HR w w' eps kept rn/\HC w' (laid rs rn) (B+iK kept) (W+kept.length))))/\Gx F w w'
theorem mP {U:World} {b:Nat} {t:TypeId} {x y z:Int} (h:U.heap[b]?=some (.cells #[.int .i64 x,.int .i64 y,.int .i64 z] t (0,0))):U.cell? ⟨b,0,none⟩=some (.int .i64 x)/\U.cell? ⟨b,1,none⟩=some (.int .i64 y)/\U.cell? ⟨b,2,none⟩=some (.int .i64 z)/\U.frozen? ⟨b,0,none⟩=false/\U.frozen? ⟨b,1,none⟩=false/\U.frozen? ⟨b,2,none⟩=false/\b<U.heap.size/\∀ (x' y' z':Int),(((U.setCell ⟨b,0,none⟩ (.int .i64 x')).setCell ⟨b,1,none⟩ (.int .i64 y')).setCell ⟨b,2,none⟩ (.int .i64 z')).cell? ⟨b,0,none⟩=some (.int .i64 x')/\(((U.setCell ⟨b,0,none⟩ (.int .i64 x')).setCell ⟨b,1,none⟩ (.int .i64 y')).setCell ⟨b,2,none⟩ (.int .i64 z')).cell? ⟨b,1,none⟩=some (.int .i64 y')/\(((U.setCell ⟨b,0,none⟩ (.int .i64 x')).setCell ⟨b,1,none⟩ (.int .i64 y')).setCell ⟨b,2,none⟩ (.int .i64 z')).cell? ⟨b,2,none⟩=some (.int .i64 z'):=by
 refine ⟨aD h rfl,aD h rfl,aD h rfl,dR h,dR h,dR h,aE h,fun x' y' z'=>?_⟩
 have h3:=jP (o:=2) (jP (o:=1) (jP (o:=0) h (.int .i64 x')) (.int .i64 y')) (.int .i64 z');exact ⟨aD h3 rfl,aD h3 rfl,aD h3 rfl⟩
theorem Fi {w:World} {base oc:Nat} {bo:Option Addr} {l:List ah} (h:EO w base (.slice bo l.length oc) l):l.length<=oc/\(bo=none->l.length=0/\oc=0):=by
 rcases h.2 with ⟨e,z⟩ | ⟨b,cap,cur,e,hb,hh,hc,_⟩
 ·injection e with e1 e2 e3
  exact ⟨by omega,fun _=>⟨z,e3⟩⟩
 ·injection e with e1 e2 e3
  subst e1 e3;exact ⟨hc,fun x=>by cases x⟩
theorem au.freeC_lt (rs:List (Option Rn)):freeC rs<40:=by unfold freeC;omega
theorem Ah {HR:aV} (H:cV HR) {w:World} {p:Nat} {rs:List (Option Rn)} {eps buf B W:Int} (h:au HR w p rs eps buf B W) (ao:Option Addr) (c:Nat) (l:List ah) (hl:EL w ao l) (hc:l.length<=c) (hz:ao=none->l.length=0/\c=0) (hs:l.length+tot rs<=2000000) (hB:0<=B/\B<4611686018427387904) (hW:0<=W/\W<4611686018427387904) :
  Calls prog 9 #[.pointer (some ⟨p,0,none⟩),.slice ao l.length c] w fun e w'=>dp HR (fun w' rs B W=>au HR w' p rs eps buf B W) (fun q=>q=p) w w' e rs l eps buf B W:=by
 have HC:ag _:=h;have HH:ag _:=H;have HL:ag _:=hl;have CK:ag (∀ W,Gw w W->Calls prog 26 #[.slice ao l.length c] W fun e w'=>(∃ r:Int,e=.returned (.int .i64 r)/\dS (ek l) (ev l) (eg l) l.length r)/\Gw W w'):=fun W gg=>My ao l.length c (ek l) (ev l) (eg l) (by omega) hc W (hl.gw gg)
 have HS:ag (l.length+tot rs<=2000000/\l.length<=c/\(ao=none->l.length=0/\c=0)):=⟨hs,hc,hz⟩;have wX:ag ((0<=B/\B<4611686018427387904)/\0<=W/\W<4611686018427387904):=⟨hB,hW⟩;obtain ⟨n,hn⟩:∃ n,l.length=n:=⟨_,rfl⟩;have LN:ag _:=hn;rw [hn] at CK ⊢;have n1:n<=2000000:=by omega
 obtain ⟨bq,bQ⟩:∃ b,w.heap.size=b:=⟨_,rfl⟩;have BQ:ag _:=bQ;have hp:=h.lt;have pq:p≠bq:=by omega
 have BX:ag (bA w [(bq,#[.int .i64 0,.int .i64 0,.int .i64 0],42)] (w.alloc (.cells #[.int .i64 0,.int .i64 0,.int .i64 0] 42))):=by rw [<-bQ];exact (bA.nil (Gw.refl w)).add _ _
 clear h H hl hc hz hs hB hW hn bQ;go_enter func9,ntmps9;go_wp2_with fail;rw [BQ.o];generalize w.alloc (.cells #[.int .i64 0,.int .i64 0,.int .i64 0] 42)=w1 at BX ⊢;refine Calls.mono (CK.o w1 BX.o.gw0) ?_;rintro e w2 ⟨⟨r,rfl,cr⟩,g2⟩;have CR:ag (dS (ek l) (ev l) (eg l) n r):=by have:=cr;rw [<-LN.o] at this ⊢;exact this
 have B2:ag _:=BX.o.gw g2;clear g2 cr CK BX;by_cases r0:r=0
 ·subst r0
  have c1:=(HC.o.gw HH.o.kp B2.o.gw0).c1;have pl:=(HC.o.gw HH.o.kp B2.o.gw0).lt;by_cases nb:(n:Int)=buf
  ·have Fj:ag (cK l):=by have:=CR.o;rw [<-LN.o] at this;exact this
   have NB:ag _:=nb;have iS:((n:Int) != buf)=false:=by simpa using nb
   have FR:ag _:=abn (HC.o.gw HH.o.kp B2.o.gw0);have mJ:=au.freeC_lt rs;have J:ag (∃ j,freeC rs=j):=⟨_,rfl⟩;obtain ⟨j,hj⟩:=J.o;have JJ:ag _:=hj;rw [hj] at FR mJ;have Qs:ag (Calls prog 28 #[.pointer (some ⟨p,0,none⟩),.slice ao n c,.int .i64 (j:Int)] w2 fun e w'=>(∃ ob m oc,e=.returned (.slice (some ⟨ob,0,none⟩) m oc)/\EV w' (some ⟨ob,0,none⟩) (l::lists (rs.take (j+1)))/\(l::lists (rs.take (j+1))).length=m/\m<=oc/\w2.heap.size<=ob)/\Gw w2 w'):=by
    have:=abq HH.o (HC.o.gw HH.o.kp B2.o.gw0) ao c l (HL.o.gw B2.o.gw0) HS.o.2.1 HS.o.2.2 j mJ
    rw [LN.o] at this;exact this
   clear nb hj J;go_wp2_with fail;refine Calls.mono FR.o ?_;rintro e w3 ⟨rfl,hw⟩;have cR:w2=w3:=hw.symm;subst cR;clear hw FR c1;go_wp2_with fail;refine Calls.mono Qs.o ?_;rintro e w3 ⟨⟨ob,m,oc,rfl,Fk,hm,hmo,hob⟩,g3⟩;have B3:ag _:=B2.o.gw g3;have rH:ag _:=Fk;have iL:ag (aN (l::lists (rs.take (j+1)))=took rs l/\took rs l<=2000000):=by
    have e:aN (l::lists (rs.take (j+1)))=took rs l:=by rw [nV];unfold took;rw [JJ.o];rfl
    refine ⟨e,?_⟩;have:=zK rs (j+1);have:=HS.o.1;unfold took;rw [JJ.o];omega
   have MM:ag _:=hm;have Qt:ob≠p/\ob≠bq:=by
    have h1:=pl;have h2:=aE (B2.o.lie (bq,#[.int .i64 0,.int .i64 0,.int .i64 0],42) (by simp))
    dsimp only at h2;omega
   have OBP:ag _:=Qt.1;have m41:m<=41:=by
    rw [<-hm];have:(lists (rs.take (j+1))).length<=(rs.take (j+1)).length:=List.length_filterMap_le ..;rw [List.length_take] at this;simp only [List.length_cons];omega
   have EN:ag (Calls prog 30 #[.slice (some ⟨ob,0,none⟩) m oc] w3 fun e w'=>(∃ bo oc o,e=.returned (.slice bo o.length oc)/\EO w' w3.heap.size (.slice bo o.length oc) o/\Mg ah.k (l::lists (rs.take (j+1))) o)/\Gw w3 w'):=by
    have:=abR (some ⟨ob,0,none⟩) oc (l::lists (rs.take (j+1))) (by rw [hm];omega) (fun i hi=>Nat.le_trans (Oc hi) (by rw [iL.o.1];exact iL.o.2)) (by rw [iL.o.1];exact iL.o.2) w3 Fk
    rw [hm] at this;exact this
   clear Fk hm hmo hob g3 Qs pl Qt B2;go_wp2_with fail;refine Calls.mono EN.o ?_;rintro e w4 ⟨⟨bo,rI,o,rfl,wY,mg⟩,g4⟩;have B4:ag _:=B3.o.gw g4;have Qu:ag _:=rH.o.gw g4;have pG:ag (EL w4 bo o):=vJ wY (mg.oks rH.o.oks);have TR:ag (jK rs l o (o.filter (aS (bX (rs.drop (j+1)))))):=⟨by rw [JJ.o];exact mg,by rw [JJ.o]⟩
   have FC:ag ((cK o/\cK (o.filter (aS (bX (rs.drop (j+1))))))/\o.length<=2000000):=⟨TR.o.facts Fj.o (fun r hr=>(HC.o.runs r hr).1.ok),Nat.le_trans TR.o.few.2 iL.o.2⟩
   have Fl:ag _:=HC.o.gw HH.o.kp B4.o.gw0;have AB:ag _:=abl Fl.o j mJ;obtain ⟨on,mO⟩:∃ on,o.length=on:=⟨_,rfl⟩;have ON:ag _:=mO;rw [mO];clear wY mg g4 EN rH B3 mO;go_wp2_with fail;refine Calls.mono AB.o ?_;rintro e w5 ⟨⟨ab,rfl,Qv⟩,hw⟩;have cR:w4=w5:=hw.symm;subst cR;have SF:ag (Calls prog 29 #[.slice bo on rI,.func (.func 32) #[.slice ab (rs.drop (j+1)).length (39-j)] #[]] w4 fun e w'=>(∃ bo oc,e=.returned (.slice bo (o.filter (aS (bX (rs.drop (j+1))))).length oc)/\EO w' w4.heap.size (.slice bo (o.filter (aS (bX (rs.drop (j+1))))).length oc) (o.filter (aS (bX (rs.drop (j+1))))))/\Gw w4 w'):=by
    have:=abo bo rI o (.slice ab (rs.drop (j+1)).length (39-j)) (bX (rs.drop (j+1))) FC.o.2 w4 pG.o (fun W gg q q0 q1=>OH HH.o ab (39-j) (rs.drop (j+1)) q q0 q1 (by rw [List.length_drop,HC.o.len];omega) W (Qv.gw HH.o.kp gg))
    rw [ON.o] at this;exact this
   generalize (rs.drop (j+1)).length=dn at SF ⊢;clear hw Qv AB;go_wp2_with fail;refine Calls.mono SF.o ?_;rintro e w5 ⟨⟨bk,oc5,rfl,xd⟩,g5⟩;obtain ⟨kept,rJ⟩:∃ kept,o.filter (aS (bX (rs.drop (j+1))))=kept:=⟨_,rfl⟩;have xf:∀ e∈kept,e.ok:=fun e he=>by rw [<-rJ] at he;exact pG.o.all e (List.mem_filter.1 he).1
   rw [rJ] at xd TR FC ⊢;have B5:ag _:=B4.o.gw g5;have Qw:ag _:=(Qu.o.gw g5).hv;have kn:kept.length<=2000000:=Nat.le_trans TR.o.few.1 iL.o.2;have LY:ag _:=abA HH.o (Fl.o.gw HH.o.kp g5) bk oc5 kept (vJ xd xf) FC.o.1.2 (Fi xd).1 (Fi xd).2 kn wX.o.1 wX.o.2 j mJ;obtain ⟨kl,kF⟩:∃ kl,kept.length=kl:=⟨_,rfl⟩;have KL:ag _:=kF;rw [kF] at LY ⊢;clear xd g5 SF B4 Qu pG Fl xf kn rJ kF FC;go_wp2_with fail;refine Calls.mono LY.o ?_;rintro e w6 ⟨⟨rn,rfl,ld,Qx⟩,g6⟩;have HC6:ag (au HR w6 p (laid rs rn) eps buf (B+iK kept) (W+kept.length)):=by unfold laid;rw [JJ.o,KL.o];exact Qx
   have Qy:ag _:=Qw.o.gx g6 OBP.o;have GX6:ag (Gx (fun q=>q=p) w w6):=(B5.o.gw0.gx _).trans g6 (fun q hq=>.inl hq)
   have E0:ag (w6.heap[bq]?=some (.cells #[.int .i64 0,.int .i64 0,.int .i64 0] 42 (0,0))):=by
    have:=B5.o.lie (bq,#[.int .i64 0,.int .i64 0,.int .i64 0],42) (by simp)
    exact (g6.block bq (aE this) (fun e=>pq e.symm)).trans this
   have LD:ag (∀ W,(∀ q,q<w6.heap.size->q≠bq->W.heap[q]?=w6.heap[q]?)->mI HR w W eps kept rn):=fun W kw=>by
    rcases ld with ⟨a,b⟩ | ⟨a,r,b1,b2,b3,b4,b5,b6⟩
    ·exact .inl ⟨a,b⟩
    ·refine .inr ⟨a,r,b1,b2,b3,b4,fun q hq=>Nat.le_trans B5.o.gw0.size (b5 q hq),b6.keep HH.o.kp fun q hq=>kw q (HH.o.lt b6.h q hq) ?_⟩
     have h1:=b5 q hq;have h2:=aE (B5.o.lie (bq,#[.int .i64 0,.int .i64 0,.int .i64 0],42) (by simp))
     dsimp only at h2;omega
   have NS:ag (∀ r,rn=some r->¬ r.S bq):=fun r hr hx=>by
    rcases ld with ⟨a,b⟩ | ⟨a,r',b1,b2,b3,b4,b5,b6⟩
    ·rw [b] at hr;cases hr
    ·rw [b1] at hr
     cases hr
     have h1:=b5 bq hx;have h2:=aE (B5.o.lie (bq,#[.int .i64 0,.int .i64 0,.int .i64 0],42) (by simp))
     dsimp only at h2;omega
   have TG:ag (Calls prog 34 #[.slice (some ⟨ob,0,none⟩) m oc] w6 fun e w'=>e=.returned (.int .i64 (took rs l:Nat))/\w'=w6):=by
    have:=abr (some ⟨ob,0,none⟩) oc (l::lists (rs.take (j+1))) (by rw [MM.o];omega) (by rw [iL.o.1];exact iL.o.2) w6 Qy.o
    rw [MM.o,iL.o.1] at this;exact this
   clear ld Qx g6 LY Qw B5;go_wp2_with fail;refine Calls.mono TG.o ?_;rintro e w7 ⟨rfl,hw⟩;have cR:w6=w7:=hw.symm;subst cR;obtain ⟨m0,m1,m2,z0,z1,z2,bl,TT⟩:=mP E0.o;have T3:=TT (j:Int) (took rs l:Nat) (kl:Int);have aJ:ag (∀ a b c:Value,dp HR (fun w' rs B W=>au HR w' p rs eps buf B W) (fun q=>q=p) w (((w6.setCell ⟨bq,0,none⟩ a).setCell ⟨bq,1,none⟩ b).setCell ⟨bq,2,none⟩ c) (.returned (.tuple #[.agg #[.int .i64 (j:Int),.int .i64 (took rs l:Nat),.int .i64 (kl:Int)],.int .i64 0])) rs l eps buf B W):=fun a b c=>by
    have gz:Gx (fun q=>q=bq) w6 (((w6.setCell ⟨bq,0,none⟩ a).setCell ⟨bq,1,none⟩ b).setCell ⟨bq,2,none⟩ c):=(((Gx.refl (fun q=>q=bq) w6).set (.inl rfl) _ _).set (.inl rfl) _ _).set (.inl rfl) _ _
    have nS:∀ r,some r∈laid rs rn->¬ r.S bq:=fun r hr hx=>by
     unfold laid at hr;rcases List.mem_append.1 hr with q | q
     ·simp at q
     ·rcases List.mem_cons.1 q with q | q
      ·exact NS.o r q.symm hx
      ·have:=HH.o.lt (HC.o.runs r (List.mem_of_mem_drop q)).1.h bq hx
       rw [BQ.o] at this;omega
    refine ⟨⟨0,?_,.inr (.inr ⟨rfl,?_,o,kept,rn,TR.o,?_,LD.o _ (fun q hq hn=>gz.block q hq hn),HC6.o.gx HH.o.kp gz pq (fun q hq r hr=>by rw [hq];exact nS r hr)⟩)⟩,GX6.o.trans gz (fun q hq=>.inr (by rw [hq];exact Nat.le_of_eq BQ.o))⟩
    ·rw [LN.o];exact CR.o
    ·rw [LN.o];exact NB.o
    ·unfold wR;rw [JJ.o,KL.o]
   clear hw TG Qy E0 TT m41;go_wp2_with fail;exact bodyPost_ret (v:=.tuple #[.agg #[.int .i64 (j:Int),.int .i64 (took rs l:Nat),.int .i64 (kl:Int)],.int .i64 0]) (by simp [results,results9,go_sem,T3.1,T3.2.1,T3.2.2]) rfl (aJ.o _ _ _)
  ·have iS:((n:Int) != buf)=true:=by simpa using nb
   have E0:=B2.o.lie (bq,#[.int .i64 0,.int .i64 0,.int .i64 0],42) (by simp)
   obtain ⟨m0,m1,m2,z0,z1,z2,bl,TT⟩:=mP E0;have T3:=TT 0 0 0;have NB:ag _:=nb;have GU:ag _:=B2.o.gw0;have GF:ag (∀ a b c:Value,dp HR (fun w' rs B W=>au HR w' p rs eps buf B W) (fun q=>q=p) w (((w2.setCell ⟨bq,0,none⟩ a).setCell ⟨bq,1,none⟩ b).setCell ⟨bq,2,none⟩ c) (.returned (.tuple #[.agg #[.int .i64 0,.int .i64 0,.int .i64 0],.int .i64 151])) rs l eps buf B W):=fun a b c=>by
    have gz:Gw w (((w2.setCell ⟨bq,0,none⟩ a).setCell ⟨bq,1,none⟩ b).setCell ⟨bq,2,none⟩ c):=((GU.o.setCell (Nat.le_of_eq BQ.o) _).setCell (Nat.le_of_eq BQ.o) _).setCell (Nat.le_of_eq BQ.o) _;exact ⟨⟨0,by rw [LN.o];exact CR.o,.inr (.inl ⟨rfl,by rw [LN.o];exact NB.o,rfl,HC.o.gw HH.o.kp gz,gz⟩)⟩,gz.gx _⟩
   clear E0 TT nb;go_wp2_with fail;exact bodyPost_ret (v:=.tuple #[.agg #[.int .i64 0,.int .i64 0,.int .i64 0],.int .i64 151]) (by simp [results,results9,go_sem,T3.1,T3.2.1,T3.2.2]) rfl (GF.o _ _ _)
 ·have vE:(r != 0)=true:=by simpa using r0
  have R0:ag _:=r0;have E0:=B2.o.lie (bq,#[.int .i64 0,.int .i64 0,.int .i64 0],42) (by simp)
  obtain ⟨m0,m1,m2,z0,z1,z2,bl,TT⟩:=mP E0;have T3:=TT 0 0 0;have GU:ag _:=B2.o.gw0;have GF:ag (∀ a b c:Value,dp HR (fun w' rs B W=>au HR w' p rs eps buf B W) (fun q=>q=p) w (((w2.setCell ⟨bq,0,none⟩ a).setCell ⟨bq,1,none⟩ b).setCell ⟨bq,2,none⟩ c) (.returned (.tuple #[.agg #[.int .i64 0,.int .i64 0,.int .i64 0],.int .i64 150])) rs l eps buf B W):=fun a b c=>by
   have gz:Gw w (((w2.setCell ⟨bq,0,none⟩ a).setCell ⟨bq,1,none⟩ b).setCell ⟨bq,2,none⟩ c):=((GU.o.setCell (Nat.le_of_eq BQ.o) _).setCell (Nat.le_of_eq BQ.o) _).setCell (Nat.le_of_eq BQ.o) _;exact ⟨⟨r,by rw [LN.o];exact CR.o,.inl ⟨R0.o,rfl,HC.o.gw HH.o.kp gz,gz⟩⟩,gz.gx _⟩
  clear E0 TT r0;go_wp2_with fail;exact bodyPost_ret (v:=.tuple #[.agg #[.int .i64 0,.int .i64 0,.int .i64 0],.int .i64 150]) (by simp [results,results9,go_sem,T3.1,T3.2.1,T3.2.2]) rfl (GF.o _ _ _)
end Go.Proofs.YtklkpldicbkjeaaGreat
