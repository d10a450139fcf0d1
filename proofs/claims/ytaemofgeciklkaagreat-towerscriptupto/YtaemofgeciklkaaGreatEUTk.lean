import Derived.Test.YtaemofgeciklkaaGreatEUMem
import Derived.Test.YtaemofgeciklkaaGreatEPEnt3
set_option linter.unusedVariables false
set_option maxHeartbeats 8000000
set_option maxRecDepth 10000
open Go.Proofs.Tryz
namespace Go.Proofs.YtaemofgeciklkaaGreat
open Go.RowKit
def zf (j t k:Nat):Value:=.agg #[By (j:Int),By (t:Int),By (k:Int)]
def oS (HR:bH) (HC:World->List (Option Rn)->Int->Int->Prop) (F:Nat->Prop) (w w':World) (e:Ending) (rs:List (Option Rn)) (l:List ah) (eps buf B W:Int):Prop :=
 (∃ r0:Int,dS (ek l) (ev l) (eg l) l.length r0/\(
  (r0≠0/\e=π #[zf 0 0 0,By 150]/\HC w' rs B W/\Gw w w') \/
  (r0=0/\(l.length:Int)≠buf/\e=π #[zf 0 0 0,By 151]/\HC w' rs B W/\Gw w w') \/
  (r0=0/\(l.length:Int)=buf/\∃ o kept rn,fV rs l o kept/\e=π #[zf (freeC rs) (took rs l) kept.length,By 0]/\gZ HR w w' eps kept rn/\HC w' (laid rs rn) (B+gY kept) (W+kept.length))))/\Gx F w w'
theorem uc {U:World} {b:Nat} {t:TypeId} {x y z:Int} (h:U.heap[b]?=some (.cells #[By x,By y,By z] t (0,0))):U.cell? (φ b 0)=some (By x)/\U.cell? (φ b 1)=some (By y)/\U.cell? (φ b 2)=some (By z)/\U.frozen? (φ b 0)=false/\U.frozen? (φ b 1)=false/\U.frozen? (φ b 2)=false/\b<U.heap.size/\∀ (x' y' z':Int),(((U.setCell (φ b 0) (By x')).setCell (φ b 1) (By y')).setCell (φ b 2) (By z')).cell? (φ b 0)=some (By x')/\(((U.setCell (φ b 0) (By x')).setCell (φ b 1) (By y')).setCell (φ b 2) (By z')).cell? (φ b 1)=some (By y')/\(((U.setCell (φ b 0) (By x')).setCell (φ b 1) (By y')).setCell (φ b 2) (By z')).cell? (φ b 2)=some (By z'):=by
 refine ⟨aj h rfl,aj h rfl,aj h rfl,bC h,bC h,bC h,ak h,fun x' y' z'=>?_⟩
 have h3:=oK (o:=2) (oK (o:=1) (oK (o:=0) h (By x')) (By y')) (By z');exact ⟨aj h3 rfl,aj h3 rfl,aj h3 rfl⟩
theorem Jr {w:World} {base oc:Nat} {bo:Option Addr} {l:List ah} (h:EO w base (.slice bo l.length oc) l):l.length<=oc/\(bo=none->l.length=0/\oc=0):=by
 rcases h.2 with ⟨e,z⟩ | ⟨b,cap,cur,e,hb,hh,hc,_⟩
 ·injection e with e1 e2 e3
  exact ⟨ω,fun _=>⟨z,e3⟩⟩
 ·injection e with e1 e2 e3
  subst e1 e3;exact ⟨hc,fun x=>by cases x⟩
theorem aP.freeC_lt (rs:List (Option Rn)):freeC rs<40:=by unfold freeC;omega
theorem adS {HR:bH} (H:bj HR) {w:World} {p:Nat} {rs:List (Option Rn)} {eps buf B W:Int} (h:aP HR w p rs eps buf B W) (ao:Option Addr) (c:Nat) (l:List ah) (hl:EL w ao l) (hc:l.length<=c) (hz:ao=none->l.length=0/\c=0) (hs:l.length+tot rs<=2000000) (hB:0<=B/\B<4611686018427387904) (hW:0<=W/\W<4611686018427387904) :
  Calls prog 51 #[IS p,.slice ao l.length c] w fun e w'=>oS HR (fun w' rs B W=>aP HR w' p rs eps buf B W) (fun q=>q=p) w w' e rs l eps buf B W:=by
 have HC:ag _:=h;have HH:ag _:=H;have HL:ag _:=hl;have CK:ag (∀ W,Gw w W->Calls prog 42 #[.slice ao l.length c] W fun e w'=>(∃ r:Int,e=χ (By r)/\dS (ek l) (ev l) (eg l) l.length r)/\Gw W w'):=fun W gg=>Hl ao l.length c (ek l) (ev l) (eg l) ω hc W (hl.gw gg)
 have HS:ag (l.length+tot rs<=2000000/\l.length<=c/\(ao=none->l.length=0/\c=0)):=⟨hs,hc,hz⟩;have zg:ag ((0<=B/\B<4611686018427387904)/\0<=W/\W<4611686018427387904):=⟨hB,hW⟩;obtain ⟨n,hn⟩:=qbr l.length;have LN:ag _:=hn;rw [hn] at CK ⊢;have n1:n<=2000000:=ω;obtain ⟨bq,aE⟩:=qbr w.heap.size;have BQ:ag _:=aE;have hp:=h.lt;have pq:p≠bq:=ω;have BX:ag (bD w [(bq,#[By 0,By 0,By 0],98)] (w.alloc (.cells #[By 0,By 0,By 0] 98))):=by rw [<-aE];exact (bD.nil (Gw.refl w)).add _ _
 clear h H hl hc hz hs hB hW hn aE;go_enter func51,ntmps51;go_wp2_with fail;rw [BQ.o];generalize w.alloc (.cells #[By 0,By 0,By 0] 98)=w1 at BX ⊢;refine Calls.mono (CK.o w1 BX.o.gw0) ?_;rintro e w2 ⟨⟨r,rfl,cr⟩,g2⟩;have CR:ag (dS (ek l) (ev l) (eg l) n r):=by have:=cr;rw [<-LN.o] at this ⊢;exact this
 have B2:ag _:=BX.o.gw g2;clear g2 cr CK BX;by_cases r0:r=0
 ·subst r0
  have c1:=(HC.o.gw HH.o.kp B2.o.gw0).c1;have pl:=(HC.o.gw HH.o.kp B2.o.gw0).lt;by_cases nb:(n:Int)=buf
  ·have l9:ag (aR l):=(by have:=CR.o;rw [<-LN.o] at this;exact this);have NB:ag _:=nb;have jT:((n:Int) != buf)=false:=(by simpa using nb);have FR:ag _:=adh (HC.o.gw HH.o.kp B2.o.gw0);have oL:=aP.freeC_lt rs;have J:ag (∃ j,freeC rs=j):=⟨_,rfl⟩;obtain ⟨j,hj⟩:=J.o;have JJ:ag _:=hj;rw [hj] at FR oL;have Tv:ag (Calls prog 83 #[IS p,.slice ao n c,By (j:Int)] w2 fun e w'=>(∃ ob m oc,e=χ (ψ ob 0 m oc)/\EV w' (some (φ ob 0)) (l::lists (rs.take (j+1)))/\(l::lists (rs.take (j+1))).length=m/\m<=oc/\w2.heap.size<=ob)/\Gw w2 w'):=by
    have:=adk HH.o (HC.o.gw HH.o.kp B2.o.gw0) ao c l (HL.o.gw B2.o.gw0) HS.o.2.1 HS.o.2.2 j oL
    rw [LN.o] at this;exact this
   clear nb hj J;go_wp2_with fail;refine Calls.mono FR.o ?_;rintro e w3 ⟨rfl,hw⟩;have eJ:w2=w3:=hw.symm;subst eJ;clear hw FR c1;go_wp2_with fail;refine Calls.mono Tv.o ?_;rintro e w3 ⟨⟨ob,m,oc,rfl,Js,hm,hmo,Jt⟩,g3⟩;have B3:ag _:=B2.o.gw g3;have ud:ag _:=Js;have jM:ag (aN (l::lists (rs.take (j+1)))=took rs l/\took rs l<=2000000):=by have e:aN (l::lists (rs.take (j+1)))=took rs l:=(by rw [jb];unfold took;rw [JJ.o];rfl);refine ⟨e,?_⟩;have:=pU rs (j+1);have:=HS.o.1;unfold took;rw [JJ.o];omega
   have MM:ag _:=hm;have Tx:ob≠p/\ob≠bq:=(by have h1:=pl;have h2:=ak (B2.o.lie (bq,#[By 0,By 0,By 0],98) ε);dsimp only at h2;omega);have OBP:ag _:=Tx.1;have m41:m<=41:=(by rw [<-hm];have:(lists (rs.take (j+1))).length<=(rs.take (j+1)).length:=List.length_filterMap_le ..;rw [qav] at this;simp only [qak];omega);have EN:ag (Calls prog 85 #[ψ ob 0 m oc] w3 fun e w'=>(∃ bo oc o,e=χ (.slice bo o.length oc)/\EO w' w3.heap.size (.slice bo o.length oc) o/\Mg ah.k (l::lists (rs.take (j+1))) o)/\Gw w3 w'):=by
    have:=adR (some (φ ob 0)) oc (l::lists (rs.take (j+1))) (by rw [hm];omega) (fun i hi=>Φ (Rg hi) (by rw [jM.o.1];exact jM.o.2)) (by rw [jM.o.1];exact jM.o.2) w3 Js
    rw [hm] at this;exact this
   clear Js hm hmo Jt g3 Tv pl Tx B2;go_wp2_with fail;refine Calls.mono EN.o ?_;rintro e w4 ⟨⟨bo,ue,o,rfl,zh,mg⟩,g4⟩;have B4:ag _:=B3.o.gw g4;have Ty:ag _:=ud.o.gw g4;have rN:ag (EL w4 bo o):=je zh (mg.oks ud.o.oks);have TR:ag (fV rs l o (o.filter (aW (aM (rs.drop (j+1)))))):=⟨by rw [JJ.o];exact mg,by rw [JJ.o]⟩
   have FC:ag ((aR o/\aR (o.filter (aW (aM (rs.drop (j+1))))))/\o.length<=2000000):=⟨TR.o.facts l9.o (fun r hr=>(HC.o.runs r hr).1.ok),Φ TR.o.few.2 jM.o.2⟩
   have uf:ag _:=HC.o.gw HH.o.kp B4.o.gw0;have AB:ag _:=ade uf.o j oL;obtain ⟨on,oR⟩:=qbr o.length;have ON:ag _:=oR;rw [oR];clear zh mg g4 EN ud B3 oR;go_wp2_with fail;refine Calls.mono AB.o ?_;rintro e w5 ⟨⟨ab,rfl,Tz⟩,hw⟩;have eJ:w4=w5:=hw.symm;subst eJ;have SF:ag (Calls prog 84 #[.slice bo on ue,.func (.func 87) #[.slice ab (rs.drop (j+1)).length (39-j)] #[]] w4 fun e w'=>(∃ bo oc,e=χ (.slice bo (o.filter (aW (aM (rs.drop (j+1))))).length oc)/\EO w' w4.heap.size (.slice bo (o.filter (aW (aM (rs.drop (j+1))))).length oc) (o.filter (aW (aM (rs.drop (j+1))))))/\Gw w4 w'):=by
    have:=adi bo ue o (.slice ab (rs.drop (j+1)).length (39-j)) (aM (rs.drop (j+1))) FC.o.2 w4 rN.o (fun W gg q q0 q1=>Rw HH.o ab (39-j) (rs.drop (j+1)) q q0 q1 (by rw [qax,HC.o.len];omega) W (Tz.gw HH.o.kp gg))
    rw [ON.o] at this;exact this
   generalize (rs.drop (j+1)).length=dn at SF ⊢;clear hw Tz AB;go_wp2_with fail;refine Calls.mono SF.o ?_;rintro e w5 ⟨⟨bk,oc5,rfl,zj⟩,g5⟩;obtain ⟨kept,ug⟩:=qbr (o.filter (aW (aM (rs.drop (j+1)))));have zm:∀ e∈kept,e.ok:=fun e he=>by rw [<-ug] at he;exact rN.o.all e (List.mem_filter.1 he).1
   rw [ug] at zj TR FC ⊢;have B5:ag _:=B4.o.gw g5;have TC:ag _:=(Ty.o.gw g5).hv;have kn:kept.length<=2000000:=Φ TR.o.few.1 jM.o.2;have LY:ag _:=adu HH.o (uf.o.gw HH.o.kp g5) bk oc5 kept (je zj zm) FC.o.1.2 (Jr zj).1 (Jr zj).2 kn zg.o.1 zg.o.2 j oL;obtain ⟨kl,uh⟩:=qbr kept.length;have KL:ag _:=uh;rw [uh] at LY ⊢;clear zj g5 SF B4 Ty rN uf zm kn ug uh FC;go_wp2_with fail;refine Calls.mono LY.o ?_;rintro e w6 ⟨⟨rn,rfl,ld,TJ⟩,g6⟩;have HC6:ag (aP HR w6 p (laid rs rn) eps buf (B+gY kept) (W+kept.length)):=(by unfold laid;rw [JJ.o,KL.o];exact TJ);have TM:ag _:=TC.o.gx g6 OBP.o;have GX6:ag (Gx (fun q=>q=p) w w6):=(B5.o.gw0.gx _).trans g6 (fun q hq=>.inl hq)
   have E0:ag (w6.heap[bq]?=some (.cells #[By 0,By 0,By 0] 98 (0,0))):=by
    have:=B5.o.lie (bq,#[By 0,By 0,By 0],98) ε
    exact (g6.block bq (ak this) (fun e=>pq e.symm)).trans this
   have LD:ag (∀ W,(∀ q,q<w6.heap.size->q≠bq->W.heap[q]?=w6.heap[q]?)->gZ HR w W eps kept rn):=fun W kw=>by
    rcases ld with ⟨a,b⟩ | ⟨a,r,b1,b2,b3,b4,b5,b6⟩
    ·exact .inl ⟨a,b⟩
    ·refine .inr ⟨a,r,b1,b2,b3,b4,fun q hq=>Φ B5.o.gw0.size (b5 q hq),b6.keep HH.o.kp fun q hq=>kw q (HH.o.lt b6.h q hq) ?_⟩
     have h1:=b5 q hq;have h2:=ak (B5.o.lie (bq,#[By 0,By 0,By 0],98) ε);dsimp only at h2;omega
   have NS:ag (∀ r,rn=some r->¬ r.S bq):=fun r hr hx=>by
    rcases ld with ⟨a,b⟩ | ⟨a,r',b1,b2,b3,b4,b5,b6⟩
    ·rw [b] at hr;cases hr
    ·rw [b1] at hr
     cases hr
     have h1:=b5 bq hx;have h2:=ak (B5.o.lie (bq,#[By 0,By 0,By 0],98) ε);dsimp only at h2;omega
   have TG:ag (Calls prog 89 #[ψ ob 0 m oc] w6 fun e w'=>e=χ (By (took rs l:Nat))/\w'=w6):=by
    have:=adl (some (φ ob 0)) oc (l::lists (rs.take (j+1))) (by rw [MM.o];omega) (by rw [jM.o.1];exact jM.o.2) w6 TM.o
    rw [MM.o,jM.o.1] at this;exact this
   clear ld TJ g6 LY TC B5;go_wp2_with fail;refine Calls.mono TG.o ?_;rintro e w7 ⟨rfl,hw⟩;have eJ:w6=w7:=hw.symm;subst eJ;obtain ⟨m0,m1,m2,z0,z1,z2,bl,TT⟩:=uc E0.o;have T3:=TT (j:Int) (took rs l:Nat) (kl:Int);have aD:ag (∀ a b c:Value,oS HR (fun w' rs B W=>aP HR w' p rs eps buf B W) (fun q=>q=p) w (((w6.setCell (φ bq 0) a).setCell (φ bq 1) b).setCell (φ bq 2) c) (χ (.tuple #[.agg #[By (j:Int),By (took rs l:Nat),By (kl:Int)],By 0])) rs l eps buf B W):=fun a b c=>by
    have gz:Gx (fun q=>q=bq) w6 (((w6.setCell (φ bq 0) a).setCell (φ bq 1) b).setCell (φ bq 2) c):=(((Gx.refl (fun q=>q=bq) w6).set (.inl rfl) _ _).set (.inl rfl) _ _).set (.inl rfl) _ _
    have nS:∀ r,some r∈laid rs rn->¬ r.S bq:=fun r hr hx=>by
     unfold laid at hr;rcases qaq.1 hr with q | q
     ·simp at q
     ·rcases qaf.1 q with q | q
      ·exact NS.o r q.symm hx
      ·have:=HH.o.lt (HC.o.runs r (qbn q)).1.h bq hx
       rw [BQ.o] at this;omega
    refine ⟨⟨0,?_,.inr (.inr ⟨rfl,?_,o,kept,rn,TR.o,?_,LD.o _ (fun q hq hn=>gz.block q hq hn),HC6.o.gx HH.o.kp gz pq (fun q hq r hr=>by rw [hq];exact nS r hr)⟩)⟩,GX6.o.trans gz (fun q hq=>.inr (by rw [hq];exact qad BQ.o))⟩
    ·rw [LN.o];exact CR.o
    ·rw [LN.o];exact NB.o
    ·unfold zf;rw [JJ.o,KL.o]
   clear hw TG TM E0 TT m41;go_wp2_with fail;exact bodyPost_ret (v:=.tuple #[.agg #[By (j:Int),By (took rs l:Nat),By (kl:Int)],By 0]) (by simp [results,results51,go_sem,T3.1,T3.2.1,T3.2.2]) rfl (aD.o _ _ _)
  ·have jT:((n:Int) != buf)=true:=(by simpa using nb);have E0:=B2.o.lie (bq,#[By 0,By 0,By 0],98) ε;obtain ⟨m0,m1,m2,z0,z1,z2,bl,TT⟩:=uc E0;have T3:=TT 0 0 0;have NB:ag _:=nb;have GU:ag _:=B2.o.gw0;have GF:ag (∀ a b c:Value,oS HR (fun w' rs B W=>aP HR w' p rs eps buf B W) (fun q=>q=p) w (((w2.setCell (φ bq 0) a).setCell (φ bq 1) b).setCell (φ bq 2) c) (χ (.tuple #[.agg #[By 0,By 0,By 0],By 151])) rs l eps buf B W):=fun a b c=>by have gz:Gw w (((w2.setCell (φ bq 0) a).setCell (φ bq 1) b).setCell (φ bq 2) c):=((GU.o.setCell (qad BQ.o) _).setCell (qad BQ.o) _).setCell (qad BQ.o) _;exact ⟨⟨0,by rw [LN.o];exact CR.o,.inr (.inl ⟨rfl,by rw [LN.o];exact NB.o,rfl,HC.o.gw HH.o.kp gz,gz⟩)⟩,gz.gx _⟩
   clear E0 TT nb;go_wp2_with fail;exact bodyPost_ret (v:=.tuple #[.agg #[By 0,By 0,By 0],By 151]) (by simp [results,results51,go_sem,T3.1,T3.2.1,T3.2.2]) rfl (GF.o _ _ _)
 ·have vK:(r != 0)=true:=by simpa using r0
  have R0:ag _:=r0;have E0:=B2.o.lie (bq,#[By 0,By 0,By 0],98) ε;obtain ⟨m0,m1,m2,z0,z1,z2,bl,TT⟩:=uc E0;have T3:=TT 0 0 0;have GU:ag _:=B2.o.gw0;have GF:ag (∀ a b c:Value,oS HR (fun w' rs B W=>aP HR w' p rs eps buf B W) (fun q=>q=p) w (((w2.setCell (φ bq 0) a).setCell (φ bq 1) b).setCell (φ bq 2) c) (χ (.tuple #[.agg #[By 0,By 0,By 0],By 150])) rs l eps buf B W):=fun a b c=>by have gz:Gw w (((w2.setCell (φ bq 0) a).setCell (φ bq 1) b).setCell (φ bq 2) c):=((GU.o.setCell (qad BQ.o) _).setCell (qad BQ.o) _).setCell (qad BQ.o) _;exact ⟨⟨r,by rw [LN.o];exact CR.o,.inl ⟨R0.o,rfl,HC.o.gw HH.o.kp gz,gz⟩⟩,gz.gx _⟩
  clear E0 TT r0;go_wp2_with fail;exact bodyPost_ret (v:=.tuple #[.agg #[By 0,By 0,By 0],By 150]) (by simp [results,results51,go_sem,T3.1,T3.2.1,T3.2.2]) rfl (GF.o _ _ _)
