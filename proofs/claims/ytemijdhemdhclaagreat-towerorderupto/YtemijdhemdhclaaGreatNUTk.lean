/- Package classes: Take. -/
import Derived.Test.YtemijdhemdhclaaGreatNUTell
import Derived.Test.YtemijdhemdhclaaGreatNPEnt3
set_option linter.unusedVariables false
set_option maxHeartbeats 8000000
set_option maxRecDepth 10000
open Go.Proofs.Tryz
namespace Go.Proofs.YtemijdhemdhclaaGreat
open Go.RowKit
def builtV (j t k:Nat):Value:=.agg #[.int .i64 (j:Int),.int .i64 (t:Int),.int .i64 (k:Int)]
def TakeOut (HR:HRt) (HC:World->List (Option Rn)->Int->Int->Prop) (F:Nat->Prop) (w w':World) (e:Ending) (rs:List (Option Rn)) (l:List Ent) (eps buf B W:Int):Prop :=
 (∃ r0:Int,ChkR (ek l) (ev l) (eg l) l.length r0/\(
  (r0≠0/\e=.returned (.tuple #[builtV 0 0 0,.int .i64 150])/\HC w' rs B W/\Gw w w') \/
  (r0=0/\(l.length:Int)≠buf/\e=.returned (.tuple #[builtV 0 0 0,.int .i64 151])/\HC w' rs B W/\Gw w w') \/
  (r0=0/\(l.length:Int)=buf/\∃ o kept rn,TakeR rs l o kept/\e=.returned (.tuple #[builtV (freeC rs) (took rs l) kept.length,.int .i64 0])/\LaidR HR w w' eps kept rn/\HC w' (laid rs rn) (B+one15 kept) (W+kept.length))))/\Gx F w w'
theorem box_b {U:World} {b:Nat} {t:TypeId} {x y z:Int} (h:U.heap[b]?=some (.cells #[.int .i64 x,.int .i64 y,.int .i64 z] t (0,0))):U.cell? ⟨b,0,none⟩=some (.int .i64 x)/\U.cell? ⟨b,1,none⟩=some (.int .i64 y)/\U.cell? ⟨b,2,none⟩=some (.int .i64 z)/\U.frozen? ⟨b,0,none⟩=false/\U.frozen? ⟨b,1,none⟩=false/\U.frozen? ⟨b,2,none⟩=false/\b<U.heap.size/\∀ (x' y' z':Int),(((U.setCell ⟨b,0,none⟩ (.int .i64 x')).setCell ⟨b,1,none⟩ (.int .i64 y')).setCell ⟨b,2,none⟩ (.int .i64 z')).cell? ⟨b,0,none⟩=some (.int .i64 x')/\(((U.setCell ⟨b,0,none⟩ (.int .i64 x')).setCell ⟨b,1,none⟩ (.int .i64 y')).setCell ⟨b,2,none⟩ (.int .i64 z')).cell? ⟨b,1,none⟩=some (.int .i64 y')/\(((U.setCell ⟨b,0,none⟩ (.int .i64 x')).setCell ⟨b,1,none⟩ (.int .i64 y')).setCell ⟨b,2,none⟩ (.int .i64 z')).cell? ⟨b,2,none⟩=some (.int .i64 z'):=by
 refine ⟨blkc h rfl,blkc h rfl,blkc h rfl,blkf h,blkf h,blkf h,blkl h,fun x' y' z'=>?_⟩
 have h3:=blk_set15 (o:=2) (blk_set15 (o:=1) (blk_set15 (o:=0) h (.int .i64 x')) (.int .i64 y')) (.int .i64 z');exact ⟨blkc h3 rfl,blkc h3 rfl,blkc h3 rfl⟩
theorem eo_shape15 {w:World} {base oc:Nat} {bo:Option Addr} {l:List Ent} (h:EO w base (.slice bo l.length oc) l):l.length<=oc/\(bo=none->l.length=0/\oc=0):=by
 rcases h.2 with ⟨e,z⟩ | ⟨b,cap,cur,e,hb,hh,hc,_⟩
 ·injection e with e1 e2 e3
  exact ⟨by omega,fun _=>⟨z,e3⟩⟩
 ·injection e with e1 e2 e3
  subst e1 e3;exact ⟨hc,fun x=>by cases x⟩
theorem HCl.freeC_lt (rs:List (Option Rn)):freeC rs<40:=by unfold freeC;omega
theorem take15 {HR:HRt} (H:RunC HR) {w:World} {p:Nat} {rs:List (Option Rn)} {eps buf B W:Int} (h:HCl HR w p rs eps buf B W) (ao:Option Addr) (c:Nat) (l:List Ent) (hl:EL w ao l) (hc:l.length<=c) (hz:ao=none->l.length=0/\c=0) (hs:l.length+tot rs<=2000000) (hB:0<=B/\B<4611686018427387904) (hW:0<=W/\W<4611686018427387904) :
  Calls prog 45 #[.pointer (some ⟨p,0,none⟩),.slice ao l.length c] w fun e w'=>TakeOut HR (fun w' rs B W=>HCl HR w' p rs eps buf B W) (fun q=>q=p) w w' e rs l eps buf B W:=by
 have HC:Aside _:=h;have HH:Aside _:=H;have HL:Aside _:=hl;have CK:Hid (∀ W,Gw w W->Calls prog 35 #[.slice ao l.length c] W fun e w'=>(∃ r:Int,e=.returned (.int .i64 r)/\ChkR (ek l) (ev l) (eg l) l.length r)/\Gw W w'):=fun W gg=>check3_any ao l.length c (ek l) (ev l) (eg l) (by omega) hc W (hl.gw gg)
 have HS:Aside (l.length+tot rs<=2000000/\l.length<=c/\(ao=none->l.length=0/\c=0)):=⟨hs,hc,hz⟩;have HBW:Aside ((0<=B/\B<4611686018427387904)/\0<=W/\W<4611686018427387904):=⟨hB,hW⟩;obtain ⟨n,hn⟩:∃ n,l.length=n:=⟨_,rfl⟩;have LN:Aside _:=hn;rw [hn] at CK ⊢;have n1:n<=2000000:=by omega
 obtain ⟨bq,hbq⟩:∃ b,w.heap.size=b:=⟨_,rfl⟩;have BQ:Aside _:=hbq;have hp:=h.lt;have pq:p≠bq:=by omega
 have BX:Aside (Bxs w [(bq,#[.int .i64 0,.int .i64 0,.int .i64 0],88)] (w.alloc (.cells #[.int .i64 0,.int .i64 0,.int .i64 0] 88))):=by rw [<-hbq];exact (Bxs.nil (Gw.refl w)).add _ _
 clear h H hl hc hz hs hB hW hn hbq;go_enter func45,ntmps45;go_wp2_with fail;rw [BQ.out];generalize w.alloc (.cells #[.int .i64 0,.int .i64 0,.int .i64 0] 88)=w1 at BX ⊢;refine Calls.mono (CK.out w1 BX.out.gw0) ?_;rintro e w2 ⟨⟨r,rfl,cr⟩,g2⟩;have CR:Aside (ChkR (ek l) (ev l) (eg l) n r):=by have:=cr;rw [<-LN.out] at this ⊢;exact this
 have B2:Aside _:=BX.out.gw g2;clear g2 cr CK BX;by_cases r0:r=0
 ·subst r0
  have c1:=(HC.out.gw HH.out.kp B2.out.gw0).c1;have pl:=(HC.out.gw HH.out.kp B2.out.gw0).lt;by_cases nb:(n:Int)=buf
  ·have OKL:Aside (EOk l):=by have:=CR.out;rw [<-LN.out] at this;exact this
   have NB:Aside _:=nb;have nb':((n:Int) != buf)=false:=by simpa using nb
   have FR:Hid _:=free15 (HC.out.gw HH.out.kp B2.out.gw0);have j40:=HCl.freeC_lt rs;have J:Aside (∃ j,freeC rs=j):=⟨_,rfl⟩;obtain ⟨j,hj⟩:=J.out;have JJ:Aside _:=hj;rw [hj] at FR j40;have TKN:Hid (Calls prog 66 #[.pointer (some ⟨p,0,none⟩),.slice ao n c,.int .i64 (j:Int)] w2 fun e w'=>(∃ ob m oc,e=.returned (.slice (some ⟨ob,0,none⟩) m oc)/\EV w' (some ⟨ob,0,none⟩) (l::lists (rs.take (j+1)))/\(l::lists (rs.take (j+1))).length=m/\m<=oc/\w2.heap.size<=ob)/\Gw w2 w'):=by
    have:=taken15 HH.out (HC.out.gw HH.out.kp B2.out.gw0) ao c l (HL.out.gw B2.out.gw0) HS.out.2.1 HS.out.2.2 j j40
    rw [LN.out] at this;exact this
   clear nb hj J;go_wp2_with fail;refine Calls.mono FR.out ?_;rintro e w3 ⟨rfl,hw⟩;have hw':w2=w3:=hw.symm;subst hw';clear hw FR c1;go_wp2_with fail;refine Calls.mono TKN.out ?_;rintro e w3 ⟨⟨ob,m,oc,rfl,evl,hm,hmo,hob⟩,g3⟩;have B3:Aside _:=B2.out.gw g3;have EVL:Aside _:=evl;have TOOK:Aside (sizes (l::lists (rs.take (j+1)))=took rs l/\took rs l<=2000000):=by
    have e:sizes (l::lists (rs.take (j+1)))=took rs l:=by rw [sizes_cons];unfold took;rw [JJ.out];rfl
    refine ⟨e,?_⟩;have:=tot_take rs (j+1);have:=HS.out.1;unfold took;rw [JJ.out];omega
   have MM:Aside _:=hm;have obp:ob≠p/\ob≠bq:=by
    have h1:=pl;have h2:=blkl (B2.out.lie (bq,#[.int .i64 0,.int .i64 0,.int .i64 0],88) (by simp))
    dsimp only at h2;omega
   have OBP:Aside _:=obp.1;have m41:m<=41:=by
    rw [<-hm];have:(lists (rs.take (j+1))).length<=(rs.take (j+1)).length:=List.length_filterMap_le ..;rw [List.length_take] at this;simp only [List.length_cons];omega
   have EN:Hid (Calls prog 68 #[.slice (some ⟨ob,0,none⟩) m oc] w3 fun e w'=>(∃ bo oc o,e=.returned (.slice bo o.length oc)/\EO w' w3.heap.size (.slice bo o.length oc) o/\Mg Ent.k (l::lists (rs.take (j+1))) o)/\Gw w3 w'):=by
    have:=entries13 (some ⟨ob,0,none⟩) oc (l::lists (rs.take (j+1))) (by rw [hm];omega) (fun i hi=>Nat.le_trans (rows_le hi) (by rw [TOOK.out.1];exact TOOK.out.2)) (by rw [TOOK.out.1];exact TOOK.out.2) w3 evl
    rw [hm] at this;exact this
   clear evl hm hmo hob g3 TKN pl obp B2;go_wp2_with fail;refine Calls.mono EN.out ?_;rintro e w4 ⟨⟨bo,oc4,o,rfl,eo4,mg⟩,g4⟩;have B4:Aside _:=B3.out.gw g4;have EV4:Aside _:=EVL.out.gw g4;have EL4:Aside (EL w4 bo o):=eo_el eo4 (mg.oks EVL.out.oks);have TR:Aside (TakeR rs l o (o.filter (keepP (liveQ (rs.drop (j+1)))))):=⟨by rw [JJ.out];exact mg,by rw [JJ.out]⟩
   have FC:Aside ((EOk o/\EOk (o.filter (keepP (liveQ (rs.drop (j+1))))))/\o.length<=2000000):=⟨TR.out.facts OKL.out (fun r hr=>(HC.out.runs r hr).1.ok),Nat.le_trans TR.out.few.2 TOOK.out.2⟩
   have HC4:Aside _:=HC.out.gw HH.out.kp B4.out.gw0;have AB:Hid _:=above15 HC4.out j j40;obtain ⟨on,hon⟩:∃ on,o.length=on:=⟨_,rfl⟩;have ON:Aside _:=hon;rw [hon];clear eo4 mg g4 EN EVL B3 hon;go_wp2_with fail;refine Calls.mono AB.out ?_;rintro e w5 ⟨⟨ab,rfl,prr⟩,hw⟩;have hw':w4=w5:=hw.symm;subst hw';have SF:Hid (Calls prog 67 #[.slice bo on oc4,.func (.func 70) #[.slice ab (rs.drop (j+1)).length (39-j)] #[]] w4 fun e w'=>(∃ bo oc,e=.returned (.slice bo (o.filter (keepP (liveQ (rs.drop (j+1))))).length oc)/\EO w' w4.heap.size (.slice bo (o.filter (keepP (liveQ (rs.drop (j+1))))).length oc) (o.filter (keepP (liveQ (rs.drop (j+1))))))/\Gw w4 w'):=by
    have:=sift15 bo oc4 o (.slice ab (rs.drop (j+1)).length (39-j)) (liveQ (rs.drop (j+1))) FC.out.2 w4 EL4.out (fun W gg q q0 q1=>live15 HH.out ab (39-j) (rs.drop (j+1)) q q0 q1 (by rw [List.length_drop,HC.out.len];omega) W (prr.gw HH.out.kp gg))
    rw [ON.out] at this;exact this
   generalize (rs.drop (j+1)).length=dn at SF ⊢;clear hw prr AB;go_wp2_with fail;refine Calls.mono SF.out ?_;rintro e w5 ⟨⟨bk,oc5,rfl,eo5⟩,g5⟩;obtain ⟨kept,hkept⟩:∃ kept,o.filter (keepP (liveQ (rs.drop (j+1))))=kept:=⟨_,rfl⟩;have EOKB:∀ e∈kept,e.ok:=fun e he=>by rw [<-hkept] at he;exact EL4.out.all e (List.mem_filter.1 he).1
   rw [hkept] at eo5 TR FC ⊢;have B5:Aside _:=B4.out.gw g5;have HV5:Aside _:=(EV4.out.gw g5).hv;have kn:kept.length<=2000000:=Nat.le_trans TR.out.few.1 TOOK.out.2;have LY:Hid _:=lay15 HH.out (HC4.out.gw HH.out.kp g5) bk oc5 kept (eo_el eo5 EOKB) FC.out.1.2 (eo_shape15 eo5).1 (eo_shape15 eo5).2 kn HBW.out.1 HBW.out.2 j j40;obtain ⟨kl,hkl⟩:∃ kl,kept.length=kl:=⟨_,rfl⟩;have KL:Aside _:=hkl;rw [hkl] at LY ⊢;clear eo5 g5 SF B4 EV4 EL4 HC4 EOKB kn hkept hkl FC;go_wp2_with fail;refine Calls.mono LY.out ?_;rintro e w6 ⟨⟨rn,rfl,ld,hc6⟩,g6⟩;have HC6:Aside (HCl HR w6 p (laid rs rn) eps buf (B+one15 kept) (W+kept.length)):=by unfold laid;rw [JJ.out,KL.out];exact hc6
   have HV6:Aside _:=HV5.out.gx g6 OBP.out;have GX6:Aside (Gx (fun q=>q=p) w w6):=(B5.out.gw0.gx _).trans g6 (fun q hq=>.inl hq)
   have E0:Hid (w6.heap[bq]?=some (.cells #[.int .i64 0,.int .i64 0,.int .i64 0] 88 (0,0))):=by
    have:=B5.out.lie (bq,#[.int .i64 0,.int .i64 0,.int .i64 0],88) (by simp)
    exact (g6.block bq (blkl this) (fun e=>pq e.symm)).trans this
   have LD:Aside (∀ W,(∀ q,q<w6.heap.size->q≠bq->W.heap[q]?=w6.heap[q]?)->LaidR HR w W eps kept rn):=fun W kw=>by
    rcases ld with ⟨a,b⟩ | ⟨a,r,b1,b2,b3,b4,b5,b6⟩
    ·exact .inl ⟨a,b⟩
    ·refine .inr ⟨a,r,b1,b2,b3,b4,fun q hq=>Nat.le_trans B5.out.gw0.size (b5 q hq),b6.keep HH.out.kp fun q hq=>kw q (HH.out.lt b6.h q hq) ?_⟩
     have h1:=b5 q hq;have h2:=blkl (B5.out.lie (bq,#[.int .i64 0,.int .i64 0,.int .i64 0],88) (by simp))
     dsimp only at h2;omega
   have NS:Aside (∀ r,rn=some r->¬ r.S bq):=fun r hr hx=>by
    rcases ld with ⟨a,b⟩ | ⟨a,r',b1,b2,b3,b4,b5,b6⟩
    ·rw [b] at hr;cases hr
    ·rw [b1] at hr
     cases hr
     have h1:=b5 bq hx;have h2:=blkl (B5.out.lie (bq,#[.int .i64 0,.int .i64 0,.int .i64 0],88) (by simp))
     dsimp only at h2;omega
   have TG:Hid (Calls prog 72 #[.slice (some ⟨ob,0,none⟩) m oc] w6 fun e w'=>e=.returned (.int .i64 (took rs l:Nat))/\w'=w6):=by
    have:=together15 (some ⟨ob,0,none⟩) oc (l::lists (rs.take (j+1))) (by rw [MM.out];omega) (by rw [TOOK.out.1];exact TOOK.out.2) w6 HV6.out
    rw [MM.out,TOOK.out.1] at this;exact this
   clear ld hc6 g6 LY HV5 B5;go_wp2_with fail;refine Calls.mono TG.out ?_;rintro e w7 ⟨rfl,hw⟩;have hw':w6=w7:=hw.symm;subst hw';obtain ⟨m0,m1,m2,z0,z1,z2,bl,TT⟩:=box_b E0.out;have T3:=TT (j:Int) (took rs l:Nat) (kl:Int);have FIN:Hid (∀ a b c:Value,TakeOut HR (fun w' rs B W=>HCl HR w' p rs eps buf B W) (fun q=>q=p) w (((w6.setCell ⟨bq,0,none⟩ a).setCell ⟨bq,1,none⟩ b).setCell ⟨bq,2,none⟩ c) (.returned (.tuple #[.agg #[.int .i64 (j:Int),.int .i64 (took rs l:Nat),.int .i64 (kl:Int)],.int .i64 0])) rs l eps buf B W):=fun a b c=>by
    have gz:Gx (fun q=>q=bq) w6 (((w6.setCell ⟨bq,0,none⟩ a).setCell ⟨bq,1,none⟩ b).setCell ⟨bq,2,none⟩ c):=(((Gx.refl (fun q=>q=bq) w6).set (.inl rfl) _ _).set (.inl rfl) _ _).set (.inl rfl) _ _
    have nS:∀ r,some r∈laid rs rn->¬ r.S bq:=fun r hr hx=>by
     unfold laid at hr;rcases List.mem_append.1 hr with q | q
     ·simp at q
     ·rcases List.mem_cons.1 q with q | q
      ·exact NS.out r q.symm hx
      ·have:=HH.out.lt (HC.out.runs r (List.mem_of_mem_drop q)).1.h bq hx
       rw [BQ.out] at this;omega
    refine ⟨⟨0,?_,.inr (.inr ⟨rfl,?_,o,kept,rn,TR.out,?_,LD.out _ (fun q hq hn=>gz.block q hq hn),HC6.out.gx HH.out.kp gz pq (fun q hq r hr=>by rw [hq];exact nS r hr)⟩)⟩,GX6.out.trans gz (fun q hq=>.inr (by rw [hq];exact Nat.le_of_eq BQ.out))⟩
    ·rw [LN.out];exact CR.out
    ·rw [LN.out];exact NB.out
    ·unfold builtV;rw [JJ.out,KL.out]
   clear hw TG HV6 E0 TT m41;go_wp2_with fail;exact bodyPost_ret (v:=.tuple #[.agg #[.int .i64 (j:Int),.int .i64 (took rs l:Nat),.int .i64 (kl:Int)],.int .i64 0]) (by simp [results,results45,go_sem,T3.1,T3.2.1,T3.2.2]) rfl (FIN.out _ _ _)
  ·have nb':((n:Int) != buf)=true:=by simpa using nb
   have E0:=B2.out.lie (bq,#[.int .i64 0,.int .i64 0,.int .i64 0],88) (by simp)
   obtain ⟨m0,m1,m2,z0,z1,z2,bl,TT⟩:=box_b E0;have T3:=TT 0 0 0;have NB:Aside _:=nb;have GU:Aside _:=B2.out.gw0;have GF:Hid (∀ a b c:Value,TakeOut HR (fun w' rs B W=>HCl HR w' p rs eps buf B W) (fun q=>q=p) w (((w2.setCell ⟨bq,0,none⟩ a).setCell ⟨bq,1,none⟩ b).setCell ⟨bq,2,none⟩ c) (.returned (.tuple #[.agg #[.int .i64 0,.int .i64 0,.int .i64 0],.int .i64 151])) rs l eps buf B W):=fun a b c=>by
    have gz:Gw w (((w2.setCell ⟨bq,0,none⟩ a).setCell ⟨bq,1,none⟩ b).setCell ⟨bq,2,none⟩ c):=((GU.out.setCell (Nat.le_of_eq BQ.out) _).setCell (Nat.le_of_eq BQ.out) _).setCell (Nat.le_of_eq BQ.out) _;exact ⟨⟨0,by rw [LN.out];exact CR.out,.inr (.inl ⟨rfl,by rw [LN.out];exact NB.out,rfl,HC.out.gw HH.out.kp gz,gz⟩)⟩,gz.gx _⟩
   clear E0 TT nb;go_wp2_with fail;exact bodyPost_ret (v:=.tuple #[.agg #[.int .i64 0,.int .i64 0,.int .i64 0],.int .i64 151]) (by simp [results,results45,go_sem,T3.1,T3.2.1,T3.2.2]) rfl (GF.out _ _ _)
 ·have r0':(r != 0)=true:=by simpa using r0
  have R0:Aside _:=r0;have E0:=B2.out.lie (bq,#[.int .i64 0,.int .i64 0,.int .i64 0],88) (by simp)
  obtain ⟨m0,m1,m2,z0,z1,z2,bl,TT⟩:=box_b E0;have T3:=TT 0 0 0;have GU:Aside _:=B2.out.gw0;have GF:Hid (∀ a b c:Value,TakeOut HR (fun w' rs B W=>HCl HR w' p rs eps buf B W) (fun q=>q=p) w (((w2.setCell ⟨bq,0,none⟩ a).setCell ⟨bq,1,none⟩ b).setCell ⟨bq,2,none⟩ c) (.returned (.tuple #[.agg #[.int .i64 0,.int .i64 0,.int .i64 0],.int .i64 150])) rs l eps buf B W):=fun a b c=>by
   have gz:Gw w (((w2.setCell ⟨bq,0,none⟩ a).setCell ⟨bq,1,none⟩ b).setCell ⟨bq,2,none⟩ c):=((GU.out.setCell (Nat.le_of_eq BQ.out) _).setCell (Nat.le_of_eq BQ.out) _).setCell (Nat.le_of_eq BQ.out) _;exact ⟨⟨r,by rw [LN.out];exact CR.out,.inl ⟨R0.out,rfl,HC.out.gw HH.out.kp gz,gz⟩⟩,gz.gx _⟩
  clear E0 TT r0;go_wp2_with fail;exact bodyPost_ret (v:=.tuple #[.agg #[.int .i64 0,.int .i64 0,.int .i64 0],.int .i64 150]) (by simp [results,results45,go_sem,T3.1,T3.2.1,T3.2.2]) rfl (GF.out _ _ _)
end Go.Proofs.YtemijdhemdhclaaGreat
