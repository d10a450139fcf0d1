/- Package classes: Take. -/
import Derived.Test.YtjhaiiegdnamcabGreatHPE3
import Derived.Test.YtjhaiiegdnamcabGreatHUTell
import Derived.Test.YtjhaiiegdnamcabGreatHUOf2
import Derived.Test.YtjhaiiegdnamcabGreatHPEnt2
namespace Go.Proofs.YtjhaiiegdnamcabGreat
open Go.RowKit
set_option linter.unusedVariables false
def builtV (j t k:Nat):Value:=.agg #[.int .i64 (j:Int), .int .i64 (t:Int), .int .i64 (k:Int)]
def TakeOut (HR:HRt) (HC:World→List (Option Rn)→Int→Int→Prop) (F:Nat→Prop) (w w':World) (e:Ending) (rs:List (Option Rn)) (l:List Ent) (eps buf B W:Int):Prop :=
 (∃ r0:Int,ChkR (ek l) (ev l) (eg l) l.length r0∧(
  (r0≠0∧e=.returned (.tuple #[builtV 0 0 0, .int .i64 150])∧HC w' rs B W∧Gw w w') ∨
  (r0=0∧(l.length:Int)≠buf∧e=.returned (.tuple #[builtV 0 0 0, .int .i64 151])∧HC w' rs B W∧Gw w w') ∨
  (r0=0∧(l.length:Int)=buf∧∃ o kept rn,TakeR rs l o kept∧e=.returned (.tuple #[builtV (freeC rs) (took rs l) kept.length, .int .i64 0])∧LaidR HR w w' eps kept rn∧HC w' (laid rs rn) (B+one15 kept) (W+kept.length))))∧Gx F w w'
theorem box_b {U:World} {b:Nat} {t:TypeId} {x y z:Int} (h:U.heap[b]?=some (.cells #[.int .i64 x, .int .i64 y, .int .i64 z] t (0,0))):U.cell? ⟨b,0,none⟩=some (.int .i64 x)∧U.cell? ⟨b,1,none⟩=some (.int .i64 y)∧U.cell? ⟨b,2,none⟩=some (.int .i64 z)∧U.frozen? ⟨b,0,none⟩=false∧U.frozen? ⟨b,1,none⟩=false∧U.frozen? ⟨b,2,none⟩=false∧b<U.heap.size∧∀ (x' y' z':Int),(((U.setCell ⟨b,0,none⟩ (.int .i64 x')).setCell ⟨b,1,none⟩ (.int .i64 y')).setCell ⟨b,2,none⟩ (.int .i64 z')).cell? ⟨b,0,none⟩=some (.int .i64 x')∧(((U.setCell ⟨b,0,none⟩ (.int .i64 x')).setCell ⟨b,1,none⟩ (.int .i64 y')).setCell ⟨b,2,none⟩ (.int .i64 z')).cell? ⟨b,1,none⟩=some (.int .i64 y')∧(((U.setCell ⟨b,0,none⟩ (.int .i64 x')).setCell ⟨b,1,none⟩ (.int .i64 y')).setCell ⟨b,2,none⟩ (.int .i64 z')).cell? ⟨b,2,none⟩=some (.int .i64 z'):=by
 refine ⟨blkc h rfl,blkc h rfl,blkc h rfl,blkf h,blkf h,blkf h,blkl h,fun x' y' z'=>?_⟩
 have h3:=blk_set15 (o:=2) (blk_set15 (o:=1) (blk_set15 (o:=0) h (.int .i64 x')) (.int .i64 y')) (.int .i64 z')
 exact ⟨blkc h3 rfl,blkc h3 rfl,blkc h3 rfl⟩
theorem eo_shape15 {w:World} {base oc:Nat} {bo:Option Addr} {l:List Ent} (h:EO w base (.slice bo l.length oc) l):l.length≤oc∧(bo=none→l.length=0∧oc=0):=by
 rcases h.2 with ⟨e,z⟩ | ⟨b,cap,cur,e,hb,hh,hc,_⟩
 ·injection e with e1 e2 e3
  exact ⟨by omega,fun _=>⟨z,e3⟩⟩
 ·injection e with e1 e2 e3
  subst e1 e3
  exact ⟨hc,fun x=>by cases x⟩
theorem HCl.freeC_lt (rs:List (Option Rn)):freeC rs<40:=by unfold freeC;omega
set_option maxRecDepth 10000 in
set_option maxHeartbeats 8000000 in
theorem take15 {HR:HRt} (H:RunC HR) {w:World} {p:Nat} {rs:List (Option Rn)} {eps buf B W:Int} (h:HCl HR w p rs eps buf B W) (ao:Option Addr) (c:Nat) (l:List Ent) (hl:EL w ao l) (hc:l.length≤c) (hz:ao=none→l.length=0∧c=0) (hs:l.length+tot rs≤2000000) (hB:0≤B∧B<4611686018427387904) (hW:0≤W∧W<4611686018427387904) :
  Calls Tryz.prog 23 #[.pointer (some ⟨p,0,none⟩), .slice ao l.length c] w fun e w'=>TakeOut HR (fun w' rs B W=>HCl HR w' p rs eps buf B W) (fun q=>q=p) w w' e rs l eps buf B W:=by
 have HC:Aside (HCl HR w p rs eps buf B W):=h
 have HH:Aside (RunC HR):=H
 have HL:Aside (EL w ao l):=hl
 have CK:Hid (∀ W,Gw w W→Calls Tryz.prog 40 #[.slice ao l.length c] W fun e w'=>(∃ r:Int,e=.returned (.int .i64 r)∧ChkR (ek l) (ev l) (eg l) l.length r)∧Gw W w'):=fun W gg=>check3_any ao l.length c (ek l) (ev l) (eg l) (by omega) hc W (hl.gw gg)
 have HS:Aside (l.length+tot rs≤2000000∧l.length≤c∧(ao=none→l.length=0∧c=0)):=⟨hs,hc,hz⟩
 have HBW:Aside ((0≤B∧B<4611686018427387904)∧0≤W∧W<4611686018427387904):=⟨hB,hW⟩
 obtain ⟨n,hn⟩:∃ n,l.length=n:=⟨_,rfl⟩
 have LN:Aside (l.length=n):=hn
 rw [hn] at CK ⊢
 have n1:n≤2000000:=by omega
 obtain ⟨bq,hbq⟩:∃ b,w.heap.size=b:=⟨_,rfl⟩
 have BQ:Aside (w.heap.size=bq):=hbq
 have hp:=h.lt
 have pq:p≠bq:=by omega
 have BX:Aside (Bxs w [(bq,#[.int .i64 0, .int .i64 0, .int .i64 0],67)] (w.alloc (.cells #[.int .i64 0, .int .i64 0, .int .i64 0] 67))):=by rw [←hbq];exact (Bxs.nil (Gw.refl w)).add _ _
 clear h H hl hc hz hs hB hW hn hbq
 go_enter Tryz.func23,Tryz.ntmps23
 go_wp2_with fail
 rw [BQ.out]
 generalize w.alloc (.cells #[.int .i64 0, .int .i64 0, .int .i64 0] 67)=w1 at BX ⊢
 refine Calls.mono (CK.out w1 BX.out.gw0) ?_
 rintro e w2 ⟨⟨r,rfl,cr⟩,g2⟩
 have CR:Aside (ChkR (ek l) (ev l) (eg l) n r):=by have:=cr;rw [←LN.out] at this ⊢;exact this
 have B2:Aside (Bxs w [(bq,#[.int .i64 0, .int .i64 0, .int .i64 0],67)] w2):=BX.out.gw g2
 clear g2 cr CK BX
 by_cases r0:r=0
 ·subst r0
  have c1:=(HC.out.gw HH.out.kp B2.out.gw0).c1
  have pl:=(HC.out.gw HH.out.kp B2.out.gw0).lt
  by_cases nb:(n:Int)=buf
  ·have OKL:Aside (EOk l):=by have:=CR.out;rw [←LN.out] at this;exact this
   have NB:Aside ((n:Int)=buf):=nb
   have nb':((n:Int) != buf)=false:=by simpa using nb
   have FR:Hid (Calls Tryz.prog 50 #[.pointer (some ⟨p,0,none⟩)] w2 fun e w'=>e=.returned (.int .i64 (freeC rs:Nat))∧w'=w2):=free15 (HC.out.gw HH.out.kp B2.out.gw0)
   have j40:=HCl.freeC_lt rs
   have J:Aside (∃ j,freeC rs=j):=⟨_,rfl⟩
   obtain ⟨j,hj⟩:=J.out
   have JJ:Aside (freeC rs=j):=hj
   rw [hj] at FR j40
   have TKN:Hid (Calls Tryz.prog 51 #[.pointer (some ⟨p,0,none⟩), .slice ao n c, .int .i64 (j:Int)] w2 fun e w'=>(∃ ob m oc,e=.returned (.slice (some ⟨ob,0,none⟩) m oc)∧EV w' (some ⟨ob,0,none⟩) (l::lists (rs.take (j+1)))∧(l::lists (rs.take (j+1))).length=m∧m≤oc∧w2.heap.size≤ob)∧Gw w2 w'):=by
    have:=taken15 HH.out (HC.out.gw HH.out.kp B2.out.gw0) ao c l (HL.out.gw B2.out.gw0) HS.out.2.1 HS.out.2.2 j j40
    rw [LN.out] at this
    exact this
   clear nb hj J
   go_wp2_with fail
   refine Calls.mono FR.out ?_
   rintro e w3 ⟨rfl,hw⟩
   have hw':w2=w3:=hw.symm
   subst hw'
   clear hw FR c1
   go_wp2_with fail
   refine Calls.mono TKN.out ?_
   rintro e w3 ⟨⟨ob,m,oc,rfl,evl,hm,hmo,hob⟩,g3⟩
   have B3:Aside (Bxs w [(bq,#[.int .i64 0, .int .i64 0, .int .i64 0],67)] w3):=B2.out.gw g3
   have EVL:Aside (EV w3 (some ⟨ob,0,none⟩) (l::lists (rs.take (j+1)))):=evl
   have TOOK:Aside (sizes (l::lists (rs.take (j+1)))=took rs l∧took rs l≤2000000):=by
    have e:sizes (l::lists (rs.take (j+1)))=took rs l:=by rw [sizes_cons];unfold took;rw [JJ.out];rfl
    refine ⟨e,?_⟩
    have:=tot_take rs (j+1)
    have:=HS.out.1
    unfold took
    rw [JJ.out]
    omega
   have MM:Aside ((l::lists (rs.take (j+1))).length=m):=hm
   have obp:ob≠p∧ob≠bq:=by
    have h1:=pl
    have h2:=blkl (B2.out.lie (bq,#[.int .i64 0, .int .i64 0, .int .i64 0],67) (by simp))
    dsimp only at h2
    omega
   have OBP:Aside (ob≠p):=obp.1
   have m41:m≤41:=by
    rw [←hm]
    have:(lists (rs.take (j+1))).length≤(rs.take (j+1)).length:=List.length_filterMap_le ..
    rw [List.length_take] at this
    simp only [List.length_cons]
    omega
   have EN:Hid (Calls Tryz.prog 53 #[.slice (some ⟨ob,0,none⟩) m oc] w3 fun e w'=>(∃ bo oc o,e=.returned (.slice bo o.length oc)∧EO w' w3.heap.size (.slice bo o.length oc) o∧Mg Ent.k (l::lists (rs.take (j+1))) o)∧Gw w3 w'):=by
    have:=entries13 (some ⟨ob,0,none⟩) oc (l::lists (rs.take (j+1))) (by rw [hm];omega) (fun i hi=>Nat.le_trans (rows_le hi) (by rw [TOOK.out.1];exact TOOK.out.2)) (by rw [TOOK.out.1];exact TOOK.out.2) w3 evl
    rw [hm] at this
    exact this
   clear evl hm hmo hob g3 TKN pl obp B2
   go_wp2_with fail
   refine Calls.mono EN.out ?_
   rintro e w4 ⟨⟨bo,oc4,o,rfl,eo4,mg⟩,g4⟩
   have B4:Aside (Bxs w [(bq,#[.int .i64 0, .int .i64 0, .int .i64 0],67)] w4):=B3.out.gw g4
   have EV4:Aside (EV w4 (some ⟨ob,0,none⟩) (l::lists (rs.take (j+1)))):=EVL.out.gw g4
   have EL4:Aside (EL w4 bo o):=eo_el eo4 (mg.oks EVL.out.oks)
   have TR:Aside (TakeR rs l o (o.filter (keepP (liveQ (rs.drop (j+1)))))):=⟨by rw [JJ.out];exact mg,by rw [JJ.out]⟩
   have FC:Aside ((EOk o∧EOk (o.filter (keepP (liveQ (rs.drop (j+1))))))∧o.length≤2000000):=⟨TR.out.facts OKL.out (fun r hr=>(HC.out.runs r hr).1.ok),Nat.le_trans TR.out.few.2 TOOK.out.2⟩
   have HC4:Aside (HCl HR w4 p rs eps buf B W):=HC.out.gw HH.out.kp B4.out.gw0
   have AB:Hid (Calls Tryz.prog 54 #[.pointer (some ⟨p,0,none⟩), .int .i64 (j:Int)] w4 fun e w'=>(∃ ao,e=.returned (.slice ao (rs.drop (j+1)).length (39-j))∧PR HR w4 ao (rs.drop (j+1)))∧w'=w4):=above15 HC4.out j j40
   obtain ⟨on,hon⟩:∃ on,o.length=on:=⟨_,rfl⟩
   have ON:Aside (o.length=on):=hon
   rw [hon]
   clear eo4 mg g4 EN EVL B3 hon
   go_wp2_with fail
   refine Calls.mono AB.out ?_
   rintro e w5 ⟨⟨ab,rfl,prr⟩,hw⟩
   have hw':w4=w5:=hw.symm
   subst hw'
   have SF:Hid (Calls Tryz.prog 52 #[.slice bo on oc4, .func (.func 55) #[.slice ab (rs.drop (j+1)).length (39-j)] #[]] w4 fun e w'=>(∃ bo oc,e=.returned (.slice bo (o.filter (keepP (liveQ (rs.drop (j+1))))).length oc)∧EO w' w4.heap.size (.slice bo (o.filter (keepP (liveQ (rs.drop (j+1))))).length oc) (o.filter (keepP (liveQ (rs.drop (j+1))))))∧Gw w4 w'):=by
    have:=sift15 bo oc4 o (.slice ab (rs.drop (j+1)).length (39-j)) (liveQ (rs.drop (j+1))) FC.out.2 w4 EL4.out (fun W gg q q0 q1=>live15 HH.out ab (39-j) (rs.drop (j+1)) q q0 q1 (by rw [List.length_drop,HC.out.len];omega) W (prr.gw HH.out.kp gg))
    rw [ON.out] at this
    exact this
   generalize (rs.drop (j+1)).length=dn at SF ⊢
   clear hw prr AB
   go_wp2_with fail
   refine Calls.mono SF.out ?_
   rintro e w5 ⟨⟨bk,oc5,rfl,eo5⟩,g5⟩
   obtain ⟨kept,hkept⟩:∃ kept,o.filter (keepP (liveQ (rs.drop (j+1))))=kept:=⟨_,rfl⟩
   have EOKB:∀ e∈kept,e.ok:=fun e he=>by rw [←hkept] at he;exact EL4.out.all e (List.mem_filter.1 he).1
   rw [hkept] at eo5 TR FC ⊢
   have B5:Aside (Bxs w [(bq,#[.int .i64 0, .int .i64 0, .int .i64 0],67)] w5):=B4.out.gw g5
   have HV5:Aside (HV w5 (some ⟨ob,0,none⟩) (l::lists (rs.take (j+1)))):=(EV4.out.gw g5).hv
   have kn:kept.length≤2000000:=Nat.le_trans TR.out.few.1 TOOK.out.2
   have LY:Hid (Calls Tryz.prog 56 #[.pointer (some ⟨p,0,none⟩), .slice bk kept.length oc5, .int .i64 (j:Int)] w5 fun e w'=>(∃ o,e=.returned (.int .i64 0)∧LaidR HR w5 w' eps kept o∧HCl HR w' p (List.replicate j none++o::rs.drop (j+1)) eps buf (B+one15 kept) (W+kept.length))∧Gx (fun q=>q=p) w5 w'):=lay15 HH.out (HC4.out.gw HH.out.kp g5) bk oc5 kept (eo_el eo5 EOKB) FC.out.1.2 (eo_shape15 eo5).1 (eo_shape15 eo5).2 kn HBW.out.1 HBW.out.2 j j40
   obtain ⟨kl,hkl⟩:∃ kl,kept.length=kl:=⟨_,rfl⟩
   have KL:Aside (kept.length=kl):=hkl
   rw [hkl] at LY ⊢
   clear eo5 g5 SF B4 EV4 EL4 HC4 EOKB kn hkept hkl FC
   go_wp2_with fail
   refine Calls.mono LY.out ?_
   rintro e w6 ⟨⟨rn,rfl,ld,hc6⟩,g6⟩
   have HC6:Aside (HCl HR w6 p (laid rs rn) eps buf (B+one15 kept) (W+kept.length)):=by unfold laid;rw [JJ.out,KL.out];exact hc6
   have HV6:Aside (HV w6 (some ⟨ob,0,none⟩) (l::lists (rs.take (j+1)))):=HV5.out.gx g6 OBP.out
   have GX6:Aside (Gx (fun q=>q=p) w w6):=(B5.out.gw0.gx _).trans g6 (fun q hq=>.inl hq)
   have E0:Hid (w6.heap[bq]?=some (.cells #[.int .i64 0, .int .i64 0, .int .i64 0] 67 (0,0))):=by
    have:=B5.out.lie (bq,#[.int .i64 0, .int .i64 0, .int .i64 0],67) (by simp)
    exact (g6.block bq (blkl this) (fun e=>pq e.symm)).trans this
   have LD:Aside (∀ W,(∀ q,q<w6.heap.size→q≠bq→W.heap[q]?=w6.heap[q]?)→LaidR HR w W eps kept rn):=fun W kw=>by
    rcases ld with ⟨a,b⟩ | ⟨a,r,b1,b2,b3,b4,b5,b6⟩
    ·exact .inl ⟨a,b⟩
    ·refine .inr ⟨a,r,b1,b2,b3,b4,fun q hq=>Nat.le_trans B5.out.gw0.size (b5 q hq),b6.keep HH.out.kp fun q hq=>kw q (HH.out.lt b6.h q hq) ?_⟩
     have h1:=b5 q hq
     have h2:=blkl (B5.out.lie (bq,#[.int .i64 0, .int .i64 0, .int .i64 0],67) (by simp))
     dsimp only at h2
     omega
   have NS:Aside (∀ r,rn=some r→¬ r.S bq):=fun r hr hx=>by
    rcases ld with ⟨a,b⟩ | ⟨a,r',b1,b2,b3,b4,b5,b6⟩
    ·rw [b] at hr;cases hr
    ·rw [b1] at hr
     cases hr
     have h1:=b5 bq hx
     have h2:=blkl (B5.out.lie (bq,#[.int .i64 0, .int .i64 0, .int .i64 0],67) (by simp))
     dsimp only at h2
     omega
   have TG:Hid (Calls Tryz.prog 57 #[.slice (some ⟨ob,0,none⟩) m oc] w6 fun e w'=>e=.returned (.int .i64 (took rs l:Nat))∧w'=w6):=by
    have:=together15 (some ⟨ob,0,none⟩) oc (l::lists (rs.take (j+1))) (by rw [MM.out];omega) (by rw [TOOK.out.1];exact TOOK.out.2) w6 HV6.out
    rw [MM.out,TOOK.out.1] at this
    exact this
   clear ld hc6 g6 LY HV5 B5
   go_wp2_with fail
   refine Calls.mono TG.out ?_
   rintro e w7 ⟨rfl,hw⟩
   have hw':w6=w7:=hw.symm
   subst hw'
   obtain ⟨m0,m1,m2,z0,z1,z2,bl,TT⟩:=box_b E0.out
   have T3:=TT (j:Int) (took rs l:Nat) (kl:Int)
   have FIN:Hid (∀ a b c:Value,TakeOut HR (fun w' rs B W=>HCl HR w' p rs eps buf B W) (fun q=>q=p) w (((w6.setCell ⟨bq,0,none⟩ a).setCell ⟨bq,1,none⟩ b).setCell ⟨bq,2,none⟩ c) (.returned (.tuple #[.agg #[.int .i64 (j:Int), .int .i64 (took rs l:Nat), .int .i64 (kl:Int)], .int .i64 0])) rs l eps buf B W):=fun a b c=>by
    have gz:Gx (fun q=>q=bq) w6 (((w6.setCell ⟨bq,0,none⟩ a).setCell ⟨bq,1,none⟩ b).setCell ⟨bq,2,none⟩ c):=(((Gx.refl (fun q=>q=bq) w6).set (.inl rfl) _ _).set (.inl rfl) _ _).set (.inl rfl) _ _
    have nS:∀ r,some r∈laid rs rn→¬ r.S bq:=fun r hr hx=>by
     unfold laid at hr
     rcases List.mem_append.1 hr with q | q
     ·simp at q
     ·rcases List.mem_cons.1 q with q | q
      ·exact NS.out r q.symm hx
      ·have:=HH.out.lt (HC.out.runs r (List.mem_of_mem_drop q)).1.h bq hx
       rw [BQ.out] at this
       omega
    refine ⟨⟨0,?_, .inr (.inr ⟨rfl,?_,o,kept,rn,TR.out,?_,LD.out _ (fun q hq hn=>gz.block q hq hn),HC6.out.gx HH.out.kp gz pq (fun q hq r hr=>by rw [hq];exact nS r hr)⟩)⟩,GX6.out.trans gz (fun q hq=>.inr (by rw [hq];exact Nat.le_of_eq BQ.out))⟩
    ·rw [LN.out];exact CR.out
    ·rw [LN.out];exact NB.out
    ·unfold builtV;rw [JJ.out,KL.out]
   clear hw TG HV6 E0 TT m41
   go_wp2_with fail
   exact bodyPost_ret (v:=.tuple #[.agg #[.int .i64 (j:Int), .int .i64 (took rs l:Nat), .int .i64 (kl:Int)], .int .i64 0]) (by simp [results,Tryz.results23,go_sem,T3.1,T3.2.1,T3.2.2]) rfl (FIN.out _ _ _)
  ·have nb':((n:Int) != buf)=true:=by simpa using nb
   have E0:=B2.out.lie (bq,#[.int .i64 0, .int .i64 0, .int .i64 0],67) (by simp)
   obtain ⟨m0,m1,m2,z0,z1,z2,bl,TT⟩:=box_b E0
   have T3:=TT 0 0 0
   have NB:Aside ((n:Int)≠buf):=nb
   have GU:Aside (Gw w w2):=B2.out.gw0
   have GF:Hid (∀ a b c:Value,TakeOut HR (fun w' rs B W=>HCl HR w' p rs eps buf B W) (fun q=>q=p) w (((w2.setCell ⟨bq,0,none⟩ a).setCell ⟨bq,1,none⟩ b).setCell ⟨bq,2,none⟩ c) (.returned (.tuple #[.agg #[.int .i64 0, .int .i64 0, .int .i64 0], .int .i64 151])) rs l eps buf B W):=fun a b c=>by
    have gz:Gw w (((w2.setCell ⟨bq,0,none⟩ a).setCell ⟨bq,1,none⟩ b).setCell ⟨bq,2,none⟩ c):=((GU.out.setCell (Nat.le_of_eq BQ.out) _).setCell (Nat.le_of_eq BQ.out) _).setCell (Nat.le_of_eq BQ.out) _
    exact ⟨⟨0,by rw [LN.out];exact CR.out, .inr (.inl ⟨rfl,by rw [LN.out];exact NB.out,rfl,HC.out.gw HH.out.kp gz,gz⟩)⟩,gz.gx _⟩
   clear E0 TT nb
   go_wp2_with fail
   exact bodyPost_ret (v:=.tuple #[.agg #[.int .i64 0, .int .i64 0, .int .i64 0], .int .i64 151]) (by simp [results,Tryz.results23,go_sem,T3.1,T3.2.1,T3.2.2]) rfl (GF.out _ _ _)
 ·have r0':(r != 0)=true:=by simpa using r0
  have R0:Aside (r≠0):=r0
  have E0:=B2.out.lie (bq,#[.int .i64 0, .int .i64 0, .int .i64 0],67) (by simp)
  obtain ⟨m0,m1,m2,z0,z1,z2,bl,TT⟩:=box_b E0
  have T3:=TT 0 0 0
  have GU:Aside (Gw w w2):=B2.out.gw0
  have GF:Hid (∀ a b c:Value,TakeOut HR (fun w' rs B W=>HCl HR w' p rs eps buf B W) (fun q=>q=p) w (((w2.setCell ⟨bq,0,none⟩ a).setCell ⟨bq,1,none⟩ b).setCell ⟨bq,2,none⟩ c) (.returned (.tuple #[.agg #[.int .i64 0, .int .i64 0, .int .i64 0], .int .i64 150])) rs l eps buf B W):=fun a b c=>by
   have gz:Gw w (((w2.setCell ⟨bq,0,none⟩ a).setCell ⟨bq,1,none⟩ b).setCell ⟨bq,2,none⟩ c):=((GU.out.setCell (Nat.le_of_eq BQ.out) _).setCell (Nat.le_of_eq BQ.out) _).setCell (Nat.le_of_eq BQ.out) _
   exact ⟨⟨r,by rw [LN.out];exact CR.out, .inl ⟨R0.out,rfl,HC.out.gw HH.out.kp gz,gz⟩⟩,gz.gx _⟩
  clear E0 TT r0
  go_wp2_with fail
  exact bodyPost_ret (v:=.tuple #[.agg #[.int .i64 0, .int .i64 0, .int .i64 0], .int .i64 150]) (by simp [results,Tryz.results23,go_sem,T3.1,T3.2.1,T3.2.2]) rfl (GF.out _ _ _)
end Go.Proofs.YtjhaiiegdnamcabGreat
namespace Go.Proofs.YtjhaiiegdnamcabGreat
open Go.RowKit
set_option linter.unusedVariables false
def occ:List (Option Rn)→Nat
 | []=>0
 | none::rs=>2*occ rs
 | some _::rs=>1+2*occ rs
theorem occ_rep (n:Nat) (rs:List (Option Rn)):occ (List.replicate n none++rs)=2^n*occ rs:=by
 induction n with
 | zero=>simp
 | succ n ih =>
  rw [List.replicate_succ,List.cons_append]
  show 2*occ (List.replicate n none++rs)=_
  rw [ih,Nat.pow_succ]
  rw [Nat.mul_comm (2^n) 2,Nat.mul_assoc]
theorem occ_free:∀ {rs:List (Option Rn)},free rs<rs.length→occ rs+1=2^free rs+2^(free rs+1)*occ (rs.drop (free rs+1))
 | [],h=>by simp at h
 | none::rs,_=>by show 2*occ rs+1=2^0+2^1*occ rs;omega
 | some r::rs,h=>by
  have h':free rs<rs.length:=by simpa [free] using h
  have ih:=occ_free h'
  show 1+2*occ rs+1=2^(free rs+1)+2^(free rs+1+1)*occ (rs.drop (free rs+1))
  rw [Nat.pow_succ 2 (free rs+1),Nat.mul_comm (2^(free rs+1)) 2,Nat.mul_assoc,Nat.pow_succ 2 (free rs)]
  rw [Nat.pow_succ 2 (free rs)] at ih
  omega
theorem occ_ge (rs:List (Option Rn)):2^free rs≤occ rs+1:=by
 induction rs with
 | nil=>exact Nat.le_refl _
 | cons o rs ih=>cases o with
  | none=>show 2^0≤_;omega
  | some r=>show 2^(free rs+1)≤1+2*occ rs+1;rw [Nat.pow_succ];omega
structure HInv (eps buf:Int) (rs:List (Option Rn)) (t:Nat):Prop where
 len:rs.length=40
 occ:Go.Proofs.YtjhaiiegdnamcabGreat.occ rs≤t
 run:∀ i r,rs.getD i none=some r→r.eps=eps∧0<r.l.length∧(r.l.length:Int)≤buf*2^i∧∀ e∈r.l,e.g=true→liveQ (rs.drop (i+1)) e.k=true
theorem HInv.none (eps buf:Int):HInv eps buf (List.replicate 40 none) 0:=by
 refine ⟨by simp,?_,fun i r h=>?_⟩
 ·have:=occ_rep 40 []
  rw [List.append_nil] at this
  rw [this]
  exact Nat.le_refl _
 ·rw [List.getD_eq_getElem?_getD,List.getElem?_replicate] at h
  split at h<;>cases h
theorem HInv.mono {eps buf:Int} {rs:List (Option Rn)} {t t':Nat} (h:HInv eps buf rs t) (k:t≤t'):HInv eps buf rs t':=⟨h.len,Nat.le_trans h.occ k,h.run⟩
section
variable {eps buf:Int} {rs:List (Option Rn)} {t:Nat}
theorem HInv.free (h:HInv eps buf rs t) (ht:t≤200):Go.Proofs.YtjhaiiegdnamcabGreat.free rs<8∧freeC rs=Go.Proofs.YtjhaiiegdnamcabGreat.free rs∧rs[Go.Proofs.YtjhaiiegdnamcabGreat.free rs]?=some Option.none:=by
 have a:=occ_ge rs
 have b:=h.occ
 have c:Go.Proofs.YtjhaiiegdnamcabGreat.free rs<8:=Nat.lt_of_not_le fun q=>by
  have:2^8≤2^Go.Proofs.YtjhaiiegdnamcabGreat.free rs:=Nat.pow_le_pow_right (by decide) q
  omega
 exact ⟨c,by unfold freeC;omega,free_none (by rw [h.len];omega)⟩
theorem HInv.below (h:HInv eps buf rs t) (b0:1≤buf):∀ j,j≤40→(tot (rs.take j):Int)≤buf*2^j-buf
 | 0,_=>by show ((0:Nat):Int)≤_;simp
 | j+1,hj=>by
  have ih:=h.below b0 j (by omega)
  have hj':j<rs.length:=by rw [h.len];omega
  rw [take_rs hj',tot_app]
  have p:(0:Int)<2^j:=Int.pow_pos (by decide)
  have q:0<buf*2^j:=Int.mul_pos (by omega) p
  have e:buf*2^(j+1)=2*(buf*2^j):=by rw [Int.pow_succ,←Int.mul_assoc,Int.mul_comm]
  rw [e]
  rcases cases_rs rs j with x | ⟨r,x⟩
  ·rw [x]
   show ((tot (rs.take j)+0:Nat):Int)≤_
   omega
  ·rw [x]
   have y:=(h.run j r x).2.2.1
   have z:tot [some r]=r.l.length:=by rw [tot_some];rfl
   rw [z]
   omega
theorem HInv.took (h:HInv eps buf rs t) (ht:t≤200) (b0:1≤buf) {l:List Ent} (hl:(l.length:Int)=buf):Go.Proofs.YtjhaiiegdnamcabGreat.took rs l=l.length+tot (rs.take (Go.Proofs.YtjhaiiegdnamcabGreat.free rs))∧(Go.Proofs.YtjhaiiegdnamcabGreat.took rs l:Int)≤buf*2^Go.Proofs.YtjhaiiegdnamcabGreat.free rs:=by
 obtain ⟨f1,f2,f3⟩:=h.free ht
 have hj:Go.Proofs.YtjhaiiegdnamcabGreat.free rs<rs.length:=by rw [h.len];omega
 have e:Go.Proofs.YtjhaiiegdnamcabGreat.took rs l=l.length+tot (rs.take (Go.Proofs.YtjhaiiegdnamcabGreat.free rs)):=by
  unfold Go.Proofs.YtjhaiiegdnamcabGreat.took
  rw [f2,take_rs hj,tot_app]
  have x:rs.getD (Go.Proofs.YtjhaiiegdnamcabGreat.free rs) Option.none=Option.none:=by rw [List.getD_eq_getElem?_getD,f3];rfl
  rw [x]
  rfl
 refine ⟨e,?_⟩
 have:=h.below b0 (Go.Proofs.YtjhaiiegdnamcabGreat.free rs) (by omega)
 rw [e]
 omega
theorem laid_get {o:Option Rn} (l40:rs.length=40) (i:Nat):(laid rs o).getD i none=if i<freeC rs then none else if i=freeC rs then o else rs.getD i none:=by
 unfold laid
 rw [List.getD_eq_getElem?_getD]
 by_cases a:i<freeC rs
 ·rw [if_pos a,List.getElem?_append_left (by simpa using a),List.getElem?_replicate,if_pos a]
  rfl
 ·rw [if_neg a,List.getElem?_append_right (by simpa using Nat.le_of_not_lt a),List.length_replicate]
  by_cases b:i=freeC rs
  ·rw [if_pos b,b,Nat.sub_self]
   rfl
  ·rw [if_neg b]
   obtain ⟨m,hm⟩:∃ m,i-freeC rs=m+1:=⟨i-freeC rs-1,by omega⟩
   rw [hm,List.getElem?_cons_succ,List.getElem?_drop,show freeC rs+1+m=i by omega,List.getD_eq_getElem?_getD]
theorem laid_drop {o:Option Rn} (i:Nat) (hi:freeC rs≤i):(laid rs o).drop (i+1)=rs.drop (i+1):=by
 unfold laid
 rw [List.drop_append,List.length_replicate,List.drop_of_length_le (by simp;omega),List.nil_append]
 obtain ⟨m,hm⟩:∃ m,i+1-freeC rs=m+1:=⟨i-freeC rs,by omega⟩
 rw [hm,List.drop_succ_cons,List.drop_drop,show freeC rs+1+m=i+1 by omega]
theorem HInv.step {HR:HRt} {w w':World} (h:HInv eps buf rs t) (ht:t≤200) (b0:1≤buf) {l o kept:List Ent} (hl:(l.length:Int)=buf) (tr:TakeR rs l o kept) {rn:Option Rn} (ld:LaidR HR w w' eps kept rn):HInv eps buf (laid rs rn) (t+1):=by
 obtain ⟨f1,f2,f3⟩:=h.free ht
 have tk:=h.took ht b0 hl
 refine ⟨laid_len h.len rn,?_,fun i r hr=>?_⟩
 ·have a:=occ_free (rs:=rs) (by rw [h.len];omega)
  have b:Go.Proofs.YtjhaiiegdnamcabGreat.occ (laid rs rn)=2^freeC rs*Go.Proofs.YtjhaiiegdnamcabGreat.occ (rn::rs.drop (freeC rs+1)):=occ_rep _ _
  have c:Go.Proofs.YtjhaiiegdnamcabGreat.occ (rn::rs.drop (freeC rs+1))≤1+2*Go.Proofs.YtjhaiiegdnamcabGreat.occ (rs.drop (freeC rs+1)):=by
   cases rn with
   | none=>show 2*_≤_;omega
   | some r=>exact Nat.le_refl _
  have d:=h.occ
  rw [b,f2]
  rw [f2] at c
  have e:=Nat.mul_le_mul_left (2^Go.Proofs.YtjhaiiegdnamcabGreat.free rs) c
  rw [Nat.mul_add,Nat.mul_one,←Nat.mul_assoc,←Nat.pow_succ,Nat.succ_eq_add_one] at e
  omega
 ·rw [laid_get h.len] at hr
  by_cases a:i<freeC rs
  ·rw [if_pos a] at hr;cases hr
  ·rw [if_neg a] at hr
   rw [laid_drop i (by omega)]
   by_cases b:i=freeC rs
   ·rw [if_pos b] at hr
    rcases ld with ⟨_,e⟩ | ⟨k0,r',e,e1,e2,_⟩
    ·rw [e] at hr;cases hr
    ·rw [e] at hr
     cases hr
     have few:=tr.few.1
     refine ⟨e1,?_,?_,fun x hx hg=>?_⟩
     ·rw [e2];exact List.length_pos_iff.2 k0
     ·rw [e2,b,f2];have:=tk.2;omega
     ·rw [e2,tr.kp] at hx
      have:=(List.mem_filter.1 hx).2
      unfold keepP at this
      rw [hg] at this
      rw [b]
      simpa using this
   ·rw [if_neg b] at hr
    exact h.run i r hr
theorem laid_tot {HR:HRt} {w w':World} {l o kept:List Ent} (tr:TakeR rs l o kept) {rn:Option Rn} (ld:LaidR HR w w' eps kept rn):tot (laid rs rn)≤tot rs+l.length:=by
 have a:=tot_take rs (freeC rs+1)
 have b:=tr.few.1
 unfold took at b
 have c:tot (laid rs rn)=tot (rn::rs.drop (freeC rs+1)):=by
  unfold laid
  rw [tot_app]
  have:∀ n,tot (List.replicate n (none:Option Rn))=0:=fun n=>by
   induction n with
   | zero=>rfl
   | succ n ih=>rw [List.replicate_succ,tot_none];exact ih
  rw [this,Nat.zero_add]
 rw [c]
 rcases ld with ⟨_,e⟩ | ⟨_,r',e,_,e2,_⟩
 ·rw [e,tot_none];omega
 ·rw [e,tot_some,e2];omega
theorem laid_live {HR:HRt} {w w':World} {l o kept:List Ent} (ok:EOk l) (hr:∀ r,some r∈rs→EOk r.l) (tr:TakeR rs l o kept) {rn:Option Rn} (ld:LaidR HR w w' eps kept rn) (q:Int):let a:=nw q (laid rs rn);let b:=(Go.Proofs.YtjhaiiegdnamcabGreat.look Ent.k q l).or (nw q rs);liveO a=liveO b∧(liveO a=true→a=b):=by
 have lk:=tr.look ok hr q
 have fc:=tr.facts ok hr
 have e1:nw q (laid rs rn)=(Go.Proofs.YtjhaiiegdnamcabGreat.look Ent.k q kept).or (nw q (rs.drop (freeC rs+1))):=by
  unfold laid
  rw [nw_rep]
  rcases ld with ⟨k0,e⟩ | ⟨_,r',e,_,e2,_⟩
  ·rw [e,nw_none,k0];rfl
  ·rw [e,nw_some,e2]
 have e2:nw q rs=(nw q (rs.take (freeC rs+1))).or (nw q (rs.drop (freeC rs+1))):=by rw [←nw_app,List.take_append_drop]
 have e3:Go.Proofs.YtjhaiiegdnamcabGreat.look Ent.k q kept=(Go.Proofs.YtjhaiiegdnamcabGreat.look Ent.k q o).filter (keepP (liveQ (rs.drop (freeC rs+1)))):=by rw [tr.kp,look_filter fc.1.rise]
 show liveO (nw q (laid rs rn))=liveO ((Go.Proofs.YtjhaiiegdnamcabGreat.look Ent.k q l).or (nw q rs))∧(liveO (nw q (laid rs rn))=true→nw q (laid rs rn)=(Go.Proofs.YtjhaiiegdnamcabGreat.look Ent.k q l).or (nw q rs))
 rw [e1,e2,e3,←Option.or_assoc,←lk]
 cases ho:Go.Proofs.YtjhaiiegdnamcabGreat.look Ent.k q o with
 | none=>exact ⟨rfl,fun _=>rfl⟩
 | some x =>
  have xk:=look_key ho
  by_cases p:keepP (liveQ (rs.drop (freeC rs+1))) x=true
  ·rw [show (some x).filter (keepP (liveQ (rs.drop (freeC rs+1))))=some x by simp [Option.filter,p]]
   exact ⟨rfl,fun _=>rfl⟩
  ·rw [show (some x).filter (keepP (liveQ (rs.drop (freeC rs+1))))=none by simp [Option.filter,p]]
   have p':keepP (liveQ (rs.drop (freeC rs+1))) x=false:=by simpa using p
   unfold keepP at p'
   simp only [Bool.or_eq_false_iff,Bool.not_eq_false'] at p'
   have lv:liveO (nw q (rs.drop (freeC rs+1)))=false:=by have:=p'.2;rw [xk] at this;exact this
   refine ⟨?_,fun h=>?_⟩
   ·show liveO (nw q (rs.drop (freeC rs+1)))=!x.g
    rw [lv,p'.1]
    rfl
   ·have h':liveO (nw q (rs.drop (freeC rs+1)))=true:=h
    rw [lv] at h';cases h'
theorem HInv.fits (h:HInv eps buf rs t) (b0:1≤buf) (b1:buf≤4294967296) (few:tot rs≤2000000):fitAll eps buf rs 40:=by
 intro j hj
 rcases cases_rs rs j with e | ⟨r,e⟩
 ·rw [e];rfl
 ·obtain ⟨e1,e2,e3,e4⟩:=h.run j r e
  have e5:=tot_mem (mem_rs (by rw [h.len];exact hj) e)
  rw [e]
  have m:mostV buf (j:Int)=min (buf*2^j) 4294967296:=by
   unfold mostV
   rw [if_pos ⟨⟨b0,b1⟩,by omega,by omega⟩]
   simp
  have d1:decide (0<r.l.length)=true:=by simpa using e2
  have d2:decide ((r.l.length:Int)≤mostV buf (j:Int))=true:=by rw [m];simp;omega
  have d3:(r.eps == eps)=true:=by simpa using e1
  have d4:r.l.all (keepP (liveQ (rs.drop (j+1))))=true:=by
   rw [List.all_eq_true]
   intro x hx
   unfold keepP
   cases hg:x.g with
   | false=>rfl
   | true=>rw [e4 x hx hg];rfl
  simp only [fitsB,d1,d2,d3,d4,Bool.and_self]
end
end Go.Proofs.YtjhaiiegdnamcabGreat
