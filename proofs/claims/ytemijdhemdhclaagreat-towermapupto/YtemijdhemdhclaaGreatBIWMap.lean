/- Layer 16: the plain map. -/
import Derived.Test.YtemijdhemdhclaaGreatBIMapM
set_option linter.unusedVariables false
set_option maxHeartbeats 32000000
set_option maxRecDepth 20000
open Go.Proofs.Tryz
namespace Go.Proofs.YtemijdhemdhclaaGreat
open Go.RowKit
theorem map_walk {HR:HRt} (H:RunC HR) (eps buf keys:Int) (ao:Option Addr) (c:Nat) (sl:List (Int×Int×Int)) (hn:sl.length<=1048576) (w:World) (h:OTL w ao sl) :
  Calls prog 4 #[.agg #[.int .i64 eps,.int .i64 buf,.int .i64 keys],.slice ao sl.length c] w fun e w'=>e=.returned (.bool true)/\Gw w w':=by
 have SC:Aside (OTL w ao sl):=h;obtain ⟨n,hln⟩:∃ n,sl.length=n:=⟨_,rfl⟩;have LN:Aside (sl.length=n):=hln;rw [hln] at hn ⊢;clear h hln;have HH:Aside (RunC HR):=H;have SH:Hid (∀ W,Calls prog 8 #[] W fun e w'=>e=.returned (.bool true)/\Gw W w'):=fun W=>shown16 H W
 have RC:Hid (∀ W,Calls prog 10 #[.agg #[.int .i64 eps,.int .i64 buf,.int .i64 keys]] W fun e w'=>e=.returned (.int .i64 (cfgE eps buf keys))/\Gw W w'):=fun W=>rcheck16 eps buf keys W
 have NW:Hid (∀ W,Calls prog 11 #[.agg #[.int .i64 eps,.int .i64 buf,.int .i64 keys]] W fun e w'=>NewT HR W w' e eps buf keys/\Gw W w'):=fun W=>new16 H eps buf keys W
 clear H;obtain ⟨bq,hbq⟩:∃ b,w.heap.size=b:=⟨_,rfl⟩;have BQ:Aside (w.heap.size=bq):=hbq;have B0:Aside (Bxs w [(bq,#[.int .i64 eps,.int .i64 buf,.int .i64 keys],23)] (w.alloc (.cells #[.int .i64 eps,.int .i64 buf,.int .i64 keys] 23))):=by
  have a:=(Bxs.nil (Gw.refl w)).add #[.int .i64 eps,.int .i64 buf,.int .i64 keys] 23;rw [hbq] at a;exact a
 have FC:Aside (∀ W,Bxs w [(bq,#[.int .i64 eps,.int .i64 buf,.int .i64 keys],23)] W->(W.cell? ⟨bq,0,none⟩=some (.int .i64 eps)/\W.cell? ⟨bq,1,none⟩=some (.int .i64 buf)/\W.cell? ⟨bq,2,none⟩=some (.int .i64 keys)/\bq<W.heap.size)):=fun W h=>by
  have x:=h.lie (bq,#[.int .i64 eps,.int .i64 buf,.int .i64 keys],23) (by simp)
  exact ⟨blkc x rfl,blkc x rfl,blkc x rfl,blkl x⟩
 have qn:∀ (p:Nat) (W:World),(binOp .eql 27 (.pointer (some ⟨p,0,none⟩)) (.pointer none)).run prog W=.ok (.bool false) W:=fun _ _=>by kernel_rfl
 clear hbq;go_enter func4,ntmps4;go_wp2_with fail;rw [BQ.out];generalize w.alloc (.cells #[.int .i64 eps,.int .i64 buf,.int .i64 keys] 23)=w1 at B0 ⊢;refine Calls.mono (SH.out w1) ?_;rintro e w2 ⟨rfl,g2⟩;have B2:Aside (Bxs w [(bq,#[.int .i64 eps,.int .i64 buf,.int .i64 keys],23)] w2):=B0.out.gw g2;obtain ⟨c0,c1,c2,cl⟩:=FC.out w2 B2.out;clear g2 B0 SH;go_wp2_with fail;refine Calls.mono (NW.out w2) ?_;rintro e w3 ⟨h3,g3⟩;have B3:Aside (Bxs w [(bq,#[.int .i64 eps,.int .i64 buf,.int .i64 keys],23)] w3):=B2.out.gw g3;clear c0 c1 c2 cl;obtain ⟨c0,c1,c2,cl⟩:=FC.out w3 B3.out;have W2:Aside (w.heap.size<=w2.heap.size/\bq<w2.heap.size):=⟨B2.out.gw0.size,(FC.out w2 B2.out).2.2.2⟩;clear g3 B2 NW;rcases h3 with ⟨cf,rfl⟩ | ⟨cf,p,F,rfl,ht,hF⟩
 ·have ce:cfgE eps buf keys=160:=if_neg cf
  rw [ce] at RC;clear ce cf;go_wp2_with fail;refine Calls.mono (RC.out w3) ?_;rintro e w4 ⟨rfl,g4⟩;have G4:Aside (Gw w w4):=B3.out.gw0.trans g4;clear g4;go_wp2_with fail;go_ret;exact ⟨rfl,G4.out⟩
 have ce:cfgE eps buf keys=0:=if_pos cf;rw [ce] at RC;have T3:Aside (Tw HR w w3 p F eps buf keys [] (List.replicate 40 none) 0 0 0/\∀ q,F q->bq<q):=⟨⟨ht,fun q hq=>Nat.le_trans W2.out.1 (hF q hq),B3.out.gw0⟩,fun q hq=>by have:=hF q hq;have:=W2.out.2;omega⟩
 have CFG:Aside (CfgOk eps buf keys):=cf;clear ce cf ht hF W2;go_wp2_with fail;refine Calls.mono (RC.out w3) ?_;rintro e w4 ⟨rfl,g4⟩;have B4:Aside (Bxs w [(bq,#[.int .i64 eps,.int .i64 buf,.int .i64 keys],23)] w4):=B3.out.gw g4;have T4:Aside (Tw HR w w4 p F eps buf keys [] (List.replicate 40 none) 0 0 0/\∀ q,F q->bq<q):=⟨T3.out.1.to HH.out.kp g4,T3.out.2⟩;clear g4 B3 T3 RC c0 c1 c2 cl;obtain ⟨pq,hpq⟩:∃ x,w4.heap.size=x:=⟨_,rfl⟩;have PQ:Aside (w4.heap.size=pq):=hpq;have M5:Aside (MapI HR w (w4.alloc (.cells #[.slice none 0 0] 35)) bq p pq eps buf keys 0):=by
  have g:=(Gw.refl w4).alloc #[.slice none 0 0] 35;have bx:=B4.out.lie (bq,#[.int .i64 eps,.int .i64 buf,.int .i64 keys],23) (by simp)
  have hp:=HP.new w4;rw [hpq] at hp;refine ⟨F,[],List.replicate 40 none,0,0,0,_,[],⟨T4.out.1.to HH.out.kp g,hp,(g.below.block bq (blkl bx)).trans bx,fun q hq (hs:q=pq)=>?_,fun r hr=>by simp at hr,T4.out.2,fun q (hq:q=pq)=>?_,Nat.le_of_eq BQ.out⟩,BW.new,fun q=>?_,Nat.le_refl _⟩
  ·have:=T4.out.1.ht.lt HH.out.kp q (.inl hq)
   omega
  ·have:=blkl bx
   dsimp only at this;omega
  ·unfold valE newE
   rw [nw_no];rfl
 clear hpq T4 B4;go_wp2_with fail;rw [PQ.out];generalize w4.alloc (.cells #[.slice none 0 0] 35)=w5 at M5 ⊢;clear PQ;go_loopg [10] n (fun gg s10 wr=>∃ i:Nat,s10=.int .i64 (i:Int)/\i<=n/\n-i<=gg/\Aside (MapI HR w wr bq p pq eps buf keys i))
 case atStart=>exact ⟨0,rfl,Nat.zero_le _,by omega,M5⟩
 case round =>
  clear M5;obtain ⟨i,rfl,a1,a2,M⟩:=hrel;obtain ⟨wS,hwS⟩:∃ wx,wx=wr:=⟨_,rfl⟩;subst hwS;by_cases hlt:i<n
  ·have hlt':(i:Int)<(n:Int):=by omega
   obtain ⟨F,l,rs,B,W,live,S,P,m0,bw,eq,pl⟩:=M.out;have gi:sl[i]?=some (sl.getD i (0,0,0)):=by rw [List.getElem?_eq_getElem (by rw [LN.out];exact hlt),List.getD_eq_getElem?_getD,List.getElem?_eq_getElem (by rw [LN.out];exact hlt)];rfl
   obtain ⟨ab,af,rfl,hab,hac⟩:=(SC.out.gw m0.tw.gw).cells (by rw [LN.out];omega)
   obtain ⟨x0,x1,x2⟩:=hac i _ gi;obtain ⟨kb0,kb1,kb2⟩:=SC.out.bd _ (List.mem_of_getElem? gi);generalize sl.getD i (0,0,0)=x at x0 x1 x2 kb0 kb1 kb2;obtain ⟨kn,ky,vl⟩:=x;simp only at x0 x1 x2 kb0 kb1 kb2;have KB0:Aside (-9223372036854775808<=kn/\kn<9223372036854775808):=kb0;have KB:Aside ((0<=ky/\ky<18446744073709551616)/\0<=vl/\vl<18446744073709551616):=⟨kb1,kb2⟩;obtain ⟨ob,hob⟩:∃ x,wS.heap.size=x:=⟨_,rfl⟩;have OBQ:Aside (wS.heap.size=ob):=hob;have MA:Aside (MP HR w (wS.alloc (.cells #[.int .i64 kn,.int .u64 ky,.int .u64 vl] 38)) bq p F eps buf keys l rs B W live pq S P):=m0.gw HH.out.kp ((Gw.refl wS).alloc _ _);have OBA:Aside ((wS.alloc (.cells #[.int .i64 kn,.int .u64 ky,.int .u64 vl] 38)).heap[ob]?=some (.cells #[.int .i64 kn,.int .u64 ky,.int .u64 vl] 38 (0,0))):=by rw [<-hob];exact heap_alloc_new _ _
   have OBF:Aside (¬ F ob):=fun x=>by have:=m0.tw.ht.lt HH.out.kp ob (.inl x);omega
   have BWI:Aside (BW l rs B W i):=bw;have BD:Aside ((l.length+1+tot rs<=2000000)/\(0<=B/\B<4611686018427387904)/\0<=W/\W<4611686018427387904):=bw.in (by omega)
   have EQ:Aside (∀ q,valP P q=valE l rs q):=eq;have PL:Aside (P.length<=i):=pl;have CT:Aside (live=P.length):=m0.count eq;clear gi hac kb0 kb1 kb2 m0 bw eq pl hob M;go_upto_region 13 with fail;rw [OBQ.out];generalize wS.alloc (.cells #[.int .i64 kn,.int .u64 ky,.int .u64 vl] 38)=uA at MA OBA ⊢;have y1:uA.cell? ⟨ob,1,none⟩=some (.int .u64 ky):=blkc OBA.out rfl;have yl:=blkl OBA.out;clear x0 x1 x2 OBQ;go_wp2_with fail;refine (at16 pq S P ky (by have:=PL.out;omega) uA MA.out.hp).mono ?_
   rintro e u1 ⟨rfl,g1⟩;have M1:Aside (MP HR w u1 bq p F eps buf keys l rs B W live pq S P):=MA.out.gw HH.out.kp g1;have OB1:Aside (u1.heap[ob]?=some (.cells #[.int .i64 kn,.int .u64 ky,.int .u64 vl] 38 (0,0))):=(g1.below.block ob yl).trans OBA.out;clear y1 yl g1 MA OBA;have y1:u1.cell? ⟨ob,1,none⟩=some (.int .u64 ky):=blkc OB1.out rfl;have yl:=blkl OB1.out;have GT:=tget16 HH.out M1.out.tw.ht (by have:=BD.out.1;omega) ky KB.out.1.1 KB.out.1.2
   cases lk:look Prod.fst ky P with
   | some y =>
    have VE:Aside (valE l rs ky=some y.2):=by show _=_;rw [<-EQ.out,valP_of lk];rfl
    have GT':Hid (Calls prog 13 #[.pointer (some ⟨p,0,none⟩),.int .u64 ky] u1 fun e w'=>e=.returned (.tuple #[.int .u64 y.2,.bool true])/\Gw u1 w'):=by rw [VE.out] at GT;exact GT
    have pf:=plc_found M1.out.hp.rise lk;have plt:plc Prod.fst ky P<P.length:=(List.getElem?_eq_some_iff.1 pf.1).1;have GD:P.getD (plc Prod.fst ky P) (0,0)=y:=by rw [List.getD_eq_getElem?_getD,pf.1];rfl
    have YC:Hid (∀ W,Gw u1 W->(∃ b cc,W.cell? ⟨pq,0,none⟩=some (.slice (some ⟨b,0,none⟩) P.length cc)/\W.cell? ⟨b,plc Prod.fst ky P*2+1,none⟩=some (.int .u64 y.2)/\b<W.heap.size)/\pq<W.heap.size):=fun W g=>by
     obtain ⟨vv,h1,h2,h3,h4⟩:=(M1.out.hp.gw g).lies;obtain ⟨bo,cc,rfl,_,_⟩:=po_shape h2;obtain ⟨b,rfl,_,bl,_,cs⟩:=po_form h2 rfl (by omega)
     have:=(cs _ plt).2
     rw [GD] at this;exact ⟨⟨b,cc,blkc h1 rfl,this,bl⟩,blkl h1⟩
    have PLT:Aside (plc Prod.fst ky P<P.length/\P.length<=2000000):=⟨plt,by have:=PL.out;omega⟩
    generalize plc Prod.fst ky P=pk at YC PLT;clear GT pf plt GD lk;go_wp2_with fail;refine Calls.mono GT'.out ?_;rintro e u2 ⟨rfl,g2⟩;have M2:Aside (MP HR w u2 bq p F eps buf keys l rs B W live pq S P):=M1.out.gw HH.out.kp g2;have OB2:Aside (u2.heap[ob]?=some (.cells #[.int .i64 kn,.int .u64 ky,.int .u64 vl] 38 (0,0))):=(g2.below.block ob yl).trans OB1.out;obtain ⟨⟨rb,rc,r1,r2,r3⟩,r4⟩:=YC.out u2 g2;have z0:u2.cell? ⟨ob,0,none⟩=some (.int .i64 kn):=blkc OB2.out rfl;have z1:u2.cell? ⟨ob,1,none⟩=some (.int .u64 ky):=blkc OB2.out rfl;have z2:u2.cell? ⟨ob,2,none⟩=some (.int .u64 vl):=blkc OB2.out rfl;have zl:=blkl OB2.out;have pkl:(pk:Int)<(P.length:Int):=by have:=PLT.out.1;omega
    obtain ⟨pn,hpn⟩:∃ x,P.length=x:=⟨_,rfl⟩;rw [hpn] at r1 pkl;have y2:(y.2 == y.2)=true:=by simp
    clear g2 GT' y1 yl M1 OB1 YC hpn PLT;by_cases hk:kindV kn<4
    ·have kd:decide (kindV kn<4)=true:=by simpa using hk
     have PC:Hid (Calls prog 15 #[.pointer (some ⟨p,0,none⟩),.int .u64 ky,.int .u64 vl] u2 fun e w'=>e=.returned (.int .i64 0)/\∃ F' l' rs' B' W' n',MP HR w w' bq p F' eps buf keys l' rs' B' W' n' pq S P/\BW l' rs' B' W' (i+1)/\Gx F u2 w'/\∀ q,valE l' rs' q=if ky=q then some vl else valE l rs q):=(tput16 HH.out M2.out.tw.ht BD.out.1 BD.out.2.1 BD.out.2.2 ky vl KB.out.1 KB.out.2).mono fun e w' hp=>by
      rcases hp with ⟨⟨x,_⟩,_⟩ | ⟨_,x,y⟩
      ·rw [VE.out] at x;cases x
      ·obtain ⟨F',l',rs',B',W',a,b,d⟩:=M2.out.tower HH.out.kp y
       exact ⟨x,F',l',rs',B',W',_,a,BWI.out.step (by omega) M2.out.tw.ht.inv.ok b,d,fun q=>by rw [b.val M2.out.tw.ht.inv.ok M2.out.tw.ht.okr (by simp) q];rfl⟩
     clear hk VE;go_wp2_with fail;refine (kind16 kn KB0.out.1 KB0.out.2 u2).mono ?_;rintro e ux ⟨rfl,hux⟩;have hux2:=hux.symm;subst hux2;clear hux;go_wp2_with fail;refine Calls.mono PC.out ?_;rintro e u3 ⟨rfl,hx3⟩;obtain ⟨F3,l3,rs3,B3,W3,n3,m3,bw3,gx3,v3⟩:=hx3;have OB3:Aside (u3.heap[ob]?=some (.cells #[.int .i64 kn,.int .u64 ky,.int .u64 vl] 38 (0,0))):=(gx3.block ob (blkl OB2.out) (fun x=>OBF.out x)).trans OB2.out
     have M3:Aside (MP HR w u3 bq p F3 eps buf keys l3 rs3 B3 W3 n3 pq S P):=m3;have BW3:Aside (BW l3 rs3 B3 W3 (i+1)):=bw3;have V3:Aside (∀ q,valE l3 rs3 q=if ky=q then some vl else valE l rs q):=v3
     clear m3 bw3 v3 gx3 PC;obtain ⟨vv,h1,h2,h3,h4⟩:=M3.out.hp.lies;obtain ⟨bo3,cc3,rfl,hc3,_⟩:=po_shape h2;have k3:u3.cell? ⟨pq,0,none⟩=some (.slice bo3 P.length cc3):=blkc h1 rfl;have l3':=blkl h1;have g2:u3.cell? ⟨bq,2,none⟩=some (.int .i64 keys):=blkc M3.out.bx rfl;have g2l:=blkl M3.out.bx;have TF0:Aside True:=trivial;generalize P.length=pn at k3;clear h1 h2 h3 h4 hc3;go_wp2_with fail;go_quiet (fail);have M4:Aside (MP HR w (u3.drewN nq) bq p F3 eps buf keys l3 rs3 B3 W3 n3 pq S P):=M3.out.gw HH.out.kp ((Gw.refl _).drewN _);have OB4:Aside ((u3.drewN nq).heap[ob]?=some (.cells #[.int .i64 kn,.int .u64 ky,.int .u64 vl] 38 (0,0))):=(((Gw.refl u3).drewN nq).below.block ob (blkl OB3.out)).trans OB3.out;generalize u3.drewN nq=u4 at M4 OB4 ⊢;clear k3 l3' g2 g2l M3 OB3;have PP:Hid (Calls prog 16 #[.pointer (some ⟨pq,0,none⟩),.int .u64 ky,.int .u64 vl] u4 fun e w'=>e=.returned (.tuple #[])/\POut u4 w' pq S (ins Prod.fst (ky,vl) P)):=pput16 pq S P ky vl (by have:=PL.out;omega) KB.out.1 KB.out.2 u4 M4.out.hp
     have o1:u4.cell? ⟨ob,1,none⟩=some (.int .u64 ky):=blkc OB4.out rfl;have o2:u4.cell? ⟨ob,2,none⟩=some (.int .u64 vl):=blkc OB4.out rfl;have ol:=blkl OB4.out;go_wp2_with fail;refine Calls.mono PP.out ?_;rintro e u9 ⟨rfl,po⟩;have MI9:Aside (MapI HR w u9 bq p pq eps buf keys (i+1)):=by
      obtain ⟨S',m'⟩:=M4.out.plain HH.out.kp po;exact ⟨F3,l3,rs3,B3,W3,n3,S',_,m',BW3.out,fun q=>by rw [valP_ins M4.out.hp.rise,V3.out q,EQ.out q],by have:=ins_lenP (x:=(ky,vl)) M4.out.hp.rise;have:=PL.out;omega⟩
     clear po PP o1 o2 ol M4 OB4 BW3 V3;obtain ⟨F9,l9,rs9,B9,W9,n9,S9,P9,m9,w9,q9,e9⟩:=MI9.out;have CT9:=m9.count q9;have M9:Aside (MP HR w u9 bq p F9 eps buf keys l9 rs9 B9 W9 n9 pq S9 P9):=m9;have ST:Hid (∀ W,Gw u9 W->Calls prog 19 #[.pointer (some ⟨p,0,none⟩)] W fun e w'=>(∃ b t,e=.returned (.agg #[.int .i64 (n9:Int),.int .i64 (l9.length:Int),.int .i64 B9,.int .i64 W9,.slice (some ⟨b,0,none⟩) t t]))/\Gw W w'):=fun W gg=>(tstats16 HH.out (m9.tw.ht.gw HH.out.kp gg)).mono fun e w' ⟨⟨b,t,e1,_⟩,g⟩=>⟨⟨b,t,e1⟩,g⟩
     obtain ⟨vv,h1,h2,h3,h4⟩:=m9.hp.lies;obtain ⟨bo9,c9,rfl,hc9,_⟩:=po_shape h2;have b9:=h1;rw [<-CT9] at b9;have HW:Hid (∀ w':World,Gw u9 w'->Gw u9 w'/\w'.cell? ⟨pq,0,none⟩=some (.slice bo9 n9 c9)/\pq<w'.heap.size):=fun w' gg=>by
      have x:=(gg.below.block pq (blkl b9)).trans b9;exact ⟨gg,blkc x rfl,blkl x⟩
     have I9:Hid (Gw u9 u9):=Gw.refl u9;have t9:((n9:Int) == (n9:Int))=true:=by simp
     have fk:∀ (b t:Nat) (W:World),(Instr.field 52 (.agg #[.int .i64 (n9:Int),.int .i64 (l9.length:Int),.int .i64 B9,.int .i64 W9,.slice (some ⟨b,0,none⟩) t t]) 0).run prog W=.ok (.int .i64 (n9:Int)) W:=fun _ _ _=>by kernel_rfl
     clear m9 w9 q9 e9 CT9 h1 h2 h3 h4 b9 hc9;go_wp2_with fail;go_region_held3 (fun w'=>Gw u9 w'/\w'.cell? ⟨pq,0,none⟩=some (.slice bo9 n9 c9)/\pq<w'.heap.size)
      (((refine HW.out _ ?_;repeat (first | exact And.left (by assumption) | exact Hid.out (by assumption) | refine Gw.drew ?_ | refine Gw.alloc ?_ _ _));done))
      ((
       first
       | (go_at_call 19;refine (ST.out _ (by repeat (first | exact Gw.refl _ | exact And.left (by assumption) | exact Hid.out (by assumption) | refine Gw.drew ?_ | refine Gw.drewN ?_ _))).mono ?_;rintro ex wA ⟨⟨bA,tA,rfl⟩,gA⟩;have FA:Hid (Gw u9 wA):=(Gw.trans (by repeat (first | exact Gw.refl _ | exact And.left (by assumption) | exact Hid.out (by assumption) | refine Gw.drew ?_ | refine Gw.drewN ?_ _)) gA);clear gA)))
     all_goals
      have FZ:Aside (Gw u9 wA):=FA.out;go_wp2_with fail;go_roundg (n-(i+1))
      case measure=>omega
      case rel=>exact ⟨i+1,by go_num,by omega,Nat.le_refl _,(show Aside _ from MapI.to HH.out.kp MI9.out (by first | exact FZ.out | exact FZ.out.drew))⟩
    ·have kd:decide (kindV kn<4)=false:=by simpa using hk
     have PC:Hid (Calls prog 17 #[.pointer (some ⟨p,0,none⟩),.int .u64 ky] u2 fun e w'=>e=.returned (.bool true)/\∃ F' l' rs' B' W' n',MP HR w w' bq p F' eps buf keys l' rs' B' W' n' pq S P/\BW l' rs' B' W' (i+1)/\Gx F u2 w'/\∀ q,valE l' rs' q=if ky=q then none else valE l rs q):=(tdel16 HH.out M2.out.tw.ht BD.out.1 BD.out.2.1 BD.out.2.2 ky KB.out.1).mono fun e w' hp=>by
      rcases hp with ⟨x,_⟩ | ⟨_,x,_,y⟩
      ·rw [VE.out] at x;cases x
      ·obtain ⟨F',l',rs',B',W',a,b,d⟩:=M2.out.tower HH.out.kp y
       exact ⟨x,F',l',rs',B',W',_,a,BWI.out.step (by omega) M2.out.tw.ht.inv.ok b,d,fun q=>by rw [b.val M2.out.tw.ht.inv.ok M2.out.tw.ht.okr (by simp) q];rfl⟩
     clear hk VE;go_wp2_with fail;refine (kind16 kn KB0.out.1 KB0.out.2 u2).mono ?_;rintro e ux ⟨rfl,hux⟩;have hux2:=hux.symm;subst hux2;clear hux;go_wp2_with fail;refine Calls.mono PC.out ?_;rintro e u3 ⟨rfl,hx3⟩;obtain ⟨F3,l3,rs3,B3,W3,n3,m3,bw3,gx3,v3⟩:=hx3;have OB3:Aside (u3.heap[ob]?=some (.cells #[.int .i64 kn,.int .u64 ky,.int .u64 vl] 38 (0,0))):=(gx3.block ob (blkl OB2.out) (fun x=>OBF.out x)).trans OB2.out
     have M3:Aside (MP HR w u3 bq p F3 eps buf keys l3 rs3 B3 W3 n3 pq S P):=m3;have BW3:Aside (BW l3 rs3 B3 W3 (i+1)):=bw3;have V3:Aside (∀ q,valE l3 rs3 q=if ky=q then none else valE l rs q):=v3
     clear m3 bw3 v3 gx3 PC;have PP:Hid (Calls prog 18 #[.pointer (some ⟨pq,0,none⟩),.int .u64 ky] u3 fun e w'=>e=.returned (.tuple #[])/\POut u3 w' pq S (dropP ky P)):=pdrop16 pq S P ky (by have:=PL.out;omega) u3 M3.out.hp
     have o1:u3.cell? ⟨ob,1,none⟩=some (.int .u64 ky):=blkc OB3.out rfl;have ol:=blkl OB3.out;go_wp2_with fail;refine Calls.mono PP.out ?_;rintro e u9 ⟨rfl,po⟩;have MI9:Aside (MapI HR w u9 bq p pq eps buf keys (i+1)):=by
      obtain ⟨S',m'⟩:=M3.out.plain HH.out.kp po;exact ⟨F3,l3,rs3,B3,W3,n3,S',_,m',BW3.out,fun q=>by rw [valP_drop,V3.out q,EQ.out q],by have:=drop_lenP P ky;have:=PL.out;omega⟩
     clear po PP o1 ol M3 OB3 BW3 V3;obtain ⟨F9,l9,rs9,B9,W9,n9,S9,P9,m9,w9,q9,e9⟩:=MI9.out;have CT9:=m9.count q9;have M9:Aside (MP HR w u9 bq p F9 eps buf keys l9 rs9 B9 W9 n9 pq S9 P9):=m9;have ST:Hid (∀ W,Gw u9 W->Calls prog 19 #[.pointer (some ⟨p,0,none⟩)] W fun e w'=>(∃ b t,e=.returned (.agg #[.int .i64 (n9:Int),.int .i64 (l9.length:Int),.int .i64 B9,.int .i64 W9,.slice (some ⟨b,0,none⟩) t t]))/\Gw W w'):=fun W gg=>(tstats16 HH.out (m9.tw.ht.gw HH.out.kp gg)).mono fun e w' ⟨⟨b,t,e1,_⟩,g⟩=>⟨⟨b,t,e1⟩,g⟩
     obtain ⟨vv,h1,h2,h3,h4⟩:=m9.hp.lies;obtain ⟨bo9,c9,rfl,hc9,_⟩:=po_shape h2;have b9:=h1;rw [<-CT9] at b9;have HW:Hid (∀ w':World,Gw u9 w'->Gw u9 w'/\w'.cell? ⟨pq,0,none⟩=some (.slice bo9 n9 c9)/\pq<w'.heap.size):=fun w' gg=>by
      have x:=(gg.below.block pq (blkl b9)).trans b9;exact ⟨gg,blkc x rfl,blkl x⟩
     have I9:Hid (Gw u9 u9):=Gw.refl u9;have t9:((n9:Int) == (n9:Int))=true:=by simp
     have fk:∀ (b t:Nat) (W:World),(Instr.field 52 (.agg #[.int .i64 (n9:Int),.int .i64 (l9.length:Int),.int .i64 B9,.int .i64 W9,.slice (some ⟨b,0,none⟩) t t]) 0).run prog W=.ok (.int .i64 (n9:Int)) W:=fun _ _ _=>by kernel_rfl
     clear m9 w9 q9 e9 CT9 h1 h2 h3 h4 b9 hc9;go_wp2_with fail;go_region_held3 (fun w'=>Gw u9 w'/\w'.cell? ⟨pq,0,none⟩=some (.slice bo9 n9 c9)/\pq<w'.heap.size)
      (((refine HW.out _ ?_;repeat (first | exact And.left (by assumption) | exact Hid.out (by assumption) | refine Gw.drew ?_ | refine Gw.alloc ?_ _ _));done))
      ((
       first
       | (go_at_call 19;refine (ST.out _ (by repeat (first | exact Gw.refl _ | exact And.left (by assumption) | exact Hid.out (by assumption) | refine Gw.drew ?_ | refine Gw.drewN ?_ _))).mono ?_;rintro ex wA ⟨⟨bA,tA,rfl⟩,gA⟩;have FA:Hid (Gw u9 wA):=(Gw.trans (by repeat (first | exact Gw.refl _ | exact And.left (by assumption) | exact Hid.out (by assumption) | refine Gw.drew ?_ | refine Gw.drewN ?_ _)) gA);clear gA)))
     all_goals
      have FZ:Aside (Gw u9 wA):=FA.out;go_wp2_with fail;go_roundg (n-(i+1))
      case measure=>omega
      case rel=>exact ⟨i+1,by go_num,by omega,Nat.le_refl _,(show Aside _ from MapI.to HH.out.kp MI9.out (by first | exact FZ.out | exact FZ.out.drew))⟩
   | none =>
    have VE:Aside (valE l rs ky=none):=by show _=_;rw [<-EQ.out,valP_of lk];rfl
    have VN:Aside (valE l rs ky=none):=VE;have GT':Hid (Calls prog 13 #[.pointer (some ⟨p,0,none⟩),.int .u64 ky] u1 fun e w'=>e=.returned (.tuple #[.int .u64 0,.bool false])/\Gw u1 w'):=by rw [VE.out] at GT;exact GT
    generalize plc Prod.fst ky P=pk;clear GT lk;go_wp2_with fail;refine Calls.mono GT'.out ?_;rintro e u2 ⟨rfl,g2⟩;have M2:Aside (MP HR w u2 bq p F eps buf keys l rs B W live pq S P):=M1.out.gw HH.out.kp g2;have OB2:Aside (u2.heap[ob]?=some (.cells #[.int .i64 kn,.int .u64 ky,.int .u64 vl] 38 (0,0))):=(g2.below.block ob yl).trans OB1.out;have z0:u2.cell? ⟨ob,0,none⟩=some (.int .i64 kn):=blkc OB2.out rfl;have z1:u2.cell? ⟨ob,1,none⟩=some (.int .u64 ky):=blkc OB2.out rfl;have z2:u2.cell? ⟨ob,2,none⟩=some (.int .u64 vl):=blkc OB2.out rfl;have zl:=blkl OB2.out;clear g2 GT' y1 yl M1 OB1;by_cases hk:kindV kn<4
    ·by_cases hf:(P.length:Int)=keys
     ·have kd:decide (kindV kn<4)=true:=by simpa using hk
      have PC:Hid (Calls prog 15 #[.pointer (some ⟨p,0,none⟩),.int .u64 ky,.int .u64 vl] u2 fun e w'=>e=.returned (.int .i64 161)/\Gw u2 w'):=(tput16 HH.out M2.out.tw.ht BD.out.1 BD.out.2.1 BD.out.2.2 ky vl KB.out.1 KB.out.2).mono fun e w' hp=>by
       rcases hp with ⟨_,x,y⟩ | ⟨x,_⟩
       ·exact ⟨x,y⟩
       ·exact absurd ⟨VE.out,by rw [CT.out];exact hf⟩ x
      clear hk VE;go_wp2_with fail;refine (kind16 kn KB0.out.1 KB0.out.2 u2).mono ?_;rintro e ux ⟨rfl,hux⟩;have hux2:=hux.symm;subst hux2;clear hux;go_wp2_with fail;refine Calls.mono PC.out ?_;rintro e u3 ⟨rfl,g3⟩;have M3:Aside (MP HR w u3 bq p F eps buf keys l rs B W live pq S P):=M2.out.gw HH.out.kp g3;have OB3:Aside (u3.heap[ob]?=some (.cells #[.int .i64 kn,.int .u64 ky,.int .u64 vl] 38 (0,0))):=(g3.below.block ob (blkl OB2.out)).trans OB2.out;clear g3 PC;obtain ⟨vv,h1,h2,h3,h4⟩:=M3.out.hp.lies;obtain ⟨bo3,cc3,rfl,hc3,_⟩:=po_shape h2;have k3:u3.cell? ⟨pq,0,none⟩=some (.slice bo3 P.length cc3):=blkc h1 rfl;have l3':=blkl h1;have g2:u3.cell? ⟨bq,2,none⟩=some (.int .i64 keys):=blkc M3.out.bx rfl;have g2l:=blkl M3.out.bx;have tf:((P.length:Int) == keys)=true:=by simpa using hf
      generalize P.length=pn at k3 tf;clear hf;clear h1 h2 h3 h4 hc3;go_wp2_with fail;go_quiet (fail);have M4:Aside (MP HR w (u3.drewN nq) bq p F eps buf keys l rs B W live pq S P):=M3.out.gw HH.out.kp ((Gw.refl _).drewN _);have OB4:Aside ((u3.drewN nq).heap[ob]?=some (.cells #[.int .i64 kn,.int .u64 ky,.int .u64 vl] 38 (0,0))):=(((Gw.refl u3).drewN nq).below.block ob (blkl OB3.out)).trans OB3.out;generalize u3.drewN nq=u4 at M4 OB4 ⊢;clear k3 l3' g2 g2l M3 OB3;have MI9:Aside (MapI HR w u4 bq p pq eps buf keys (i+1)):=⟨F,l,rs,B,W,live,S,P,M4.out,BWI.out.mono (Nat.le_succ _),EQ.out,Nat.le_succ_of_le PL.out⟩;obtain ⟨u9,hu9⟩:∃ u,u=u4:=⟨_,rfl⟩;subst hu9;clear M4 OB4;go_wp2_with fail;obtain ⟨F9,l9,rs9,B9,W9,n9,S9,P9,m9,w9,q9,e9⟩:=MI9.out;have CT9:=m9.count q9;have M9:Aside (MP HR w u9 bq p F9 eps buf keys l9 rs9 B9 W9 n9 pq S9 P9):=m9;have ST:Hid (∀ W,Gw u9 W->Calls prog 19 #[.pointer (some ⟨p,0,none⟩)] W fun e w'=>(∃ b t,e=.returned (.agg #[.int .i64 (n9:Int),.int .i64 (l9.length:Int),.int .i64 B9,.int .i64 W9,.slice (some ⟨b,0,none⟩) t t]))/\Gw W w'):=fun W gg=>(tstats16 HH.out (m9.tw.ht.gw HH.out.kp gg)).mono fun e w' ⟨⟨b,t,e1,_⟩,g⟩=>⟨⟨b,t,e1⟩,g⟩
      obtain ⟨vv,h1,h2,h3,h4⟩:=m9.hp.lies;obtain ⟨bo9,c9,rfl,hc9,_⟩:=po_shape h2;have b9:=h1;rw [<-CT9] at b9;have HW:Hid (∀ w':World,Gw u9 w'->Gw u9 w'/\w'.cell? ⟨pq,0,none⟩=some (.slice bo9 n9 c9)/\pq<w'.heap.size):=fun w' gg=>by
       have x:=(gg.below.block pq (blkl b9)).trans b9;exact ⟨gg,blkc x rfl,blkl x⟩
      have I9:Hid (Gw u9 u9):=Gw.refl u9;have t9:((n9:Int) == (n9:Int))=true:=by simp
      have fk:∀ (b t:Nat) (W:World),(Instr.field 52 (.agg #[.int .i64 (n9:Int),.int .i64 (l9.length:Int),.int .i64 B9,.int .i64 W9,.slice (some ⟨b,0,none⟩) t t]) 0).run prog W=.ok (.int .i64 (n9:Int)) W:=fun _ _ _=>by kernel_rfl
      clear m9 w9 q9 e9 CT9 h1 h2 h3 h4 b9 hc9;go_wp2_with fail;go_region_held3 (fun w'=>Gw u9 w'/\w'.cell? ⟨pq,0,none⟩=some (.slice bo9 n9 c9)/\pq<w'.heap.size)
       (((refine HW.out _ ?_;repeat (first | exact And.left (by assumption) | exact Hid.out (by assumption) | refine Gw.drew ?_ | refine Gw.alloc ?_ _ _));done))
       ((
        first
        | (go_at_call 19;refine (ST.out _ (by repeat (first | exact Gw.refl _ | exact And.left (by assumption) | exact Hid.out (by assumption) | refine Gw.drew ?_ | refine Gw.drewN ?_ _))).mono ?_;rintro ex wA ⟨⟨bA,tA,rfl⟩,gA⟩;have FA:Hid (Gw u9 wA):=(Gw.trans (by repeat (first | exact Gw.refl _ | exact And.left (by assumption) | exact Hid.out (by assumption) | refine Gw.drew ?_ | refine Gw.drewN ?_ _)) gA);clear gA)))
      all_goals
       have FZ:Aside (Gw u9 wA):=FA.out;go_wp2_with fail;go_roundg (n-(i+1))
       case measure=>omega
       case rel=>exact ⟨i+1,by go_num,by omega,Nat.le_refl _,(show Aside _ from MapI.to HH.out.kp MI9.out (by first | exact FZ.out | exact FZ.out.drew))⟩
     ·have kd:decide (kindV kn<4)=true:=by simpa using hk
      have PC:Hid (Calls prog 15 #[.pointer (some ⟨p,0,none⟩),.int .u64 ky,.int .u64 vl] u2 fun e w'=>e=.returned (.int .i64 0)/\∃ F' l' rs' B' W' n',MP HR w w' bq p F' eps buf keys l' rs' B' W' n' pq S P/\BW l' rs' B' W' (i+1)/\Gx F u2 w'/\∀ q,valE l' rs' q=if ky=q then some vl else valE l rs q):=(tput16 HH.out M2.out.tw.ht BD.out.1 BD.out.2.1 BD.out.2.2 ky vl KB.out.1 KB.out.2).mono fun e w' hp=>by
       rcases hp with ⟨⟨_,x⟩,_⟩ | ⟨_,x,y⟩
       ·exact absurd (by rw [<-CT.out];exact x) hf
       ·obtain ⟨F',l',rs',B',W',a,b,d⟩:=M2.out.tower HH.out.kp y
        exact ⟨x,F',l',rs',B',W',_,a,BWI.out.step (by omega) M2.out.tw.ht.inv.ok b,d,fun q=>by rw [b.val M2.out.tw.ht.inv.ok M2.out.tw.ht.okr (by simp) q];rfl⟩
      clear hk VE;go_wp2_with fail;refine (kind16 kn KB0.out.1 KB0.out.2 u2).mono ?_;rintro e ux ⟨rfl,hux⟩;have hux2:=hux.symm;subst hux2;clear hux;go_wp2_with fail;refine Calls.mono PC.out ?_;rintro e u3 ⟨rfl,hx3⟩;obtain ⟨F3,l3,rs3,B3,W3,n3,m3,bw3,gx3,v3⟩:=hx3;have OB3:Aside (u3.heap[ob]?=some (.cells #[.int .i64 kn,.int .u64 ky,.int .u64 vl] 38 (0,0))):=(gx3.block ob (blkl OB2.out) (fun x=>OBF.out x)).trans OB2.out
      have M3:Aside (MP HR w u3 bq p F3 eps buf keys l3 rs3 B3 W3 n3 pq S P):=m3;have BW3:Aside (BW l3 rs3 B3 W3 (i+1)):=bw3;have V3:Aside (∀ q,valE l3 rs3 q=if ky=q then some vl else valE l rs q):=v3
      clear m3 bw3 v3 gx3 PC;obtain ⟨vv,h1,h2,h3,h4⟩:=M3.out.hp.lies;obtain ⟨bo3,cc3,rfl,hc3,_⟩:=po_shape h2;have k3:u3.cell? ⟨pq,0,none⟩=some (.slice bo3 P.length cc3):=blkc h1 rfl;have l3':=blkl h1;have g2:u3.cell? ⟨bq,2,none⟩=some (.int .i64 keys):=blkc M3.out.bx rfl;have g2l:=blkl M3.out.bx;have tf:((P.length:Int) == keys)=false:=by simpa using hf
      generalize P.length=pn at k3 tf;clear hf;clear h1 h2 h3 h4 hc3;go_wp2_with fail;go_quiet (fail);have M4:Aside (MP HR w (u3.drewN nq) bq p F3 eps buf keys l3 rs3 B3 W3 n3 pq S P):=M3.out.gw HH.out.kp ((Gw.refl _).drewN _);have OB4:Aside ((u3.drewN nq).heap[ob]?=some (.cells #[.int .i64 kn,.int .u64 ky,.int .u64 vl] 38 (0,0))):=(((Gw.refl u3).drewN nq).below.block ob (blkl OB3.out)).trans OB3.out;generalize u3.drewN nq=u4 at M4 OB4 ⊢;clear k3 l3' g2 g2l M3 OB3;have PP:Hid (Calls prog 16 #[.pointer (some ⟨pq,0,none⟩),.int .u64 ky,.int .u64 vl] u4 fun e w'=>e=.returned (.tuple #[])/\POut u4 w' pq S (ins Prod.fst (ky,vl) P)):=pput16 pq S P ky vl (by have:=PL.out;omega) KB.out.1 KB.out.2 u4 M4.out.hp
      have o1:u4.cell? ⟨ob,1,none⟩=some (.int .u64 ky):=blkc OB4.out rfl;have o2:u4.cell? ⟨ob,2,none⟩=some (.int .u64 vl):=blkc OB4.out rfl;have ol:=blkl OB4.out;go_wp2_with fail;refine Calls.mono PP.out ?_;rintro e u9 ⟨rfl,po⟩;have MI9:Aside (MapI HR w u9 bq p pq eps buf keys (i+1)):=by
       obtain ⟨S',m'⟩:=M4.out.plain HH.out.kp po;exact ⟨F3,l3,rs3,B3,W3,n3,S',_,m',BW3.out,fun q=>by rw [valP_ins M4.out.hp.rise,V3.out q,EQ.out q],by have:=ins_lenP (x:=(ky,vl)) M4.out.hp.rise;have:=PL.out;omega⟩
      clear po PP o1 o2 ol M4 OB4 BW3 V3;obtain ⟨F9,l9,rs9,B9,W9,n9,S9,P9,m9,w9,q9,e9⟩:=MI9.out;have CT9:=m9.count q9;have M9:Aside (MP HR w u9 bq p F9 eps buf keys l9 rs9 B9 W9 n9 pq S9 P9):=m9;have ST:Hid (∀ W,Gw u9 W->Calls prog 19 #[.pointer (some ⟨p,0,none⟩)] W fun e w'=>(∃ b t,e=.returned (.agg #[.int .i64 (n9:Int),.int .i64 (l9.length:Int),.int .i64 B9,.int .i64 W9,.slice (some ⟨b,0,none⟩) t t]))/\Gw W w'):=fun W gg=>(tstats16 HH.out (m9.tw.ht.gw HH.out.kp gg)).mono fun e w' ⟨⟨b,t,e1,_⟩,g⟩=>⟨⟨b,t,e1⟩,g⟩
      obtain ⟨vv,h1,h2,h3,h4⟩:=m9.hp.lies;obtain ⟨bo9,c9,rfl,hc9,_⟩:=po_shape h2;have b9:=h1;rw [<-CT9] at b9;have HW:Hid (∀ w':World,Gw u9 w'->Gw u9 w'/\w'.cell? ⟨pq,0,none⟩=some (.slice bo9 n9 c9)/\pq<w'.heap.size):=fun w' gg=>by
       have x:=(gg.below.block pq (blkl b9)).trans b9;exact ⟨gg,blkc x rfl,blkl x⟩
      have I9:Hid (Gw u9 u9):=Gw.refl u9;have t9:((n9:Int) == (n9:Int))=true:=by simp
      have fk:∀ (b t:Nat) (W:World),(Instr.field 52 (.agg #[.int .i64 (n9:Int),.int .i64 (l9.length:Int),.int .i64 B9,.int .i64 W9,.slice (some ⟨b,0,none⟩) t t]) 0).run prog W=.ok (.int .i64 (n9:Int)) W:=fun _ _ _=>by kernel_rfl
      clear m9 w9 q9 e9 CT9 h1 h2 h3 h4 b9 hc9;go_wp2_with fail;go_region_held3 (fun w'=>Gw u9 w'/\w'.cell? ⟨pq,0,none⟩=some (.slice bo9 n9 c9)/\pq<w'.heap.size)
       (((refine HW.out _ ?_;repeat (first | exact And.left (by assumption) | exact Hid.out (by assumption) | refine Gw.drew ?_ | refine Gw.alloc ?_ _ _));done))
       ((
        first
        | (go_at_call 19;refine (ST.out _ (by repeat (first | exact Gw.refl _ | exact And.left (by assumption) | exact Hid.out (by assumption) | refine Gw.drew ?_ | refine Gw.drewN ?_ _))).mono ?_;rintro ex wA ⟨⟨bA,tA,rfl⟩,gA⟩;have FA:Hid (Gw u9 wA):=(Gw.trans (by repeat (first | exact Gw.refl _ | exact And.left (by assumption) | exact Hid.out (by assumption) | refine Gw.drew ?_ | refine Gw.drewN ?_ _)) gA);clear gA)))
      all_goals
       have FZ:Aside (Gw u9 wA):=FA.out;go_wp2_with fail;go_roundg (n-(i+1))
       case measure=>omega
       case rel=>exact ⟨i+1,by go_num,by omega,Nat.le_refl _,(show Aside _ from MapI.to HH.out.kp MI9.out (by first | exact FZ.out | exact FZ.out.drew))⟩
    ·have kd:decide (kindV kn<4)=false:=by simpa using hk
     have PC:Hid (Calls prog 17 #[.pointer (some ⟨p,0,none⟩),.int .u64 ky] u2 fun e w'=>e=.returned (.bool false)/\Gw u2 w'):=(tdel16 HH.out M2.out.tw.ht BD.out.1 BD.out.2.1 BD.out.2.2 ky KB.out.1).mono fun e w' hp=>by
      rcases hp with ⟨_,x,y⟩ | ⟨x,_⟩
      ·exact ⟨x,y⟩
      ·exact absurd VE.out x
     clear hk VE;go_wp2_with fail;refine (kind16 kn KB0.out.1 KB0.out.2 u2).mono ?_;rintro e ux ⟨rfl,hux⟩;have hux2:=hux.symm;subst hux2;clear hux;go_wp2_with fail;refine Calls.mono PC.out ?_;rintro e u3 ⟨rfl,g3⟩;have M3:Aside (MP HR w u3 bq p F eps buf keys l rs B W live pq S P):=M2.out.gw HH.out.kp g3;have OB3:Aside (u3.heap[ob]?=some (.cells #[.int .i64 kn,.int .u64 ky,.int .u64 vl] 38 (0,0))):=(g3.below.block ob (blkl OB2.out)).trans OB2.out;clear g3 PC;have PP:Hid (Calls prog 18 #[.pointer (some ⟨pq,0,none⟩),.int .u64 ky] u3 fun e w'=>e=.returned (.tuple #[])/\POut u3 w' pq S (dropP ky P)):=pdrop16 pq S P ky (by have:=PL.out;omega) u3 M3.out.hp
     have o1:u3.cell? ⟨ob,1,none⟩=some (.int .u64 ky):=blkc OB3.out rfl;have ol:=blkl OB3.out;go_wp2_with fail;refine Calls.mono PP.out ?_;rintro e u9 ⟨rfl,po⟩;have MI9:Aside (MapI HR w u9 bq p pq eps buf keys (i+1)):=by
      obtain ⟨S',m'⟩:=M3.out.plain HH.out.kp po;exact ⟨F,l,rs,B,W,live,S',_,m',BWI.out.mono (Nat.le_succ _),fun q=>by rw [valP_drop,<-EQ.out q];split<;>rename_i hq<;>first | (subst hq;rw [EQ.out ky,VN.out]) | rfl,by have:=drop_lenP P ky;have:=PL.out;omega⟩
     clear po PP o1 ol M3 OB3;obtain ⟨F9,l9,rs9,B9,W9,n9,S9,P9,m9,w9,q9,e9⟩:=MI9.out;have CT9:=m9.count q9;have M9:Aside (MP HR w u9 bq p F9 eps buf keys l9 rs9 B9 W9 n9 pq S9 P9):=m9;have ST:Hid (∀ W,Gw u9 W->Calls prog 19 #[.pointer (some ⟨p,0,none⟩)] W fun e w'=>(∃ b t,e=.returned (.agg #[.int .i64 (n9:Int),.int .i64 (l9.length:Int),.int .i64 B9,.int .i64 W9,.slice (some ⟨b,0,none⟩) t t]))/\Gw W w'):=fun W gg=>(tstats16 HH.out (m9.tw.ht.gw HH.out.kp gg)).mono fun e w' ⟨⟨b,t,e1,_⟩,g⟩=>⟨⟨b,t,e1⟩,g⟩
     obtain ⟨vv,h1,h2,h3,h4⟩:=m9.hp.lies;obtain ⟨bo9,c9,rfl,hc9,_⟩:=po_shape h2;have b9:=h1;rw [<-CT9] at b9;have HW:Hid (∀ w':World,Gw u9 w'->Gw u9 w'/\w'.cell? ⟨pq,0,none⟩=some (.slice bo9 n9 c9)/\pq<w'.heap.size):=fun w' gg=>by
      have x:=(gg.below.block pq (blkl b9)).trans b9;exact ⟨gg,blkc x rfl,blkl x⟩
     have I9:Hid (Gw u9 u9):=Gw.refl u9;have t9:((n9:Int) == (n9:Int))=true:=by simp
     have fk:∀ (b t:Nat) (W:World),(Instr.field 52 (.agg #[.int .i64 (n9:Int),.int .i64 (l9.length:Int),.int .i64 B9,.int .i64 W9,.slice (some ⟨b,0,none⟩) t t]) 0).run prog W=.ok (.int .i64 (n9:Int)) W:=fun _ _ _=>by kernel_rfl
     clear m9 w9 q9 e9 CT9 h1 h2 h3 h4 b9 hc9;go_wp2_with fail;go_region_held3 (fun w'=>Gw u9 w'/\w'.cell? ⟨pq,0,none⟩=some (.slice bo9 n9 c9)/\pq<w'.heap.size)
      (((refine HW.out _ ?_;repeat (first | exact And.left (by assumption) | exact Hid.out (by assumption) | refine Gw.drew ?_ | refine Gw.alloc ?_ _ _));done))
      ((
       first
       | (go_at_call 19;refine (ST.out _ (by repeat (first | exact Gw.refl _ | exact And.left (by assumption) | exact Hid.out (by assumption) | refine Gw.drew ?_ | refine Gw.drewN ?_ _))).mono ?_;rintro ex wA ⟨⟨bA,tA,rfl⟩,gA⟩;have FA:Hid (Gw u9 wA):=(Gw.trans (by repeat (first | exact Gw.refl _ | exact And.left (by assumption) | exact Hid.out (by assumption) | refine Gw.drew ?_ | refine Gw.drewN ?_ _)) gA);clear gA)))
     all_goals
      have FZ:Aside (Gw u9 wA):=FA.out;go_wp2_with fail;go_roundg (n-(i+1))
      case measure=>omega
      case rel=>exact ⟨i+1,by go_num,by omega,Nat.le_refl _,(show Aside _ from MapI.to HH.out.kp MI9.out (by first | exact FZ.out | exact FZ.out.drew))⟩
  ·have ei:i=n:=by omega
   subst ei;have M9:Aside (MapI HR w wS bq p pq eps buf keys i):=M;clear M hlt;go_wp2_with fail;go_loopg [19] i (fun gg s19 wr=>∃ j:Nat,s19=.int .i64 (j:Int)/\j<=i/\i-j<=gg/\Aside (MapI HR w wr bq p pq eps buf keys i))
   case atStart=>exact ⟨0,rfl,Nat.zero_le _,by omega,M9⟩
   case round =>
    clear M9;obtain ⟨j,rfl,b1,b2,M⟩:=hrel;obtain ⟨wT,hwT⟩:∃ wx,wx=wr:=⟨_,rfl⟩;subst hwT;by_cases hlt:j<i
    ·have hlt':(j:Int)<(i:Int):=by omega
     obtain ⟨F,l,rs,B,W,live,S,P,m0,bw,eq,pl⟩:=M.out;have gi:sl[j]?=some (sl.getD j (0,0,0)):=by rw [List.getElem?_eq_getElem (by rw [LN.out];exact hlt),List.getD_eq_getElem?_getD,List.getElem?_eq_getElem (by rw [LN.out];exact hlt)];rfl
     have x1:∀ W,Gw wT W->∃ ab af,ao=some ⟨ab,af,none⟩/\ab<W.heap.size/\W.cell? ⟨ab,af+j*3+1,none⟩=some (.int .u64 (sl.getD j (0,0,0)).2.1):=fun W g=>by
      obtain ⟨ab,af,e,hab,hac⟩:=(SC.out.gw (m0.tw.gw.trans g)).cells (by rw [LN.out];omega)
      exact ⟨ab,af,e,hab,(hac j _ gi).2.1⟩
     obtain ⟨_,kb1,_⟩:=SC.out.bd _ (List.mem_of_getElem? gi);generalize (sl.getD j (0,0,0)).2.1=ky at x1 kb1;obtain ⟨ab,af,e1,e2,e3⟩:=x1 wT (Gw.refl _);subst e1;have X1:Aside (∀ W,Gw wT W->ab<W.heap.size/\W.cell? ⟨ab,af+j*3+1,none⟩=some (.int .u64 ky)):=fun W g=>⟨Nat.lt_of_lt_of_le e2 g.size,(g.cell _ _ e2).trans e3⟩
     have M0:Aside (MP HR w wT bq p F eps buf keys l rs B W live pq S P):=m0;have BWI:Aside (BW l rs B W i/\(∀ q,valP P q=valE l rs q)/\P.length<=i):=⟨bw,eq,pl⟩;have BD:=(bw.in (by omega)).1
     clear x1 gi m0 bw M;go_wp2_with fail;refine (at16 pq S P ky (by omega) wT M0.out.hp).mono ?_
     rintro e u1 ⟨rfl,g1⟩;have M1:Aside (MP HR w u1 bq p F eps buf keys l rs B W live pq S P):=M0.out.gw HH.out.kp g1;have G1:Aside (Gw wT u1):=g1;clear e2 e3;obtain ⟨e2,e3⟩:=X1.out u1 g1;have GT:=tget16 HH.out M1.out.tw.ht (by omega) ky kb1.1 kb1.2
     cases lk:look Prod.fst ky P with
     | some y =>
      have VE:valE l rs ky=some y.2:=by rw [<-eq,valP_of lk];rfl
      have GT':Hid (Calls prog 13 #[.pointer (some ⟨p,0,none⟩),.int .u64 ky] u1 fun e w'=>e=.returned (.tuple #[.int .u64 y.2,.bool true])/\Gw u1 w'):=by rw [VE] at GT;exact GT
      have pf:=plc_found M1.out.hp.rise lk;have plt:plc Prod.fst ky P<P.length:=(List.getElem?_eq_some_iff.1 pf.1).1;have GD:P.getD (plc Prod.fst ky P) (0,0)=y:=by rw [List.getD_eq_getElem?_getD,pf.1];rfl
      have YC:Hid (∀ W,Gw u1 W->(∃ b cc,W.cell? ⟨pq,0,none⟩=some (.slice (some ⟨b,0,none⟩) P.length cc)/\W.cell? ⟨b,plc Prod.fst ky P*2+1,none⟩=some (.int .u64 y.2)/\b<W.heap.size)/\pq<W.heap.size):=fun W g=>by
       obtain ⟨vv,h1,h2,h3,h4⟩:=(M1.out.hp.gw g).lies;obtain ⟨bo,cc,rfl,_,_⟩:=po_shape h2;obtain ⟨b,rfl,_,bl,_,cs⟩:=po_form h2 rfl (by omega)
       have:=(cs _ plt).2
       rw [GD] at this;exact ⟨⟨b,cc,blkc h1 rfl,this,bl⟩,blkl h1⟩
      have PLT:Aside (plc Prod.fst ky P<P.length):=plt;generalize plc Prod.fst ky P=pk at YC PLT;clear GT pf plt GD lk VE eq g1;go_wp2_with fail;refine Calls.mono GT'.out ?_;rintro e u2 ⟨rfl,g2⟩;have R9:Aside (MapI HR w u2 bq p pq eps buf keys i):=⟨F,l,rs,B,W,live,S,P,M1.out.gw HH.out.kp g2,BWI.out⟩;obtain ⟨⟨rb,rc,r1,r2,r3⟩,r4⟩:=YC.out u2 g2;have pkl:(pk:Int)<(P.length:Int):=by have:=PLT.out;omega
      obtain ⟨pn,hpn⟩:∃ x,P.length=x:=⟨_,rfl⟩;rw [hpn] at r1 pkl;have y2:(y.2 == y.2)=true:=by simp
      clear g2 GT' YC hpn PLT;go_wp2_with fail;go_roundg (i-(j+1))
      case measure=>omega
      case rel=>exact ⟨j+1,by go_num,by omega,Nat.le_refl _,R9⟩
     | none =>
      have VE:valE l rs ky=none:=by rw [<-eq,valP_of lk];rfl
      have GT':Hid (Calls prog 13 #[.pointer (some ⟨p,0,none⟩),.int .u64 ky] u1 fun e w'=>e=.returned (.tuple #[.int .u64 0,.bool false])/\Gw u1 w'):=by rw [VE] at GT;exact GT
      generalize plc Prod.fst ky P=pk;clear GT lk VE eq g1;go_wp2_with fail;refine Calls.mono GT'.out ?_;rintro e u2 ⟨rfl,g2⟩;have R9:Aside (MapI HR w u2 bq p pq eps buf keys i):=⟨F,l,rs,B,W,live,S,P,M1.out.gw HH.out.kp g2,BWI.out⟩;clear g2 GT';go_wp2_with fail;go_roundg (i-(j+1))
      case measure=>omega
      case rel=>exact ⟨j+1,by go_num,by omega,Nat.le_refl _,R9⟩
    ·have RES:Aside (Gw w wT):=by
      obtain ⟨F,l,rs,B,W,live,S,P,m0,_⟩:=M.out;exact m0.tw.gw
     go_wp2_with fail;go_ret
     exact ⟨rfl,RES.out⟩
end Go.Proofs.YtemijdhemdhclaaGreat
