/- The document's layer 15: Take. -/
import Derived.Test.YteflpamjgaeaiaaGreatUUDoc2
set_option linter.unusedVariables false
set_option maxHeartbeats 16000000
set_option maxRecDepth 20000
open Go.Proofs.Tryz
namespace Go.Proofs.YteflpamjgaeaiaaGreat
open Go.RowKit
theorem getD_repdrop {rs:List (Option Rn)} {i:Nat} (hi:i<rs.length):(List.replicate i (none:Option Rn)++rs.drop i).getD i none=rs.getD i none:=by
 rw [List.getD_eq_getElem?_getD,List.getElem?_append_right (by simp),List.length_replicate,Nat.sub_self,List.getElem?_drop,Nat.add_zero,<-List.getD_eq_getElem?_getD]
theorem mem_repdrop {rs:List (Option Rn)} {i:Nat} {r:Rn} (h:some r∈List.replicate i (none:Option Rn)++rs.drop i):some r∈rs:=by
 rcases List.mem_append.1 h with q | q
 ·simp at q
 ·exact List.mem_of_mem_drop q
theorem drop_repdrop {rs:List (Option Rn)} {i k:Nat} (h:i<=k):(List.replicate i (none:Option Rn)++rs.drop i).drop k=rs.drop k:=by
 rw [List.drop_append,List.drop_of_length_le (by simp;omega),List.nil_append,List.length_replicate,List.drop_drop,show i+(k-i)=k by omega]
theorem laid_set {rs:List (Option Rn)} (h:rs.length=40) {j:Nat} (hj:freeC rs=j) (o:Option Rn):(List.replicate (j+1) (none:Option Rn)++rs.drop (j+1)).set j o=laid rs o:=by
 unfold laid;rw [hj,List.set_append_left _ _ (by simp),List.replicate_succ',List.set_append_right _ _ (by simp),List.length_replicate,Nat.sub_self,List.set_cons_zero,List.append_assoc]
 rfl
theorem laid_none {rs:List (Option Rn)} {j:Nat} (hj:freeC rs=j):List.replicate (j+1) (none:Option Rn)++rs.drop (j+1)=laid rs none:=by
 unfold laid;rw [hj,List.replicate_succ',List.append_assoc];rfl
theorem rtake15 (O5:Of5C) {w:World} {p rb:Nat} {rs:List (Option Rn)} {eps buf B W:Int} (h:HDl w p rb rs eps buf B W) (ao:Option Addr) (c:Nat) (l:List Ent) (hl:EL w ao l) (hc:l.length<=c) (hz:ao=none->l.length=0/\c=0) (hs:l.length+tot rs<=2000000) (hB:0<=B/\B<4611686018427387904) (hW:0<=W/\W<4611686018427387904) :
  Calls prog 13 #[.pointer (some ⟨p,0,none⟩),.slice ao l.length c] w fun e w'=>TakeOut HDoc (fun w' rs B W=>HDl w' p rb rs eps buf B W) (fun q=>q=p\/q=rb) w w' e rs l eps buf B W:=by
 have HC:Aside _:=h;have OO:Aside Of5C:=O5;have HL:Aside _:=hl;have CK:Hid (∀ W,Gw w W->Calls prog 54 #[.slice ao l.length c] W fun e w'=>(∃ r:Int,e=.returned (.int .i64 r)/\ChkR (ek l) (ev l) (eg l) l.length r)/\Gw W w'):=fun W gg=>rcheck3_any ao l.length c (ek l) (ev l) (eg l) (by omega) W (hl.gw gg)
 have HS:Aside (l.length+tot rs<=2000000/\l.length<=c/\(ao=none->l.length=0/\c=0)):=⟨hs,hc,hz⟩;have HBW:Aside ((0<=B/\B<4611686018427387904)/\0<=W/\W<4611686018427387904):=⟨hB,hW⟩;obtain ⟨n,hn⟩:∃ n,l.length=n:=⟨_,rfl⟩;have LN:Aside _:=hn;rw [hn] at CK ⊢;have n1:n<=2000000:=by omega
 obtain ⟨bq,hbq⟩:∃ b,w.heap.size=b:=⟨_,rfl⟩;have BQ:Aside _:=hbq;have hp:=h.plt;have hrb:=h.blt;have pq:p≠bq/\rb≠bq:=⟨by omega,by omega⟩
 have PQ:Aside _:=pq;have BX:Aside (Bxs w [(bq,#[.int .i64 0,.int .i64 0,.int .i64 0],42)] (w.alloc (.cells #[.int .i64 0,.int .i64 0,.int .i64 0] 42))):=by rw [<-hbq];exact (Bxs.nil (Gw.refl w)).add _ _
 clear h hl hc hz hs hB hW hn hbq O5 pq;go_enter func13,ntmps13;go_wp2_with fail;rw [BQ.out];generalize w.alloc (.cells #[.int .i64 0,.int .i64 0,.int .i64 0] 42)=w1 at BX ⊢;refine Calls.mono (CK.out w1 BX.out.gw0) ?_;rintro e w2 ⟨⟨r,rfl,cr⟩,g2⟩;have CR:Aside (ChkR (ek l) (ev l) (eg l) n r):=by have:=cr;rw [<-LN.out] at this ⊢;exact this
 have B2:Aside _:=BX.out.gw g2;clear g2 cr CK BX;by_cases r0:r=0
 ·subst r0
  have c1:=(HC.out.gw B2.out.gw0).c1;have pl:=(HC.out.gw B2.out.gw0).plt;have bl:=(HC.out.gw B2.out.gw0).blt;by_cases nb:(n:Int)=buf
  ·have OKL:Aside (EOk l):=by have:=CR.out;rw [<-LN.out] at this;exact this
   have NBB:Aside _:=nb;have nb':((n:Int) != buf)=false:=by simpa using nb
   obtain ⟨j,hj⟩:∃ j,freeC rs=j:=⟨_,rfl⟩;have JJ:Aside _:=hj;have j40:j<40:=by rw [<-hj];exact HCl.freeC_lt rs
   clear nb hj;go_upto_block 0 with fail;go_cut [6] (fun s6 wc=>s6=.int .i64 (j:Int)/\wc=w2)
   case first =>
    have c2:=(HC.out.gw B2.out.gw0).c2;go_wp2_with fail;go_loopg [6] 40 (fun gg s6 wr=>∃ i:Nat,s6=.int .i64 (i:Int)/\i<=39/\40-i<=gg/\wr=w2/\Aside (∀ k,k<i->∃ r,rs.getD k none=some r))
    case atStart=>exact ⟨0,rfl,by omega,by omega,rfl,(show Aside _ from fun k hk=>by omega)⟩
    case round =>
     obtain ⟨i,rfl,a1,a2,hw,N⟩:=hrel;subst hw;by_cases hlt:i<39
     ·have hlt':(i:Int)<39:=by omega
      have i40:(i:Int)<40:=by omega
      have ci:=(HC.out.gw B2.out.gw0).cell (i:=i) (by omega)
      rcases cases_rs rs i with e | ⟨r,e⟩
      ·rw [e] at ci
       have ci':wr.cell? ⟨rb,i,none⟩=some (.pointer none):=ci;have EI:Aside (i=j):=by rw [<-JJ.out];exact (free_is HC.out.len hlt N.out e).symm
       clear ci e N;go_wp2_with fail;go_meet
       case rel=>exact ⟨by rw [EI.out],rfl⟩
      ·rw [e] at ci
       have ci':wr.cell? ⟨rb,i,none⟩=some (.pointer (some ⟨r.p,0,none⟩)):=ci;have N':Aside (∀ k,k<i+1->∃ r,rs.getD k none=some r):=fun k hk=>by
        by_cases x:k=i
        ·subst x;exact ⟨r,e⟩
        ·exact N.out k (by omega)
       generalize r.p=rp at ci';clear ci e N;go_wp2_with fail;go_roundg (40-(i+1))
       case measure=>omega
       case rel=>exact ⟨i+1,by go_num,by omega,Nat.le_refl _,rfl,N'⟩
     ·have ei:i=39:=by omega
      subst ei;have EI:Aside (39=j):=by rw [<-JJ.out];exact (free_ge HC.out.len N.out).symm
      clear N;go_wp2_with fail;go_meet
      case rel=>exact ⟨by rw [<-EI.out],rfl⟩
   case rest =>
    obtain ⟨rfl,hwc⟩:=hcut;have hwc':w2=wc:=hwc.symm;subst hwc';clear hwc c1;obtain ⟨jj,hjj,jz,js,jby⟩:=info_parts info_es13;have z2:=B2.out.gw0.size;have BQL:Aside _:=blkl (B2.out.lie (bq,#[.int .i64 0,.int .i64 0,.int .i64 0],42) (by simp))
    have R1:Aside ((w2.alloc (.cells #[.slice ao n c] 35)).ownsRow w2.heap.size 35 1 (.slice (some ⟨w2.heap.size,0,none⟩) 1 1) 1 [.slice ao n c]):=⟨rfl,.inr ⟨w2.heap.size,1,_,rfl,Nat.le_refl _,heap_alloc_new w2 _,Nat.le_refl _,(by decide),rfl,rfl⟩⟩
    have K1:Aside (TL (w2.alloc (.cells #[.slice ao n c] 35)) w2.heap.size [.slice ao n c] (l::lists (rs.take 0))):=by
     refine ⟨rfl,fun i hi=>?_⟩
     have hi':i<1:=hi;have e:i=0:=by omega
     subst e;have hl2:=HL.out.gw B2.out.gw0;refine ⟨ao,c,by show some (Value.slice ao n c)=some (.slice ao l.length c);rw [LN.out],HS.out.2.1,hl2.gw ((Gw.refl w2).alloc _ _),HS.out.2.2,fun a e z=>?_⟩
     obtain ⟨b,off,e',hb,_⟩:=hl2.cells z;rw [e] at e';cases e';exact ⟨Nat.ne_of_lt hb,Nat.lt_of_lt_of_le hb ((Gw.refl w2).alloc _ _).size⟩
    have N1:Aside (NB rb [.slice ao n c] (l::lists (rs.take 0))):=by
     intro i hi bo c' hv a e z;have hi':i<1:=hi;have e0:i=0:=by omega
     subst e0;have hv':Value.slice ao n c=.slice bo l.length c':=by simpa using hv
     injection hv' with h1 h2 h3;subst h1;exact (HC.out.apart HL.out a e z).2
    have D1:Aside (HDl (w2.alloc (.cells #[.slice ao n c] 35)) p rb (List.replicate 0 none++rs.drop 0) eps buf B W):=HC.out.gw (B2.out.gw0.alloc _ _);have X1:Aside ((w2.alloc (.cells #[.slice ao n c] 35)).heap[bq]?=some (.cells #[.int .i64 0,.int .i64 0,.int .i64 0] 42 (0,0))/\Gx (fun q=>q=rb) w (w2.alloc (.cells #[.slice ao n c] 35))):=⟨(heap_alloc_old _ _ BQL.out).trans (B2.out.lie (bq,#[.int .i64 0,.int .i64 0,.int .i64 0],42) (by simp)),(B2.out.gw0.alloc _ _).gx _⟩
    have T1:Aside _:=LN.out;have tb:∀ i,l.length+tot (rs.take i)<=2000000:=fun i=>by have:=tot_take rs i;have:=HS.out.1;omega
    have TB:Aside _:=tb;clear tb;go_wp2_with fail;generalize w2.alloc (.cells #[.slice ao n c] 35)=W1 at R1 K1 D1 X1 ⊢;go_loopg [7,8,9] (j+1) (fun gg s7 s8 s9 wr=>∃ (i m ob oc t:Nat) (vals:List Value),s7=.slice (some ⟨ob,0,none⟩) m oc/\s8=.int .i64 (t:Int)/\s9=.int .i64 (i:Int)/\i<=j+1/\j+1-i<=gg/\m<=i+1/\t<=2000000/\Aside (l.length+tot (rs.take i)=t)/\Aside ((l::lists (rs.take i)).length=m)/\Aside (wr.ownsRow w2.heap.size 35 1 (.slice (some ⟨ob,0,none⟩) m oc) m vals)/\Aside (TL wr ob vals (l::lists (rs.take i)))/\Aside (NB rb vals (l::lists (rs.take i)))/\Aside (HDl wr p rb (List.replicate i none++rs.drop i) eps buf B W)/\Aside (wr.heap[bq]?=some (.cells #[.int .i64 0,.int .i64 0,.int .i64 0] 42 (0,0))/\Gx (fun q=>q=rb) w wr))
    case atStart=>exact ⟨0,1,w2.heap.size,1,n,_,rfl,rfl,rfl,Nat.zero_le _,by omega,Nat.le_refl _,n1,T1,(show Aside _ from rfl),R1,K1,N1,D1,X1⟩
    case round =>
     clear R1 K1 N1 D1 X1 T1;obtain ⟨i,m,ob,oc,t,vals,rfl,rfl,rfl,a1,a2,a3,a4,TT,ML,R,KK,NN,HD,XX⟩:=hrel;obtain ⟨wS,hwS⟩:∃ wx,wx=wr:=⟨_,rfl⟩;subst hwS;by_cases hlt:i<=j
     ·have hlt':(i:Int)<=(j:Int):=by omega
      have i40:i<40:=by omega
      have i40':(i:Int)<40:=by omega
      have c2:=HD.out.c2;have pl:=HD.out.plt;have bl:=HD.out.blt;have ci:=HD.out.cell i40;rw [getD_repdrop (by rw [HC.out.len];exact i40)] at ci
      have TK:=take_rs (rs:=rs) (i:=i) (by rw [HC.out.len];exact i40)
      have RS:=rep_set (rs:=rs) (i:=i) (by rw [HC.out.len];exact i40)
      rcases cases_rs rs i with e | ⟨r,e⟩
      ·rw [e] at ci TK
       have ci':wS.cell? ⟨rb,i,none⟩=some (.pointer none):=ci;have LI:lists (rs.take (i+1))=lists (rs.take i):=by rw [TK,lists_app];exact List.append_nil _
       have TT':Aside (l.length+tot (rs.take (i+1))=t):=by show _=_;unfold tot;rw [LI];exact TT.out
       have ML':Aside ((l::lists (rs.take (i+1))).length=m):=by rw [LI];exact ML
       have KK':Aside (TL wS ob vals (l::lists (rs.take (i+1)))):=by rw [LI];exact KK
       have NN':Aside (NB rb vals (l::lists (rs.take (i+1)))):=by rw [LI];exact NN
       have HD':Aside (HDl wS p rb (List.replicate (i+1) none++rs.drop (i+1)) eps buf B W):=by
        have eq:List.replicate i (none:Option Rn)++rs.drop i=List.replicate (i+1) none++rs.drop (i+1):=by
         rw [drop_rs (by rw [HC.out.len];exact i40),e,List.replicate_succ',List.append_assoc];rfl
        rw [<-eq];exact HD
       clear ci e TK RS LI TT ML KK NN HD;go_wp2_with fail;go_roundg (j+1-(i+1))
       case measure=>omega
       case rel=>exact ⟨i+1,m,ob,oc,t,vals,rfl,rfl,by go_num,by omega,Nat.le_refl _,by omega,a4,TT',ML',R,KK',NN',HD',XX⟩
      ·rw [e] at ci TK
       have ci':wS.cell? ⟨rb,i,none⟩=some (.pointer (some ⟨r.p,0,none⟩)):=ci;have LI:Aside (l::lists (rs.take (i+1))=(l::lists (rs.take i))++[r.l]):=by show _=_;rw [TK,lists_app];rfl
       have rm:some r∈rs:=mem_rs (by rw [HC.out.len];exact i40) e
       have rm':some r∈List.replicate i (none:Option Rn)++rs.drop i:=List.mem_append_right _ (by rw [drop_rs (by rw [HC.out.len];exact i40),e];exact List.mem_cons_self ..)
       obtain ⟨RR,rp1,rp2⟩:=HD.out.runs r rm';have SL:=HDoc.lt (HC.out.runs r rm).1.h;obtain ⟨eo,ec,lo,lc,hb,hes,sp,hcap,hsb⟩:=RR.h.openS;obtain ⟨f0,f1,f2⟩:=dc_cells hb;have rl:=(Array.getElem?_eq_some_iff.1 hb).1;have obl:=R.out.lt ob rfl;have rpo:r.p≠ob:=by have:=SL r.p sp;omega
       have TE:Aside (l.length+tot (rs.take (i+1))=t+r.l.length):=by
        show _=_;rw [TK,tot_app,tot_some];have:=TT.out;have e0:tot []=0:=rfl;omega
       have t2:t+r.l.length<=2000000:=by rw [<-TE.out];exact TB.out _
       have ELA:Aside (EL wS eo r.l/\r.l.length<=ec/\(eo=none->r.l.length=0/\ec=0)/\∀ a,eo=some a->0<r.l.length->(a.block≠ob/\a.block<wS.heap.size)/\a.block≠rb):=⟨hes,hcap.1,hcap.2,fun a x z=>by
        have h1:=hsb a x z;have h2:=SL _ h1;have h3:=HDoc.lt RR.h _ h1;exact ⟨⟨by omega,h3⟩,fun q=>rp2 (by rw [<-q];exact h1)⟩⟩
       have KEEP:Hid (∀ w8,Gx (fun q=>q=ob) wS w8->w8.cell? ⟨p,2,none⟩=some (.slice (some ⟨rb,0,none⟩) 40 40)/\p<w8.heap.size/\rb<w8.heap.size/\w8.cell? ⟨rb,i,none⟩=some (.pointer (some ⟨r.p,0,none⟩))/\w8.cell? ⟨r.p,0,none⟩=some (.slice eo r.l.length ec)/\r.p<w8.heap.size/\w8.frozen? ⟨rb,i,none⟩=false/\HDl w8 p rb (List.replicate i none++rs.drop i) eps buf B W):=fun w8 g8=>by
        have hp0:=HC.out.plt;have hb0:=HC.out.blt;have D8:=HD.out.gx g8 (by omega) (by omega) (fun q hq r' hr' hx=>by
         have:=HDoc.lt (HC.out.runs r' (mem_repdrop hr')).1.h q hx
         omega)
        have h8:=(g8.block r.p rl rpo).trans hb;have cc:=D8.cell i40;rw [getD_repdrop (by rw [HC.out.len];exact i40),e] at cc
        exact ⟨D8.c2,D8.plt,D8.blt,cc,(dc_cells h8).1,blkl h8,blkf D8.row,D8⟩
       have RSA:Aside _:=RS;have OBR:Aside ((ob≠rb/\ob≠bq)/\w2.heap.size<=ob):=⟨⟨by have:=HC.out.blt;omega,by have:=BQL.out;omega⟩,obl.1⟩
       generalize r.p=rp at ci' f0 rl KEEP;obtain ⟨rll,hrll⟩:∃ x,r.l=x:=⟨_,rfl⟩;rw [hrll] at f0 TE t2 ELA KEEP LI;obtain ⟨rn,hrn⟩:∃ rn,rll.length=rn:=⟨_,rfl⟩;have RN:Aside _:=hrn;rw [hrn] at f0 t2 KEEP TE;have wt:IntKind.i64.wrap ((t:Int)+(rn:Int))=((t+rn:Nat):Int):=by rw [IntKind.wrap_i64];omega
       clear f1 f2 ci e TK RS RR rp1 rp2 SL hb hes sp hcap hsb rpo rm rm' obl hrll hrn TT HD;go_wp2_with (at_builtin;refine wpList_append_own_at _ rfl _ _ 87 rfl w2.heap.size 35 jj (.slice none 0 0) 1 24 underlying87 hjj jz js jby rfl (by decide) _ m _ rfl (R.out.alloc _) ⟨wS.heap.size,0,none⟩ 1 1 [(.slice eo rn ec)] rfl rfl (new_v13' wS (.slice eo rn ec) 35) (fun u hu=>by simp at hu;subst hu;rfl) (by simp only [maxLen];omega) (by omega) (by have:=R.out.lt ob rfl;simp;omega) ?_)
       intro v' w8 r1 r2 r3 r4;obtain ⟨b8,cap8,rfl,hb8,_,_⟩:=own_slice r1 (by simpa using r3)
       have ob8:b8=ob\/wS.heap.size<=b8:=by
        rcases r4 with q | q
        ·have q':b8=ob:=by simpa [Value.ownBlock] using q
         exact .inl q'
        ·have q':b8=wS.heap.size+1:=by simpa [Value.ownBlock] using q
         exact .inr (by omega)
       have r2':(wS.alloc (.cells #[(.slice eo rn ec)] 35)).grownBy w8 (some ob):=r2;have g8:Gx (fun q=>q=ob) wS w8:=((Gx.refl _ wS).alloc _ _).grown r2' (fun k e=>by cases e;exact .inl rfl)
       obtain ⟨d2,d3,d4,d5,d6,d7,d8,D8⟩:=KEEP.out w8 g8;have NB8:NB rb (vals++[(.slice eo rn ec)]) (l::lists (rs.take (i+1))):=by
        rw [LI.out];have:=NN.out.more (c:=ec) KK.out.len (fun a x z=>(ELA.out.2.2.2 a x z).2)
        rw [RN.out] at this;exact this
       have K8:TL w8 b8 (vals++[(.slice eo rn ec)]) (l::lists (rs.take (i+1))):=by
        rw [LI.out];have:=KK.out.more r2' ob8 ELA.out.2.1 ELA.out.1 ELA.out.2.2.1 (fun a x z=>(ELA.out.2.2.2 a x z).1)
        rw [RN.out] at this;exact this
       have b8r:b8≠rb:=by
        rcases ob8 with q | q
        ·rw [q];exact OBR.out.1.1
        ·omega
       have K9:Aside (TL (w8.setCell ⟨rb,i,none⟩ (.pointer none)) b8 (vals++[(.slice eo rn ec)]) (l::lists (rs.take (i+1)))):=K8.set NB8;have R9:Aside ((w8.setCell ⟨rb,i,none⟩ (.pointer none)).ownsRow w2.heap.size 35 1 (.slice (some ⟨b8,0,none⟩) (m+1) cap8) (m+1) (vals++[(.slice eo rn ec)])):=own_kept r1 fun q hq=>Go.Deep.blk_setCell_other _ _ _ _ (by
        have e:b8=q:=by simpa [Value.ownBlock] using hq
        rw [<-e];exact b8r)
       have N9:Aside _:=NB8;have D9:Aside (HDl (w8.setCell ⟨rb,i,none⟩ (.pointer none)) p rb (List.replicate (i+1) none++rs.drop (i+1)) eps buf B W):=by
        have:=D8.put i40 none (fun r hr=>by cases hr)
        rw [RSA.out] at this;exact this
       have X9:Aside ((w8.setCell ⟨rb,i,none⟩ (.pointer none)).heap[bq]?=some (.cells #[.int .i64 0,.int .i64 0,.int .i64 0] 42 (0,0))/\Gx (fun q=>q=rb) w (w8.setCell ⟨rb,i,none⟩ (.pointer none))):=by
        refine ⟨(Go.Deep.blk_setCell_other _ _ _ _ (fun e=>PQ.out.2 e.symm)).trans ((g8.block bq (blkl XX.out.1) (fun e=>OBR.out.1.2 e.symm)).trans XX.out.1),?_⟩
        have gA:Gx (fun q=>q=rb) w w8:=XX.out.2.trans g8 (fun q hq=>.inr (by have:=OBR.out.2;rw [hq];omega))
        exact gA.set (.inl rfl) _ _
       have ML':Aside ((l::lists (rs.take (i+1))).length=m+1):=by show _=_;rw [LI.out,List.length_append,ML.out];rfl
       clear r1 r2 r3 r4 r2' hb8 ob8 g8 D8 NB8 K8 KEEP R KK NN XX ELA b8r;go_wp2_with fail;go_roundg (j+1-(i+1))
       case measure=>omega
       case rel=>exact ⟨i+1,m+1,b8,cap8,t+rn,_,rfl,rfl,by go_num,by omega,Nat.le_refl _,by omega,t2,TE,ML',R9,K9,N9,D9,X9⟩
     ·have ei:i=j+1:=by omega
      subst ei;have nle:¬ ((j+1:Nat):Int)<=(j:Int):=by omega
      have EVL:Aside _:=KK.out.ev R.out ML.out;have TOOK:Aside (sizes (l::lists (rs.take (j+1)))=t/\t=took rs l):=⟨by rw [sizes_cons];exact TT.out,by unfold took;rw [JJ.out];exact TT.out.symm⟩
      have EN:Hid (Calls prog 55 #[.slice (some ⟨ob,0,none⟩) m oc] wS fun e w'=>(∃ bo oc o,e=.returned (.slice (some ⟨bo,0,none⟩) o.length oc)/\EO w' wS.heap.size (.slice (some ⟨bo,0,none⟩) o.length oc) o/\Mg Ent.k (l::lists (rs.take (j+1))) o)/\Gw wS w'):=by
       have:=rentries13 (some ⟨ob,0,none⟩) oc (l::lists (rs.take (j+1))) (by rw [ML.out];omega) (fun i hi=>Nat.le_trans (rows_le hi) (by rw [TOOK.out.1];exact a4)) (by rw [TOOK.out.1];exact a4) wS EVL.out
       rw [ML.out] at this;exact this
      clear R KK NN TT;go_wp2_with fail;refine Calls.mono EN.out ?_;rintro e w4 ⟨⟨bo,oc4,o,rfl,eo4,mg⟩,g4⟩;have EL4:Aside (EL w4 (some ⟨bo,0,none⟩) o):=eo_el eo4 (mg.oks EVL.out.oks);have TR:Aside (TakeR rs l o (o.filter (keepP (liveQ (rs.drop (j+1)))))):=⟨by rw [JJ.out];exact mg,by rw [JJ.out]⟩
      have FC:Aside ((EOk o/\EOk (o.filter (keepP (liveQ (rs.drop (j+1))))))/\o.length<=2000000):=⟨TR.out.facts OKL.out (fun r hr=>(HC.out.runs r hr).1.ok),Nat.le_trans TR.out.few.2 (by rw [<-TOOK.out.2];exact a4)⟩
      have HD4:Aside _:=HD.out.gw g4;have X4:Aside (w4.heap[bq]?=some (.cells #[.int .i64 0,.int .i64 0,.int .i64 0] 42 (0,0))/\Gx (fun q=>q=rb) w w4):=⟨(g4.below.block bq (blkl XX.out.1)).trans XX.out.1,XX.out.2.tw g4⟩
      obtain ⟨on,hon⟩:∃ on,o.length=on:=⟨_,rfl⟩;have ON:Aside _:=hon;have LV:Hid (Calls prog 57 #[.pointer (some ⟨p,0,none⟩),.slice (some ⟨bo,0,none⟩) on oc4,.int .i64 (j:Int)] w4 fun e w'=>(∃ ob m oc,e=.returned (.slice (some ⟨ob,0,none⟩) m oc)/\(lvK (rs.drop (j+1)) o).length=m/\KS w' (some ⟨ob,0,none⟩) m (fun i=>(lvK (rs.drop (j+1)) o).getD i 0))/\Gw w4 w'):=by
       have:=rlive15 HD4.out (some ⟨bo,0,none⟩) oc4 o EL4.out FC.out.2 j j40
       rw [drop_repdrop (Nat.le_refl _),ON.out] at this;exact this
      rw [hon];clear eo4 mg g4 EN EVL HD XX hon;go_wp2_with fail;refine Calls.mono LV.out ?_;rintro e w5 ⟨⟨kb,km,kc,rfl,hkm,hks⟩,g5⟩;have SF:Hid (Calls prog 56 #[.slice (some ⟨bo,0,none⟩) on oc4,.slice (some ⟨kb,0,none⟩) km kc] w5 fun e w'=>(∃ ob oc,e=.returned (.slice (some ⟨ob,0,none⟩) (o.filter (keepP (liveQ (rs.drop (j+1))))).length oc)/\EO w' w5.heap.size (.slice (some ⟨ob,0,none⟩) (o.filter (keepP (liveQ (rs.drop (j+1))))).length oc) (o.filter (keepP (liveQ (rs.drop (j+1))))))/\Gw w5 w'):=by
       have few:=FC.out.2;have:=rsift13 (some ⟨bo,0,none⟩) oc4 o (some ⟨kb,0,none⟩) km kc (fun i=>(lvK (rs.drop (j+1)) o).getD i 0) (by omega) (by have:=lvK_len (rs.drop (j+1)) o;omega) w5 (EL4.out.gw g5) hks
       rw [ON.out,<-hkm,lv_sift] at this;rw [<-hkm];exact this
      have HD5:Aside _:=HD4.out.gw g5;have X5:Aside (w5.heap[bq]?=some (.cells #[.int .i64 0,.int .i64 0,.int .i64 0] 42 (0,0))/\Gx (fun q=>q=rb) w w5):=⟨(g5.below.block bq (blkl X4.out.1)).trans X4.out.1,X4.out.2.tw g5⟩
      clear hkm hks g5 LV HD4 X4;go_wp2_with fail;refine Calls.mono SF.out ?_;rintro e w6 ⟨⟨bk,oc6,rfl,eo6⟩,g6⟩;obtain ⟨kept,hkept⟩:∃ kept,o.filter (keepP (liveQ (rs.drop (j+1))))=kept:=⟨_,rfl⟩;have EOKB:∀ e∈kept,e.ok:=fun e he=>by rw [<-hkept] at he;exact EL4.out.all e (List.mem_filter.1 he).1
      rw [hkept] at eo6 TR FC ⊢;have ELK:Aside (EL w6 (some ⟨bk,0,none⟩) kept/\kept.length<=oc6):=⟨eo_el eo6 EOKB,(eo_shape15 eo6).1⟩;have kn:kept.length<=2000000:=Nat.le_trans TR.out.few.1 (by rw [<-TOOK.out.2];exact a4)
      have HD6:Aside _:=HD5.out.gw g6;have X6:Aside (w6.heap[bq]?=some (.cells #[.int .i64 0,.int .i64 0,.int .i64 0] 42 (0,0))/\Gx (fun q=>q=rb) w w6):=⟨(g6.below.block bq (blkl X5.out.1)).trans X5.out.1,X5.out.2.tw g6⟩
      obtain ⟨kl,hkl⟩:∃ kl,kept.length=kl:=⟨_,rfl⟩;have KL:Aside _:=hkl;have FIN:Hid (∀ (wF:World) (rn:Option Rn),HDl wF p rb (laid rs rn) eps buf (B+one15 kept) (W+kept.length)->Gx (fun q=>q=p\/q=rb) w wF->LaidR HDoc w wF eps kept rn->(∀ r,rn=some r->¬ r.S bq)->∀ a b c:Value,TakeOut HDoc (fun w' rs B W=>HDl w' p rb rs eps buf B W) (fun q=>q=p\/q=rb) w (((wF.setCell ⟨bq,0,none⟩ a).setCell ⟨bq,1,none⟩ b).setCell ⟨bq,2,none⟩ c) (.returned (.tuple #[.agg #[.int .i64 (j:Int),.int .i64 (t:Int),.int .i64 (kl:Int)],.int .i64 0])) rs l eps buf B W):=fun wF rn hd gx ld ns a b c=>by
       have gz:Gx (fun q=>q=bq) wF (((wF.setCell ⟨bq,0,none⟩ a).setCell ⟨bq,1,none⟩ b).setCell ⟨bq,2,none⟩ c):=(((Gx.refl (fun q=>q=bq) wF).set (.inl rfl) _ _).set (.inl rfl) _ _).set (.inl rfl) _ _
       have nS:∀ r,some r∈laid rs rn->¬ r.S bq:=fun r hr hx=>by
        unfold laid at hr;rcases List.mem_append.1 hr with q | q
        ·simp at q
        ·rcases List.mem_cons.1 q with q | q
         ·exact ns r q.symm hx
         ·have:=HDoc.lt (HC.out.runs r (List.mem_of_mem_drop q)).1.h bq hx
          rw [BQ.out] at this;omega
       refine ⟨⟨0,by rw [LN.out];exact CR.out,.inr (.inr ⟨rfl,by rw [LN.out];exact NBB.out,o,kept,rn,TR.out,?_,?_,hd.gx gz PQ.out.1 PQ.out.2 (fun q hq r hr=>by rw [hq];exact nS r hr)⟩)⟩,gx.trans gz (fun q hq=>.inr (by rw [hq];exact Nat.le_of_eq BQ.out))⟩
       ·unfold builtV;rw [JJ.out,KL.out,<-TOOK.out.2]
       ·rcases ld with ⟨a,b⟩ | ⟨a,r,b1,b2,b3,b4,b5,b6⟩
        ·exact .inl ⟨a,b⟩
        ·exact .inr ⟨a,r,b1,b2,b3,b4,b5,b6.gx HDoc.kp gz (fun q hq=>by rw [hq];exact ns r b1)⟩
      rw [hkl] at kn ⊢;clear eo6 g6 SF HD5 X5 EL4 EOKB hkept hkl;by_cases k0:kl=0
      ·subst k0
       have ke:kept=[]:=List.length_eq_zero_iff.1 KL.out;obtain ⟨m0,m1,m2,z0,z1,z2',bl',TT⟩:=box_b X6.out.1;have T3:=TT (j:Int) (t:Int) 0;have RES:Hid (∀ a b c:Value,TakeOut HDoc (fun w' rs B W=>HDl w' p rb rs eps buf B W) (fun q=>q=p\/q=rb) w (((w6.setCell ⟨bq,0,none⟩ a).setCell ⟨bq,1,none⟩ b).setCell ⟨bq,2,none⟩ c) (.returned (.tuple #[.agg #[.int .i64 (j:Int),.int .i64 (t:Int),.int .i64 (0:Nat)],.int .i64 0])) rs l eps buf B W):=FIN.out w6 none (by
        have e1:B+one15 kept=B:=by rw [show one15 kept=0 from if_pos ke];omega
        have e2:W+kept.length=W:=by rw [KL.out];simp
        rw [e1,e2,<-laid_none JJ.out];exact HD6.out) (X6.out.2.mono fun q hq=>.inl (.inr hq)) (.inl ⟨ke,rfl⟩) (fun r hr=>by cases hr)
       clear ke TT FIN HD6 X6;go_wp2_with fail;exact bodyPost_ret (v:=.tuple #[.agg #[.int .i64 (j:Int),.int .i64 (t:Int),.int .i64 0],.int .i64 0]) (by simp [results,results13,go_sem,T3.1,T3.2.1,T3.2.2]) rfl (RES.out _ _ _)
      ·have k0':0<kl:=by omega
       have k0d:(0:Int)<(kl:Int):=by omega
       have NW:Hid (Calls prog 24 #[.slice (some ⟨bk,0,none⟩) kl oc6,.int .i64 eps] w6 fun ex w'=>RunOut HDoc w6 w' ex eps (ek kept) (ev kept) (eg kept) kl/\Gw w6 w'):=by
        have e0:=HC.out.e0;have e1:=HC.out.e1;have:=dc_new OO.out eps (some ⟨bk,0,none⟩) kept.length oc6 (ek kept) (ev kept) (eg kept) (by omega) (by omega) (by rw [KL.out];exact kn) ELK.out.2 (fun x=>by cases x) w6 ELK.out.1
        rw [KL.out] at this;exact this
       have c0:=HD6.out.c0;have pl:=HD6.out.plt;clear k0;go_wp2_with fail;refine Calls.mono NW.out ?_;rintro e w7 ⟨⟨E,ne,x⟩,g7⟩;have E0:E=0:=by
        rcases ne with ⟨a,_⟩ | ⟨_,b⟩
        ·exact absurd ⟨HC.out.e0,HC.out.e1⟩ a
        ·rw [<-KL.out] at b;exact b.one FC.out.1.2
       rcases x with ⟨a,_⟩ | ⟨_,rp,S,L,rfl,hS,br,hr⟩
       ·exact absurd E0 a
       have D7:=HD6.out.gw g7;have X7:w7.heap[bq]?=some (.cells #[.int .i64 0,.int .i64 0,.int .i64 0] 42 (0,0)):=(g7.below.block bq (blkl X6.out.1)).trans X6.out.1;have np:¬ S p:=fun x=>by have:=hS p x;have:=HD6.out.plt;omega
       have nr:¬ S rb:=fun x=>by have:=hS rb x;have:=HD6.out.blt;omega
       have nq:¬ S bq:=fun x=>by have:=hS bq x;have:=blkl X6.out.1;omega
       have RR:RA HDoc w7 ⟨rp,S,eps,kept,L⟩:=⟨by show HDoc w7 rp S eps _ _ _ kept.length L;rw [KL.out];exact hr,FC.out.1.2,ELK.out.1.all,by show kept.length<=_;rw [KL.out];exact kn⟩
       have D8:=D7.put (i:=j) j40 (some ⟨rp,S,eps,kept,L⟩) (fun r hr=>by cases hr;exact ⟨RR,np,nr⟩)
       rw [laid_set HC.out.len JJ.out] at D8;have D9:=D8.put3 (B+1);have D10:=D9.put4 (W+kl);have gx:Gx (fun q=>q=p\/q=rb) w7 (((w7.setCell ⟨rb,j,none⟩ (ptr (some ⟨rp,S,eps,kept,L⟩))).setCell ⟨p,3,none⟩ (.int .i64 (B+1))).setCell ⟨p,4,none⟩ (.int .i64 (W+kl))):=(((Gx.refl _ w7).set (.inl (.inr rfl)) _ _).set (.inl (.inl rfl)) _ _).set (.inl (.inl rfl)) _ _
       have kne:kept≠[]:=fun x=>by have:=KL.out;rw [x] at this;simp at this;omega
       have RES:Hid (∀ a b c:Value,TakeOut HDoc (fun w' rs B W=>HDl w' p rb rs eps buf B W) (fun q=>q=p\/q=rb) w ((((((w7.setCell ⟨rb,j,none⟩ (.pointer (some ⟨rp,0,none⟩))).setCell ⟨p,3,none⟩ (.int .i64 (B+1))).setCell ⟨p,4,none⟩ (.int .i64 (W+kl))).setCell ⟨bq,0,none⟩ a).setCell ⟨bq,1,none⟩ b).setCell ⟨bq,2,none⟩ c) (.returned (.tuple #[.agg #[.int .i64 (j:Int),.int .i64 (t:Int),.int .i64 (kl:Int)],.int .i64 0])) rs l eps buf B W):=FIN.out _ (some ⟨rp,S,eps,kept,L⟩) (by
        have e1:one15 kept=1:=if_neg kne;rw [e1,KL.out];exact D10) (((X6.out.2.tw g7).mono (S':=fun q=>q=p\/q=rb) fun q hq=>.inl (.inr hq)).trans gx (fun q hq=>.inl hq)) (.inr ⟨kne,⟨rp,S,eps,kept,L⟩,rfl,rfl,rfl,by rw [KL.out];exact br,fun q hq=>Nat.le_trans X6.out.2.size (hS q hq),RR.gx HDoc.kp gx (fun q hq hx=>by
         rcases hq with x | x
         ·rw [x] at hx;exact np hx
         ·rw [x] at hx;exact nr hx)⟩) (fun r hr=>by cases hr;exact nq)
       have X10:((((w7.setCell ⟨rb,j,none⟩ (.pointer (some ⟨rp,0,none⟩))).setCell ⟨p,3,none⟩ (.int .i64 (B+1))).setCell ⟨p,4,none⟩ (.int .i64 (W+kl)))).heap[bq]?=some (.cells #[.int .i64 0,.int .i64 0,.int .i64 0] 42 (0,0)):=(gx.block bq (blkl X7) (fun x=>by
        rcases x with x | x
        ·exact PQ.out.1 x.symm
        ·exact PQ.out.2 x.symm)).trans X7
       have q1:w7.cell? ⟨p,2,none⟩=some (.slice (some ⟨rb,0,none⟩) 40 40):=D7.c2;have q2:w7.cell? ⟨rb,j,none⟩=some (ptr ((List.replicate (j+1) none++rs.drop (j+1)).getD j none)):=D7.cell j40;have q3:w7.frozen? ⟨rb,j,none⟩=false:=blkf D7.row;have q4:(w7.setCell ⟨rb,j,none⟩ (.pointer (some ⟨rp,0,none⟩))).cell? ⟨p,3,none⟩=some (.int .i64 B):=D8.c3;have q5:(w7.setCell ⟨rb,j,none⟩ (.pointer (some ⟨rp,0,none⟩))).frozen? ⟨p,3,none⟩=false:=blkf D8.blk;have q6:((w7.setCell ⟨rb,j,none⟩ (.pointer (some ⟨rp,0,none⟩))).setCell ⟨p,3,none⟩ (.int .i64 (B+1))).cell? ⟨p,4,none⟩=some (.int .i64 W):=D9.c4;have q7:((w7.setCell ⟨rb,j,none⟩ (.pointer (some ⟨rp,0,none⟩))).setCell ⟨p,3,none⟩ (.int .i64 (B+1))).frozen? ⟨p,4,none⟩=false:=blkf D9.blk;have q8:p<w7.heap.size:=D7.plt;have q9:rb<w7.heap.size:=D7.blt;have wB:IntKind.i64.wrap (B+1)=B+1:=by have:=HBW.out.1;rw [IntKind.wrap_i64];omega
       have wW:IntKind.i64.wrap (W+(kl:Int))=W+(kl:Int):=by have:=HBW.out.2;rw [IntKind.wrap_i64];omega
       have j40':(j:Int)<40:=by omega
       generalize ptr ((List.replicate (j+1) none++rs.drop (j+1)).getD j none)=pv at q2;obtain ⟨m0,m1,m2,z0,z1,z2',bl',TT⟩:=box_b X10;have T3:=TT (j:Int) (t:Int) (kl:Int);clear ne hS br hr D7 X7 np nr nq RR D8 D9 D10 gx kne X10 TT FIN HD6 X6 NW g7 E0 FC ELK TR;go_wp2_with fail;exact bodyPost_ret (v:=.tuple #[.agg #[.int .i64 (j:Int),.int .i64 (t:Int),.int .i64 (kl:Int)],.int .i64 0]) (by simp [results,results13,go_sem,T3.1,T3.2.1,T3.2.2]) rfl (RES.out _ _ _)
  ·have nb':((n:Int) != buf)=true:=by simpa using nb
   have E0:=B2.out.lie (bq,#[.int .i64 0,.int .i64 0,.int .i64 0],42) (by simp)
   obtain ⟨m0,m1,m2,z0,z1,z2,bl',TT⟩:=box_b E0;have T3:=TT 0 0 0;have NBB:Aside _:=nb;have GU:Aside _:=B2.out.gw0;have GF:Hid (∀ a b c:Value,TakeOut HDoc (fun w' rs B W=>HDl w' p rb rs eps buf B W) (fun q=>q=p\/q=rb) w (((w2.setCell ⟨bq,0,none⟩ a).setCell ⟨bq,1,none⟩ b).setCell ⟨bq,2,none⟩ c) (.returned (.tuple #[.agg #[.int .i64 0,.int .i64 0,.int .i64 0],.int .i64 151])) rs l eps buf B W):=fun a b c=>by
    have gz:Gw w (((w2.setCell ⟨bq,0,none⟩ a).setCell ⟨bq,1,none⟩ b).setCell ⟨bq,2,none⟩ c):=((GU.out.setCell (Nat.le_of_eq BQ.out) _).setCell (Nat.le_of_eq BQ.out) _).setCell (Nat.le_of_eq BQ.out) _;exact ⟨⟨0,by rw [LN.out];exact CR.out,.inr (.inl ⟨rfl,by rw [LN.out];exact NBB.out,rfl,HC.out.gw gz,gz⟩)⟩,gz.gx _⟩
   clear E0 TT nb;go_wp2_with fail;exact bodyPost_ret (v:=.tuple #[.agg #[.int .i64 0,.int .i64 0,.int .i64 0],.int .i64 151]) (by simp [results,results13,go_sem,T3.1,T3.2.1,T3.2.2]) rfl (GF.out _ _ _)
 ·have r0':(r != 0)=true:=by simpa using r0
  have R0:Aside _:=r0;have E0:=B2.out.lie (bq,#[.int .i64 0,.int .i64 0,.int .i64 0],42) (by simp)
  obtain ⟨m0,m1,m2,z0,z1,z2,bl',TT⟩:=box_b E0;have T3:=TT 0 0 0;have GU:Aside _:=B2.out.gw0;have GF:Hid (∀ a b c:Value,TakeOut HDoc (fun w' rs B W=>HDl w' p rb rs eps buf B W) (fun q=>q=p\/q=rb) w (((w2.setCell ⟨bq,0,none⟩ a).setCell ⟨bq,1,none⟩ b).setCell ⟨bq,2,none⟩ c) (.returned (.tuple #[.agg #[.int .i64 0,.int .i64 0,.int .i64 0],.int .i64 150])) rs l eps buf B W):=fun a b c=>by
   have gz:Gw w (((w2.setCell ⟨bq,0,none⟩ a).setCell ⟨bq,1,none⟩ b).setCell ⟨bq,2,none⟩ c):=((GU.out.setCell (Nat.le_of_eq BQ.out) _).setCell (Nat.le_of_eq BQ.out) _).setCell (Nat.le_of_eq BQ.out) _;exact ⟨⟨r,by rw [LN.out];exact CR.out,.inl ⟨R0.out,rfl,HC.out.gw gz,gz⟩⟩,gz.gx _⟩
  clear E0 TT r0;go_wp2_with fail;exact bodyPost_ret (v:=.tuple #[.agg #[.int .i64 0,.int .i64 0,.int .i64 0],.int .i64 150]) (by simp [results,results13,go_sem,T3.1,T3.2.1,T3.2.2]) rfl (GF.out _ _ _)
end Go.Proofs.YteflpamjgaeaiaaGreat
