/- The document's layer 15: Of. -/
import Derived.Test.YtklkpldicbkjeaaGreatVUDoc3
import Derived.Test.YtklkpldicbkjeaaGreatVUShown
set_option linter.unusedVariables false
set_option maxHeartbeats 8000000
set_option maxRecDepth 20000
open Go.Proofs.Tryz
namespace Go.Proofs.YtklkpldicbkjeaaGreat
open Go.RowKit
theorem Tb (l:List ah):∀ i,i<=l.length->lv (eg l) i=((l.take i).filter (fun e=>!e.g)).length
 | 0,_=>by simp [lv]
 | i+1,h=>by
  have ih:=Tb l i (by omega)
  have hi:i<l.length:=by omega
  have e:l.take (i+1)=l.take i++[l.getD i aF]:=by
   rw [List.take_add_one,List.getElem?_eq_getElem hi,List.getD_eq_getElem?_getD,List.getElem?_eq_getElem hi];rfl
  rw [e,List.filter_append,List.length_append,List.filter_cons,List.filter_nil];have s:lv (eg l) (i+1)=lv (eg l) i+(if (l.getD i aF).g then 0 else 1):=rfl
  rw [s,ih];cases (l.getD i aF).g<;>simp
theorem acF (l:List ah):lv (eg l) l.length=(l.filter (fun e=>!e.g)).length:=by
 have:=Tb l l.length (Nat.le_refl _)
 rwa [List.take_length] at this
theorem Tc (up:List (Option Rn)):∀ l:List ah,(aY up l).length+(l.filter (fun e=>!e.g)).length<=l.length/\((aY up l).length+(l.filter (fun e=>!e.g)).length=l.length↔l.all (aS (bX up))=true)
 | []=>by simp [aY]
 | e::r=>by
  obtain ⟨a,b⟩:=Tc up r;unfold aY at a b ⊢;rw [List.length_map] at a b ⊢;rw [List.filter_cons,List.filter_cons,List.all_cons,List.length_cons];have e1:tZ up e=(e.g&&bX up e.k):=rfl;have e2:aS (bX up) e=(!e.g||bX up e.k):=rfl
  rw [e1,e2];cases e.g with
  | false =>
   simp only [Bool.false_and,Bool.not_false,Bool.true_or,Bool.true_and,if_true,Bool.false_eq_true,if_false,List.length_cons];exact ⟨by omega,by rw [<-b];omega⟩
  | true =>
   cases bX up e.k with
   | true =>
    simp only [Bool.true_and,Bool.not_true,Bool.or_true,if_true,Bool.false_eq_true,if_false,List.length_cons];exact ⟨by omega,by rw [<-b];omega⟩
   | false =>
    simp only [Bool.true_and,Bool.not_true,Bool.or_self,Bool.false_and,Bool.false_eq_true,if_false,iff_false];exact ⟨by omega,by omega⟩
theorem Hn {l:List (Option Rn)} {i:Nat} (hi:i<=l.length) (AE:i<=40):aT (l.take i)=l.take i++List.replicate (40-i) none:=by
 unfold aT;rw [List.take_of_length_le (by rw [List.length_take];omega),List.length_take,Nat.min_eq_left hi]
theorem acG {l:List (Option Rn)} {i:Nat} (hi:i<l.length) (AE:i<40):(aT (l.take i)).set i (l.getD i none)=aT (l.take (i+1)):=by
 rw [Hn (Nat.le_of_lt hi) (Nat.le_of_lt AE),Hn hi AE,tO hi];have ll:(l.take i).length=i:=by rw [List.length_take];omega
 rw [List.set_append_right _ _ (by omega),ll,Nat.sub_self,show 40-i=40-(i+1)+1 by omega,List.replicate_succ,List.set_cons_zero,List.append_assoc]
 rfl
theorem acH {l:List (Option Rn)} {i:Nat} (AE:40<=i):aT (l.take (i+1))=aT (l.take i):=by
 unfold aT;rw [List.take_take,List.take_take,List.length_take,List.length_take,show min 40 (i+1)=min 40 i by omega]
 by_cases q:l.length<=40
 ·rw [show min (i+1) l.length=min i l.length by omega]
 ·rw [show 40-min (i+1) l.length=40-min i l.length by omega]
theorem acI {eps buf:Int} {j:Nat} {up:List (Option Rn)} {r:Rn} {b1 b2 b3 b4:Bool} (h1:(r.eps != eps)=b1) (h2:(((r.l.length:Nat):Int) == 0)=b2) (h3:decide (fw buf (j:Int)<(r.l.length:Int))=b3) (h4:(((aY up r.l).length:Int) != ((r.l.length:Int)-(lv (eg r.l) r.l.length:Int)))=b4):jh eps buf j up (some r)=!(b1||(b2||(b3||b4))):=by
 subst h1 h2 h3 h4;obtain ⟨a,b⟩:=Tc up r.l;rw [<-acF] at a b;show (decide (0<r.l.length)&&decide ((r.l.length:Int)<=fw buf (j:Int))&&(r.eps == eps)&&r.l.all (aS (bX up)))=_;rw [Bool.eq_iff_iff];simp only [Bool.and_eq_true,decide_eq_true_eq,beq_iff_eq,Bool.not_eq_true',Bool.or_eq_false_iff,bne_eq_false_iff_eq,decide_eq_false_iff_not,beq_eq_false_iff_ne];rw [<-b];constructor
 ·rintro ⟨⟨⟨q1,q2⟩,q3⟩,q4⟩
  exact ⟨q3,by omega,by omega,by omega⟩
 ·rintro ⟨q3,q1,q2,q4⟩
  exact ⟨⟨⟨by omega,by omega⟩,q3⟩,by omega⟩
theorem acJ (eps buf:Int) (ao:Option Addr) (c:Nat) (l:List (Option Rn)) (hl:l.length<=2000000) (w:World) (h:PR aR w ao l) :
  Calls prog 18 #[.int .i64 eps,.int .i64 buf,.slice ao l.length c] w fun e w'=>kH (fun w' p rs=>∃ b,aG w' p b rs eps buf 0 0/\w.heap.size<=b) w w' e eps buf l/\Gw w w':=by
 have HP:ag _:=h;obtain ⟨n,hn⟩:∃ n,l.length=n:=⟨_,rfl⟩;have LN:ag _:=hn;have NW:ag _:=Fp eps buf w;rw [hn] at hl ⊢;clear h hn;go_enter func18,ntmps18;go_wp2_with fail;refine Calls.mono NW.o ?_;rintro e w1 ⟨⟨no,rfl⟩ | ⟨ok,p,rb,rfl,hp,ly,hd⟩,g1⟩
 ·have aK:ag (kH (fun w' p rs=>∃ b,aG w' p b rs eps buf 0 0/\w.heap.size<=b) w w1 (.returned (.tuple #[.pointer none,.int .i64 1])) eps buf l):=⟨1,.inl ⟨rfl,.inl no⟩,.inl ⟨by decide,rfl⟩⟩
  have G1:ag _:=g1;clear g1 no NW;go_wp2_with fail;go_ret2;exact ⟨aK.o,G1.o⟩
 have xr:ag _:=ok;have PQ:ag (w.heap.size<=p/\w.heap.size<=rb):=⟨hp,ly⟩;have Td:ag (aG w1 p rb (aT (l.take 0)) eps buf 0 0):=by
  rw [Hn (Nat.zero_le _) (by omega)]
  exact hd
 have G1:ag _:=g1;clear g1 hd hp ly ok NW;go_wp2_with fail;go_loopg [10] n (fun gg iV wr=>∃ i:Nat,iV=.int .i64 (i:Int)/\i<=n/\n-i<=gg/\ag (aG wr p rb (aT (l.take i)) eps buf 0 0)/\ag (Gw w wr)/\ag (¬ ∃ r,some r∈(l.take i).drop 40))
 case atStart=>exact ⟨0,rfl,Nat.zero_le _,by omega,Td,G1,(show ag _ from fun ⟨r,hr⟩=>by simp at hr)⟩
 case round =>
  clear Td G1;obtain ⟨i,rfl,a1,a2,HD,G,NX⟩:=hrel;obtain ⟨wS,aZ⟩:∃ wx,wx=wr:=⟨_,rfl⟩;subst aZ;by_cases ak:i<n
  ·have dG:(i:Int)<(n:Int):=by omega
   have hi:i<l.length:=by rw [LN.o];exact ak
   obtain ⟨lb,lo,rfl,fs,bP⟩:=(HP.o.gw aR.kp G.o).cells (by omega)
   have ci:=bP i hi;have TK:=tO hi;obtain ⟨cc,_,c2⟩:=HD.o.c2;have pl:=HD.o.plt;have bl:=HD.o.blt;clear bP;by_cases Ho:i<40
   ·have acK:(i:Int)<40:=by omega
    have acL:decide ((40:Int)<=(i:Int))=false:=by simp;omega
    have cr:=HD.o.cell Ho;have fr:wS.frozen? ⟨rb,i,none⟩=false:=HD.o.fz i;have PU:ag (aG (wS.setCell ⟨rb,i,none⟩ (ptr (l.getD i none))) p rb (aT (l.take (i+1))) eps buf 0 0):=by
     rw [<-acG hi Ho];refine HD.o.put Ho _ fun r hr=>?_
     have r0:=HP.o.runs r (jN hi hr);exact ⟨r0.gw aR.kp G.o,fun x=>by have:=aR.lt r0.h p x;have:=PQ.o.1;omega,fun x=>by have:=aR.lt r0.h rb x;have:=PQ.o.2;omega⟩
    have GU:ag (Gw w (wS.setCell ⟨rb,i,none⟩ (ptr (l.getD i none)))):=G.o.setCell PQ.o.2 _;have xD:ag (¬ ∃ r,some r∈(l.take (i+1)).drop 40):=fun ⟨r,hr⟩=>by
     rw [List.drop_of_length_le (by rw [List.length_take];omega)] at hr
     cases hr
    have clt:lb≠rb:=by
     obtain ⟨x,y,e,hb,_⟩:=HP.o.cells (by omega)
     injection e with e;injection e with e1 e2;have:=PQ.o.2;omega
    rcases iJ l i with e | ⟨r,e⟩
    ·rw [e] at ci PU GU
     have cu:wS.cell? ⟨lb,lo+i,none⟩=some (.pointer none):=ci;have xE:ag (aG (wS.setCell ⟨rb,i,none⟩ (.pointer none)) p rb (aT (l.take (i+1))) eps buf 0 0):=PU;have xF:ag (Gw w (wS.setCell ⟨rb,i,none⟩ (.pointer none))):=GU;generalize ptr ((aT (l.take i)).getD i none)=pv at cr;clear ci e TK NX HD G PU GU hi;go_wp2_with fail;go_region
     all_goals go_wp2_with fail
     all_goals go_roundg (n-(i+1))
     all_goals first
      | (case measure=>omega)
      | (case rel=>exact ⟨i+1,by go_num,by omega,Nat.le_refl _,(show ag _ from xE.o.gw ((Gw.refl _).drewN _)),(show ag _ from xF.o.drewN _),xD⟩)
      | (case rel=>exact ⟨i+1,by go_num,by omega,Nat.le_refl _,(show ag _ from xE.o.gw ((Gw.refl _).drew)),(show ag _ from xF.o.drew),xD⟩)
    ·rw [e] at ci PU GU
     have cu:wS.cell? ⟨lb,lo+i,none⟩=some (.pointer (some ⟨r.p,0,none⟩)):=ci;have xE:ag (aG (wS.setCell ⟨rb,i,none⟩ (.pointer (some ⟨r.p,0,none⟩))) p rb (aT (l.take (i+1))) eps buf 0 0):=PU;have xF:ag (Gw w (wS.setCell ⟨rb,i,none⟩ (.pointer (some ⟨r.p,0,none⟩)))):=GU;generalize r.p=rp at cu xE xF;generalize ptr ((aT (l.take i)).getD i none)=pv at cr;clear ci e TK NX HD G PU GU hi;go_wp2_with fail;go_region
     all_goals go_wp2_with fail
     all_goals go_roundg (n-(i+1))
     all_goals first
      | (case measure=>omega)
      | (case rel=>exact ⟨i+1,by go_num,by omega,Nat.le_refl _,(show ag _ from xE.o.gw ((Gw.refl _).drew)),(show ag _ from xF.o.drew),xD⟩)
   ·have acK:¬ (i:Int)<40:=by omega
    have acL:decide ((40:Int)<=(i:Int))=true:=by simp;omega
    have PU:ag (aG wS p rb (aT (l.take (i+1))) eps buf 0 0):=by
     rw [acH (by omega)]
     exact HD.o
    rcases iJ l i with e | ⟨r,e⟩
    ·rw [e] at ci
     have cu:wS.cell? ⟨lb,lo+i,none⟩=some (.pointer none):=ci;have xD:ag (¬ ∃ r,some r∈(l.take (i+1)).drop 40):=fun ⟨r,hr⟩=>by
      rw [TK,e,List.drop_append_of_le_length (by rw [List.length_take];omega)] at hr
      rcases List.mem_append.1 hr with q | q
      ·exact NX.o ⟨r,q⟩
      ·simp at q
     clear ci e TK NX HD hi;go_wp2_with fail;go_roundg (n-(i+1))
     case measure=>omega
     case rel=>exact ⟨i+1,by go_num,by omega,Nat.le_refl _,PU,G,xD⟩
    ·rw [e] at ci
     have cu:wS.cell? ⟨lb,lo+i,none⟩=some (.pointer (some ⟨r.p,0,none⟩)):=ci;have aK:ag (kH (fun w' p rs=>∃ b,aG w' p b rs eps buf 0 0/\w.heap.size<=b) w wS (.returned (.tuple #[.pointer none,.int .i64 1])) eps buf l):=⟨1,.inl ⟨rfl,.inr ⟨r,by
      rw [List.mem_iff_getElem?];exact ⟨i-40,by rw [List.getElem?_drop,show 40+(i-40)=i by omega,List.getElem?_eq_getElem hi,<-dL hi,e]⟩⟩⟩,.inl ⟨by decide,rfl⟩⟩
     generalize r.p=rp at cu;clear ci e TK NX HD hi PU;go_wp2_with fail;go_ret2;exact ⟨aK.o,G.o⟩
  ·have ei:i=n:=by omega
   subst ei;have TT:l.take i=l:=List.take_of_length_le (by rw [LN.o];exact Nat.le_refl _)
   rw [TT] at HD NX;have W0:ag (∀ W,Gw wS W->aG W p rb (aT l) eps buf 0 0):=fun W g=>HD.o.gw g
   have GS:ag _:=G;clear TT HD G HP;go_wp2_with fail;go_loopg [11] 40 (fun gg nP wr=>∃ j:Nat,nP=.int .i64 (j:Int)/\j<=40/\40-j<=gg/\ag (Gw wS wr)/\ag (fitAll eps buf (aT l) j))
   case atStart=>exact ⟨0,rfl,Nat.zero_le _,by omega,(show ag _ from Gw.refl wS),(show ag _ from fun j hj=>by omega)⟩
   case round =>
    obtain ⟨j,rfl,b1,b2,G,N⟩:=hrel;obtain ⟨wT,vL⟩:∃ wx,wx=wr:=⟨_,rfl⟩;subst vL;by_cases dB:j<40
    ·have qZ:(j:Int)<40:=by omega
     have HJ:=W0.o wT G.o;obtain ⟨cc,_,c2⟩:=HJ.c2;have pl:=HJ.plt;have bl:=HJ.blt;have cj:=HJ.cell dB;rcases iJ (aT l) j with e | ⟨r,e⟩
     ·rw [e] at cj
      have rv:wT.cell? ⟨rb,j,none⟩=some (.pointer none):=cj;have N':ag (fitAll eps buf (aT l) (j+1)):=fun k hk=>by
       by_cases x:k=j
       ·subst x;rw [e];rfl
       ·exact N.o k (by omega)
      clear cj e N HJ;go_wp2_with fail;go_roundg (40-(j+1))
      case measure=>omega
      case rel=>exact ⟨j+1,by go_num,by omega,Nat.le_refl _,G,N'⟩
     ·rw [e] at cj
      have RR:=(HJ.runs r (jN (by rw [HJ.len];exact dB) e)).1
      obtain ⟨eo,ec,lo',xx,hb,uc,_⟩:=RR.h.openS;obtain ⟨f0,f1,f2⟩:=qP hb;have rl:=(Array.getElem?_eq_some_iff.1 hb).1;have rv:wT.cell? ⟨rb,j,none⟩=some (.pointer (some ⟨r.p,0,none⟩)):=cj;have few:=RR.few;have aK:ag (∀ W,jh eps buf j ((aT l).drop (j+1)) (some r)=false->kH (fun w' p rs=>∃ b,aG w' p b rs eps buf 0 0/\w.heap.size<=b) w W (.returned (.tuple #[.pointer none,.int .i64 150])) eps buf l):=fun W fb=>⟨150,.inr (.inl ⟨rfl,⟨xr.o,NX.o⟩,fun q=>by have:=q j dB;rw [e,fb] at this;cases this⟩),.inl ⟨by decide,rfl⟩⟩
      have rP:ag (jh eps buf j ((aT l).drop (j+1)) (some r)=true->fitAll eps buf (aT l) (j+1)):=fun fb k hk=>by
       by_cases x:k=j
       ·subst x;rw [e];exact fb
       ·exact N.o k (by omega)
      have FD:ag (∀ b1 b2 b3 b4,(r.eps != eps)=b1->(((r.l.length:Nat):Int) == 0)=b2->decide (fw buf (j:Int)<(r.l.length:Int))=b3->(((aY ((aT l).drop (j+1)) r.l).length:Int) != ((r.l.length:Int)-(lv (eg r.l) r.l.length:Int)))=b4->jh eps buf j ((aT l).drop (j+1)) (some r)=!(b1||(b2||(b3||b4)))):=fun b1 b2 b3 b4 h1 h2 h3 h4=>acI h1 h2 h3 h4
      have AG:ag (∀ g:GX wT,Calls prog 46 #[.slice eo r.l.length ec] g.1 fun e w'=>e=.returned (.int .i64 (lv (eg r.l) r.l.length:Nat))/\Gw g.1 w'):=fun g=>aas eo r.l.length ec (ek r.l) (ev r.l) (eg r.l) (by omega) g.1 (uc.gw g.gw)
      have Te:lv (eg r.l) r.l.length<=r.l.length:=WY _ _;have pO:ag (∀ W,Gw wT W->Calls prog 38 #[.pointer (some ⟨p,0,none⟩),.slice eo r.l.length ec,.int .i64 (j:Int)] W fun e w'=>(∃ ob m oc,e=.returned (.slice (some ⟨ob,0,none⟩) m oc)/\(aY ((aT l).drop (j+1)) r.l).length=m)/\Gw W w'):=fun W gg=>(QT (HJ.gw gg) eo ec r.l (uc.gw gg) few j dB).mono fun e w' ⟨⟨a,b,c,h1,h2,_⟩,g⟩=>⟨⟨a,b,c,h1,h2⟩,g⟩
      have Tf:(aY ((aT l).drop (j+1)) r.l).length<=r.l.length:=QR _ _;have xG:ag (∀ W,Gw wT W->W.cell? ⟨r.p,0,none⟩=some (.slice eo r.l.length ec)/\W.cell? ⟨r.p,1,none⟩=some (.int .i64 r.eps)/\r.p<W.heap.size):=fun W gg=>⟨(gg.cell _ _ rl).trans f0,(gg.cell _ _ rl).trans f1,Nat.lt_of_lt_of_le rl gg.size⟩
      generalize (aY ((aT l).drop (j+1)) r.l).length=lk at FD pO Tf;generalize lv (eg r.l) r.l.length=ln at FD AG Te;generalize jh eps buf j ((aT l).drop (j+1)) (some r)=fb at aK rP FD;generalize r.l.length=rn at f0 few AG pO Te Tf xG FD;generalize r.eps=re at f1 xG FD;generalize r.p=rp at f0 f1 rl rv xG;have MO:ag (∀ W,Calls prog 47 #[.int .i64 buf,.int .i64 (j:Int)] W fun e w'=>e=.returned (.int .i64 (fw buf (j:Int)))/\w'=W):=fun W=>acE buf (j:Int) W
      generalize fw buf (j:Int)=mv at FD MO;have wg:IntKind.i64.wrap ((rn:Int)-(ln:Int))=(rn:Int)-(ln:Int):=by rw [IntKind.wrap_i64];omega
      clear cj e N HJ RR hb uc f2;go_upto_region 16 with fail;have x0:=GX.cell f0 rl;have ne:=GX.some wT;refine fO (by kernel_rfl) (by kernel_rfl) ?_
      repeat (go_big_quiet_step (fail))
      go_big_quiet_want;go_big_quiet_op
      go_big_quiet_call (exact dQ (AG.o _))
      repeat (go_big_quiet_step (fail))
      refine wpQuiet_nil ?_;rintro _ ⟨gu,rfl⟩;obtain ⟨wU,vO⟩:∃ wU,gu.1=wU:=⟨_,rfl⟩;have TU:ag (Gw wT wU):=by rw [<-vO];exact gu.gw
      have GU:ag _:=G.o.trans TU.o;obtain ⟨y0,y1,yl⟩:=xG.o wU TU.o;rw [vO];clear x0 ne AG c2 pl bl rv f0 f1 rl vO xG G;go_upto_region 17 with fail;have x0:=GX.cell y0 yl;have x1:=GX.cell y1 yl;have ne:=GX.some wU;have MG:ag (∀ g:GX wU,Calls prog 47 #[.int .i64 buf,.int .i64 (j:Int)] g.1 fun e w'=>e=.returned (.int .i64 mv)/\Gw g.1 w'):=fun g=>(MO.o g.1).mono fun e w' ⟨a,b⟩=>⟨a,by rw [b];exact Gw.refl _⟩
      by_cases q1:re=eps
      ·have eP:(re != eps)=false:=by simpa using q1
       by_cases q2:rn=0
       ·have iI:((rn:Int) == 0)=true:=by simpa using q2
        have rQ:ag (fb=false):=FD.o _ _ _ _ eP iI rfl rfl;clear q1 q2 FD rP pO;refine fO (by kernel_rfl) (by kernel_rfl) ?_
        repeat (go_big_quiet_step (fail))
        refine wpQuiet_nil ?_;rintro _ ⟨gv,rfl⟩;have G2:ag _:=GU.o.trans gv.gw;go_wp2_with fail;go_ret2;exact ⟨aK.o _ rQ.o,GS.o.trans G2.o⟩
       ·have iI:((rn:Int) == 0)=false:=by simp;omega
        have q2n:¬ (rn:Int)=0:=by omega
        by_cases q3:mv<(rn:Int)
        ·have ug:decide (mv<(rn:Int))=true:=by simpa using q3
         have rQ:ag (fb=false):=FD.o _ _ _ _ eP iI ug rfl;clear q1 q2 FD rP pO;refine fO (by kernel_rfl) (by kernel_rfl) ?_
         repeat (go_big_quiet_step (fail))
         go_big_quiet_want;go_big_quiet_op
         go_big_quiet_call (exact dQ (MG.o _))
         repeat (go_big_quiet_step (fail))
         refine wpQuiet_nil ?_;rintro _ ⟨gv,rfl⟩;have G2:ag _:=GU.o.trans gv.gw;go_wp2_with fail;go_ret2;exact ⟨aK.o _ rQ.o,GS.o.trans G2.o⟩
        ·have ug:decide (mv<(rn:Int))=false:=by simpa using q3
         have HW:ag (∀ w',Gw wU w'->Gw wU w'/\w'.cell? ⟨rp,0,none⟩=some (.slice eo rn ec)/\w'.cell? ⟨rp,1,none⟩=some (.int .i64 re)/\rp<w'.heap.size):=fun w' gg=>⟨gg,(gg.cell _ _ yl).trans y0,(gg.cell _ _ yl).trans y1,Nat.lt_of_lt_of_le yl gg.size⟩
         have I4:ag _:=Gw.refl wU;clear x0 x1 ne MG q1 q2 q3;go_region_held3 (fun w'=>Gw wU w'/\w'.cell? ⟨rp,0,none⟩=some (.slice eo rn ec)/\w'.cell? ⟨rp,1,none⟩=some (.int .i64 re)/\rp<w'.heap.size)
          (((refine HW.o _ ?_;repeat (first | exact And.left (by assumption) | exact ag.o (by assumption) | refine Gw.drew ?_));done))
          ((
           first
           | (go_at_call 47;refine (MO.o _).mono ?_;rintro ex wA ⟨rfl,Fc⟩;subst Fc)
           | (go_at_call 38;refine (pO.o _ (TU.o.trans (by repeat (first | exact Gw.refl _ | exact And.left (by assumption) | exact ag.o (by assumption) | refine Gw.drew ?_ | refine Gw.drewN ?_ _)))).mono ?_;rintro ex wB ⟨⟨kb,km,kc,rfl,lZ⟩,gB⟩;have FB:ag (Gw wU wB):=(Gw.trans (by repeat (first | exact Gw.refl _ | exact And.left (by assumption) | exact ag.o (by assumption) | refine Gw.drew ?_ | refine Gw.drewN ?_ _)) gB);have KM:ag (lk=km):=lZ;clear gB lZ)))
         all_goals
          have G2:ag _:=GU.o.trans FB.o;by_cases q4:(km:Int)=(rn:Int)-(ln:Int)
          ·have Hp:((km:Int) != (rn:Int)-(ln:Int))=false:=by simpa using q4
           have N':ag _:=rP.o (FD.o false false false false eP iI ug (by rw [KM.o];exact Hp))
           clear q4 FD rP pO aK;go_wp2_with fail;go_roundg (40-(j+1))
           case measure=>omega
           case rel=>exact ⟨j+1,by go_num,by omega,Nat.le_refl _,G2,N'⟩
          ·have Hp:((km:Int) != (rn:Int)-(ln:Int))=true:=by simpa using q4
           have rQ:ag _:=FD.o false false false true eP iI ug (by rw [KM.o];exact Hp)
           clear q4 FD rP pO;go_wp2_with fail;go_ret2;exact ⟨aK.o _ rQ.o,GS.o.trans G2.o⟩
      ·have eP:(re != eps)=true:=by simpa using q1
       have rQ:ag (fb=false):=FD.o _ _ _ _ eP rfl rfl rfl;clear q1 FD rP pO;refine fO (by kernel_rfl) (by kernel_rfl) ?_
       repeat (go_big_quiet_step (fail))
       refine wpQuiet_nil ?_;rintro _ ⟨gv,rfl⟩;have G2:ag _:=GU.o.trans gv.gw;go_wp2_with fail;go_ret2;exact ⟨aK.o _ rQ.o,GS.o.trans G2.o⟩
    ·have ej:j=40:=by omega
     subst ej;have aK:ag (kH (fun w' p rs=>∃ b,aG w' p b rs eps buf 0 0/\w.heap.size<=b) w wT (.returned (.tuple #[.pointer (some ⟨p,0,none⟩),.int .i64 0])) eps buf l):=⟨0,.inr (.inr ⟨rfl,⟨xr.o,NX.o⟩,N.o⟩),.inr ⟨rfl,p,rfl,PQ.o.1,rb,W0.o wT G.o,PQ.o.2⟩⟩
     clear N;go_wp2_with fail;go_ret2;exact ⟨aK.o,GS.o.trans G.o⟩
end Go.Proofs.YtklkpldicbkjeaaGreat
