/- The document's layer 15: Of. -/
import Derived.Test.YtpoohadckhphpaaGreatBUDoc
import Derived.Test.YtpoohadckhphpaaGreatBUWMost
set_option linter.unusedVariables false
set_option maxHeartbeats 8000000
set_option maxRecDepth 20000
open Go.Proofs.Tryz
namespace Go.Proofs.YtpoohadckhphpaaGreat
open Go.RowKit
theorem lv_cnt15 (l:List Ent):∀ i,i<=l.length->lv (eg l) i=((l.take i).filter (fun e=>!e.g)).length
 | 0,_=>by simp [lv]
 | i+1,h=>by
  have ih:=lv_cnt15 l i (by omega)
  have hi:i<l.length:=by omega
  have e:l.take (i+1)=l.take i++[l.getD i ent0]:=by
   rw [List.take_add_one,List.getElem?_eq_getElem hi,List.getD_eq_getElem?_getD,List.getElem?_eq_getElem hi];rfl
  rw [e,List.filter_append,List.length_append,List.filter_cons,List.filter_nil];have s:lv (eg l) (i+1)=lv (eg l) i+(if (l.getD i ent0).g then 0 else 1):=rfl
  rw [s,ih];cases (l.getD i ent0).g<;>simp
theorem lv_all15 (l:List Ent):lv (eg l) l.length=(l.filter (fun e=>!e.g)).length:=by
 have:=lv_cnt15 l l.length (Nat.le_refl _)
 rwa [List.take_length] at this
theorem gone15 (up:List (Option Rn)):∀ l:List Ent,(lvK up l).length+(l.filter (fun e=>!e.g)).length<=l.length/\((lvK up l).length+(l.filter (fun e=>!e.g)).length=l.length↔l.all (keepP (liveQ up))=true)
 | []=>by simp [lvK]
 | e::r=>by
  obtain ⟨a,b⟩:=gone15 up r;unfold lvK at a b ⊢;rw [List.length_map] at a b ⊢;rw [List.filter_cons,List.filter_cons,List.all_cons,List.length_cons];have e1:lvB up e=(e.g&&liveQ up e.k):=rfl;have e2:keepP (liveQ up) e=(!e.g||liveQ up e.k):=rfl
  rw [e1,e2];cases e.g with
  | false =>
   simp only [Bool.false_and,Bool.not_false,Bool.true_or,Bool.true_and,if_true,Bool.false_eq_true,if_false,List.length_cons];exact ⟨by omega,by rw [<-b];omega⟩
  | true =>
   cases liveQ up e.k with
   | true =>
    simp only [Bool.true_and,Bool.not_true,Bool.or_true,if_true,Bool.false_eq_true,if_false,List.length_cons];exact ⟨by omega,by rw [<-b];omega⟩
   | false =>
    simp only [Bool.true_and,Bool.not_true,Bool.or_self,Bool.false_and,Bool.false_eq_true,if_false,iff_false];exact ⟨by omega,by omega⟩
theorem upR_lt {l:List (Option Rn)} {i:Nat} (hi:i<=l.length) (h40:i<=40):upR (l.take i)=l.take i++List.replicate (40-i) none:=by
 unfold upR;rw [List.take_of_length_le (by rw [List.length_take];omega),List.length_take,Nat.min_eq_left hi]
theorem upR_put {l:List (Option Rn)} {i:Nat} (hi:i<l.length) (h40:i<40):(upR (l.take i)).set i (l.getD i none)=upR (l.take (i+1)):=by
 rw [upR_lt (Nat.le_of_lt hi) (Nat.le_of_lt h40),upR_lt hi h40,take_rs hi];have ll:(l.take i).length=i:=by rw [List.length_take];omega
 rw [List.set_append_right _ _ (by omega),ll,Nat.sub_self,show 40-i=40-(i+1)+1 by omega,List.replicate_succ,List.set_cons_zero,List.append_assoc]
 rfl
theorem upR_past {l:List (Option Rn)} {i:Nat} (h40:40<=i):upR (l.take (i+1))=upR (l.take i):=by
 unfold upR;rw [List.take_take,List.take_take,List.length_take,List.length_take,show min 40 (i+1)=min 40 i by omega]
 by_cases q:l.length<=40
 ·rw [show min (i+1) l.length=min i l.length by omega]
 ·rw [show 40-min (i+1) l.length=40-min i l.length by omega]
theorem fits_doc {eps buf:Int} {j:Nat} {up:List (Option Rn)} {r:Rn} {b1 b2 b3 b4:Bool} (h1:(r.eps != eps)=b1) (h2:(((r.l.length:Nat):Int) == 0)=b2) (h3:decide (mostV buf (j:Int)<(r.l.length:Int))=b3) (h4:(((lvK up r.l).length:Int) != ((r.l.length:Int)-(lv (eg r.l) r.l.length:Int)))=b4):fitsB eps buf j up (some r)=!(b1||(b2||(b3||b4))):=by
 subst h1 h2 h3 h4;obtain ⟨a,b⟩:=gone15 up r.l;rw [<-lv_all15] at a b;show (decide (0<r.l.length)&&decide ((r.l.length:Int)<=mostV buf (j:Int))&&(r.eps == eps)&&r.l.all (keepP (liveQ up)))=_;rw [Bool.eq_iff_iff];simp only [Bool.and_eq_true,decide_eq_true_eq,beq_iff_eq,Bool.not_eq_true',Bool.or_eq_false_iff,bne_eq_false_iff_eq,decide_eq_false_iff_not,beq_eq_false_iff_ne];rw [<-b];constructor
 ·rintro ⟨⟨⟨q1,q2⟩,q3⟩,q4⟩
  exact ⟨q3,by omega,by omega,by omega⟩
 ·rintro ⟨q3,q1,q2,q4⟩
  exact ⟨⟨⟨by omega,by omega⟩,q3⟩,by omega⟩
theorem rof15 (eps buf:Int) (ao:Option Addr) (c:Nat) (l:List (Option Rn)) (hl:l.length<=2000000) (w:World) (h:PR HDoc w ao l) :
  Calls prog 54 #[.int .i64 eps,.int .i64 buf,.slice ao l.length c] w fun e w'=>OfOut15 (fun w' p rs=>∃ b,HDl w' p b rs eps buf 0 0/\w.heap.size<=b) w w' e eps buf l/\Gw w w':=by
 have HP:Aside _:=h;obtain ⟨n,hn⟩:∃ n,l.length=n:=⟨_,rfl⟩;have LN:Aside _:=hn;have NW:Hid _:=rnew15 eps buf w;rw [hn] at hl ⊢;clear h hn;go_enter func54,ntmps54;go_wp2_with fail;refine Calls.mono NW.out ?_;rintro e w1 ⟨⟨no,rfl⟩ | ⟨ok,p,rb,rfl,hp,hrb,hd⟩,g1⟩
 ·have RES:Aside (OfOut15 (fun w' p rs=>∃ b,HDl w' p b rs eps buf 0 0/\w.heap.size<=b) w w1 (.returned (.tuple #[.pointer none,.int .i64 1])) eps buf l):=⟨1,.inl ⟨rfl,.inl no⟩,.inl ⟨by decide,rfl⟩⟩
  have G1:Aside _:=g1;clear g1 no NW;go_wp2_with fail;go_ret2;exact ⟨RES.out,G1.out⟩
 have NOK:Aside _:=ok;have PQ:Aside (w.heap.size<=p/\w.heap.size<=rb):=⟨hp,hrb⟩;have HD0:Aside (HDl w1 p rb (upR (l.take 0)) eps buf 0 0):=by
  rw [upR_lt (Nat.zero_le _) (by omega)]
  exact hd
 have G1:Aside _:=g1;clear g1 hd hp hrb ok NW;go_wp2_with fail;go_loopg [10] n (fun gg s10 wr=>∃ i:Nat,s10=.int .i64 (i:Int)/\i<=n/\n-i<=gg/\Aside (HDl wr p rb (upR (l.take i)) eps buf 0 0)/\Aside (Gw w wr)/\Aside (¬ ∃ r,some r∈(l.take i).drop 40))
 case atStart=>exact ⟨0,rfl,Nat.zero_le _,by omega,HD0,G1,(show Aside _ from fun ⟨r,hr⟩=>by simp at hr)⟩
 case round =>
  clear HD0 G1;obtain ⟨i,rfl,a1,a2,HD,G,NX⟩:=hrel;obtain ⟨wS,hwS⟩:∃ wx,wx=wr:=⟨_,rfl⟩;subst hwS;by_cases hlt:i<n
  ·have hlt':(i:Int)<(n:Int):=by omega
   have hi:i<l.length:=by rw [LN.out];exact hlt
   obtain ⟨lb,lo,rfl,hlb,hlc⟩:=(HP.out.gw HDoc.kp G.out).cells (by omega)
   have ci:=hlc i hi;have TK:=take_rs hi;obtain ⟨cc,_,c2⟩:=HD.out.c2;have pl:=HD.out.plt;have bl:=HD.out.blt;clear hlc;by_cases q40:i<40
   ·have q40':(i:Int)<40:=by omega
    have q40d:decide ((40:Int)<=(i:Int))=false:=by simp;omega
    have cr:=HD.out.cell q40;have fr:wS.frozen? ⟨rb,i,none⟩=false:=HD.out.fz i;have PU:Aside (HDl (wS.setCell ⟨rb,i,none⟩ (ptr (l.getD i none))) p rb (upR (l.take (i+1))) eps buf 0 0):=by
     rw [<-upR_put hi q40];refine HD.out.put q40 _ fun r hr=>?_
     have r0:=HP.out.runs r (mem_rs hi hr);exact ⟨r0.gw HDoc.kp G.out,fun x=>by have:=HDoc.lt r0.h p x;have:=PQ.out.1;omega,fun x=>by have:=HDoc.lt r0.h rb x;have:=PQ.out.2;omega⟩
    have GU:Aside (Gw w (wS.setCell ⟨rb,i,none⟩ (ptr (l.getD i none)))):=G.out.setCell PQ.out.2 _;have NX':Aside (¬ ∃ r,some r∈(l.take (i+1)).drop 40):=fun ⟨r,hr⟩=>by
     rw [List.drop_of_length_le (by rw [List.length_take];omega)] at hr
     cases hr
    have clt:lb≠rb:=by
     obtain ⟨x,y,e,hb,_⟩:=HP.out.cells (by omega)
     injection e with e;injection e with e1 e2;have:=PQ.out.2;omega
    rcases cases_rs l i with e | ⟨r,e⟩
    ·rw [e] at ci PU GU
     have ci':wS.cell? ⟨lb,lo+i,none⟩=some (.pointer none):=ci;have PU':Aside (HDl (wS.setCell ⟨rb,i,none⟩ (.pointer none)) p rb (upR (l.take (i+1))) eps buf 0 0):=PU;have GU':Aside (Gw w (wS.setCell ⟨rb,i,none⟩ (.pointer none))):=GU;generalize ptr ((upR (l.take i)).getD i none)=pv at cr;clear ci e TK NX HD G PU GU hi;go_wp2_with fail;go_region
     all_goals go_wp2_with fail
     all_goals go_roundg (n-(i+1))
     all_goals first
      | (case measure=>omega)
      | (case rel=>exact ⟨i+1,by go_num,by omega,Nat.le_refl _,(show Aside _ from PU'.out.gw ((Gw.refl _).drewN _)),(show Aside _ from GU'.out.drewN _),NX'⟩)
      | (case rel=>exact ⟨i+1,by go_num,by omega,Nat.le_refl _,(show Aside _ from PU'.out.gw ((Gw.refl _).drew)),(show Aside _ from GU'.out.drew),NX'⟩)
    ·rw [e] at ci PU GU
     have ci':wS.cell? ⟨lb,lo+i,none⟩=some (.pointer (some ⟨r.p,0,none⟩)):=ci;have PU':Aside (HDl (wS.setCell ⟨rb,i,none⟩ (.pointer (some ⟨r.p,0,none⟩))) p rb (upR (l.take (i+1))) eps buf 0 0):=PU;have GU':Aside (Gw w (wS.setCell ⟨rb,i,none⟩ (.pointer (some ⟨r.p,0,none⟩)))):=GU;generalize r.p=rp at ci' PU' GU';generalize ptr ((upR (l.take i)).getD i none)=pv at cr;clear ci e TK NX HD G PU GU hi;go_wp2_with fail;go_region
     all_goals go_wp2_with fail
     all_goals go_roundg (n-(i+1))
     all_goals first
      | (case measure=>omega)
      | (case rel=>exact ⟨i+1,by go_num,by omega,Nat.le_refl _,(show Aside _ from PU'.out.gw ((Gw.refl _).drew)),(show Aside _ from GU'.out.drew),NX'⟩)
   ·have q40':¬ (i:Int)<40:=by omega
    have q40d:decide ((40:Int)<=(i:Int))=true:=by simp;omega
    have PU:Aside (HDl wS p rb (upR (l.take (i+1))) eps buf 0 0):=by
     rw [upR_past (by omega)]
     exact HD.out
    rcases cases_rs l i with e | ⟨r,e⟩
    ·rw [e] at ci
     have ci':wS.cell? ⟨lb,lo+i,none⟩=some (.pointer none):=ci;have NX':Aside (¬ ∃ r,some r∈(l.take (i+1)).drop 40):=fun ⟨r,hr⟩=>by
      rw [TK,e,List.drop_append_of_le_length (by rw [List.length_take];omega)] at hr
      rcases List.mem_append.1 hr with q | q
      ·exact NX.out ⟨r,q⟩
      ·simp at q
     clear ci e TK NX HD hi;go_wp2_with fail;go_roundg (n-(i+1))
     case measure=>omega
     case rel=>exact ⟨i+1,by go_num,by omega,Nat.le_refl _,PU,G,NX'⟩
    ·rw [e] at ci
     have ci':wS.cell? ⟨lb,lo+i,none⟩=some (.pointer (some ⟨r.p,0,none⟩)):=ci;have RES:Aside (OfOut15 (fun w' p rs=>∃ b,HDl w' p b rs eps buf 0 0/\w.heap.size<=b) w wS (.returned (.tuple #[.pointer none,.int .i64 1])) eps buf l):=⟨1,.inl ⟨rfl,.inr ⟨r,by
      rw [List.mem_iff_getElem?];exact ⟨i-40,by rw [List.getElem?_drop,show 40+(i-40)=i by omega,List.getElem?_eq_getElem hi,<-getD_rs hi,e]⟩⟩⟩,.inl ⟨by decide,rfl⟩⟩
     generalize r.p=rp at ci';clear ci e TK NX HD hi PU;go_wp2_with fail;go_ret2;exact ⟨RES.out,G.out⟩
  ·have ei:i=n:=by omega
   subst ei;have TT:l.take i=l:=List.take_of_length_le (by rw [LN.out];exact Nat.le_refl _)
   rw [TT] at HD NX;have W0:Hid (∀ W,Gw wS W->HDl W p rb (upR l) eps buf 0 0):=fun W g=>HD.out.gw g
   have GS:Aside _:=G;clear TT HD G HP;go_wp2_with fail;go_loopg [11] 40 (fun gg s11 wr=>∃ j:Nat,s11=.int .i64 (j:Int)/\j<=40/\40-j<=gg/\Aside (Gw wS wr)/\Aside (fitAll eps buf (upR l) j))
   case atStart=>exact ⟨0,rfl,Nat.zero_le _,by omega,(show Aside _ from Gw.refl wS),(show Aside _ from fun j hj=>by omega)⟩
   case round =>
    obtain ⟨j,rfl,b1,b2,G,N⟩:=hrel;obtain ⟨wT,hwT⟩:∃ wx,wx=wr:=⟨_,rfl⟩;subst hwT;by_cases jlt:j<40
    ·have jlt':(j:Int)<40:=by omega
     have HJ:=W0.out wT G.out;obtain ⟨cc,_,c2⟩:=HJ.c2;have pl:=HJ.plt;have bl:=HJ.blt;have cj:=HJ.cell jlt;rcases cases_rs (upR l) j with e | ⟨r,e⟩
     ·rw [e] at cj
      have cj':wT.cell? ⟨rb,j,none⟩=some (.pointer none):=cj;have N':Aside (fitAll eps buf (upR l) (j+1)):=fun k hk=>by
       by_cases x:k=j
       ·subst x;rw [e];rfl
       ·exact N.out k (by omega)
      clear cj e N HJ;go_wp2_with fail;go_roundg (40-(j+1))
      case measure=>omega
      case rel=>exact ⟨j+1,by go_num,by omega,Nat.le_refl _,G,N'⟩
     ·rw [e] at cj
      have RR:=(HJ.runs r (mem_rs (by rw [HJ.len];exact jlt) e)).1
      obtain ⟨eo,ec,lo',lc',hb,hes,_⟩:=RR.h.openS;obtain ⟨f0,f1,f2⟩:=dc_cells hb;have rl:=(Array.getElem?_eq_some_iff.1 hb).1;have cj':wT.cell? ⟨rb,j,none⟩=some (.pointer (some ⟨r.p,0,none⟩)):=cj;have few:=RR.few;have RES:Hid (∀ W,fitsB eps buf j ((upR l).drop (j+1)) (some r)=false->OfOut15 (fun w' p rs=>∃ b,HDl w' p b rs eps buf 0 0/\w.heap.size<=b) w W (.returned (.tuple #[.pointer none,.int .i64 150])) eps buf l):=fun W fb=>⟨150,.inr (.inl ⟨rfl,⟨NOK.out,NX.out⟩,fun q=>by have:=q j jlt;rw [e,fb] at this;cases this⟩),.inl ⟨by decide,rfl⟩⟩
      have NEXT:Hid (fitsB eps buf j ((upR l).drop (j+1)) (some r)=true->fitAll eps buf (upR l) (j+1)):=fun fb k hk=>by
       by_cases x:k=j
       ·subst x;rw [e];exact fb
       ·exact N.out k (by omega)
      have FD:Hid (∀ b1 b2 b3 b4,(r.eps != eps)=b1->(((r.l.length:Nat):Int) == 0)=b2->decide (mostV buf (j:Int)<(r.l.length:Int))=b3->(((lvK ((upR l).drop (j+1)) r.l).length:Int) != ((r.l.length:Int)-(lv (eg r.l) r.l.length:Int)))=b4->fitsB eps buf j ((upR l).drop (j+1)) (some r)=!(b1||(b2||(b3||b4)))):=fun b1 b2 b3 b4 h1 h2 h3 h4=>fits_doc h1 h2 h3 h4
      have LVC:Hid (∀ g:GX wT,Calls prog 92 #[.slice eo r.l.length ec] g.1 fun e w'=>e=.returned (.int .i64 (lv (eg r.l) r.l.length:Nat))/\Gw g.1 w'):=fun g=>rlive3_any eo r.l.length ec (ek r.l) (ev r.l) (eg r.l) (by omega) g.1 (hes.gw g.gw)
      have lvle:lv (eg r.l) r.l.length<=r.l.length:=lv_le _ _;have LIV:Hid (∀ W,Gw wT W->Calls prog 94 #[.pointer (some ⟨p,0,none⟩),.slice eo r.l.length ec,.int .i64 (j:Int)] W fun e w'=>(∃ ob m oc,e=.returned (.slice (some ⟨ob,0,none⟩) m oc)/\(lvK ((upR l).drop (j+1)) r.l).length=m)/\Gw W w'):=fun W gg=>(rlive15 (HJ.gw gg) eo ec r.l (hes.gw gg) few j jlt).mono fun e w' ⟨⟨a,b,c,h1,h2,_⟩,g⟩=>⟨⟨a,b,c,h1,h2⟩,g⟩
      have lkle:(lvK ((upR l).drop (j+1)) r.l).length<=r.l.length:=lvK_len _ _;have BLK:Hid (∀ W,Gw wT W->W.cell? ⟨r.p,0,none⟩=some (.slice eo r.l.length ec)/\W.cell? ⟨r.p,1,none⟩=some (.int .i64 r.eps)/\r.p<W.heap.size):=fun W gg=>⟨(gg.cell _ _ rl).trans f0,(gg.cell _ _ rl).trans f1,Nat.lt_of_lt_of_le rl gg.size⟩
      generalize (lvK ((upR l).drop (j+1)) r.l).length=lk at FD LIV lkle;generalize lv (eg r.l) r.l.length=ln at FD LVC lvle;generalize fitsB eps buf j ((upR l).drop (j+1)) (some r)=fb at RES NEXT FD;generalize r.l.length=rn at f0 few LVC LIV lvle lkle BLK FD;generalize r.eps=re at f1 BLK FD;generalize r.p=rp at f0 f1 rl cj' BLK;have MO:Hid (∀ W,Calls prog 93 #[.int .i64 buf,.int .i64 (j:Int)] W fun e w'=>e=.returned (.int .i64 (mostV buf (j:Int)))/\w'=W):=fun W=>rmost15 buf (j:Int) W
      generalize mostV buf (j:Int)=mv at FD MO;have wg:IntKind.i64.wrap ((rn:Int)-(ln:Int))=(rn:Int)-(ln:Int):=by rw [IntKind.wrap_i64];omega
      clear cj e N HJ RR hb hes f2;go_upto_region 16 with fail;have x0:=GX.cell f0 rl;have ne:=GX.some wT;refine wp_region_growx (by kernel_rfl) (by kernel_rfl) ?_
      repeat (go_big_quiet_step (fail))
      go_big_quiet_want;go_big_quiet_op
      go_big_quiet_call (exact growx_of (LVC.out _))
      repeat (go_big_quiet_step (fail))
      refine wpQuiet_nil ?_;rintro _ ⟨gu,rfl⟩;obtain ⟨wU,hwU⟩:∃ wU,gu.1=wU:=⟨_,rfl⟩;have TU:Aside (Gw wT wU):=by rw [<-hwU];exact gu.gw
      have GU:Aside _:=G.out.trans TU.out;obtain ⟨y0,y1,yl⟩:=BLK.out wU TU.out;rw [hwU];clear x0 ne LVC c2 pl bl cj' f0 f1 rl hwU BLK G;go_upto_region 17 with fail;have x0:=GX.cell y0 yl;have x1:=GX.cell y1 yl;have ne:=GX.some wU;have MG:Hid (∀ g:GX wU,Calls prog 93 #[.int .i64 buf,.int .i64 (j:Int)] g.1 fun e w'=>e=.returned (.int .i64 mv)/\Gw g.1 w'):=fun g=>(MO.out g.1).mono fun e w' ⟨a,b⟩=>⟨a,by rw [b];exact Gw.refl _⟩
      by_cases q1:re=eps
      ·have q1':(re != eps)=false:=by simpa using q1
       by_cases q2:rn=0
       ·have q2':((rn:Int) == 0)=true:=by simpa using q2
        have FBF:Aside (fb=false):=FD.out _ _ _ _ q1' q2' rfl rfl;clear q1 q2 FD NEXT LIV;refine wp_region_growx (by kernel_rfl) (by kernel_rfl) ?_
        repeat (go_big_quiet_step (fail))
        refine wpQuiet_nil ?_;rintro _ ⟨gv,rfl⟩;have G2:Aside _:=GU.out.trans gv.gw;go_wp2_with fail;go_ret2;exact ⟨RES.out _ FBF.out,GS.out.trans G2.out⟩
       ·have q2':((rn:Int) == 0)=false:=by simp;omega
        have q2n:¬ (rn:Int)=0:=by omega
        by_cases q3:mv<(rn:Int)
        ·have q3':decide (mv<(rn:Int))=true:=by simpa using q3
         have FBF:Aside (fb=false):=FD.out _ _ _ _ q1' q2' q3' rfl;clear q1 q2 FD NEXT LIV;refine wp_region_growx (by kernel_rfl) (by kernel_rfl) ?_
         repeat (go_big_quiet_step (fail))
         go_big_quiet_want;go_big_quiet_op
         go_big_quiet_call (exact growx_of (MG.out _))
         repeat (go_big_quiet_step (fail))
         refine wpQuiet_nil ?_;rintro _ ⟨gv,rfl⟩;have G2:Aside _:=GU.out.trans gv.gw;go_wp2_with fail;go_ret2;exact ⟨RES.out _ FBF.out,GS.out.trans G2.out⟩
        ·have q3':decide (mv<(rn:Int))=false:=by simpa using q3
         have HW:Hid (∀ w',Gw wU w'->Gw wU w'/\w'.cell? ⟨rp,0,none⟩=some (.slice eo rn ec)/\w'.cell? ⟨rp,1,none⟩=some (.int .i64 re)/\rp<w'.heap.size):=fun w' gg=>⟨gg,(gg.cell _ _ yl).trans y0,(gg.cell _ _ yl).trans y1,Nat.lt_of_lt_of_le yl gg.size⟩
         have I4:Hid _:=Gw.refl wU;clear x0 x1 ne MG q1 q2 q3;go_region_held3 (fun w'=>Gw wU w'/\w'.cell? ⟨rp,0,none⟩=some (.slice eo rn ec)/\w'.cell? ⟨rp,1,none⟩=some (.int .i64 re)/\rp<w'.heap.size)
          (((refine HW.out _ ?_;repeat (first | exact And.left (by assumption) | exact Hid.out (by assumption) | refine Gw.drew ?_));done))
          ((
           first
           | (go_at_call 93;refine (MO.out _).mono ?_;rintro ex wA ⟨rfl,hwA⟩;subst hwA)
           | (go_at_call 94;refine (LIV.out _ (TU.out.trans (by repeat (first | exact Gw.refl _ | exact And.left (by assumption) | exact Hid.out (by assumption) | refine Gw.drew ?_ | refine Gw.drewN ?_ _)))).mono ?_;rintro ex wB ⟨⟨kb,km,kc,rfl,hkm⟩,gB⟩;have FB:Hid (Gw wU wB):=(Gw.trans (by repeat (first | exact Gw.refl _ | exact And.left (by assumption) | exact Hid.out (by assumption) | refine Gw.drew ?_ | refine Gw.drewN ?_ _)) gB);have KM:Aside (lk=km):=hkm;clear gB hkm)))
         all_goals
          have G2:Aside _:=GU.out.trans FB.out;by_cases q4:(km:Int)=(rn:Int)-(ln:Int)
          ·have q4':((km:Int) != (rn:Int)-(ln:Int))=false:=by simpa using q4
           have N':Aside _:=NEXT.out (FD.out false false false false q1' q2' q3' (by rw [KM.out];exact q4'))
           clear q4 FD NEXT LIV RES;go_wp2_with fail;go_roundg (40-(j+1))
           case measure=>omega
           case rel=>exact ⟨j+1,by go_num,by omega,Nat.le_refl _,G2,N'⟩
          ·have q4':((km:Int) != (rn:Int)-(ln:Int))=true:=by simpa using q4
           have FBF:Aside _:=FD.out false false false true q1' q2' q3' (by rw [KM.out];exact q4')
           clear q4 FD NEXT LIV;go_wp2_with fail;go_ret2;exact ⟨RES.out _ FBF.out,GS.out.trans G2.out⟩
      ·have q1':(re != eps)=true:=by simpa using q1
       have FBF:Aside (fb=false):=FD.out _ _ _ _ q1' rfl rfl rfl;clear q1 FD NEXT LIV;refine wp_region_growx (by kernel_rfl) (by kernel_rfl) ?_
       repeat (go_big_quiet_step (fail))
       refine wpQuiet_nil ?_;rintro _ ⟨gv,rfl⟩;have G2:Aside _:=GU.out.trans gv.gw;go_wp2_with fail;go_ret2;exact ⟨RES.out _ FBF.out,GS.out.trans G2.out⟩
    ·have ej:j=40:=by omega
     subst ej;have RES:Aside (OfOut15 (fun w' p rs=>∃ b,HDl w' p b rs eps buf 0 0/\w.heap.size<=b) w wT (.returned (.tuple #[.pointer (some ⟨p,0,none⟩),.int .i64 0])) eps buf l):=⟨0,.inr (.inr ⟨rfl,⟨NOK.out,NX.out⟩,N.out⟩),.inr ⟨rfl,p,rfl,PQ.out.1,rb,W0.out wT G.out,PQ.out.2⟩⟩
     clear N;go_wp2_with fail;go_ret2;exact ⟨RES.out,GS.out.trans G.out⟩
end Go.Proofs.YtpoohadckhphpaaGreat
