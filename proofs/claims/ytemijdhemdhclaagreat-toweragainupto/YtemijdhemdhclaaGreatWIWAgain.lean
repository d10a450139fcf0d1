/- Layer 16: a tower made anew goes on alike. -/
import Derived.Test.YtemijdhemdhclaaGreatWIOf
set_option linter.unusedVariables false
set_option maxHeartbeats 32000000
set_option maxRecDepth 20000
open Go.Proofs.Tryz
namespace Go.Proofs.YtemijdhemdhclaaGreat
open Go.RowKit
theorem ofR_again {eps buf keys E:Int} {l:List Ent} {rs:List (Option Rn)} {live n t:Nat} (inv:TInv eps buf keys l rs live) (cf:CfgOk eps buf keys) (tp:TopR rs t) (h:OfR16 eps buf keys l (rs.take t) E n):E=0/\n=live/\upR (rs.take t)=rs:=by
 have up:=upR_top inv.len tp;have nok:NewOk eps buf:=⟨cf.1,cf.2.1⟩;refine ⟨?_,?_,up⟩
 ·rcases h with ⟨a,_⟩ | ⟨_,h⟩
  ·exact absurd cf a
  ·rcases h with ⟨a,b⟩ | ⟨_,h⟩
   ·exact absurd (b.one inv.ok) a
   ·rcases h with ⟨a,_⟩ | ⟨_,h⟩
    ·have:=inv.room;omega
    ·rcases h with ⟨a,b⟩ | ⟨_,h⟩
     ·have tl:(rs.take t).length<=40:=by rw [List.length_take,inv.len];omega
      rcases b with ⟨_,x | ⟨r,x⟩⟩ | ⟨_,_,x⟩ | ⟨x,_⟩
      ·exact absurd nok x
      ·rw [List.drop_of_length_le tl] at x;cases x
      ·rw [up] at x;exact absurd inv.fits x
      ·exact absurd x a
     ·rcases h with ⟨_,b⟩ | ⟨e,_⟩
      ·rw [up] at b
       rcases b with ⟨x,_⟩ | ⟨_,_,x⟩
       ·cases x
       ·rcases x with ⟨i,k,k1,k2⟩ | ⟨k,k1,k2⟩
        ·obtain ⟨k',a1,a2⟩:=inv.lv i
         have:=k1.one a1
         omega
        ·have:=k1.one inv.all
         have:=inv.most
         omega
      ·exact e
 ·rcases h with ⟨a,_⟩ | ⟨_,h⟩
  ·exact absurd cf a
  ·rcases h with ⟨a,b⟩ | ⟨_,h⟩
   ·exact absurd (b.one inv.ok) a
   ·rcases h with ⟨a,_⟩ | ⟨_,h⟩
    ·have:=inv.room;omega
    ·rcases h with ⟨a,b⟩ | ⟨_,h⟩
     ·have tl:(rs.take t).length<=40:=by rw [List.length_take,inv.len];omega
      rcases b with ⟨_,x | ⟨r,x⟩⟩ | ⟨_,_,x⟩ | ⟨x,_⟩
      ·exact absurd nok x
      ·rw [List.drop_of_length_le tl] at x;cases x
      ·rw [up] at x;exact absurd inv.fits x
      ·exact absurd x a
     ·rcases h with ⟨_,b⟩ | ⟨_,b⟩
      ·rw [up] at b
       rcases b with ⟨x,_⟩ | ⟨_,_,x⟩
       ·cases x
       ·rcases x with ⟨i,k,k1,k2⟩ | ⟨k,k1,k2⟩
        ·obtain ⟨k',a1,a2⟩:=inv.lv i
         have:=k1.one a1
         omega
        ·have:=k1.one inv.all
         have:=inv.most
         omega
      ·rw [up] at b
       rcases b with ⟨_,_,x,_⟩ | ⟨x,_⟩
       ·exact x.one inv.all
       ·cases x
def AgX (HR:HRt) (w u:World) (bq p:Nat) (eps buf keys:Int) (i:Nat):Prop:=∃ F l rs B W live,Tw HR w u p F eps buf keys l rs B W live/\BW l rs B W i/\u.heap[bq]?=some (.cells #[.int .i64 eps,.int .i64 buf,.int .i64 keys] 23 (0,0))/\∀ q,F q->bq<q
theorem again_walk {HR:HRt} (H:RunC HR) (eps buf keys:Int) (ao:Option Addr) (c:Nat) (sl:List (Int×Int×Int)) (bo:Option Addr) (d:Nat) (sm:List (Int×Int×Int)) (hnm:sl.length+sm.length<=1048576) (w:World) (h:OTL w ao sl) (h':OTL w bo sm) :
  Calls prog 6 #[.agg #[.int .i64 eps,.int .i64 buf,.int .i64 keys],.slice ao sl.length c,.slice bo sm.length d] w fun e w'=>e=.returned (.bool true)/\Gw w w':=by
 have SC:Aside (OTL w ao sl):=h;have SM:Aside (OTL w bo sm):=h';obtain ⟨n,hln⟩:∃ n,sl.length=n:=⟨_,rfl⟩;have LN:Aside (sl.length=n):=hln;obtain ⟨m,hlm⟩:∃ n,sm.length=n:=⟨_,rfl⟩;have LM:Aside (sm.length=m):=hlm;rw [hln,hlm] at hnm;rw [hln,hlm];clear h h' hln hlm;have HH:Aside (RunC HR):=H;have SH:Hid (∀ W,Calls prog 8 #[] W fun e w'=>e=.returned (.bool true)/\Gw W w'):=fun W=>shown16 H W
 have RC:Hid (∀ W,Calls prog 10 #[.agg #[.int .i64 eps,.int .i64 buf,.int .i64 keys]] W fun e w'=>e=.returned (.int .i64 (cfgE eps buf keys))/\Gw W w'):=fun W=>rcheck16 eps buf keys W
 have NW:Hid (∀ W,Calls prog 11 #[.agg #[.int .i64 eps,.int .i64 buf,.int .i64 keys]] W fun e w'=>NewT HR W w' e eps buf keys/\Gw W w'):=fun W=>new16 H eps buf keys W
 clear H;obtain ⟨bq,hbq⟩:∃ b,w.heap.size=b:=⟨_,rfl⟩;have BQ:Aside (w.heap.size=bq):=hbq;have B0:Aside (Bxs w [(bq,#[.int .i64 eps,.int .i64 buf,.int .i64 keys],23)] (w.alloc (.cells #[.int .i64 eps,.int .i64 buf,.int .i64 keys] 23))):=by
  have a:=(Bxs.nil (Gw.refl w)).add #[.int .i64 eps,.int .i64 buf,.int .i64 keys] 23;rw [hbq] at a;exact a
 have FC:Aside (∀ W,Bxs w [(bq,#[.int .i64 eps,.int .i64 buf,.int .i64 keys],23)] W->(W.cell? ⟨bq,0,none⟩=some (.int .i64 eps)/\W.cell? ⟨bq,1,none⟩=some (.int .i64 buf)/\W.cell? ⟨bq,2,none⟩=some (.int .i64 keys)/\bq<W.heap.size)):=fun W h=>by
  have x:=h.lie (bq,#[.int .i64 eps,.int .i64 buf,.int .i64 keys],23) (by simp)
  exact ⟨blkc x rfl,blkc x rfl,blkc x rfl,blkl x⟩
 have qn:∀ (p:Nat) (W:World),(binOp .eql 27 (.pointer (some ⟨p,0,none⟩)) (.pointer none)).run prog W=.ok (.bool false) W:=fun _ _=>by kernel_rfl
 clear hbq;go_enter func6,ntmps6;go_wp2_with fail;rw [BQ.out];generalize w.alloc (.cells #[.int .i64 eps,.int .i64 buf,.int .i64 keys] 23)=w1 at B0 ⊢;refine Calls.mono (SH.out w1) ?_;rintro e w2 ⟨rfl,g2⟩;have B2:Aside (Bxs w [(bq,#[.int .i64 eps,.int .i64 buf,.int .i64 keys],23)] w2):=B0.out.gw g2;obtain ⟨c0,c1,c2,cl⟩:=FC.out w2 B2.out;clear g2 B0 SH;go_wp2_with fail;refine Calls.mono (NW.out w2) ?_;rintro e w3 ⟨h3,g3⟩;have B3:Aside (Bxs w [(bq,#[.int .i64 eps,.int .i64 buf,.int .i64 keys],23)] w3):=B2.out.gw g3;clear c0 c1 c2 cl;obtain ⟨c0,c1,c2,cl⟩:=FC.out w3 B3.out;have W2:Aside (w.heap.size<=w2.heap.size/\bq<w2.heap.size):=⟨B2.out.gw0.size,(FC.out w2 B2.out).2.2.2⟩;clear g3 B2 NW;rcases h3 with ⟨cf,rfl⟩ | ⟨cf,p,F,rfl,ht,hF⟩
 ·have ce:cfgE eps buf keys=160:=if_neg cf
  rw [ce] at RC;clear ce cf;go_wp2_with fail;refine Calls.mono (RC.out w3) ?_;rintro e w4 ⟨rfl,g4⟩;have G4:Aside (Gw w w4):=B3.out.gw0.trans g4;clear g4;go_wp2_with fail;go_ret;exact ⟨rfl,G4.out⟩
 have ce:cfgE eps buf keys=0:=if_pos cf;rw [ce] at RC;have T3:Aside (Tw HR w w3 p F eps buf keys [] (List.replicate 40 none) 0 0 0/\∀ q,F q->bq<q):=⟨⟨ht,fun q hq=>Nat.le_trans W2.out.1 (hF q hq),B3.out.gw0⟩,fun q hq=>by have:=hF q hq;have:=W2.out.2;omega⟩
 have CFG:Aside (CfgOk eps buf keys):=cf;clear ce cf ht hF W2;go_wp2_with fail;refine Calls.mono (RC.out w3) ?_;rintro e w4 ⟨rfl,g4⟩;have B4:Aside (Bxs w [(bq,#[.int .i64 eps,.int .i64 buf,.int .i64 keys],23)] w4):=B3.out.gw g4;have T4:Aside (Tw HR w w4 p F eps buf keys [] (List.replicate 40 none) 0 0 0/\∀ q,F q->bq<q):=⟨T3.out.1.to HH.out.kp g4,T3.out.2⟩;clear g4 B3 T3 RC c0 c1 c2 cl;have M5:Aside (AgX HR w w4 bq p eps buf keys 0):=⟨F,[],List.replicate 40 none,0,0,0,T4.out.1,BW.new,B4.out.lie (bq,#[.int .i64 eps,.int .i64 buf,.int .i64 keys],23) (by simp),T4.out.2⟩
 clear T4 B4;go_wp2_with fail;go_loopg [11] n (fun gg s11 wr=>∃ i:Nat,s11=.int .i64 (i:Int)/\i<=n/\n-i<=gg/\Aside (AgX HR w wr bq p eps buf keys i))
 case atStart=>exact ⟨0,rfl,Nat.zero_le _,by omega,M5⟩
 case round =>
  clear M5;obtain ⟨i,rfl,a1,a2,M⟩:=hrel;obtain ⟨wS,hwS⟩:∃ wx,wx=wr:=⟨_,rfl⟩;subst hwS;by_cases hlt:i<n
  ·have hlt':(i:Int)<(n:Int):=by omega
   obtain ⟨F,l,rs,B,W,live,m0,bw,bqb,fb⟩:=M.out;have gi:sl[i]?=some (sl.getD i (0,0,0)):=by rw [List.getElem?_eq_getElem (by rw [LN.out];exact hlt),List.getD_eq_getElem?_getD,List.getElem?_eq_getElem (by rw [LN.out];exact hlt)];rfl
   obtain ⟨ab,af,rfl,hab,hac⟩:=(SC.out.gw m0.gw).cells (by rw [LN.out];omega)
   obtain ⟨x0,x1,x2⟩:=hac i _ gi;obtain ⟨kb0,kb1,kb2⟩:=SC.out.bd _ (List.mem_of_getElem? gi);generalize sl.getD i (0,0,0)=x at x0 x1 x2 kb0 kb1 kb2;have BD:=bw.in (by omega)
   have CH:Hid (Calls prog 22 #[.pointer (some ⟨p,0,none⟩),.agg #[.int .i64 x.1,.int .u64 x.2.1,.int .u64 x.2.2]] wS fun ex w'=>(∃ b:Bool,ex=.returned (.bool b))/\AgX HR w w' bq p eps buf keys (i+1)):=(change16 HH.out m0.ht BD.1 BD.2.1 BD.2.2 x kb0 kb1 kb2).mono fun ex w' ⟨e1,hc⟩=>by
    refine ⟨⟨_,e1⟩,?_⟩;rcases hc with ⟨_,g⟩ | ⟨_,k,ch⟩
    ·exact ⟨F,l,rs,B,W,live,m0.to HH.out.kp g,bw.mono (Nat.le_succ _),(g.below.block bq (blkl bqb)).trans bqb,fb⟩
    ·obtain ⟨F3,l3,rs3,B3,W3,t3,lay,nf,gx3⟩:=m0.step ch
     refine ⟨F3,l3,rs3,B3,W3,k,t3,bw.step (by omega) m0.ht.inv.ok lay,(gx3.block bq (blkl bqb) (fun y=>by have:=fb bq y;omega)).trans bqb,fun q hq=>?_⟩
     rcases nf.1 q hq with y | y
     ·exact fb q y
     ·have:=blkl bqb;omega
   obtain ⟨kn,ky,vl⟩:=x;simp only at x0 x1 x2 CH;clear gi hac kb0 kb1 kb2 m0 bw bqb fb M BD;go_wp2_with fail;refine Calls.mono CH.out ?_;rintro e u1 ⟨⟨b,rfl⟩,mi⟩;have MI1:Aside (AgX HR w u1 bq p eps buf keys (i+1)):=mi;clear mi CH;go_wp2_with fail;go_roundg (n-(i+1))
   case measure=>omega
   case rel=>exact ⟨i+1,by go_num,by omega,Nat.le_refl _,MI1⟩
  ·have ei:i=n:=by omega
   subst ei;obtain ⟨F,l,rs,B,W,live,m0,bw,bqb,fb⟩:=M.out;obtain ⟨w6,hw6⟩:∃ x,x=wS:=⟨_,rfl⟩;subst hw6;have T0:Aside (Tw HR w w6 p F eps buf keys l rs B W live):=m0;have BW0:Aside (BW l rs B W i):=bw;have bwf:=bw.few;have BUF:Hid (∀ u,Gw w6 u->Calls prog 24 #[.pointer (some ⟨p,0,none⟩)] u fun e w'=>(∃ bo c,e=.returned (.slice bo l.length c)/\EL w' bo l/\l.length<=c)/\Gw u w'):=fun u g=>(tbuf16 (m0.ht.gw HH.out.kp g) (by omega)).mono fun e w' ⟨⟨bo,c,e1,eo⟩,g'⟩=>by
    refine ⟨⟨bo,c,e1,eo_el eo ?_,(eo_shape15 eo).1⟩,g'⟩;obtain ⟨pb,Sb,pc,h1,h2,_⟩:=m0.ht.lies;exact h2.hb.ok
   have RUN:Hid (∀ u,Gw w6 u->Calls prog 25 #[.pointer (some ⟨p,0,none⟩)] u fun e w'=>(∃ (t b c:Nat),e=.returned (.slice (some ⟨b,0,none⟩) t c)/\TopR rs t/\RO w' u.heap.size (.slice (some ⟨b,0,none⟩) t c) (rs.take t))/\Gw u w'):=fun u g=>truns16 (m0.ht.gw HH.out.kp g)
   have OFF:Hid (∀ (u v wA:World) (ba:Option Addr) (ca t b c:Nat),Gw w6 u->Gw u wA->Gw wA v->EL u ba l->l.length<=ca->TopR rs t->RO wA 0 (.slice (some ⟨b,0,none⟩) t c) (rs.take t)->Calls prog 23 #[.agg #[.int .i64 eps,.int .i64 buf,.int .i64 keys],.slice ba l.length ca,.slice (some ⟨b,0,none⟩) t c] v fun e w'=>(∃ q G,e=.returned (.tuple #[.pointer (some ⟨q,0,none⟩),.int .i64 0])/\HT HR w' q G eps buf keys l rs 0 0 live/\∀ z,G z->w6.heap.size<=z)/\Gw v w'):=fun u v wA ba ca t b c g1 g2 g3 he hca tp ro=>by
    have t40:t<=40:=by have:=tp.le;rw [m0.ht.len] at this;exact this
    have lt:(rs.take t).length=t:=by rw [List.length_take,m0.ht.len];omega
    have hro:RO wA 0 (.slice (some ⟨b,0,none⟩) (rs.take t).length c) (rs.take t):=by rw [lt];exact ro
    have pr:PR HR v (some ⟨b,0,none⟩) (rs.take t):=(hro.pr (HR:=HR) fun r hr=>(m0.ht.pr r (List.mem_of_mem_take hr)).gw HH.out.kp (g1.trans g2)).gw HH.out.kp g3
    have cap:t<=c:=by
     rcases ro.2 with ⟨x,_⟩ | ⟨b',cap,cur,x,_,_,hc,_⟩
     ·cases x
     ·injection x with _ _ x3;rw [x3,<-lt];exact hc
    have tt:tot (rs.take t)<=tot rs:=by have:=tot_take rs t;omega
    have:=of16 HH.out eps buf keys ba (some ⟨b,0,none⟩) ca c l (rs.take t) (by omega) (by rw [lt];omega) hca (by rw [lt];exact cap) (fun e=>by cases e) v (he.gw (g2.trans g3)) pr
    rw [lt] at this;refine this.mono fun e w' ⟨⟨E,k,h1,h2⟩,g⟩=>⟨?_,g⟩
    obtain ⟨rfl,rfl,e3⟩:=ofR_again m0.ht.inv m0.ht.cf tp h1;rcases h2 with ⟨x,_⟩ | ⟨_,q,G,x1,x2,x3⟩
    ·exact absurd rfl x
    ·rw [e3] at x2
     exact ⟨q,G,x1,x2,fun z hz=>Nat.le_trans ((g1.trans g2).trans g3).size (x3 z hz)⟩
   have HW:Hid (∀ w':World,Gw w6 w'->Gw w6 w'/\w'.cell? ⟨bq,0,none⟩=some (.int .i64 eps)/\w'.cell? ⟨bq,1,none⟩=some (.int .i64 buf)/\w'.cell? ⟨bq,2,none⟩=some (.int .i64 keys)/\bq<w'.heap.size):=fun w' gg=>by
    have hh:=(gg.below.block bq (blkl bqb)).trans bqb;exact ⟨gg,blkc hh rfl,blkc hh rfl,blkc hh rfl,blkl hh⟩
   have I6:Hid (Gw w6 w6):=Gw.refl w6;obtain ⟨ll,hll⟩:∃ x,l.length=x:=⟨_,rfl⟩;have LL:Aside (l.length=ll):=hll;rw [hll] at BUF OFF bwf;clear m0 bw bqb fb M hlt hll;go_wp2_with fail;go_region_held3 (fun w'=>Gw w6 w'/\w'.cell? ⟨bq,0,none⟩=some (.int .i64 eps)/\w'.cell? ⟨bq,1,none⟩=some (.int .i64 buf)/\w'.cell? ⟨bq,2,none⟩=some (.int .i64 keys)/\bq<w'.heap.size)
    (((refine HW.out _ ?_;repeat (first | exact And.left (by assumption) | exact Hid.out (by assumption) | refine Gw.drew ?_));done))
    ((
     first
     | (go_at_call 24;refine (BUF.out _ (by repeat (first | exact Gw.refl _ | exact And.left (by assumption) | exact Hid.out (by assumption) | refine Gw.drew ?_ | refine Gw.drewN ?_ _))).mono ?_;rintro ex wA ⟨⟨boA,cA,rfl,elA,lcA⟩,gA⟩;have FA:Hid (Gw w6 wA):=(Gw.trans (by repeat (first | exact Gw.refl _ | exact And.left (by assumption) | exact Hid.out (by assumption) | refine Gw.drew ?_ | refine Gw.drewN ?_ _)) gA);have HA:Aside (EL wA boA l/\ll<=cA):=⟨elA,lcA⟩;clear gA elA lcA)
     | (go_at_call 25;refine (RUN.out _ (by repeat (first | exact Gw.refl _ | exact And.left (by assumption) | exact Hid.out (by assumption) | refine Gw.drew ?_ | refine Gw.drewN ?_ _))).mono ?_;rintro ex wB ⟨⟨tB,bB,cB,rfl,tpB,roB⟩,gB⟩;have FB:Hid (Gw w6 wB):=(Gw.trans (by repeat (first | exact Gw.refl _ | exact And.left (by assumption) | exact Hid.out (by assumption) | refine Gw.drew ?_ | refine Gw.drewN ?_ _)) gB);have GAB:Aside (Gw wA wB):=(by first | exact gB | exact Gw.trans ((Gw.refl _).drew) gB);have HB_:Aside (TopR rs tB/\RO wB 0 (.slice (some ⟨bB,0,none⟩) tB cB) (rs.take tB)):=⟨tpB,ro_base roB (Nat.zero_le _)⟩;clear gB tpB roB)
     | (go_at_call 23;refine (OFF.out wA _ wB boA cA tB bB cB FA.out GAB.out (by first | exact Gw.refl _ | exact (Gw.refl _).drew) HA.out.1 HA.out.2 HB_.out.1 HB_.out.2).mono ?_;rintro ex wC ⟨⟨qC,GC,rfl,htC,nC⟩,gC⟩;have FC_:Hid (Gw w6 wC):=(Gw.trans (by repeat (first | exact Gw.refl _ | exact And.left (by assumption) | exact Hid.out (by assumption) | refine Gw.drew ?_ | refine Gw.drewN ?_ _)) gC);have HC_:Aside (HT HR wC qC GC eps buf keys l rs 0 0 live/\∀ z,GC z->w6.heap.size<=z):=⟨htC,nC⟩;clear gC htC nC)))
   all_goals
    have AG0:Aside (AgI HR w wC p qC eps buf keys i):=by
     have z6:=T0.out.gw.size;refine ⟨F,l,rs,B,W,GC,rs,0,0,live,⟨T0.out.to HH.out.kp FC_.out,⟨HC_.out.1,fun z hz=>Nat.le_trans z6 (HC_.out.2 z hz),T0.out.gw.trans FC_.out⟩,fun z hf hg=>?_,fun r hr z hg hx=>?_,T0.out.ht.out⟩,Alk.refl rs,BW0.out,⟨BW0.out.few,by omega,by omega⟩⟩
     ·have:=T0.out.ht.lt HH.out.kp z (.inl hf);have:=HC_.out.2 z hg;omega
     ·have:=T0.out.ht.lt HH.out.kp z (.inr ⟨r,hr,hx⟩);have:=HC_.out.2 z hg;omega
    have qn2:∀ (W:World),(binOp .eql 27 (.pointer (some ⟨qC,0,none⟩)) (.pointer none)).run prog W=.ok (.bool false) W:=fun _=>by kernel_rfl
    clear FC_ HC_ BUF RUN OFF HW T0 BW0 bwf;obtain ⟨w7,hw7⟩:∃ x,x=wC:=⟨_,rfl⟩;subst hw7;go_wp2_with fail;go_loopg [14] (m+2) (fun gg s14 wr=>∃ k:Nat,s14=.int .i64 (k:Int)/\k<=m+1/\m+1-k<gg/\Aside (AgI HR w wr p qC eps buf keys (i+k)))
    case atStart=>exact ⟨0,rfl,by omega,by omega,AG0⟩
    case round=>as_aux_lemma =>
     clear AG0;obtain ⟨k,rfl,d1,d2,MA⟩:=hrel;obtain ⟨wT,hwT⟩:∃ wx,wx=wr:=⟨_,rfl⟩;subst hwT;by_cases hlt:k<=m
     ·have hlt':(k:Int)<=(m:Int):=by omega
      obtain ⟨F,l,rs,B,W,G,rs',B',W',nn,t0,al,bx,by_⟩:=MA.out;have T0:Aside (T2 HR w wT p F eps buf keys l rs B W nn qC G l rs' B' W' nn):=t0;have AL:Aside (Alk rs rs'/\BW l rs B W (i+k)/\BW l rs' B' W' (i+k)):=⟨al,bx,by_⟩;have lf:=bx.few;obtain ⟨ll,hll⟩:∃ x,l.length=x:=⟨_,rfl⟩;have LL2:Aside (l.length=ll):=hll;have lln:ll<=2000000:=by omega
      have STA:Hid (Calls prog 19 #[.pointer (some ⟨p,0,none⟩)] wT fun e w'=>(∃ b t,e=.returned (.agg #[.int .i64 (nn:Int),.int .i64 (ll:Int),.int .i64 B,.int .i64 W,.slice (some ⟨b,0,none⟩) t t])/\SZ w' wT.heap.size b t rs)/\Gw wT w'):=by
       have:=tstats16 HH.out t0.x.ht
       rw [hll] at this;exact this
      clear t0 al bx by_ lf MA hll;go_wp2_with fail;refine Calls.mono STA.out ?_;rintro e u1 ⟨⟨bA,tA,rfl,szA⟩,g1⟩;obtain ⟨xa,hxa⟩:∃ x,u1.heap.size=x:=⟨_,rfl⟩;have XA:Aside (u1.heap.size=xa):=hxa;have T1:Aside (Gw wT (u1.alloc (.cells #[.int .i64 (nn:Int),.int .i64 (ll:Int),.int .i64 B,.int .i64 W,.slice (some ⟨bA,0,none⟩) tA tA] 52))):=g1.alloc _ _;have X1:Aside ((u1.alloc (.cells #[.int .i64 (nn:Int),.int .i64 (ll:Int),.int .i64 B,.int .i64 W,.slice (some ⟨bA,0,none⟩) tA tA] 52)).heap[xa]?=some (.cells #[.int .i64 (nn:Int),.int .i64 (ll:Int),.int .i64 B,.int .i64 W,.slice (some ⟨bA,0,none⟩) tA tA] 52 (0,0))/\SZ (u1.alloc (.cells #[.int .i64 (nn:Int),.int .i64 (ll:Int),.int .i64 B,.int .i64 W,.slice (some ⟨bA,0,none⟩) tA tA] 52)) wT.heap.size bA tA rs):=⟨by rw [<-hxa];exact heap_alloc_new _ _,szA.gw ((Gw.refl u1).alloc _ _)⟩
      clear szA g1 hxa STA;go_upto_region 19 with fail;rw [XA.out];generalize u1.alloc (.cells #[.int .i64 (nn:Int),.int .i64 (ll:Int),.int .i64 B,.int .i64 W,.slice (some ⟨bA,0,none⟩) tA tA] 52)=uA at T1 X1 ⊢;have STB:Hid (Calls prog 19 #[.pointer (some ⟨qC,0,none⟩)] uA fun e w'=>(∃ b t,e=.returned (.agg #[.int .i64 (nn:Int),.int .i64 (ll:Int),.int .i64 B',.int .i64 W',.slice (some ⟨b,0,none⟩) t t])/\SZ w' uA.heap.size b t rs')/\Gw uA w'):=by
       have:=tstats16 HH.out (T0.out.to HH.out.kp T1.out).y.ht
       rw [LL2.out] at this;exact this
      clear XA;go_wp2_with fail;refine Calls.mono STB.out ?_;rintro e u2 ⟨⟨bB,tB,rfl,szB⟩,g2⟩;obtain ⟨xb,hxb⟩:∃ x,u2.heap.size=x:=⟨_,rfl⟩;have XB:Aside (u2.heap.size=xb):=hxb;have TB2:Aside (Gw wT (u2.alloc (.cells #[.int .i64 (nn:Int),.int .i64 (ll:Int),.int .i64 B',.int .i64 W',.slice (some ⟨bB,0,none⟩) tB tB] 52))):=T1.out.trans (g2.alloc _ _);have X2:Aside ((u2.alloc (.cells #[.int .i64 (nn:Int),.int .i64 (ll:Int),.int .i64 B',.int .i64 W',.slice (some ⟨bB,0,none⟩) tB tB] 52)).heap[xa]?=some (.cells #[.int .i64 (nn:Int),.int .i64 (ll:Int),.int .i64 B,.int .i64 W,.slice (some ⟨bA,0,none⟩) tA tA] 52 (0,0))/\(u2.alloc (.cells #[.int .i64 (nn:Int),.int .i64 (ll:Int),.int .i64 B',.int .i64 W',.slice (some ⟨bB,0,none⟩) tB tB] 52)).heap[xb]?=some (.cells #[.int .i64 (nn:Int),.int .i64 (ll:Int),.int .i64 B',.int .i64 W',.slice (some ⟨bB,0,none⟩) tB tB] 52 (0,0))/\SZ (u2.alloc (.cells #[.int .i64 (nn:Int),.int .i64 (ll:Int),.int .i64 B',.int .i64 W',.slice (some ⟨bB,0,none⟩) tB tB] 52)) wT.heap.size bA tA rs/\SZ (u2.alloc (.cells #[.int .i64 (nn:Int),.int .i64 (ll:Int),.int .i64 B',.int .i64 W',.slice (some ⟨bB,0,none⟩) tB tB] 52)) uA.heap.size bB tB rs'):=⟨((g2.alloc _ _).below.block xa (blkl X1.out.1)).trans X1.out.1,by rw [<-hxb];exact heap_alloc_new _ _,X1.out.2.gw (g2.alloc _ _),szB.gw ((Gw.refl u2).alloc _ _)⟩
      clear szB g2 hxb STB T1 X1;go_upto_region 20 with fail;rw [XB.out];generalize u2.alloc (.cells #[.int .i64 (nn:Int),.int .i64 (ll:Int),.int .i64 B',.int .i64 W',.slice (some ⟨bB,0,none⟩) tB tB] 52)=uB at TB2 X2 ⊢;have SI:Hid (Calls prog 20 #[.slice (some ⟨bA,0,none⟩) tA tA,.slice (some ⟨bB,0,none⟩) tB tB] uB fun e w'=>e=.returned (.bool true)/\Gw uB w'):=sameInts16 AL.out.1.size (by
       have a:=AL.out.1.top X2.out.2.2.1.top;exact a.one X2.out.2.2.2.top) T0.out.x.ht.len uB X2.out.2.2.1 X2.out.2.2.2
      have KX:Aside (∀ u,Gw uB u->(u.cell? ⟨xa,0,none⟩=some (.int .i64 (nn:Int))/\u.cell? ⟨xa,4,none⟩=some (.slice (some ⟨bA,0,none⟩) tA tA)/\xa<u.heap.size)/\(u.cell? ⟨xb,0,none⟩=some (.int .i64 (nn:Int))/\u.cell? ⟨xb,4,none⟩=some (.slice (some ⟨bB,0,none⟩) tB tB)/\xb<u.heap.size)):=fun u g=>by
       have x:=(g.below.block xa (blkl X2.out.1)).trans X2.out.1;have y:=(g.below.block xb (blkl X2.out.2.1)).trans X2.out.2.1;exact ⟨⟨blkc x rfl,blkc x rfl,blkl x⟩,blkc y rfl,blkc y rfl,blkl y⟩
      obtain ⟨⟨k0,k4,kl⟩,j0,j4,jl⟩:=KX.out uB (Gw.refl _);clear XB X2;go_wp2_with fail;refine Calls.mono SI.out ?_;rintro e u3 ⟨rfl,g3⟩;have G3:Aside (Gw uB u3):=g3;have BA_:Hid (Calls prog 24 #[.pointer (some ⟨p,0,none⟩)] u3 fun e w'=>(∃ bo c,e=.returned (.slice bo ll c)/\EL w' bo l)/\Gw u3 w'):=(tbuf16 (T0.out.to HH.out.kp (TB2.out.trans g3)).x.ht (by rw [LL2.out];omega)).mono fun e w' ⟨⟨bo,c,e1,eo⟩,g'⟩=>by
       refine ⟨⟨bo,c,by rw [<-LL2.out];exact e1,eo_el eo ?_⟩,g'⟩
       obtain ⟨pb,Sb,pc,h1,h2,_⟩:=T0.out.x.ht.lies;exact h2.hb.ok
      clear g3 SI k0 k4 kl j0 j4 jl;go_wp2_with fail;refine Calls.mono BA_.out ?_;rintro e u4 ⟨⟨b1,c1,rfl,el1⟩,g4⟩;have G4:Aside (Gw uB u4):=G3.out.trans g4;have E1:Aside (EL u4 b1 l):=el1;have BB_:Hid (Calls prog 24 #[.pointer (some ⟨qC,0,none⟩)] u4 fun e w'=>(∃ bo c,e=.returned (.slice bo ll c)/\EL w' bo l)/\Gw u4 w'):=(tbuf16 (T0.out.to HH.out.kp (TB2.out.trans G4.out)).y.ht (by rw [LL2.out];omega)).mono fun e w' ⟨⟨bo,c,e1,eo⟩,g'⟩=>by
       refine ⟨⟨bo,c,by rw [<-LL2.out];exact e1,eo_el eo ?_⟩,g'⟩
       obtain ⟨pb,Sb,pc,h1,h2,_⟩:=T0.out.y.ht.lies;exact h2.hb.ok
      clear g4 el1 BA_ G3;go_wp2_with fail;refine Calls.mono BB_.out ?_;rintro e u5 ⟨⟨b2,c2,rfl,el2⟩,g5⟩;have G5:Aside (Gw uB u5):=G4.out.trans g5;have SE:Hid (Calls prog 26 #[.slice b1 ll c1,.slice b2 ll c2] u5 fun e w'=>e=.returned (.bool true)/\Gw u5 w'):=by
       have:=sameEnt16 b1 b2 c1 c2 l (by rw [LL2.out];omega) u5 (E1.out.gw g5) el2
       rw [LL2.out] at this;exact this
      clear g5 el2 BB_ G4 E1;go_wp2_with fail;refine Calls.mono SE.out ?_;rintro e u6 ⟨rfl,g6⟩;have G6:Aside (Gw uB u6):=G5.out.trans g6;obtain ⟨⟨k0,k4,kl⟩,j0,j4,jl⟩:=KX.out u6 G6.out;have T6:Aside (T2 HR w u6 p F eps buf keys l rs B W nn qC G l rs' B' W' nn):=T0.out.to HH.out.kp (TB2.out.trans G6.out);clear g6 SE G5 k4 j4 TB2 T0;by_cases km:k<m
      ·as_aux_lemma =>
       have km':(k:Int)<(m:Int):=by omega
       have gi:sm[k]?=some (sm.getD k (0,0,0)):=by rw [List.getElem?_eq_getElem (by rw [LM.out];exact km),List.getD_eq_getElem?_getD,List.getElem?_eq_getElem (by rw [LM.out];exact km)];rfl
       obtain ⟨kb0,kb1,kb2⟩:=SM.out.bd _ (List.mem_of_getElem? gi);obtain ⟨ab,af,rfl,hab,hac⟩:=SM.out.cells (by rw [LM.out];omega)
       obtain ⟨z0,z1,z2⟩:=hac k _ gi;generalize sm.getD k (0,0,0)=x at z0 z1 z2 kb0 kb1 kb2;have CELL:Aside (∀ u,Gw w u->ab<u.heap.size/\u.cell? ⟨ab,af+k*3,none⟩=some (.int .i64 x.1)/\u.cell? ⟨ab,af+k*3+1,none⟩=some (.int .u64 x.2.1)/\u.cell? ⟨ab,af+k*3+2,none⟩=some (.int .u64 x.2.2)):=fun u g=>⟨Nat.lt_of_lt_of_le hab g.size,(g.cell _ _ hab).trans z0,(g.cell _ _ hab).trans z1,(g.cell _ _ hab).trans z2⟩
       have bdx:=AL.out.2.1.in (by omega)
       have bdy:=AL.out.2.2.in (by omega)
       obtain ⟨cb,hcb⟩:∃ b,chB x keys l rs nn=b:=⟨_,rfl⟩;have CX:Hid (Calls prog 22 #[.pointer (some ⟨p,0,none⟩),.agg #[.int .i64 x.1,.int .u64 x.2.1,.int .u64 x.2.2]] u6 fun ex w'=>ex=.returned (.bool cb)/\(Gw w w'/\((cb=false/\Gw u6 w')\/(cb=true/\∃ F1 l1 rs1 B1 W1 m1,T2 HR w w' p F1 eps buf keys l1 rs1 B1 W1 m1 qC G l rs' B' W' nn/\LayR HR u6 w' eps buf l rs B W l1 rs1 B1 W1 (opE x))))):=by
        refine (change16 HH.out T6.out.x.ht bdx.1 bdx.2.1 bdx.2.2 x kb0 kb1 kb2).mono fun ex w' ⟨e1,hc⟩=>?_
        rw [hcb] at e1 hc;refine ⟨e1,?_⟩;rcases hc with ⟨y,g⟩ | ⟨y,k',ch⟩
        ·exact ⟨T6.out.x.gw.trans g,.inl ⟨y,g⟩⟩
        ·obtain ⟨F1,l1,rs1,B1,W1,t,ly⟩:=T6.out.first HH.out.kp ch
         exact ⟨t.x.gw,.inr ⟨y,F1,l1,rs1,B1,W1,k',t,ly⟩⟩
       have CY:Hid (∀ u7,((cb=false/\Gw u6 u7)\/(cb=true/\∃ F1 l1 rs1 B1 W1 m1,T2 HR w u7 p F1 eps buf keys l1 rs1 B1 W1 m1 qC G l rs' B' W' nn/\LayR HR u6 u7 eps buf l rs B W l1 rs1 B1 W1 (opE x)))->Calls prog 22 #[.pointer (some ⟨qC,0,none⟩),.agg #[.int .i64 x.1,.int .u64 x.2.1,.int .u64 x.2.2]] u7 fun ex w'=>ex=.returned (.bool cb)/\AgI HR w w' p qC eps buf keys (i+(k+1))):=fun u7 ph=>by
        have hcy:chB x keys l rs' nn=cb:=by rw [<-chB_alike AL.out.1];exact hcb
        rcases ph with ⟨y,g⟩ | ⟨y,F1,l1,rs1,B1,W1,m1,t,ly⟩
        ·refine (change16 HH.out (T6.out.to HH.out.kp g).y.ht bdy.1 bdy.2.1 bdy.2.2 x kb0 kb1 kb2).mono fun ex w' ⟨e1,hc⟩=>?_
         rw [hcy] at e1 hc;rcases hc with ⟨_,g'⟩ | ⟨y',_⟩
         ·exact ⟨e1,F,l,rs,B,W,G,rs',B',W',nn,T6.out.to HH.out.kp (g.trans g'),AL.out.1,AL.out.2.1.mono (by omega),AL.out.2.2.mono (by omega)⟩
         ·rw [y] at y';cases y'
        ·refine (change16 HH.out t.y.ht bdy.1 bdy.2.1 bdy.2.2 x kb0 kb1 kb2).mono fun ex w' ⟨e1,hc⟩=>?_
         rw [hcy] at e1 hc;rcases hc with ⟨y',_⟩ | ⟨_,k',ch⟩
         ·rw [y] at y';cases y'
         ·exact ⟨e1,AgI.step HH.out.kp (F:=F) (i:=i+k) (show i+k+1<=2000000 by omega) (opE_ok x) AL.out.1 AL.out.2.1 AL.out.2.2 T6.out.x.ht.inv.ok ly t ch⟩
       obtain ⟨f0,f1,f2,f3⟩:=CELL.out u6 T6.out.x.gw;obtain ⟨kn,ky,vl⟩:=x;simp only at f1 f2 f3 CX CY CELL kb1;clear gi hac z0 z1 z2 kb0 kb2 bdx bdy hcb hab;go_wp2_with fail;refine Calls.mono CX.out ?_;rintro e u7 ⟨rfl,g7,ph⟩;have CY7:=CY.out u7 ph;clear f0 f1 f2 f3;obtain ⟨f0,f1,f2,f3⟩:=CELL.out u7 g7;clear CX CY ph g7;go_wp2_with fail;refine Calls.mono CY7 ?_;rintro e u8 ⟨rfl,ag⟩;have AG:Aside (AgI HR w u8 p qC eps buf keys (i+(k+1))):=ag;obtain ⟨F8,l8,rs8,B8,W8,G8,rs9,B9,W9,n8,t8,al8,bw8,_⟩:=ag;have lf8:=bw8.few;clear f0 f1 f2 f3;obtain ⟨f0,f1,f2,f3⟩:=CELL.out u8 t8.x.gw;obtain ⟨vo,hvo⟩:∃ o,valE l8 rs8 ky=o:=⟨_,rfl⟩;have GX:Hid (Calls prog 13 #[.pointer (some ⟨p,0,none⟩),.int .u64 ky] u8 fun e w'=>e=.returned (.tuple #[.int .u64 (vo.getD 0),.bool vo.isSome])/\Gw u8 w'):=by
        have:=tget16 HH.out t8.x.ht (by omega) ky kb1.1 kb1.2
        rw [hvo] at this;exact this
       have GY:Hid (∀ u9,Gw u8 u9->Calls prog 13 #[.pointer (some ⟨qC,0,none⟩),.int .u64 ky] u9 fun e w'=>e=.returned (.tuple #[.int .u64 (vo.getD 0),.bool vo.isSome])/\Gw u9 w'):=fun u9 g=>by
        have:=tget16 HH.out (t8.to HH.out.kp g).y.ht (by omega) ky kb1.1 kb1.2
        rw [<-al8.val l8 ky,hvo] at this;exact this
       have GW8:Aside (Gw w u8):=t8.x.gw;generalize vo.getD 0=v0 at GX GY;generalize vo.isSome=s0 at GX GY;clear t8 al8 bw8 lf8 hvo CY7;go_wp2_with fail;refine Calls.mono GX.out ?_;rintro e u9 ⟨rfl,g9⟩;have GY9:=GY.out u9 g9;have G9:Aside (Gw u8 u9):=g9;clear f0 f1 f2 f3;obtain ⟨f0,f1,f2,f3⟩:=CELL.out u9 (GW8.out.trans g9);clear GX GY g9;go_wp2_with fail;refine Calls.mono GY9 ?_;rintro e u10 ⟨rfl,g10⟩;have R9:Aside (AgI HR w u10 p qC eps buf keys (i+(k+1))):=AG.out.to HH.out.kp (G9.out.trans g10);have tb:(cb == cb)=true:=by simp
       have tv:(v0 == v0)=true:=by simp
       have ts:(s0 == s0)=true:=by simp
       clear GY9 g10 AG;go_wp2_with fail;go_roundg (m+1-k)
       case measure=>omega
       case rel=>exact ⟨k+1,by go_num,by omega,by omega,R9⟩
      ·have nk:¬ (k:Int)<(m:Int):=by omega
       have R9:Aside (AgI HR w u6 p qC eps buf keys (i+(k+1))):=⟨F,l,rs,B,W,G,rs',B',W',nn,T6.out,AL.out.1,AL.out.2.1.mono (by omega),AL.out.2.2.mono (by omega)⟩
       go_wp2_with fail;go_roundg (m+1-k)
       case measure=>omega
       case rel=>exact ⟨k+1,by go_num,by omega,by omega,R9⟩
     ·have nk:¬ (k:Int)<=(m:Int):=by omega
      have RES:Aside (Gw w wT):=by
       obtain ⟨F,l,rs,B,W,G,rs',B',W',nn,t0,_⟩:=MA.out;exact t0.x.gw
      go_wp2_with fail;go_ret
      exact ⟨rfl,RES.out⟩
end Go.Proofs.YtemijdhemdhclaaGreat
