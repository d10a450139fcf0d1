/- What the State of layer 16's statements makes of itself: a tower, and the document's. -/
import Derived.Test.YtcboobmfnmgldaaGreatBDOf2
set_option linter.unusedVariables false
set_option maxHeartbeats 16000000
set_option maxRecDepth 20000
open Go.Proofs.Tryz
namespace Go.Proofs.YtcboobmfnmgldaaGreat
open Go.RowKit
def gE (eps se:Int):Int:=if se=0 then eps else se
theorem SX (eps buf keys se:Int) (bo ro:Option Addr) (bn m c d:Nat) (w:World) :
  Calls prog 17 #[.agg #[AI eps,AI buf,AI keys,.slice bo bn c,.slice ro m d,AI se]] w fun e w'=>e=.returned (AI (gE eps se))/\Gw w w':=by
 have g:ag (Gw w (w.alloc (.cells #[AI eps,AI buf,AI keys,.slice bo bn c,.slice ro m d,AI se] 27))):=(Gw.refl w).alloc _ _;by_cases z:se=0
 ·have e:gE eps se=eps:=if_pos z
  have t1:(se != 0)=false:=by simp [z]
  rw [e];clear e z;go_enter func17,ntmps17;go_wp2_with fail;go_ret;exact ⟨rfl,g.o⟩
 ·have e:gE eps se=se:=if_neg z
  have t1:(se != 0)=true:=by simpa using z
  rw [e];clear e z;go_enter func17,ntmps17;go_wp2_with fail;go_ret;exact ⟨rfl,g.o⟩
theorem ade {HR:bQ} (H:bJ HR) (eps buf keys se:Int) (bo ro:Option Addr) (c d:Nat) (b:List ah) (L:List (List ah)) (e0:-9223372036854775808<=eps/\eps<9223372036854775808) (s0:-9223372036854775808<=se/\se<9223372036854775808) (hb:b.length+aF L<=2000000) (hl:L.length<=1048576) (hc:b.length<=c) (hz:bo=none->b.length=0/\c=0) (w:World) (he:EL w bo b) (hv:EV w ro L) :
  Calls prog 5 #[.agg #[AI eps,AI buf,AI keys,.slice bo b.length c,.slice ro L.length d,AI se]] w fun e w'=>(∃ A,cW (gE eps se) L A/\kO HR w w' e eps buf keys b A)/\Gw w w':=by
 have HH:ag (bJ HR):=H;have EA:ag (EL w bo b):=he;have VA:ag (EV w ro L):=hv;have EP:ag (∀ W,Calls prog 17 #[.agg #[AI eps,AI buf,AI keys,.slice bo b.length c,.slice ro L.length d,AI se]] W fun e w'=>e=.returned (AI (gE eps se))/\Gw W w'):=fun W=>SX eps buf keys se bo ro b.length L.length c d W
 have ER:ag (-9223372036854775808<=gE eps se/\gE eps se<9223372036854775808):=by show _/\_;unfold gE;split<;>assumption
 have BB:ag (b.length+aF L<=2000000/\L.length<=1048576/\b.length<=c/\(bo=none->b.length=0/\c=0)):=⟨hb,hl,hc,hz⟩;obtain ⟨ex,hex⟩:∃ ex,gE eps se=ex:=⟨_,rfl⟩;rw [hex] at EP ER ⊢;obtain ⟨n,au⟩:∃ n,L.length=n:=⟨_,rfl⟩;have LN:ag (L.length=n):=au;obtain ⟨bn,fL⟩:∃ n,b.length=n:=⟨_,rfl⟩;have BN:ag (b.length=bn):=fL;have n1:n<=1048576:=by omega
 rw [au,fL] at EP ⊢;obtain ⟨ia,xW,rD,xX,xY⟩:=info_parts Am;obtain ⟨bq,aE⟩:∃ b,w.heap.size=b:=⟨_,rfl⟩;have BQ:ag (w.heap.size=bq):=aE;have B0:ag (aT w [(bq,#[AI eps,AI buf,AI keys,.slice bo bn c,.slice ro n d,AI se],27)] ((w.alloc (.cells #[AI eps,AI buf,AI keys,.slice bo bn c,.slice ro n d,AI se] 27)).alloc (.cells #[] 39))):=by
  have a:=((aT.nil (Gw.refl w)).add #[AI eps,AI buf,AI keys,.slice bo bn c,.slice ro n d,AI se] 27).gw ((Gw.refl _).alloc #[] 39);rw [aE] at a;exact a
 have FC:ag (∀ W,aT w [(bq,#[AI eps,AI buf,AI keys,.slice bo bn c,.slice ro n d,AI se],27)] W->(W.cell? ⟨bq,0,none⟩=some (AI eps)/\W.cell? ⟨bq,1,none⟩=some (AI buf)/\W.cell? ⟨bq,2,none⟩=some (AI keys)/\W.cell? ⟨bq,3,none⟩=some (.slice bo bn c)/\W.cell? ⟨bq,4,none⟩=some (.slice ro n d)/\W.cell? ⟨bq,5,none⟩=some (AI se)/\bq<W.heap.size)):=fun W h=>by
  have x:=h.lie (bq,#[AI eps,AI buf,AI keys,.slice bo bn c,.slice ro n d,AI se],27) (by simp)
  exact ⟨aj x rfl,aj x rfl,aj x rfl,aj x rfl,aj x rfl,aj x rfl,aC x⟩
 have I0:ag (RI HR 39 w ((w.alloc (.cells #[AI eps,AI buf,AI keys,.slice bo bn c,.slice ro n d,AI se] 27)).alloc (.cells #[] 39)) (bq+1) 0 []):=by
  have:=RI.made (HR:=HR) w (w.alloc (.cells #[AI eps,AI buf,AI keys,.slice bo bn c,.slice ro n d,AI se] 27)) 39 ((Gw.refl w).alloc _ _)
  rw [show (w.alloc (.cells #[AI eps,AI buf,AI keys,.slice bo bn c,.slice ro n d,AI se] 27)).heap.size=bq+1 by rw [<-aE];simp] at this
  exact this
 clear hb hl hc hz he hv hex au fL aE e0 s0;go_enter func5,ntmps5;go_wp2_with fail;rw [BQ.o];generalize (w.alloc (.cells #[AI eps,AI buf,AI keys,.slice bo bn c,.slice ro n d,AI se] 27)).alloc (.cells #[] 39)=w2 at B0 I0 ⊢;go_loopg [4,5,6] n (fun gg s4 s5 s6 wr=>∃ (i mb mc:Nat) (v6:Value) (A:List (Option Rn)),s4=.slice (some ⟨mb,0,none⟩) i mc/\s5=AI (i:Int)/\s6=v6/\i<=n/\n-i<=gg/\ag (A.length=i)/\ag (cW ex (L.take i) A)/\ag (RI HR 39 w wr mb mc A)/\ag (aT w [(bq,#[AI eps,AI buf,AI keys,.slice bo bn c,.slice ro n d,AI se],27)] wr)/\ag (bq<mb))
 case atStart=>exact ⟨0,bq+1,0,_,[],rfl,rfl,rfl,Nat.zero_le _,by omega,(show ag _ from rfl),(show ag _ from trivial),I0,B0,(show ag _ from Nat.lt_succ_self _)⟩
 case round =>
  clear I0 B0;obtain ⟨i,mb,mc,v6,A,rfl,rfl,rfl,a1,a2,AN,RR,II,BI,MB⟩:=hrel;obtain ⟨wS,bj⟩:∃ wx,wx=wr:=⟨_,rfl⟩;subst bj;obtain ⟨f0,f1,f2,f3,f4,f5,f6⟩:=FC.o wS BI.o;by_cases ar:i<n
  ·have eZ:(i:Int)<(n:Int):=by omega
   have LT:ag (i<n):=ar;obtain ⟨rb,gF,rfl,bu,eT⟩:=(VA.o.gw II.o.gw0).cells (by rw [LN.o];omega)
   obtain ⟨xo,xc,d0,sr,del,dz⟩:=eT i (by rw [LN.o];exact ar)
   clear eT;have sl:(L.getD i []).length<=aF L:=by
    have h1:=QC (L:=L) (i:=i) (by rw [LN.o];exact ar)
    omega
   have XL:ag ((L.getD i []).length<=2000000):=by have:=BB.o.1;show _<=_;omega
   clear sl;obtain ⟨lx,sw⟩:∃ lx,L.getD i []=lx:=⟨_,rfl⟩;rw [sw] at d0 sr del dz XL;have LX:ag (L.getD i []=lx):=sw;obtain ⟨ln,au⟩:∃ ln,lx.length=ln:=⟨_,rfl⟩;have LL:ag (lx.length=ln):=au;rw [au] at d0;have DE:ag (EL wS xo lx/\lx.length<=xc/\(xo=none->lx.length=0/\xc=0)):=⟨del,sr,dz⟩;clear sr del dz sw au;by_cases z:ln=0
   ·have t1:decide ((0:Int)<(ln:Int))=false:=by simp;omega
    obtain ⟨o,ho⟩:∃ o:Option Rn,o=none:=⟨_,rfl⟩;have PL:ag (ik ex (L.getD i []) o):=by rw [LX.o];exact .inl ⟨by rw [LL.o];exact z,ho⟩
    have FO:ag (∀ r,o=some r->RA HR wS r/\¬ r.S mb):=fun r e=>by rw [ho] at e;cases e
    have I6:ag (RI HR 39 w wS mb mc A):=II;have B6:ag (aT w [(bq,#[AI eps,AI buf,AI keys,.slice bo bn c,.slice (some ⟨rb,gF,none⟩) n d,AI se],27)] wS):=BI;have hq:ptr o=.pointer none:=by rw [ho];rfl
    go_upto_region 8 with fail;clear t1 z ho f0 f1 f2 f3 f4 f5 d0 II BI
    obtain ⟨w6,sy⟩:∃ w6,w6=wS:=⟨_,rfl⟩;subst sy;have QA:ag (ptr o=.pointer none):=hq;have NX:ag (∀ (w7:World) (b7 c7:Nat),w7.ownsRow w.heap.size 39 1 (.slice (some ⟨b7,0,none⟩) (i+1) c7) (i+1) (A.map ptr++[.pointer none])->(w6.alloc (.cells #[.pointer none] 39)).grownBy w7 (some mb)->(b7=mb\/w6.heap.size<=b7)->RI HR 39 w w7 b7 c7 (A++[o])/\cW ex (L.take (i+1)) (A++[o])/\(A++[o]).length=i+1/\aT w [(bq,#[AI eps,AI buf,AI keys,.slice bo bn c,.slice (some ⟨rb,gF,none⟩) n d,AI se],27)] w7):=fun w7 b7 c7 r1 r2 o7=>by
     rw [<-QA.o] at r1;refine ⟨I6.o.app HH.o.kp FO.o (by rw [AN.o];exact r1) r2 o7,RR.o.next (by rw [LN.o];exact LT.o) PL.o,by rw [List.length_append,AN.o];rfl,?_⟩
     have gx:Gx (fun q=>q=mb) w6 w7:=Gx.grown (w':=w6.alloc (.cells #[.pointer none] 39)) ((Gx.refl _ w6).alloc _ _) r2 (fun k e=>by cases e;exact .inl rfl)
     refine ⟨Gx.gw I6.o.gw0 gx (fun q hq=>by rw [hq];exact I6.o.lt.1),fun x hx=>?_⟩
     refine (gx.block x.1 (Array.getElem?_eq_some_iff.1 (B6.o.lie x hx)).1 fun e=>?_).trans (B6.o.lie x hx)
     have fP:x.1=bq:=by
      rcases List.mem_cons.1 hx with rfl | y
      ·rfl
      ·cases y
     have:=MB.o
     omega
    have OA:ag (w6.ownsRow w.heap.size 39 1 (.slice (some ⟨mb,0,none⟩) i mc) i (A.map ptr)):=by
     have:=I6.o.own
     rw [AN.o] at this;exact this
    go_wp2_with (at_builtin;refine wpList_append_own_at _ rfl _ _ 37 rfl w.heap.size 39 ia (.pointer none) 1 8 underlying37 xW rD xX xY rfl (by decide) _ i _ rfl (OA.o.alloc _) ⟨w6.heap.size,0,none⟩ 1 1 [_] rfl rfl (vU w6 _ 39) (fun u hu=>by simp at hu;subst hu;rfl) (by simp only [maxLen];omega) (by omega) (by have:=OA.o.lt mb rfl;simp;omega) ?_)
    intro v7 w7 r1 r2 r3 r4;obtain ⟨b7,c7,rfl,_,_,_⟩:=dh r1 (by simpa using r3)
    have o7:b7=mb\/w6.heap.size<=b7:=by
     rcases r4 with q | q
     ·have q':b7=mb:=by simpa [Value.ownBlock] using q
      exact .inl q'
     ·have q':b7=w6.heap.size+1:=by simpa [Value.ownBlock] using q
      exact .inr (by omega)
    obtain ⟨n1,n2,n3,n4⟩:=NX.o w7 b7 c7 r1 r2 o7;have I7:ag _:=n1;have R7:ag _:=n2;have A7:ag _:=n3;have B7:ag _:=n4;have M7:ag (bq<b7):=by
     show bq<b7;rcases o7 with e | e
     ·rw [e];exact MB.o
     ·have:=MB.o
      have:=I6.o.lt
      omega
    clear hq r1 r2 r3 r4 n1 n2 n3 n4 NX OA QA I6 B6 FO PL;go_wp2_with fail;go_roundg (n-(i+1))
    case measure=>omega
    case rel=>exact ⟨i+1,b7,c7,_,A++[o],rfl,rfl,rfl,by omega,Nat.le_refl _,A7,R7,I7,B7,M7⟩
   ·have t1:0<ln:=by omega
    have Z:ag (ln≠0):=z;have EQ:ag (∀ W,Gw wS W->Calls prog 17 #[.agg #[AI eps,AI buf,AI keys,.slice bo bn c,.slice (some ⟨rb,gF,none⟩) n d,AI se]] W fun e w'=>e=.returned (AI ex)/\Gw W w'):=fun W _=>EP.o W
    have NW:ag (∀ W,Gw wS W->Calls prog 16 #[.slice xo ln xc,AI ex] W fun e w'=>(∃ (o:Option Rn) (E:Int),e=.returned (.tuple #[ptr o,AI E])/\ik ex lx o/\∀ r,o=some r->RA HR w' r/\∀ q,r.S q->wS.heap.size<=q)/\Gw W w'):=fun W g=>by
     have:=HH.o.new ex xo lx.length xc (ek lx) (ev lx) (eg lx) ER.o.1 ER.o.2 XL.o DE.o.2.1 DE.o.2.2 W (DE.o.1.gw g)
     rw [LL.o] at this;refine this.mono fun e w' ⟨x,y⟩=>⟨?_,y⟩
     obtain ⟨o,E,p1,p2,p3⟩:=nP.place (by rw [LL.o];exact x) DE.o.1.all XL.o (by rw [LL.o];exact Z.o)
     exact ⟨o,E,p1,p2,fun r e=>⟨(p3 r e).1,fun q hq=>Nat.le_trans g.size ((p3 r e).2 q hq)⟩⟩
    have HW:ag (∀ W,Gw wS W->(fun W=>Gw wS W/\W.cell? ⟨bq,0,none⟩=some (AI eps)/\W.cell? ⟨bq,1,none⟩=some (AI buf)/\W.cell? ⟨bq,2,none⟩=some (AI keys)/\W.cell? ⟨bq,3,none⟩=some (.slice bo bn c)/\W.cell? ⟨bq,4,none⟩=some (.slice (some ⟨rb,gF,none⟩) n d)/\W.cell? ⟨bq,5,none⟩=some (AI se)/\bq<W.heap.size/\W.cell? ⟨rb,gF+i,none⟩=some (.slice xo ln xc)) W):=fun W g=>⟨g,by
     obtain ⟨x0,x1,x2,x3,x4,x5,x6⟩:=FC.o W (BI.o.gw g);exact ⟨x0,x1,x2,x3,x4,x5,x6,(g.cell _ _ bu).trans d0⟩⟩
    have GR:ag (Gw wS wS):=Gw.refl wS;clear z;go_upto_region 7 with fail;clear t1 f0 f1 f2 f3 f4 f5 f6 d0;go_region_held3 (fun W=>Gw wS W/\W.cell? ⟨bq,0,none⟩=some (AI eps)/\W.cell? ⟨bq,1,none⟩=some (AI buf)/\W.cell? ⟨bq,2,none⟩=some (AI keys)/\W.cell? ⟨bq,3,none⟩=some (.slice bo bn c)/\W.cell? ⟨bq,4,none⟩=some (.slice (some ⟨rb,gF,none⟩) n d)/\W.cell? ⟨bq,5,none⟩=some (AI se)/\bq<W.heap.size/\W.cell? ⟨rb,gF+i,none⟩=some (.slice xo ln xc))
     ((refine HW.o _ ?_;(repeat (first | exact Gw.refl _ | exact And.left (by assumption) | exact ag.o (by assumption) | refine Gw.drew ?_ | refine Gw.drewN ?_ _));done))
     ((
      first
      | (go_at_call 17;refine (EQ.o _ (by (repeat (first | exact Gw.refl _ | exact And.left (by assumption) | exact ag.o (by assumption) | refine Gw.drew ?_ | refine Gw.drewN ?_ _)))).mono ?_;rintro ex4 w4 ⟨rfl,g4⟩;have G4:ag (Gw wS w4):=(Gw.trans (by (repeat (first | exact Gw.refl _ | exact And.left (by assumption) | exact ag.o (by assumption) | refine Gw.drew ?_ | refine Gw.drewN ?_ _))) g4);clear g4)
      | (go_at_call 16;refine (NW.o _ (by (repeat (first | exact Gw.refl _ | exact And.left (by assumption) | exact ag.o (by assumption) | refine Gw.drew ?_ | refine Gw.drewN ?_ _)))).mono ?_;rintro ex5 w5 ⟨⟨o,E5,rfl,pl,fr⟩,g5⟩;have G5:ag (Gw wS w5):=(Gw.trans (by (repeat (first | exact Gw.refl _ | exact And.left (by assumption) | exact ag.o (by assumption) | refine Gw.drew ?_ | refine Gw.drewN ?_ _))) g5);have PF:ag (ik ex lx o/\∀ r,o=some r->RA HR w5 r/\∀ q,r.S q->wS.heap.size<=q):=⟨pl,fr⟩;clear g5 pl fr)))
    all_goals
     obtain ⟨w6,sy⟩:∃ w6,w6=w5:=⟨_,rfl⟩;subst sy;obtain ⟨q,hq⟩:∃ q,ptr o=.pointer q:=by cases o<;>exact ⟨_,rfl⟩
     have PL:ag (ik ex (L.getD i []) o):=by rw [LX.o];exact PF.o.1
     have FO:ag (∀ r,o=some r->RA HR w6 r/\¬ r.S mb):=fun r e=>⟨(PF.o.2 r e).1,fun x=>by have:=(PF.o.2 r e).2 _ x;have:=II.o.lt;omega⟩
     have I6:ag (RI HR 39 w w6 mb mc A):=II.o.gw HH.o.kp G5.o;have B6:ag (aT w [(bq,#[AI eps,AI buf,AI keys,.slice bo bn c,.slice (some ⟨rb,gF,none⟩) n d,AI se],27)] w6):=BI.o.gw G5.o;clear PF EQ NW HW GR G4 G5 II BI Z;rw [hq];have QA:ag (ptr o=.pointer q):=hq;have NX:ag (∀ (w7:World) (b7 c7:Nat),w7.ownsRow w.heap.size 39 1 (.slice (some ⟨b7,0,none⟩) (i+1) c7) (i+1) (A.map ptr++[.pointer q])->(w6.alloc (.cells #[.pointer q] 39)).grownBy w7 (some mb)->(b7=mb\/w6.heap.size<=b7)->RI HR 39 w w7 b7 c7 (A++[o])/\cW ex (L.take (i+1)) (A++[o])/\(A++[o]).length=i+1/\aT w [(bq,#[AI eps,AI buf,AI keys,.slice bo bn c,.slice (some ⟨rb,gF,none⟩) n d,AI se],27)] w7):=fun w7 b7 c7 r1 r2 o7=>by
      rw [<-QA.o] at r1;refine ⟨I6.o.app HH.o.kp FO.o (by rw [AN.o];exact r1) r2 o7,RR.o.next (by rw [LN.o];exact LT.o) PL.o,by rw [List.length_append,AN.o];rfl,?_⟩
      have gx:Gx (fun q=>q=mb) w6 w7:=Gx.grown (w':=w6.alloc (.cells #[.pointer q] 39)) ((Gx.refl _ w6).alloc _ _) r2 (fun k e=>by cases e;exact .inl rfl)
      refine ⟨Gx.gw I6.o.gw0 gx (fun q hq=>by rw [hq];exact I6.o.lt.1),fun x hx=>?_⟩
      refine (gx.block x.1 (Array.getElem?_eq_some_iff.1 (B6.o.lie x hx)).1 fun e=>?_).trans (B6.o.lie x hx)
      have fP:x.1=bq:=by
       rcases List.mem_cons.1 hx with rfl | y
       ·rfl
       ·cases y
      have:=MB.o
      omega
     have OA:ag (w6.ownsRow w.heap.size 39 1 (.slice (some ⟨mb,0,none⟩) i mc) i (A.map ptr)):=by
      have:=I6.o.own
      rw [AN.o] at this;exact this
     go_wp2_with (at_builtin;refine wpList_append_own_at _ rfl _ _ 37 rfl w.heap.size 39 ia (.pointer none) 1 8 underlying37 xW rD xX xY rfl (by decide) _ i _ rfl (OA.o.alloc _) ⟨w6.heap.size,0,none⟩ 1 1 [_] rfl rfl (vU w6 _ 39) (fun u hu=>by simp at hu;subst hu;rfl) (by simp only [maxLen];omega) (by omega) (by have:=OA.o.lt mb rfl;simp;omega) ?_)
     intro v7 w7 r1 r2 r3 r4;obtain ⟨b7,c7,rfl,_,_,_⟩:=dh r1 (by simpa using r3)
     have o7:b7=mb\/w6.heap.size<=b7:=by
      rcases r4 with q | q
      ·have q':b7=mb:=by simpa [Value.ownBlock] using q
       exact .inl q'
      ·have q':b7=w6.heap.size+1:=by simpa [Value.ownBlock] using q
       exact .inr (by omega)
     obtain ⟨n1,n2,n3,n4⟩:=NX.o w7 b7 c7 r1 r2 o7;have I7:ag _:=n1;have R7:ag _:=n2;have A7:ag _:=n3;have B7:ag _:=n4;have M7:ag (bq<b7):=by
      show bq<b7;rcases o7 with e | e
      ·rw [e];exact MB.o
      ·have:=MB.o
       have:=I6.o.lt
       omega
     clear r1 r2 r3 r4 n1 n2 n3 n4 NX OA QA I6 B6 FO PL;go_wp2_with fail;go_roundg (n-(i+1))
     case measure=>omega
     case rel=>exact ⟨i+1,b7,c7,_,A++[o],rfl,rfl,rfl,by omega,Nat.le_refl _,A7,R7,I7,B7,M7⟩
  ·have ei:i=n:=by omega
   subst ei;have sA:ag (Calls prog 18 #[.agg #[AI eps,AI buf,AI keys],.slice bo bn c,.slice (some ⟨mb,0,none⟩) i mc] wS fun e w'=>kO HR wS w' e eps buf keys b A/\Gw wS w'):=by
    have fw:tot A<=aF L:=by have:=RR.o.few;rwa [List.take_of_length_le (by rw [LN.o];exact Nat.le_refl _)] at this
    have:=RE HH.o eps buf keys bo (some ⟨mb,0,none⟩) c mc b A (by have:=BB.o.1;omega) (by rw [AN.o];omega) BB.o.2.2.1 II.o.cap (fun x=>by cases x) wS (EA.o.gw II.o.gw0) II.o.pr
    rw [AN.o,BN.o] at this;exact this
   clear ar a1 a2;go_wp2_with fail;refine Calls.mono sA.o ?_;rintro e w3 ⟨⟨E,nn,o1,x1⟩,g3⟩;have ak:ag (∀ (ov:Ending) (w4:World),w4=w3->((E≠0/\ov=.returned (.tuple #[.pointer none,AI E]))\/(E=0/\∃ p F,ov=.returned (.tuple #[BY p,AI 0])/\HT HR w4 p F eps buf keys b (aH A) 0 0 nn/\∀ q,F q->wS.heap.size<=q))->(∃ A,cW ex L A/\kO HR w w4 ov eps buf keys b A)/\Gw w w4):=fun ov w4 e4 x=>⟨⟨A,by have:=RR.o;rwa [List.take_of_length_le (by rw [LN.o];exact Nat.le_refl _)] at this,E,nn,o1,x.imp id fun ⟨z,p,F,y1,y2,y3⟩=>⟨z,p,F,y1,y2,fun q hq=>Nat.le_trans II.o.gw0.size (y3 q hq)⟩⟩,by rw [e4];exact II.o.gw0.trans g3⟩
   rcases x1 with ⟨e0,rfl⟩ | ⟨e0,p,F,rfl,ht,hF⟩
   ·have X:ag _:=ak.o _ w3 rfl (.inl ⟨e0,rfl⟩)
    clear ak e0 o1 g3 sA f0 f1 f2 f3 f4 f5 f6;go_wp2_with fail;go_ret2;exact X.o
   ·subst e0
    have X:ag _:=ak.o _ w3 rfl (.inr ⟨rfl,p,F,rfl,ht,hF⟩);clear ak o1 g3 sA ht hF f0 f1 f2 f3 f4 f5 f6;go_wp2_with fail;go_ret2;exact X.o
theorem adf (O5:oU) (eps buf keys se:Int) (bo ro:Option Addr) (c d:Nat) (b:List ah) (L:List (List ah)) (e0:-9223372036854775808<=eps/\eps<9223372036854775808) (s0:-9223372036854775808<=se/\se<9223372036854775808) (hb:b.length+aF L<=2000000) (hl:L.length<=1048576) (hc:b.length<=c) (hz:bo=none->b.length=0/\c=0) (w:World) (he:EL w bo b) (hv:EV w ro L) :
  Calls prog 6 #[.agg #[AI eps,AI buf,AI keys,.slice bo b.length c,.slice ro L.length d,AI se]] w fun e w'=>(∃ A,cW (gE eps se) L A/\ka w w' e eps buf keys b A)/\Gw w w':=by
 have OO:ag oU:=O5;have EA:ag (EL w bo b):=he;have VA:ag (EV w ro L):=hv;have EP:ag (∀ W,Calls prog 17 #[.agg #[AI eps,AI buf,AI keys,.slice bo b.length c,.slice ro L.length d,AI se]] W fun e w'=>e=.returned (AI (gE eps se))/\Gw W w'):=fun W=>SX eps buf keys se bo ro b.length L.length c d W
 have ER:ag (-9223372036854775808<=gE eps se/\gE eps se<9223372036854775808):=by show _/\_;unfold gE;split<;>assumption
 have BB:ag (b.length+aF L<=2000000/\L.length<=1048576/\b.length<=c/\(bo=none->b.length=0/\c=0)):=⟨hb,hl,hc,hz⟩;obtain ⟨ex,hex⟩:∃ ex,gE eps se=ex:=⟨_,rfl⟩;rw [hex] at EP ER ⊢;obtain ⟨n,au⟩:∃ n,L.length=n:=⟨_,rfl⟩;have LN:ag (L.length=n):=au;obtain ⟨bn,fL⟩:∃ n,b.length=n:=⟨_,rfl⟩;have BN:ag (b.length=bn):=fL;have n1:n<=1048576:=by omega
 rw [au,fL] at EP ⊢;obtain ⟨ia,xW,rD,xX,xY⟩:=info_parts QP;obtain ⟨bq,aE⟩:∃ b,w.heap.size=b:=⟨_,rfl⟩;have BQ:ag (w.heap.size=bq):=aE;have B0:ag (aT w [(bq,#[AI eps,AI buf,AI keys,.slice bo bn c,.slice ro n d,AI se],27)] ((w.alloc (.cells #[AI eps,AI buf,AI keys,.slice bo bn c,.slice ro n d,AI se] 27)).alloc (.cells #[] 60))):=by
  have a:=((aT.nil (Gw.refl w)).add #[AI eps,AI buf,AI keys,.slice bo bn c,.slice ro n d,AI se] 27).gw ((Gw.refl _).alloc #[] 60);rw [aE] at a;exact a
 have FC:ag (∀ W,aT w [(bq,#[AI eps,AI buf,AI keys,.slice bo bn c,.slice ro n d,AI se],27)] W->(W.cell? ⟨bq,0,none⟩=some (AI eps)/\W.cell? ⟨bq,1,none⟩=some (AI buf)/\W.cell? ⟨bq,2,none⟩=some (AI keys)/\W.cell? ⟨bq,3,none⟩=some (.slice bo bn c)/\W.cell? ⟨bq,4,none⟩=some (.slice ro n d)/\W.cell? ⟨bq,5,none⟩=some (AI se)/\bq<W.heap.size)):=fun W h=>by
  have x:=h.lie (bq,#[AI eps,AI buf,AI keys,.slice bo bn c,.slice ro n d,AI se],27) (by simp)
  exact ⟨aj x rfl,aj x rfl,aj x rfl,aj x rfl,aj x rfl,aj x rfl,aC x⟩
 have I0:ag (RI bI 60 w ((w.alloc (.cells #[AI eps,AI buf,AI keys,.slice bo bn c,.slice ro n d,AI se] 27)).alloc (.cells #[] 60)) (bq+1) 0 []):=by
  have:=RI.made (HR:=bI) w (w.alloc (.cells #[AI eps,AI buf,AI keys,.slice bo bn c,.slice ro n d,AI se] 27)) 60 ((Gw.refl w).alloc _ _)
  rw [show (w.alloc (.cells #[AI eps,AI buf,AI keys,.slice bo bn c,.slice ro n d,AI se] 27)).heap.size=bq+1 by rw [<-aE];simp] at this
  exact this
 clear hb hl hc hz he hv hex au fL aE e0 s0;go_enter func6,ntmps6;go_wp2_with fail;rw [BQ.o];generalize (w.alloc (.cells #[AI eps,AI buf,AI keys,.slice bo bn c,.slice ro n d,AI se] 27)).alloc (.cells #[] 60)=w2 at B0 I0 ⊢;go_loopg [4,5,6] n (fun gg s4 s5 s6 wr=>∃ (i mb mc:Nat) (v6:Value) (A:List (Option Rn)),s4=.slice (some ⟨mb,0,none⟩) i mc/\s5=AI (i:Int)/\s6=v6/\i<=n/\n-i<=gg/\ag (A.length=i)/\ag (cW ex (L.take i) A)/\ag (RI bI 60 w wr mb mc A)/\ag (aT w [(bq,#[AI eps,AI buf,AI keys,.slice bo bn c,.slice ro n d,AI se],27)] wr)/\ag (bq<mb))
 case atStart=>exact ⟨0,bq+1,0,_,[],rfl,rfl,rfl,Nat.zero_le _,by omega,(show ag _ from rfl),(show ag _ from trivial),I0,B0,(show ag _ from Nat.lt_succ_self _)⟩
 case round =>
  clear I0 B0;obtain ⟨i,mb,mc,v6,A,rfl,rfl,rfl,a1,a2,AN,RR,II,BI,MB⟩:=hrel;obtain ⟨wS,bj⟩:∃ wx,wx=wr:=⟨_,rfl⟩;subst bj;obtain ⟨f0,f1,f2,f3,f4,f5,f6⟩:=FC.o wS BI.o;by_cases ar:i<n
  ·have eZ:(i:Int)<(n:Int):=by omega
   have LT:ag (i<n):=ar;obtain ⟨rb,gF,rfl,bu,eT⟩:=(VA.o.gw II.o.gw0).cells (by rw [LN.o];omega)
   obtain ⟨xo,xc,d0,sr,del,dz⟩:=eT i (by rw [LN.o];exact ar)
   clear eT;have sl:(L.getD i []).length<=aF L:=by
    have h1:=QC (L:=L) (i:=i) (by rw [LN.o];exact ar)
    omega
   have XL:ag ((L.getD i []).length<=2000000):=by have:=BB.o.1;show _<=_;omega
   clear sl;obtain ⟨lx,sw⟩:∃ lx,L.getD i []=lx:=⟨_,rfl⟩;rw [sw] at d0 sr del dz XL;have LX:ag (L.getD i []=lx):=sw;obtain ⟨ln,au⟩:∃ ln,lx.length=ln:=⟨_,rfl⟩;have LL:ag (lx.length=ln):=au;rw [au] at d0;have DE:ag (EL wS xo lx/\lx.length<=xc/\(xo=none->lx.length=0/\xc=0)):=⟨del,sr,dz⟩;clear sr del dz sw au;by_cases z:ln=0
   ·have t1:decide ((0:Int)<(ln:Int))=false:=by simp;omega
    obtain ⟨o,ho⟩:∃ o:Option Rn,o=none:=⟨_,rfl⟩;have PL:ag (ik ex (L.getD i []) o):=by rw [LX.o];exact .inl ⟨by rw [LL.o];exact z,ho⟩
    have FO:ag (∀ r,o=some r->RA bI wS r/\¬ r.S mb):=fun r e=>by rw [ho] at e;cases e
    have I6:ag (RI bI 60 w wS mb mc A):=II;have B6:ag (aT w [(bq,#[AI eps,AI buf,AI keys,.slice bo bn c,.slice (some ⟨rb,gF,none⟩) n d,AI se],27)] wS):=BI;have hq:ptr o=.pointer none:=by rw [ho];rfl
    go_upto_region 8 with fail;clear t1 z ho f0 f1 f2 f3 f4 f5 d0 II BI
    obtain ⟨w6,sy⟩:∃ w6,w6=wS:=⟨_,rfl⟩;subst sy;have QA:ag (ptr o=.pointer none):=hq;have NX:ag (∀ (w7:World) (b7 c7:Nat),w7.ownsRow w.heap.size 60 1 (.slice (some ⟨b7,0,none⟩) (i+1) c7) (i+1) (A.map ptr++[.pointer none])->(w6.alloc (.cells #[.pointer none] 60)).grownBy w7 (some mb)->(b7=mb\/w6.heap.size<=b7)->RI bI 60 w w7 b7 c7 (A++[o])/\cW ex (L.take (i+1)) (A++[o])/\(A++[o]).length=i+1/\aT w [(bq,#[AI eps,AI buf,AI keys,.slice bo bn c,.slice (some ⟨rb,gF,none⟩) n d,AI se],27)] w7):=fun w7 b7 c7 r1 r2 o7=>by
     rw [<-QA.o] at r1;refine ⟨I6.o.app bI.kp FO.o (by rw [AN.o];exact r1) r2 o7,RR.o.next (by rw [LN.o];exact LT.o) PL.o,by rw [List.length_append,AN.o];rfl,?_⟩
     have gx:Gx (fun q=>q=mb) w6 w7:=Gx.grown (w':=w6.alloc (.cells #[.pointer none] 60)) ((Gx.refl _ w6).alloc _ _) r2 (fun k e=>by cases e;exact .inl rfl)
     refine ⟨Gx.gw I6.o.gw0 gx (fun q hq=>by rw [hq];exact I6.o.lt.1),fun x hx=>?_⟩
     refine (gx.block x.1 (Array.getElem?_eq_some_iff.1 (B6.o.lie x hx)).1 fun e=>?_).trans (B6.o.lie x hx)
     have fP:x.1=bq:=by
      rcases List.mem_cons.1 hx with rfl | y
      ·rfl
      ·cases y
     have:=MB.o
     omega
    have OA:ag (w6.ownsRow w.heap.size 60 1 (.slice (some ⟨mb,0,none⟩) i mc) i (A.map ptr)):=by
     have:=I6.o.own
     rw [AN.o] at this;exact this
    go_wp2_with (at_builtin;refine wpList_append_own_at _ rfl _ _ 59 rfl w.heap.size 60 ia (.pointer none) 1 8 underlying59 xW rD xX xY rfl (by decide) _ i _ rfl (OA.o.alloc _) ⟨w6.heap.size,0,none⟩ 1 1 [_] rfl rfl (vU w6 _ 60) (fun u hu=>by simp at hu;subst hu;rfl) (by simp only [maxLen];omega) (by omega) (by have:=OA.o.lt mb rfl;simp;omega) ?_)
    intro v7 w7 r1 r2 r3 r4;obtain ⟨b7,c7,rfl,_,_,_⟩:=dh r1 (by simpa using r3)
    have o7:b7=mb\/w6.heap.size<=b7:=by
     rcases r4 with q | q
     ·have q':b7=mb:=by simpa [Value.ownBlock] using q
      exact .inl q'
     ·have q':b7=w6.heap.size+1:=by simpa [Value.ownBlock] using q
      exact .inr (by omega)
    obtain ⟨n1,n2,n3,n4⟩:=NX.o w7 b7 c7 r1 r2 o7;have I7:ag _:=n1;have R7:ag _:=n2;have A7:ag _:=n3;have B7:ag _:=n4;have M7:ag (bq<b7):=by
     show bq<b7;rcases o7 with e | e
     ·rw [e];exact MB.o
     ·have:=MB.o
      have:=I6.o.lt
      omega
    clear hq r1 r2 r3 r4 n1 n2 n3 n4 NX OA QA I6 B6 FO PL;go_wp2_with fail;go_roundg (n-(i+1))
    case measure=>omega
    case rel=>exact ⟨i+1,b7,c7,_,A++[o],rfl,rfl,rfl,by omega,Nat.le_refl _,A7,R7,I7,B7,M7⟩
   ·have t1:0<ln:=by omega
    have Z:ag (ln≠0):=z;have EQ:ag (∀ W,Gw wS W->Calls prog 17 #[.agg #[AI eps,AI buf,AI keys,.slice bo bn c,.slice (some ⟨rb,gF,none⟩) n d,AI se]] W fun e w'=>e=.returned (AI ex)/\Gw W w'):=fun W _=>EP.o W
    have NW:ag (∀ W,Gw wS W->Calls prog 19 #[.slice xo ln xc,AI ex] W fun e w'=>(∃ (o:Option Rn) (E:Int),e=.returned (.tuple #[ptr o,AI E])/\ik ex lx o/\∀ r,o=some r->RA bI w' r/\∀ q,r.S q->wS.heap.size<=q)/\Gw W w'):=fun W g=>by
     have:=aaP OO.o ex xo lx.length xc (ek lx) (ev lx) (eg lx) ER.o.1 ER.o.2 XL.o DE.o.2.1 DE.o.2.2 W (DE.o.1.gw g)
     rw [LL.o] at this;refine this.mono fun e w' ⟨x,y⟩=>⟨?_,y⟩
     obtain ⟨o,E,p1,p2,p3⟩:=nP.place (by rw [LL.o];exact x) DE.o.1.all XL.o (by rw [LL.o];exact Z.o)
     exact ⟨o,E,p1,p2,fun r e=>⟨(p3 r e).1,fun q hq=>Nat.le_trans g.size ((p3 r e).2 q hq)⟩⟩
    have HW:ag (∀ W,Gw wS W->(fun W=>Gw wS W/\W.cell? ⟨bq,0,none⟩=some (AI eps)/\W.cell? ⟨bq,1,none⟩=some (AI buf)/\W.cell? ⟨bq,2,none⟩=some (AI keys)/\W.cell? ⟨bq,3,none⟩=some (.slice bo bn c)/\W.cell? ⟨bq,4,none⟩=some (.slice (some ⟨rb,gF,none⟩) n d)/\W.cell? ⟨bq,5,none⟩=some (AI se)/\bq<W.heap.size/\W.cell? ⟨rb,gF+i,none⟩=some (.slice xo ln xc)) W):=fun W g=>⟨g,by
     obtain ⟨x0,x1,x2,x3,x4,x5,x6⟩:=FC.o W (BI.o.gw g);exact ⟨x0,x1,x2,x3,x4,x5,x6,(g.cell _ _ bu).trans d0⟩⟩
    have GR:ag (Gw wS wS):=Gw.refl wS;clear z;go_upto_region 7 with fail;clear t1 f0 f1 f2 f3 f4 f5 f6 d0;go_region_held3 (fun W=>Gw wS W/\W.cell? ⟨bq,0,none⟩=some (AI eps)/\W.cell? ⟨bq,1,none⟩=some (AI buf)/\W.cell? ⟨bq,2,none⟩=some (AI keys)/\W.cell? ⟨bq,3,none⟩=some (.slice bo bn c)/\W.cell? ⟨bq,4,none⟩=some (.slice (some ⟨rb,gF,none⟩) n d)/\W.cell? ⟨bq,5,none⟩=some (AI se)/\bq<W.heap.size/\W.cell? ⟨rb,gF+i,none⟩=some (.slice xo ln xc))
     ((refine HW.o _ ?_;(repeat (first | exact Gw.refl _ | exact And.left (by assumption) | exact ag.o (by assumption) | refine Gw.drew ?_ | refine Gw.drewN ?_ _));done))
     ((
      first
      | (go_at_call 17;refine (EQ.o _ (by (repeat (first | exact Gw.refl _ | exact And.left (by assumption) | exact ag.o (by assumption) | refine Gw.drew ?_ | refine Gw.drewN ?_ _)))).mono ?_;rintro ex4 w4 ⟨rfl,g4⟩;have G4:ag (Gw wS w4):=(Gw.trans (by (repeat (first | exact Gw.refl _ | exact And.left (by assumption) | exact ag.o (by assumption) | refine Gw.drew ?_ | refine Gw.drewN ?_ _))) g4);clear g4)
      | (go_at_call 19;refine (NW.o _ (by (repeat (first | exact Gw.refl _ | exact And.left (by assumption) | exact ag.o (by assumption) | refine Gw.drew ?_ | refine Gw.drewN ?_ _)))).mono ?_;rintro ex5 w5 ⟨⟨o,E5,rfl,pl,fr⟩,g5⟩;have G5:ag (Gw wS w5):=(Gw.trans (by (repeat (first | exact Gw.refl _ | exact And.left (by assumption) | exact ag.o (by assumption) | refine Gw.drew ?_ | refine Gw.drewN ?_ _))) g5);have PF:ag (ik ex lx o/\∀ r,o=some r->RA bI w5 r/\∀ q,r.S q->wS.heap.size<=q):=⟨pl,fr⟩;clear g5 pl fr)))
    all_goals
     obtain ⟨w6,sy⟩:∃ w6,w6=w5:=⟨_,rfl⟩;subst sy;obtain ⟨q,hq⟩:∃ q,ptr o=.pointer q:=by cases o<;>exact ⟨_,rfl⟩
     have PL:ag (ik ex (L.getD i []) o):=by rw [LX.o];exact PF.o.1
     have FO:ag (∀ r,o=some r->RA bI w6 r/\¬ r.S mb):=fun r e=>⟨(PF.o.2 r e).1,fun x=>by have:=(PF.o.2 r e).2 _ x;have:=II.o.lt;omega⟩
     have I6:ag (RI bI 60 w w6 mb mc A):=II.o.gw bI.kp G5.o;have B6:ag (aT w [(bq,#[AI eps,AI buf,AI keys,.slice bo bn c,.slice (some ⟨rb,gF,none⟩) n d,AI se],27)] w6):=BI.o.gw G5.o;clear PF EQ NW HW GR G4 G5 II BI Z;rw [hq];have QA:ag (ptr o=.pointer q):=hq;have NX:ag (∀ (w7:World) (b7 c7:Nat),w7.ownsRow w.heap.size 60 1 (.slice (some ⟨b7,0,none⟩) (i+1) c7) (i+1) (A.map ptr++[.pointer q])->(w6.alloc (.cells #[.pointer q] 60)).grownBy w7 (some mb)->(b7=mb\/w6.heap.size<=b7)->RI bI 60 w w7 b7 c7 (A++[o])/\cW ex (L.take (i+1)) (A++[o])/\(A++[o]).length=i+1/\aT w [(bq,#[AI eps,AI buf,AI keys,.slice bo bn c,.slice (some ⟨rb,gF,none⟩) n d,AI se],27)] w7):=fun w7 b7 c7 r1 r2 o7=>by
      rw [<-QA.o] at r1;refine ⟨I6.o.app bI.kp FO.o (by rw [AN.o];exact r1) r2 o7,RR.o.next (by rw [LN.o];exact LT.o) PL.o,by rw [List.length_append,AN.o];rfl,?_⟩
      have gx:Gx (fun q=>q=mb) w6 w7:=Gx.grown (w':=w6.alloc (.cells #[.pointer q] 60)) ((Gx.refl _ w6).alloc _ _) r2 (fun k e=>by cases e;exact .inl rfl)
      refine ⟨Gx.gw I6.o.gw0 gx (fun q hq=>by rw [hq];exact I6.o.lt.1),fun x hx=>?_⟩
      refine (gx.block x.1 (Array.getElem?_eq_some_iff.1 (B6.o.lie x hx)).1 fun e=>?_).trans (B6.o.lie x hx)
      have fP:x.1=bq:=by
       rcases List.mem_cons.1 hx with rfl | y
       ·rfl
       ·cases y
      have:=MB.o
      omega
     have OA:ag (w6.ownsRow w.heap.size 60 1 (.slice (some ⟨mb,0,none⟩) i mc) i (A.map ptr)):=by
      have:=I6.o.own
      rw [AN.o] at this;exact this
     go_wp2_with (at_builtin;refine wpList_append_own_at _ rfl _ _ 59 rfl w.heap.size 60 ia (.pointer none) 1 8 underlying59 xW rD xX xY rfl (by decide) _ i _ rfl (OA.o.alloc _) ⟨w6.heap.size,0,none⟩ 1 1 [_] rfl rfl (vU w6 _ 60) (fun u hu=>by simp at hu;subst hu;rfl) (by simp only [maxLen];omega) (by omega) (by have:=OA.o.lt mb rfl;simp;omega) ?_)
     intro v7 w7 r1 r2 r3 r4;obtain ⟨b7,c7,rfl,_,_,_⟩:=dh r1 (by simpa using r3)
     have o7:b7=mb\/w6.heap.size<=b7:=by
      rcases r4 with q | q
      ·have q':b7=mb:=by simpa [Value.ownBlock] using q
       exact .inl q'
      ·have q':b7=w6.heap.size+1:=by simpa [Value.ownBlock] using q
       exact .inr (by omega)
     obtain ⟨n1,n2,n3,n4⟩:=NX.o w7 b7 c7 r1 r2 o7;have I7:ag _:=n1;have R7:ag _:=n2;have A7:ag _:=n3;have B7:ag _:=n4;have M7:ag (bq<b7):=by
      show bq<b7;rcases o7 with e | e
      ·rw [e];exact MB.o
      ·have:=MB.o
       have:=I6.o.lt
       omega
     clear r1 r2 r3 r4 n1 n2 n3 n4 NX OA QA I6 B6 FO PL;go_wp2_with fail;go_roundg (n-(i+1))
     case measure=>omega
     case rel=>exact ⟨i+1,b7,c7,_,A++[o],rfl,rfl,rfl,by omega,Nat.le_refl _,A7,R7,I7,B7,M7⟩
  ·have ei:i=n:=by omega
   subst ei;have sA:ag (Calls prog 20 #[.agg #[AI eps,AI buf,AI keys],.slice bo bn c,.slice (some ⟨mb,0,none⟩) i mc] wS fun e w'=>ka wS w' e eps buf keys b A/\Gw wS w'):=by
    have fw:tot A<=aF L:=by have:=RR.o.few;rwa [List.take_of_length_le (by rw [LN.o];exact Nat.le_refl _)] at this
    have:=ada eps buf keys bo (some ⟨mb,0,none⟩) c mc b A (by have:=BB.o.1;omega) (by rw [AN.o];omega) BB.o.2.2.1 BB.o.2.2.2 wS (EA.o.gw II.o.gw0) II.o.pr
    rw [AN.o,BN.o] at this;exact this
   clear ar a1 a2;go_wp2_with fail;refine Calls.mono sA.o ?_;rintro e w3 ⟨⟨E,nn,o1,x1⟩,g3⟩;have ak:ag (∀ (ov:Ending),((E≠0/\ov=.returned (.tuple #[.pointer none,AI E]))\/(E=0/\∃ p,ov=.returned (.tuple #[BY p,AI 0])))->(∃ A,cW ex L A/\ka w w3 ov eps buf keys b A)/\Gw w w3):=fun ov x=>⟨⟨A,by have:=RR.o;rwa [List.take_of_length_le (by rw [LN.o];exact Nat.le_refl _)] at this,E,nn,o1,x⟩,II.o.gw0.trans g3⟩
   rcases x1 with ⟨e0,rfl⟩ | ⟨e0,p,rfl⟩
   ·have X:ag _:=ak.o _ (.inl ⟨e0,rfl⟩)
    clear ak e0 o1 g3 sA f0 f1 f2 f3 f4 f5 f6;go_wp2_with fail;go_ret2;exact X.o
   ·subst e0
    have X:ag _:=ak.o _ (.inr ⟨rfl,p,rfl⟩);clear ak o1 g3 sA f0 f1 f2 f3 f4 f5 f6;go_wp2_with fail;go_ret2;exact X.o
def Bf (u:World) (rb:Nat) (rs:List (Option Rn)) (t:Nat):Prop:=rb<u.heap.size/\∀ k,k<t->u.cell? ⟨rb,k,none⟩=some (ptr (rs.getD k none))
theorem Bf.of {u:World} {base rb c t:Nat} {rs:List (Option Rn)} (row:RO u base (.slice (some ⟨rb,0,none⟩) t c) (rs.take t)) (le:t<=rs.length):Bf u rb rs t:=by
 refine ⟨(World.ownsRow.lt row rb rfl).2,fun k hk=>?_⟩
 have e:(rs.take t).length=t:=by rw [List.length_take];omega
 have nE:k<(rs.take t).length:=by omega
 unfold RO at row;rw [e] at row;rw [World.ownsRow.cellAt row k (by omega),List.getElem?_map,List.getElem?_eq_getElem nE,List.getElem_take,List.getD_eq_getElem?_getD,List.getElem?_eq_getElem (by omega)]
 rfl
def cX (HR:bQ) (w u:World) (bq p:Nat) (eps buf keys:Int) (cs:Array Value) (t:Nat):Prop:=∃ F l rs B W live,Tw HR w u p F eps buf keys l rs B W live/\BW l rs B W t/\u.heap[bq]?=some (.cells cs 27 (0,0))/\∀ q,F q->bq<q
section
variable {HR:bQ} {w u u':World} {bq p t:Nat} {F:Nat->Prop} {eps buf keys:Int} {l:List ah} {rs:List (Option Rn)} {B W:Int} {live n:Nat} {e:ah} {cs:Array Value}
theorem cX.to (K:Kp HR) (h:cX HR w u bq p eps buf keys cs t) (g:Gw u u'):cX HR w u' bq p eps buf keys cs t:=by
 obtain ⟨F,l,rs,B,W,n,a,b,d,e⟩:=h;exact ⟨F,l,rs,B,W,n,a.to K g,b,(g.below.block bq (aC d)).trans d,e⟩
theorem cX.more (h:cX HR w u bq p eps buf keys cs t):cX HR w u bq p eps buf keys cs (t+1):=by
 obtain ⟨F,l,rs,B,W,n,a,b,d,e⟩:=h;exact ⟨F,l,rs,B,W,n,a,b.mono (Nat.le_succ _),d,e⟩
theorem cX.step (ht:t+1<=1048576) (m:Tw HR w u p F eps buf keys l rs B W live) (bw:BW l rs B W t) (hb:u.heap[bq]?=some (.cells cs 27 (0,0))) (hF:∀ q,F q->bq<q) (c:rT HR u u' p F eps buf keys l rs B W e n):cX HR w u' bq p eps buf keys cs (t+1):=by
 obtain ⟨F3,l3,rs3,B3,W3,t3,lay,nf,gx3⟩:=m.step c;refine ⟨F3,l3,rs3,B3,W3,n,t3,bw.step (by omega) m.ht.inv.ok lay,(gx3.block bq (aC hb) (fun x=>by have:=hF bq x;omega)).trans hb,fun q hq=>?_⟩
 rcases nf.1 q hq with x | x
 ·exact hF q x
 ·have:=aC hb;omega
theorem cX.put (H:bJ HR) (ht:t+1<=1048576) (h:cX HR w u bq p eps buf keys cs t) (k v:Int) (k0:0<=k/\k<18446744073709551616) (v0:0<=v/\v<18446744073709551616) :
  Calls prog 10 #[BY p,By k,By v] u fun e w'=>(∃ E,e=.returned (AI E))/\cX HR w w' bq p eps buf keys cs (t+1):=by
 obtain ⟨F,l,rs,B,W,live,m,bw,hb,hF⟩:=h;have bd:=bw.in (by omega)
 refine (Rz H m.ht bd.1 bd.2.1 bd.2.2 k v k0 v0).mono fun e w' hp=>?_
 rcases hp with ⟨_,x,y⟩ | ⟨_,x,y⟩
 ·exact ⟨⟨_,x⟩,(cX.more (cX.to H.kp ⟨F,l,rs,B,W,live,m,bw,hb,hF⟩ y))⟩
 ·exact ⟨⟨_,x⟩,cX.step ht m bw hb hF y⟩
theorem cX.del (H:bJ HR) (ht:t+1<=1048576) (h:cX HR w u bq p eps buf keys cs t) (k:Int) (k0:0<=k/\k<18446744073709551616) :
  Calls prog 11 #[BY p,By k] u fun e w'=>(∃ E,e=.returned (.bool E))/\cX HR w w' bq p eps buf keys cs (t+1):=by
 obtain ⟨F,l,rs,B,W,live,m,bw,hb,hF⟩:=h;have bd:=bw.in (by omega)
 refine (Ha H m.ht bd.1 bd.2.1 bd.2.2 k k0).mono fun e w' hp=>?_
 rcases hp with ⟨_,x,y⟩ | ⟨_,x,_,y⟩
 ·exact ⟨⟨_,x⟩,(cX.more (cX.to H.kp ⟨F,l,rs,B,W,live,m,bw,hb,hF⟩ y))⟩
 ·exact ⟨⟨_,x⟩,cX.step ht m bw hb hF y⟩
end
theorem adg {HR:bQ} (H:bJ HR) (O5:oU) (eps buf keys se:Int) (bo ro:Option Addr) (c d:Nat) (b:List ah) (L:List (List ah)) (e0:-9223372036854775808<=eps/\eps<9223372036854775808) (s0:-9223372036854775808<=se/\se<9223372036854775808) (hc:b.length<=c) (hz:bo=none->b.length=0/\c=0) (ao:Option Addr) (c1:Nat) (sl:List (Int×Int×Int)) (ht:b.length+aF L+sl.length<=1048575) (hl:L.length<=1048576) (w:World) (he:EL w bo b) (hv:EV w ro L) (h:sX w ao sl) :
  Calls prog 3 #[.agg #[AI eps,AI buf,AI keys,.slice bo b.length c,.slice ro L.length d,AI se],.slice ao sl.length c1] w fun e w'=>e=.returned (.bool true)/\Gw w w':=by
 have HH:ag (bJ HR):=H;have SC:ag (sX w ao sl):=h;have SH:ag (∀ W,Calls prog 4 #[] W fun e w'=>e=.returned (.bool true)/\Gw W w'):=fun W=>acX H W
 have TW:ag (∀ W,Gw w W->Calls prog 5 #[.agg #[AI eps,AI buf,AI keys,.slice bo b.length c,.slice ro L.length d,AI se]] W fun e w'=>(∃ A,cW (gE eps se) L A/\kO HR W w' e eps buf keys b A)/\Gw W w'):=fun W g=>ade H eps buf keys se bo ro c d b L e0 s0 (by omega) hl hc hz W (he.gw g) (hv.gw g)
 have RF:ag (∀ W,Gw w W->Calls prog 6 #[.agg #[AI eps,AI buf,AI keys,.slice bo b.length c,.slice ro L.length d,AI se]] W fun e w'=>(∃ A,cW (gE eps se) L A/\ka W w' e eps buf keys b A)/\Gw W w'):=fun W g=>adf O5 eps buf keys se bo ro c d b L e0 s0 (by omega) hl hc hz W (he.gw g) (hv.gw g)
 obtain ⟨n,hn⟩:∃ n,sl.length=n:=⟨_,rfl⟩;have SN:ag (sl.length=n):=hn;obtain ⟨ln,au⟩:∃ n,L.length=n:=⟨_,rfl⟩;obtain ⟨bn,fL⟩:∃ n,b.length=n:=⟨_,rfl⟩;have BN:ag (b.length=bn):=fL;have T0:ag (bn+aF L+n<=1048575):=by show _<=_;omega
 have n0:n<=1048575:=by omega
 rw [au,fL] at TW RF ⊢;rw [hn];obtain ⟨bq,aE⟩:∃ b,w.heap.size=b:=⟨_,rfl⟩;have BQ:ag (w.heap.size=bq):=aE;have B0:ag (aT w [(bq,#[AI eps,AI buf,AI keys,.slice bo bn c,.slice ro ln d,AI se],27)] (w.alloc (.cells #[AI eps,AI buf,AI keys,.slice bo bn c,.slice ro ln d,AI se] 27))):=by
  have a:=(aT.nil (Gw.refl w)).add #[AI eps,AI buf,AI keys,.slice bo bn c,.slice ro ln d,AI se] 27;rw [aE] at a;exact a
 have FC:ag (∀ W,aT w [(bq,#[AI eps,AI buf,AI keys,.slice bo bn c,.slice ro ln d,AI se],27)] W->(W.cell? ⟨bq,0,none⟩=some (AI eps)/\W.cell? ⟨bq,1,none⟩=some (AI buf)/\W.cell? ⟨bq,2,none⟩=some (AI keys)/\W.cell? ⟨bq,3,none⟩=some (.slice bo bn c)/\W.cell? ⟨bq,4,none⟩=some (.slice ro ln d)/\W.cell? ⟨bq,5,none⟩=some (AI se)/\bq<W.heap.size)):=fun W h=>by
  have x:=h.lie (bq,#[AI eps,AI buf,AI keys,.slice bo bn c,.slice ro ln d,AI se],27) (by simp)
  exact ⟨aj x rfl,aj x rfl,aj x rfl,aj x rfl,aj x rfl,aj x rfl,aC x⟩
 have qn:∀ (p:Nat) (W:World),(binOp .eql 30 (BY p) (.pointer none)).run prog W=.ok (.bool false) W:=fun _ _=>by kernel_rfl
 have qr:∀ (p:Nat) (W:World),(binOp .neq 39 (BY p) (.pointer none)).run prog W=.ok (.bool true) W:=fun _ _=>by kernel_rfl
 clear H O5 h he hv hl hc hz e0 s0 ht hn au fL aE;go_enter func3,ntmps3;go_wp2_with fail;rw [BQ.o];generalize w.alloc (.cells #[AI eps,AI buf,AI keys,.slice bo bn c,.slice ro ln d,AI se] 27)=w1 at B0 ⊢;refine Calls.mono (SH.o w1) ?_;rintro e w2 ⟨rfl,g2⟩;have B2:ag (aT w [(bq,#[AI eps,AI buf,AI keys,.slice bo bn c,.slice ro ln d,AI se],27)] w2):=B0.o.gw g2;obtain ⟨f0,f1,f2,f3,f4,f5,fl⟩:=FC.o w2 B2.o;clear g2 B0 SH;go_wp2_with fail;refine Calls.mono (TW.o w2 B2.o.gw0) ?_;rintro e w3 ⟨⟨A,ra,E,nn,o1,x1⟩,g3⟩;have pU:ag (cW (gE eps se) L A/\lQ eps buf keys b A E nn):=⟨ra,o1⟩;have B3:ag (aT w [(bq,#[AI eps,AI buf,AI keys,.slice bo bn c,.slice ro ln d,AI se],27)] w3):=B2.o.gw g3;have Z2:ag (w.heap.size<=w2.heap.size/\bq<w2.heap.size):=⟨B2.o.gw0.size,fl⟩;clear g3 B2 TW ra o1 f0 f1 f2 f3 f4 f5 fl;obtain ⟨f0,f1,f2,f3,f4,f5,fl⟩:=FC.o w3 B3.o;have oj:ag (∀ (D:List (Option Rn)) (E':Int) (n':Nat),cW (gE eps se) L D->lQ eps buf keys b D E' n'->E'=E):=fun D E' n' rd o2=>((pU.o.2.al (pU.o.1.al rd)).one o2).symm
 rcases x1 with ⟨e0,rfl⟩ | ⟨e0,p,F,rfl,tw,hF⟩
 ·have RR:ag (Calls prog 6 #[.agg #[AI eps,AI buf,AI keys,.slice bo bn c,.slice ro ln d,AI se]] w3 fun e w'=>e=.returned (.tuple #[.pointer none,AI E])/\Gw w3 w'):=(RF.o w3 B3.o.gw0).mono fun e w' ⟨⟨D,rd,E',n',o2,x2⟩,g⟩=>⟨by
   have ee:=oj.o D E' n' rd o2;rcases x2 with ⟨_,y⟩ | ⟨z,_⟩
   ·rw [y,ee]
   ·exact absurd (ee.symm.trans z) e0,g⟩
  have t1:(E != 0)=true:=by simpa using e0
  clear e0 RF oj pU Z2;go_wp2_with fail;refine Calls.mono RR.o ?_;rintro e w4 ⟨rfl,g4⟩;have G4:ag (Gw w w4):=B3.o.gw0.trans g4;clear g4 RR f0 f1 f2 f3 f4 f5 fl;go_wp2_with fail;go_ret;exact ⟨rfl,G4.o⟩
 subst e0;have RR:ag (Calls prog 6 #[.agg #[AI eps,AI buf,AI keys,.slice bo bn c,.slice ro ln d,AI se]] w3 fun e w'=>(∃ q,e=.returned (.tuple #[BY q,AI 0]))/\Gw w3 w'):=(RF.o w3 B3.o.gw0).mono fun e w' ⟨⟨D,rd,E',n',o2,x2⟩,g⟩=>⟨by
  have ee:=oj.o D E' n' rd o2;rcases x2 with ⟨z,_⟩ | ⟨_,q,y⟩
  ·exact absurd ee z
  ·exact ⟨q,y⟩,g⟩
 have T3:ag (Tw HR w w3 p F eps buf keys b (aH A) 0 0 nn/\∀ q,F q->bq<q):=⟨⟨tw,fun q hq=>Nat.le_trans Z2.o.1 (hF q hq),B3.o.gw0⟩,fun q hq=>by have:=hF q hq;have:=Z2.o.2;omega⟩
 have Bg:ag (eX eps buf keys):=tw.cf;have BA:ag (BW b (aH A) 0 0 (bn+aF L)):=⟨by have h1:=pU.o.1.few;have h2:=RD A;have h3:=BN.o;omega,⟨Int.le_refl _,by omega⟩,Int.le_refl _,by omega⟩
 clear RF oj pU Z2 tw hF;go_wp2_with fail;refine Calls.mono RR.o ?_;rintro e w4 ⟨⟨qd,rfl⟩,g4⟩;have M4:ag (cX HR w w4 bq p eps buf keys #[AI eps,AI buf,AI keys,.slice bo bn c,.slice ro ln d,AI se] (bn+aF L)):=cX.to HH.o.kp ⟨F,b,aH A,0,0,nn,T3.o.1,BA.o,B3.o.lie (bq,#[AI eps,AI buf,AI keys,.slice bo bn c,.slice ro ln d,AI se],27) (by simp),T3.o.2⟩ g4
 clear g4 RR T3 BA B3 f0 f1 f2 f3 f4 f5 fl;obtain ⟨t0,Dt⟩:∃ t,bn+aF L=t:=⟨_,rfl⟩;have t0n:t0+n<=1048575:=by have:=T0.o;omega
 rw [Dt] at M4;clear Dt T0 BN;go_wp2_with fail;go_loopg [10,11,12,13,14] (n+1) (fun gg iB gV nM rJ ru wr=>∃ (i:Nat) (v11 v12 S5 Ta:Value),iB=AI (i:Int)/\gV=v11/\nM=v12/\rJ=S5/\ru=Ta/\i<=n+1/\n+1-i<=gg/\ag (cX HR w wr bq p eps buf keys #[AI eps,AI buf,AI keys,.slice bo bn c,.slice ro ln d,AI se] (t0+i)))
 case atStart=>exact ⟨0,_,_,_,_,rfl,rfl,rfl,rfl,rfl,Nat.zero_le _,by omega,M4⟩
 case round =>
  clear M4;obtain ⟨i,v11,v12,S5,Ta,rfl,rfl,rfl,rfl,rfl,a1,a2,M⟩:=hrel;obtain ⟨wS,bj⟩:∃ wx,wx=wr:=⟨_,rfl⟩;subst bj;by_cases hle:i<=n
  ·have Tb:decide ((i:Int)<=(n:Int))=true:=by simp;omega
   have M0:ag (cX HR w wS bq p eps buf keys #[AI eps,AI buf,AI keys,.slice bo bn c,.slice ro ln d,AI se] (t0+i)):=M;obtain ⟨F2,l,rs,B,W,live,m0,bw,bqb,fb⟩:=M.o;have RU:ag (Calls prog 7 #[BY p] wS fun e w'=>(∃ (t b c:Nat),e=.returned (.slice (some ⟨b,0,none⟩) t c)/\eu rs t/\RO w' wS.heap.size (.slice (some ⟨b,0,none⟩) t c) (rs.take t))/\Gw wS w'):=acE m0.ht
   have TI:ag (gh eps buf keys l rs live):=m0.ht.inv;have Tc:ag (∀ r,some r∈rs->RA HR wS r):=fun r hr=>m0.ht.pr r hr
   have MK:ag (cX HR w wS bq p eps buf keys #[AI eps,AI buf,AI keys,.slice bo bn c,.slice ro ln d,AI se] (t0+i)):=M;clear m0 bw bqb fb M;go_wp2_with fail;refine Calls.mono RU.o ?_;rintro e u1 ⟨⟨t,rb,rc,rfl,top,row⟩,g1⟩;have TL:ag (t<=rs.length):=top.le;have t40:t<=40:=by have:=TI.o.len;have:=top.le;omega
   have rR:ag (RO u1 wS.heap.size (.slice (some ⟨rb,0,none⟩) t rc) (rs.take t)):=row;have RW:ag (Bf u1 rb rs t):=Bf.of row top.le;have M1:ag (cX HR w u1 bq p eps buf keys #[AI eps,AI buf,AI keys,.slice bo bn c,.slice ro ln d,AI se] (t0+i)):=MK.o.to HH.o.kp g1;have Td:ag (∀ r,some r∈rs->RA HR u1 r):=fun r hr=>(Tc.o r hr).gw HH.o.kp g1
   have FB:ag (∀ W,Gw u1 W->W.cell? ⟨bq,1,none⟩=some (AI buf)/\W.cell? ⟨bq,2,none⟩=some (AI keys)/\bq<W.heap.size):=fun W g=>by
    obtain ⟨F9,l9,Te,B9,W9,n9,a,b,dd,e⟩:=M1.o.to HH.o.kp g;exact ⟨aj dd rfl,aj dd rfl,aC dd⟩
   obtain ⟨h1,h2,h3⟩:=FB.o u1 (Gw.refl u1);have Ih:1<=buf:=Bg.o.2.1.1;have Tf:buf<=4294967296:=Bg.o.2.1.2;have mf:=acN Ih Tf;clear g1 top row RU Tc MK rR;go_wp2_with fail;clear h1 h2 h3;go_loopg [12,13,14] t (fun gg nM rJ ru wr=>∃ (k:Nat) (m:Int) (Tg:Value),nM=AI m/\rJ=AI (k:Int)/\ru=Tg/\k<=t/\t-k<=gg/\1<=m/\m<=8589934592/\ct buf (k:Int)<=m/\ag (Gw u1 wr))
   case atStart=>exact ⟨0,buf,_,rfl,rfl,rfl,Nat.zero_le _,by omega,Ih,by omega,mf,(show ag _ from Gw.refl u1)⟩
   case round =>
    clear mf;obtain ⟨k,m,Tg,rfl,rfl,rfl,b1,b2,m1,m2,m3,GU⟩:=hrel;obtain ⟨wT,xx⟩:∃ wx,wx=wr:=⟨_,rfl⟩;subst xx;by_cases hk:k<t
    ·have nE:(k:Int)<(t:Int):=by omega
     obtain ⟨uD,xZ⟩:=acM Ih Tf m3 m2 m1;obtain ⟨rbl,Th⟩:=RW.o;have Ti:u1.cell? ⟨rb,k,none⟩=some (ptr (rs.getD k none)):=Th k hk;have x7:wT.cell? ⟨rb,k,none⟩=some (ptr (rs.getD k none)):=(GU.o.cell _ _ rbl).trans Ti;have mw:m<=4294967296->IntKind.i64.wrap (2*m)=2*m:=fun _=>by rw [IntKind.wrap_i64];omega
     clear Th Ti;obtain ⟨o,ho⟩:∃ o,rs.getD k none=o:=⟨_,rfl⟩;rw [ho] at x7;cases o with
     | none =>
      have Ii:wT.cell? ⟨rb,k,none⟩=some (.pointer none):=x7;clear ho x7;by_cases hm:m<=4294967296
      ·have tm:decide (m<=4294967296)=true:=by simpa using hm
       have w2:=mw hm;obtain ⟨y1,y2⟩:=uD hm;clear uD xZ mw;go_wp2_with fail;go_roundg (t-(k+1))
       case measure=>omega
       case rel=>exact ⟨k+1,2*m,_,rfl,rfl,rfl,by omega,Nat.le_refl _,by omega,y2,y1,GU⟩
      ·have tm:decide (m<=4294967296)=false:=by simpa using hm
       have y1:=xZ (by omega)
       clear uD xZ mw;go_wp2_with fail;go_roundg (t-(k+1))
       case measure=>omega
       case rel=>exact ⟨k+1,m,_,rfl,rfl,rfl,by omega,Nat.le_refl _,m1,m2,y1,GU⟩
     | some r =>
      have Ii:wT.cell? ⟨rb,k,none⟩=some (BY (r.p)):=x7;have mem:some r∈rs:=jo (by have:=TL.o;omega) ho
      have sm:=TI.o.small ho;have fit:=TI.o.run k r ho;have k1:keys<=4294967296:=Bg.o.2.2.1.2;have k0:1<=keys:=Bg.o.2.2.1.1;have LE:ag (∀ W,Gw wT W->Calls prog 8 #[BY (r.p)] W fun e w'=>e=.returned (AI (r.l.length:Int))/\Gw W w'):=fun W g=>HH.o.len (((Td.o r mem).gw HH.o.kp GU.o).gw HH.o.kp g).h
      obtain ⟨nr,Bh⟩:∃ x,r.l.length=x:=⟨_,rfl⟩;rw [Bh] at LE;have s1:decide ((nr:Int)<1)=false:=by have:=fit.2.1;simp;omega
      have kw:IntKind.i64.wrap (2*keys)=2*keys:=by rw [IntKind.wrap_i64];omega
      have s2:decide (2*keys<(nr:Int))=false:=by rw [Bh] at sm;simp;omega
      have s3:decide (m<(nr:Int))=false:=by have:=fit.2.2.1;rw [Bh] at this;simp;omega
      generalize r.p=rp at Ii LE;clear ho x7 mem sm fit Bh;have xQ:ag _:=LE.o wT (Gw.refl wT);by_cases hm:m<=4294967296
      rotate_left
      have tm:decide (m<=4294967296)=false:=by simpa using hm
      have ox:ag (∃ m':Int,m'=m/\1<=m'/\m'<=8589934592/\ct buf ((k+1:Nat):Int)<=m'):=⟨m,rfl,m1,m2,xZ (by omega)⟩
      rotate_left
      have tm:decide (m<=4294967296)=true:=by simpa using hm
      have w2:=mw hm;have ox:ag (∃ m':Int,m'=2*m/\1<=m'/\m'<=8589934592/\ct buf ((k+1:Nat):Int)<=m'):=⟨2*m,rfl,by omega,(uD hm).2,(uD hm).1⟩
      rotate_left
      all_goals
       clear uD xZ mw m3;go_wp2_with fail;refine Calls.mono xQ.o ?_;rintro e u2 ⟨rfl,g2⟩;obtain ⟨h1,h2,h3⟩:=FB.o u2 (GU.o.trans g2);have G2:ag (Gw u1 u2):=GU.o.trans g2;clear g2 LE xQ Ii;go_wp2_with fail;go_roundg (t-(k+1))
       case measure=>omega
       case rel =>
        obtain ⟨m',rfl,y1,y2,y3⟩:=ox.o;exact ⟨k+1,_,_,rfl,rfl,rfl,by omega,Nat.le_refl _,y1,y2,y3,G2⟩
    ·have ek:k=t:=by omega
     subst ek;have MT:ag (cX HR w wT bq p eps buf keys #[AI eps,AI buf,AI keys,.slice bo bn c,.slice ro ln d,AI se] (t0+i)):=M1.o.to HH.o.kp GU.o;clear FB M1 Td RW TL TI m1 m2 m3 GU qr;by_cases hi:i<n
     ·have gX:(i:Int)<(n:Int):=by omega
      have gi:sl[i]?=some (sl.getD i (0,0,0)):=by rw [List.getElem?_eq_getElem (by rw [SN.o];exact hi),List.getD_eq_getElem?_getD,List.getElem?_eq_getElem (by rw [SN.o];exact hi)];rfl
      have Tj:Gw w wT:=by obtain ⟨F9,l9,Te,B9,W9,n9,a,_⟩:=MT.o;exact a.gw
      obtain ⟨ab,af,rfl,cT,jX⟩:=(SC.o.gw Tj).cells (by rw [SN.o];omega)
      obtain ⟨x0,x1,x2⟩:=jX i _ gi;obtain ⟨x8,Bi,Bj⟩:=SC.o.bd _ (List.mem_of_getElem? gi);generalize sl.getD i (0,0,0)=x at x0 x1 x2 x8 Bi Bj;obtain ⟨kn,ky,vl⟩:=x;simp only at x0 x1 x2 x8 Bi Bj;have KB:ag ((0<=ky/\ky<18446744073709551616)/\0<=vl/\vl<18446744073709551616):=⟨Bi,Bj⟩;have KK:ag (∀ W,Calls prog 9 #[AI kn] W fun e w'=>e=.returned (AI (nu kn))/\w'=W):=fun W=>Xd kn x8.1 x8.2 W
      clear gi jX x8 Bi Bj Tj;by_cases Bk:nu kn<4
      ·have kd:decide (nu kn<4)=true:=by simpa using Bk
       have PC:ag (∀ W,Gw wT W->Calls prog 10 #[BY p,By ky,By vl] W fun e w'=>(∃ E,e=.returned (AI E))/\cX HR w w' bq p eps buf keys #[AI eps,AI buf,AI keys,.slice bo bn c,.slice ro ln d,AI se] (t0+i+1)):=fun W g=>(MT.o.to HH.o.kp g).put HH.o (by omega) ky vl KB.o.1 KB.o.2
       clear Bk;go_wp2_with fail;refine Calls.mono (KK.o _) ?_;rintro e ux ⟨rfl,rfl⟩;go_upto_region 24 with fail;obtain ⟨wD,Ij⟩:∃ x,ux.drew=x:=⟨_,rfl⟩;have q1:=(Gw.refl ux).drew.cell _ _ cT |>.trans x1
       have q2:=(Gw.refl ux).drew.cell _ _ cT |>.trans x2
       have ql:ab<ux.drew.heap.size:=cT;have PD:ag _:=PC.o ux.drew (Gw.refl ux).drew;rw [Ij] at q1 q2 ql PD;refine wp_region_still_tail 11 (by kernel_rfl) (by kernel_rfl) ?_
       change wpStill _ _ (World.drew ux) (fun a'=>wpList _ _ _ _ a' (World.drew ux)) _ _
       simp only [List.take_succ_cons,List.take_zero,List.drop_succ_cons,List.drop_zero];rw [Ij];clear Ij x0 x1 x2 PC KK kd
       repeat still_step
       refine wpStill_nil ?_;go_wp2_with fail;refine Calls.mono PD.o ?_;rintro e u3 ⟨⟨E3,rfl⟩,m3⟩;have M3:ag (cX HR w u3 bq p eps buf keys #[AI eps,AI buf,AI keys,.slice bo bn c,.slice ro ln d,AI se] (t0+(i+1))):=m3;clear m3 PD;go_wp2_with fail;go_roundg (n+1-(i+1))
       case measure=>omega
       case rel=>exact ⟨i+1,_,_,_,_,rfl,rfl,rfl,rfl,rfl,by omega,Nat.le_refl _,M3⟩
      ·have kd:decide (nu kn<4)=false:=by simpa using Bk
       have PC:ag (Calls prog 11 #[BY p,By ky] wT fun e w'=>(∃ E,e=.returned (.bool E))/\cX HR w w' bq p eps buf keys #[AI eps,AI buf,AI keys,.slice bo bn c,.slice ro ln d,AI se] (t0+i+1)):=MT.o.del HH.o (by omega) ky KB.o.1
       clear Bk;go_wp2_with fail;refine Calls.mono (KK.o _) ?_;rintro e ux ⟨rfl,Tk⟩;have adh:=Tk.symm;subst adh;clear Tk;go_wp2_with fail;refine Calls.mono PC.o ?_;rintro e u3 ⟨⟨E3,rfl⟩,m3⟩;have M3:ag (cX HR w u3 bq p eps buf keys #[AI eps,AI buf,AI keys,.slice bo bn c,.slice ro ln d,AI se] (t0+(i+1))):=m3;clear m3 PC x0 x1 x2;go_wp2_with fail;go_roundg (n+1-(i+1))
       case measure=>omega
       case rel=>exact ⟨i+1,_,_,_,_,rfl,rfl,rfl,rfl,rfl,by omega,Nat.le_refl _,M3⟩
     ·have ei:i=n:=by omega
      subst ei;have M3:ag (cX HR w wT bq p eps buf keys #[AI eps,AI buf,AI keys,.slice bo bn c,.slice ro ln d,AI se] (t0+(i+1))):=MT.o.more;clear hi;go_wp2_with fail;go_roundg (i+1-(i+1))
      case measure=>omega
      case rel=>exact ⟨i+1,_,_,_,_,rfl,rfl,rfl,rfl,rfl,by omega,Nat.le_refl _,M3⟩
  ·have Tb:decide ((i:Int)<=(n:Int))=false:=by simp;omega
   have GE:ag (Gw w wS):=by obtain ⟨F9,l9,Te,B9,W9,n9,a,_⟩:=M.o;exact a.gw
   clear Tb M;go_wp2_with fail;go_ret;exact ⟨rfl,GE.o⟩
end Go.Proofs.YtcboobmfnmgldaaGreat
