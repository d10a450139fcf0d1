import Derived.Test.YtaemofgeciklkaaGreatEDT1
import Derived.Test.YtaemofgeciklkaaGreatEUAl
set_option linter.unusedVariables false
set_option maxHeartbeats 16000000
set_option maxRecDepth 20000
open Go.Proofs.Tryz
namespace Go.Proofs.YtaemofgeciklkaaGreat
open Go.RowKit
theorem Vt (ao bo:Option Addr) (ca cb:Nat) (l:List ah) (hn:l.length<=4000000) (w:World) (ha:EL w ao l) (hb:EL w bo l) :
  Calls prog 33 #[.slice ao l.length ca,.slice bo l.length cb] w fun e w'=>e=χ (.bool true)/\Gw w w':=by
 have EA:ag (EL w ao l):=ha;have EB:ag (EL w bo l):=hb;obtain ⟨n,ax⟩:=qbr l.length;have LN:ag (l.length=n):=ax;rw [ax] at hn ⊢;clear ha hb ax;go_enter func33,ntmps33;go_wp2_with fail;go_loopg [5] n (fun gg s5 wr=>∃ i:Nat,s5=By i/\i<=n/\n-i<=gg/\ag (Gw w wr))
 case atStart=>exact ⟨0,rfl,Γ _,ω,(show ag _ from Gw.refl w)⟩
 case round =>
  obtain ⟨i,rfl,h1,h2,G⟩:=hrel;by_cases ar:i<n
  ·obtain ⟨ab,af,rfl,cN,ju⟩:=(EA.o.gw G.o).cells (by rw [LN.o];omega)
   obtain ⟨bb,bf,rfl,oC,Vu⟩:=(EB.o.gw G.o).cells (by rw [LN.o];omega)
   obtain ⟨c0,c1,c2⟩:=ju i (by rw [LN.o];exact ar)
   obtain ⟨d0,d1,d2⟩:=Vu i (by rw [LN.o];exact ar)
   have dH:(i:Int)<(n:Int):=ω;generalize (l.getD i aq).k=ki at c0 d0;generalize (l.getD i aq).v=vi at c1 d1;generalize (l.getD i aq).g=gi at c2 d2;clear ju Vu;go_wp2_with fail;go_quiet (fail);go_wp2_with fail;go_roundg (n-(i+1))
   case measure=>omega
   case rel=>exact ⟨i+1,by go_num,ω,Yk _,(show ag _ from G.o.drewN _)⟩
  ·go_wp2_with fail
   go_ret
   exact ⟨rfl,G.o⟩
variable {base t:Nat} {rs rs':List (Option Rn)}
theorem afk {b b' c':Nat} (al:Al rs rs') (kJ:rs.length=40) (w:World) (h:SZ w base b t rs) (h':qs w b' t rs') :
  Calls prog 59 #[ψ b 0 t t,ψ b' 0 t c'] w fun e w'=>e=χ (.bool true)/\Gw w w':=by
 have tl:=h.le kJ;have S1:ag (SZ w base b t rs):=h;have S2:ag (qs w b' t rs'):=h';have EQ:ag (Al rs rs'):=al;clear h h' al kJ;go_enter func59,ntmps59;go_wp2_with fail;go_loopg [5] t (fun gg s5 wr=>∃ i:Nat,s5=By (i:Int)/\i<=t/\t-i<=gg/\ag (Gw w wr))
 case atStart=>exact ⟨0,rfl,Γ _,ω,(show ag _ from Gw.refl w)⟩
 case round =>
  obtain ⟨i,rfl,a1,a2,G⟩:=hrel;by_cases ar:i<t
  ·have dH:(i:Int)<(t:Int):=(by omega);have c1:=(S1.o.gw G.o).row.cell ar;have c2:=(G.o.cell _ _ S2.o.2.2).trans (S2.o.2.1 i ar);have d1:=(S1.o.gw G.o).row.lt;have d2:=Θ S2.o.2.2 G.o.size;rw [<-EQ.o.size i] at c2;generalize fQ (rs.getD i none)=x at c1 c2;go_wp2_with fail;go_quiet (fail);go_wp2_with fail;go_roundg (t-(i+1))
   case measure=>omega
   case rel=>exact ⟨i+1,by go_num,ω,Yk _,(show ag _ from G.o.drewN _)⟩
  ·go_wp2_with fail
   go_ret
   exact ⟨rfl,G.o⟩
theorem afl (live len:Nat) (B W_:Int) {b b' t' c':Nat} (al:Al rs rs') (kJ:rs.length=40) (w:World) (h:SZ w base b t rs) (h':qs w b' t' rs') :
  Calls prog 31 #[wO live len B W_ b t,.agg #[By (live:Int),By (len:Int),By B,By W_,ψ b' 0 t' c']] w fun e w'=>e=χ (.bool true)/\Gw w w':=by
 obtain rfl:t'=t:=(al.top h.top).one h'.1 |>.symm
 have SI:ag (∀ W,Gw w W->Calls prog 59 #[ψ b 0 t' t',ψ b' 0 t' c'] W fun e w'=>e=χ (.bool true)/\Gw W w'):=fun W g=>afk al kJ W (h.gw g) ⟨h'.1,fun i hi=>(g.cell _ _ h'.2.2).trans (h'.2.1 i hi),Θ h'.2.2 g.size⟩
 obtain ⟨A,hA⟩:∃ A:Array Value,#[By (live:Int),By (len:Int),By B,By W_,ψ b 0 t' t']=A:=⟨_,rfl⟩;obtain ⟨C,hC⟩:∃ C:Array Value,#[By (live:Int),By (len:Int),By B,By W_,ψ b' 0 t' c']=C:=⟨_,rfl⟩;have B0:ag (bD w [(w.heap.size+1,C,46),(w.heap.size,A,46)] ((w.alloc (.cells A 46)).alloc (.cells C 46))):=by have a:=((bD.nil (Gw.refl w)).add A 46).add C 46;have e:(w.alloc (.cells A 46)).heap.size=w.heap.size+1:=ε;rw [e] at a;exact a
 have CA:ag (∀ W,Gw ((w.alloc (.cells A 46)).alloc (.cells C 46)) W->bD w [(w.heap.size+1,C,46),(w.heap.size,A,46)] W):=fun W g=>B0.o.gw g
 rw [<-hA,<-hC] at B0 CA;obtain ⟨bq,aE⟩:=qbr w.heap.size;have BQ:ag (w.heap.size=bq):=aE;rw [aE] at B0 CA;unfold wO;clear hA hC h h' al kJ aE;go_enter func31,ntmps31;go_wp2_with fail;rw [BQ.o];generalize (w.alloc (.cells #[By (live:Int),By (len:Int),By B,By W_,ψ b 0 t' t'] 46)).alloc (.cells #[By (live:Int),By (len:Int),By B,By W_,ψ b' 0 t' c'] 46)=w1 at B0 CA ⊢;have F:ag (∀ W,Gw w1 W->_):=fun W g=>And.intro ((CA.o W g).lie _ (qat ..)) ((CA.o W g).lie _ (qay _ (qat ..)))
 obtain ⟨x1,x2⟩:=F.o w1 (Gw.refl _);have z1:=aj (o:=4) x1 rfl;have z2:=aj (o:=4) x2 rfl;have z3:=ak x1;have z4:=ak x2
 try dsimp only at z1 z2 z3 z4
 clear x1 x2 CA;go_wp2_with fail;refine (SI.o w1 B0.o.gw0).mono ?_;rintro e w2 ⟨rfl,g2⟩;obtain ⟨x1,x2⟩:=F.o w2 g2;have c0:=aj (o:=0) x1 rfl;have c1:=aj (o:=1) x1 rfl;have c2:=aj (o:=2) x1 rfl;have c3:=aj (o:=3) x1 rfl;have d0:=aj (o:=0) x2 rfl;have d1:=aj (o:=1) x2 rfl;have d2:=aj (o:=2) x2 rfl;have d3:=aj (o:=3) x2 rfl;have y3:=ak x1;have y4:=ak x2
 try dsimp only at c0 c1 c2 c3 d0 d1 d2 d3 y3 y4
 have GE:ag (Gw w w2):=B0.o.gw0.trans g2;clear x1 x2 z1 z2 z3 z4 g2 SI B0 F;go_wp2_with fail;go_ret;exact ⟨rfl,GE.o⟩
variable {HR:bH} {w:World}
theorem afm (H:bj HR) {lb lc rb cc:Nat} (ro:RO w base (ψ lb 0 t lc) (rs.take t)) (tp:cX rs t) (kJ:rs.length=40) (hr:∀ r,some r∈rs->RA HR w r) (hc:∀ i,i<40->w.cell? (φ rb i)=some (ptr (rs'.getD i none))) (hb:rb<w.heap.size) (fP:∀ r,some r∈rs'->RA ba w r) (al:Al rs rs') :
  Calls prog 34 #[ψ lb 0 t lc,ψ rb 0 40 cc] w fun e w'=>e=χ (.bool true)/\Gw w w':=by
 have HH:ag (bj HR):=H;have AL:ag (Al rs rs'/\rs'.length=40):=⟨al,by rw [<-al.len];exact kJ⟩
 have TP:ag (cX rs t/\rs.length=40):=⟨tp,kJ⟩;have PA:ag (∀ r,some r∈rs->RA HR w r):=hr;have PD:ag (∀ r,some r∈rs'->RA ba w r):=fP;have t40:t<=40:=by rw [<-kJ];exact tp.le
 have PRL:ag (∀ W,Gw w W->(∀ i,i<t->W.cell? (φ lb i)=some (ptr (rs.getD i none))/\lb<W.heap.size)/\∀ i,i<40->W.cell? (φ rb i)=some (ptr (rs'.getD i none))/\rb<W.heap.size):=fun W g=>by
  refine ⟨fun i hi=>?_,fun i hi=>⟨(g.cell _ _ hb).trans (hc i hi),Θ hb g.size⟩⟩
  have lt:(rs.take t).length=t:=by rw [qav];omega
  have r3:W.ownsRow base 108 1 (ψ lb 0 t lc) t ((rs.take t).map ptr):=by
   have:=ro.gw g
   unfold RO at this;rw [lt] at this;exact this
  have e1:(rs.take t).getD i none=rs.getD i none:=by rw [qag,List.getElem?_take,Ym hi,<-List.getD_eq_getElem?_getD]
  have dQ:i<(rs.take t).length:=ω;refine ⟨?_,(World.ownsRow.lt r3 lb rfl).2⟩;have:=World.ownsRow.cellAt r3 i ω;rw [this,List.getElem?_map,qah dQ,<-fI dQ,e1];rfl
 have G0:ag (Gw w w):=Gw.refl w;clear H al ro tp hr hc hb fP kJ;go_enter func34,ntmps34;go_wp2_with fail;go_loopg [5] 40 (fun gg s5 wr=>∃ i:Nat,s5=By (i:Int)/\i<=40/\40-i<=gg/\ag (Gw w wr))
 case atStart=>exact ⟨0,rfl,Γ _,ω,G0⟩
 case round =>
  clear G0;obtain ⟨i,rfl,a1,a2,G⟩:=hrel;obtain ⟨wS,aS⟩:=qbs wr;subst aS;obtain ⟨L1,L2⟩:=PRL.o wS G.o;by_cases ar:i<40
  ·have dH:(i:Int)<40:=(by omega);obtain ⟨ci,cl⟩:=L2 i ar;rcases jk rs i with e | ⟨r,e⟩
   ·rw [AL.o.1.no e] at ci
    have cH:wS.cell? (φ rb i)=some (.pointer none):=ci;by_cases it:i<t
    ·have Ki:(i:Int)<(t:Int):=(by omega);obtain ⟨k1,kl⟩:=L1 i it;rw [e] at k1;have DE:wS.cell? (φ lb i)=some (.pointer none):=k1;clear e ci k1 L1 L2;go_wp2_with fail;go_roundg (40-(i+1))
     case measure=>omega
     case rel=>exact ⟨i+1,by go_num,ω,Yk _,G⟩
    ·have Ki:¬ (i:Int)<(t:Int):=(by omega);have it2:(t:Int)<=(i:Int):=ω;clear e ci L1 L2;go_wp2_with fail;go_roundg (40-(i+1))
     case measure=>omega
     case rel=>exact ⟨i+1,by go_num,ω,Yk _,G⟩
   ·have it:i<t:=by
     refine Nat.lt_of_not_le fun x=>?_
     rw [TP.o.1.no i x] at e;cases e
    have Ki:(i:Int)<(t:Int):=ω;have t1:decide (t<=i)=false:=(by simpa using it);have t2:decide ((40:Int)<=(i:Int))=false:=(by simpa using dH);obtain ⟨k1,kl⟩:=L1 i it;obtain ⟨r',e',y1,y2,y3⟩:=AL.o.1.is e;rw [e'] at ci;rw [e] at k1;have cH:wS.cell? (φ rb i)=some (.pointer (some (φ r'.p 0))):=ci;have DE:wS.cell? (φ lb i)=some (IS (r.p)):=k1;have RR:=(PA.o r (kG (by rw [TP.o.2];exact ar) e)).gw HH.o.kp G.o
    have RD:=(PD.o r' (kG (by rw [AL.o.2];exact ar) e')).gw ba.kp G.o
    have few:=RR.few;obtain ⟨pp,Sp,Kj,yU,yV⟩:=HH.o.pile RR.h;have rl:=HH.o.lt RR.h r.p (HH.o.own RR.h);obtain ⟨eo,ec,lo,Vv,x1,xe,xv⟩:=RD.h.opened;obtain ⟨d0,d1,d2⟩:=tE x1;have xl:r'.p<wS.heap.size:=ak x1;rw [y2] at d0;have XE:ag (EL wS eo r.l):=(by have:=xe;rw [y2] at this;exact this);rw [y1] at d1;rw [y3] at d2;have EP:ag (∀ W,Gw wS W->Calls prog 62 #[IS pp] W fun e w'=>e=χ (By r.eps)/\w'=W):=fun W gg=>Hi (yU.keep fun q hq=>gg.below.block q (HH.o.lt RR.h q (yV q hq)))
    have LT:Calls prog 61 #[IS (r.p)] wS fun e w'=>(∃ bo c,e=χ (.slice bo r.l.length c)/\EL w' bo r.l)/\Gw wS w':=(HH.o.told RR).mono fun e w' ⟨⟨bo,c,a,b,_⟩,g⟩=>⟨⟨bo,c,a,b⟩,g⟩
    have LV:ag (∀ W,Gw wS W->Calls prog 63 #[IS (r.p)] W fun e w'=>(∃ mo mc,e=χ (.slice mo r.L.length mc))/\Gw W w'):=fun W gg=>(HH.o.levels (RR.gw HH.o.kp gg).h).mono fun e w' ⟨⟨mo,mc,au,a,_⟩,b⟩=>⟨⟨mo,mc,a⟩,b⟩
    have SL:ag (∀ (W:World) (xo:Option Addr) (xc:Nat),Gw wS W->EL W xo r.l->Calls prog 33 #[.slice xo r.l.length xc,.slice eo r.l.length ec] W fun e w'=>e=χ (.bool true)/\Gw W w'):=fun W xo xc gg hx=>Vt xo eo xc ec r.l ω W hx (XE.o.gw gg)
    obtain ⟨rl',zr⟩:=qbr r.l;rw [zr] at d0 LT SL few;obtain ⟨rn,kH⟩:=qbr rl'.length;obtain ⟨rh,Vw⟩:=qbr r.L.length;rw [kH] at d0 LT SL few;rw [Vw] at d2 LV;generalize r.eps=re at d1 EP;generalize r.p=rp at DE Kj rl LT LV;generalize r'.p=rx at cH d0 d1 d2 xl;have HW:ag (∀ w',Gw wS w'->Gw wS w'/\(w'.cell? (φ lb i)=some (IS rp)/\w'.cell? (φ rb i)=some (IS rx))/\w'.cell? (φ rp 0)=some (IS pp)/\(w'.cell? (φ rx 0)=some (.slice eo rn ec)/\w'.cell? (φ rx 1)=some (By re)/\w'.cell? (φ rx 2)=some (.slice lo rh Vv))/\rx<w'.heap.size/\rp<w'.heap.size):=fun w' gg=>⟨gg,⟨(gg.cell _ _ kl).trans DE,(gg.cell _ _ cl).trans cH⟩,(gg.cell _ _ rl).trans Kj,⟨(gg.cell _ _ xl).trans d0,(gg.cell _ _ xl).trans d1,(gg.cell _ _ xl).trans d2⟩,Θ xl gg.size,Θ rl gg.size⟩
    clear ci e e' y1 y2 y3 k1 RR RD yU yV x1 xe xv zr kH Vw d0 d1 d2 Kj L1 L2;go_wp2_with fail;refine LT.mono ?_;rintro ex w7 ⟨⟨bo,bc,rfl,e7⟩,g7⟩;obtain ⟨G7,⟨k7,c7⟩,p7,⟨d0,_,_⟩,xl7,rl7⟩:=HW.o w7 g7;have G7':ag (Gw wS w7):=G7;have Vx:=SL.o w7 bo bc G7 e7;clear LT g7 e7 G7 SL DE cH xl rl;go_wp2_with fail;refine Vx.mono ?_;rintro ex w8 ⟨rfl,g8⟩;have G8:ag (Gw wS w8):=G7'.o.trans g8;clear g8 Vx k7 c7 p7 d0 xl7 rl7;have ne0:((rh:Int) == rh)=true:=ε;go_wp2_with fail;go_region_held3 (fun w'=>Gw wS w'/\(w'.cell? (φ lb i)=some (IS rp)/\w'.cell? (φ rb i)=some (IS rx))/\w'.cell? (φ rp 0)=some (IS pp)/\(w'.cell? (φ rx 0)=some (.slice eo rn ec)/\w'.cell? (φ rx 1)=some (By re)/\w'.cell? (φ rx 2)=some (.slice lo rh Vv))/\rx<w'.heap.size/\rp<w'.heap.size)
     ((refine HW.o _ ?_;(repeat (first | exact Gw.refl _ | exact Ξ δ | exact ag.o δ | refine Gw.drew ?_ | refine Gw.trans ?_ δ));done))
     ((
      first
      | (go_at_call 62;refine (EP.o _ (by repeat (first | exact Gw.refl _ | exact Ξ δ | exact ag.o δ | refine Gw.drew ?_ | refine Gw.drewN ?_ _))).mono ?_;rintro ex w5 ⟨rfl,rfl⟩)
      | (go_at_call 63;refine (LV.o _ (by repeat (first | exact Gw.refl _ | exact Ξ δ | exact ag.o δ | refine Gw.drew ?_ | refine Gw.drewN ?_ _))).mono ?_;rintro ex w9 ⟨⟨mo,mc,rfl⟩,g9⟩;have G9:ag (Gw wS w9):=(Gw.trans (by repeat (first | exact Gw.refl _ | exact Ξ δ | exact ag.o δ | refine Gw.drew ?_ | refine Gw.drewN ?_ _)) g9);clear g9)))
    all_goals
     have G2:ag (Gw w w9):=G.o.trans G9.o;go_wp2_with fail;go_roundg (40-(i+1))
     case measure=>omega
     case rel=>exact ⟨i+1,by go_num,ω,Yk _,G2⟩
  ·have ei:i=40:=(by omega);subst ei;have Ki:¬ (40:Int)<(t:Int):=ω;clear L1 L2;go_wp2_with fail;go_ret;exact ⟨rfl,G.o⟩
variable {p:Nat} {l:List ah}
theorem afn {t:TypeId} {W:World} {S:Nat->Prop} {most:Int} {l':List ah} {v:Value} (h:HB t w p S most l) (g:Gw w W) (ho:EO W w.heap.size v l') (r:aH ah.k l') (ok:∀ x∈l',x.ok) (rm:(l'.length:Int)<=most):jv t w (W.setCell (φ p 1) v) p S most l':=by
 obtain ⟨v0,h1,h2,h3,h4⟩:=h.lies;have pl:=ak h1;have b1:=(g.below.block p pl).trans h1;have ne:∀ q,v.ownBlock=some q->q≠p:=fun q hq=>by have:=(World.ownsRow.lt ho q hq).1;omega
 refine ⟨fun q=>q=p\/v.ownBlock=some q,⟨⟨v,by rw [uj b1];rfl,lU (tI ho (Γ _)) (fun q hq=>qac _ _ _ _ (ne q hq)),ne,fun q=>Iff.rfl⟩,r,ok,rm⟩,(g.gx S).set (.inl h.own) _ _,fun q hq=>?_⟩
 rcases hq with x | x
 ·rw [x];exact .inl h.own
 ·exact .inr (World.ownsRow.lt ho q x).1
theorem afo {n:Nat} {v:Value} {xs:List Value} (h:w.ownsRow base 71 3 v n xs) (hn:l.length=n) (hx:l.flatMap aI=xs):EO w base v l:=by unfold EO;rw [hn,hx];exact h
theorem afp (e:ah) (r:aH ah.k l):∃ i j:Nat,aV ah.k e.k l=i/\i<=j/\j<=l.length/\ins ah.k e l=l.take i++e::l.drop j/\((i<l.length/\j=i+1/\(l.getD i aq).k=e.k)\/(i<l.length/\j=i/\(l.getD i aq).k≠e.k)\/(i=l.length/\j=i)):=by
 have le:=yG (key:=ah.k) e.k l;cases q:look ah.k e.k l with
 | some y =>
  obtain ⟨a,b⟩:=Ih r q;have lt:=Cn r q;refine ⟨_,_,rfl,Nat.le_succ _,lt,acB r q,.inl ⟨lt,rfl,?_⟩⟩;rw [qag,a];exact b
 | none =>
  refine ⟨_,_,rfl,Yk _,le,Cp q,.inr ?_⟩;by_cases lt:aV ah.k e.k l<l.length
  ·refine .inl ⟨lt,rfl,fun b=>?_⟩
   have a:l[aV ah.k e.k l]?=some (l.getD (aV ah.k e.k l) aq):=(by rw [ji lt];exact qah lt);have:=Qy r a b
   rw [q] at this;cases this
  ·exact .inr ⟨ω,rfl⟩
theorem afq (p:Nat) (S:Nat->Prop) (most:Int) (l:List ah) (e:ah) (hn:l.length<=4000000) (eZ:e.ok) (Vy:¬ (e.g=true/\e.v≠0)) (room:(l.length:Int)<most) (w:World) (h:HB 79 w p S most l) :
  Calls prog 54 #[IS p,.agg #[BY e.k,BY e.v,.bool e.g]] w fun ex w'=>ex=χ (By 0)/\jv 79 w w' p S most (ins ah.k e l):=by
 have FD:ag (∀ W,Gw w W->_):=fun W g=>afa p S most l e.k hn W (h.gw g)
 obtain ⟨u1,DG⟩:=qbr (w.alloc (.cells #[BY e.k,BY e.v,.bool e.g] 71));obtain ⟨bq,aE⟩:=qbr w.heap.size;have BQ:ag (w.heap.size=bq):=aE;have NB:u1.heap[bq]?=some (.cells #[BY e.k,BY e.v,.bool e.g] 71 (0,0)):=by rw [<-DG,<-aE];exact Ω _ _
 have GG:ag (Gw w u1):=by rw [<-DG];exact (Gw.refl w).alloc _ _
 have Vz:ag (∀ (W:World) (v':Value),Gw u1 W->EO W u1.heap.size v' (ins ah.k e l)->jv 79 w (W.setCell (φ p 1) v') p S most (ins ah.k e l)):=fun W v' g ho=>afn h (GG.o.trans g) (tI ho GG.o.size) h.rise.ins (vL eZ h.ok) (by have:=vM (x:=e) h.rise;omega)
 obtain ⟨v,h1,h2,h3,h4⟩:=(h.gw GG.o).lies;obtain ⟨bo,c,rfl,hc,iZ⟩:=fg h2;have HE:ag (EL u1 bo l):=je h2 h.ok;have rQ:ag (bo=none\/∃ b,bo=some (φ b 0)):=by
  rcases h2.2 with ⟨x,_⟩ | ⟨b,cap,cur,x,_⟩
  ·injection x with x;exact .inl x
  ·injection x with x;exact .inr ⟨b,x⟩
 have jx:ag (∀ W,Gw u1 W->(W.cell? (φ p 1)=some (.slice bo l.length c)/\W.cell? (φ p 0)=some (By most)/\W.frozen? (φ p 1)=false/\p<W.heap.size)/\(W.cell? (φ bq 0)=some (BY e.k)/\W.cell? (φ bq 1)=some (BY e.v)/\W.cell? (φ bq 2)=some (.bool e.g)/\bq<W.heap.size)):=fun W g=>by have x1:=(g.below.block p (ak h1)).trans h1;have x2:=(g.below.block bq (ak NB)).trans NB;exact ⟨⟨aj x1 rfl,aj x1 rfl,bC x1,ak x1⟩,aj x2 rfl,aj x2 rfl,aj x2 rfl,ak x2⟩
 obtain ⟨i,j,pi,ij,jn,IN,DH⟩:=afp e h.rise;have pJ:ag (e.g=false\/(e.g=true/\((e.v:Int) == 0)=true)):=by
  cases eg:e.g with
  | false=>exact .inl rfl
  | true=>exact .inr ⟨rfl,by have:¬ e.v≠0:=fun q=>Vy ⟨eg,q⟩;simpa using this⟩
 obtain ⟨A,hA⟩:=qbr (l.take i);obtain ⟨D,hD⟩:=qbr (l.drop j);have la:A.length=i:=by rw [<-hA,qav];omega
 have ld:D.length=l.length-j:=by rw [<-hD,qax]
 have TL:ag (A.length=i/\(A.flatMap aI).length=i*3):=⟨la,by rw [tO,la]⟩
 have TD:ag (D.length=l.length-j/\(D.flatMap aI).length=(l.length-j)*3):=⟨ld,by rw [tO,ld]⟩
 have NWA:ag (∀ W,Gw u1 W->∀ ad,bo=some ad->∀ t u,(A.flatMap aI)[t]?=some u->W.cell? (ad.add t)=some u):=fun W g ad ea t u hu=>by have ht:=(qaT.1 hu).1;refine Cv (HE.o.gw g) ad ea t u ?_;rw [<-hA,Dl] at hu;rw [TL.o.2] at ht;rwa [List.getElem?_take_of_lt ht] at hu
 have NWD:ag (∀ W,Gw u1 W->∀ b,bo=some (φ b 0)->∀ t u,(D.flatMap aI)[t]?=some u->W.cell? ((⟨b,j*3,none⟩:Addr).add t)=some u):=fun W g b ea t u hu=>by rw [<-hD,Jw,List.getElem?_drop] at hu;have:=Cv (HE.o.gw g) _ ea (j*3+t) u hu;rw [Addr.add_lit] at this ⊢;rwa [qai] at this
 have DI:ag (ins ah.k e l=A++e::D):=by rw [<-hA,<-hD];exact IN
 obtain ⟨ii,aK,hz,hs,aJ⟩:=info_parts kZ;have t1:((l.length:Int) == most)=false:=by simp;omega
 have KI:∀ b,bo=some (φ b 0)->i<l.length->u1.cell? (φ b (i*3))=some (BY (l.getD i aq).k):=fun b eb hi=>by obtain ⟨b',off,e',_,iX⟩:=HE.o.cells ω;rw [eb] at e';cases e';have:=(iX i hi).1;rwa [qai] at this
 rw [pi] at FD;generalize (l.getD i aq).k=yk at DH KI;generalize ins ah.k e l=L at Vz DI ⊢;obtain ⟨n,ax⟩:=qbr l.length;rw [ax] at hn jx jn DH hc iZ TD t1 KI;obtain ⟨⟨m1,m0,mf,ml⟩,q0,q1,q2,q3⟩:=jx.o u1 (Gw.refl _);clear h h1 h2 h3 h4 NB eZ Vy room pi hA hD HE ax IN la ld;obtain ⟨ek,ev,eg⟩:=e;simp only at q0 q1 q2 DG FD DI jx pJ DH ⊢;have DD:(bo=none/\n=0/\i=0/\j=0/\c=0)\/(∃ b,bo=some (φ b 0)/\j=c/\i<=c)\/(∃ b,bo=some (φ b 0)/\j≠c/\i<=c):=by
  rcases rQ.o with x | ⟨b,x⟩
  ·have:=iZ x;exact .inl ⟨x,ω⟩
  ·by_cases y:j=c
   ·exact .inr (.inl ⟨b,x,y,ω⟩)
   ·exact .inr (.inr ⟨b,x,y,ω⟩)
 clear rQ iZ;rcases pJ.o with rfl | ⟨rfl,b2⟩<;>rcases DH with ⟨w1,w2,w3⟩ | ⟨w1,w2,w3⟩ | ⟨w1,w2⟩<;>rcases DD with ⟨rfl,d0,d1,d2,d3⟩ | ⟨b,rfl,d1,d2⟩ | ⟨b,rfl,d1,d2⟩
 all_goals (try (exfalso;omega))
 all_goals
  try have kc:=KI _ rfl w1
  try rw [w3] at kc
  try have nk:(yk == ek)=false:=by simpa using w3
  try have p1:(i:Int)<(n:Int):=ω
  have p2:(i:Int)<=(c:Int):=ω;have p3:(j:Int)<=(n:Int):=ω;have p4:(n:Int)<=(c:Int):=ω;have VA:ag (j=c->∀ W:World,∀ ad:Addr,∀ t u,(D.flatMap aI)[t]?=some u->W.cell? (ad.add t)=some u):=fun x W ad t u hu=>by
   have:=(qaT.1 hu).1
   rw [TD.o.2] at this;omega
  clear pJ KI
  try clear w3
  try (subst d0;subst d1;subst d2;subst d3)
  try subst w2
  try subst w1
  try subst d1
  go_enter func54,ntmps54;go_wp2_with fail;refine Calls.mono (FD.o _ GG.o) ?_;rintro ex w2 ⟨rfl,e2⟩;have e3:=e2.symm;subst e3;clear e2 FD;go_wp2_with fail;go_quiet (fail);go_wp2_with fail;go_quiet (fail);generalize nI:World.drewN (World.drewN u1 _) _=W2;have G2:ag (Gw u1 W2):=by rw [<-nI];exact ((Gw.refl _).drewN _).drewN _
  clear m1 m0 mf ml q0 q1 q2 q3 nI DG
  try clear kc
  obtain ⟨⟨k1,k0,kf,kp⟩,q0,q1,q2,q3⟩:=jx.o W2 G2.o;go_wp2_with (at_builtin;refine qG _ rfl _ _ 72 rfl u1.heap.size 71 ii (.agg #[BY 0,BY 0,.bool false]) 3 24 underlying72 aK hz hs aJ rfl γ _ 0 [] rfl (qaL _ _ _ _) _ _ _ (A.flatMap aI) rfl (fun q=>by first | cases q;done | exact ⟨rfl,rfl⟩) TL.o.2 (NWA.o _ G2.o) (yL _) θ ω G2.o.size ?_)
  intro v' w5 r1 r2 r3;have O5:ag (w5.ownsRow u1.heap.size 71 3 v' _ _):=r1;have G5:ag (Gw u1 w5):=G2.o.grown r2 (fun q hq=>by cases hq)
  obtain ⟨bo5,c5,rfl⟩:=J0 O5.o;clear r1 r2 r3 G2 k1 k0 kf kp q0 q1 q2 q3;obtain ⟨⟨k1,k0,kf,kp⟩,q0,q1,q2,q3⟩:=jx.o w5 G5.o;go_wp2_with (at_builtin;refine wpList_append_own _ rfl _ _ 72 rfl u1.heap.size 71 ii (.agg #[BY 0,BY 0,.bool false]) 3 24 underlying72 aK hz hs aJ rfl γ _ _ (A.flatMap aI) rfl (O5.o.alloc _) ⟨w5.heap.size,0,none⟩ 1 1 (aI ⟨_,_,_⟩) rfl rfl (lV w5 ⟨_,_,_⟩) (kC _) θ ω (Φ G5.o.size ((Gw.refl w5).alloc _ _).size) ?_);intro v' w6 r1 r2 r3;obtain ⟨b6,c6,rfl,_,_,_⟩:=cJ r1 (by simpa using r3)
  have O6:ag (w6.ownsRow u1.heap.size 71 3 _ _ _):=r1;have G6:ag (Gw u1 w6):=(G5.o.alloc _ _).grown r2 (fun q hq=>(World.ownsRow.lt O5.o q hq).1)
  clear r1 r2 r3 k1 k0 kf kp q0 q1 q2 q3;obtain ⟨⟨k1,k0,kf,kp⟩,_⟩:=jx.o w6 G6.o;go_wp2_with (at_builtin;refine qG _ rfl _ _ 72 rfl u1.heap.size 71 ii (.agg #[BY 0,BY 0,.bool false]) 3 24 underlying72 aK hz hs aJ rfl γ _ _ _ rfl O6.o _ _ _ (D.flatMap aI) (by first | rfl | (simp;done)) (fun q=>by first | cases q;done | exact ⟨rfl,rfl⟩) (by have:=TD.o.2;omega) (fun ad ea t u hu=>by first | (cases ea;exact NWD.o _ G6.o _ rfl t u hu) | exact VA.o rfl _ _ t u hu | exact VA.o trivial _ _ t u hu | cases ea) (yL _) θ ω G6.o.size ?_)
  intro v' w7 r1 r2 r3;have e1:=congrArg List.length DI.o;have e2:=congrArg (List.flatMap aI) DI.o;rw [Ψ,qak,TL.o.1,TD.o.1] at e1;rw [List.flatMap_append,qaK] at e2;have E7:EO w7 u1.heap.size v' L:=afo r1 ω (by first | exact e2 | (rw [e2,qaI]))
  have G7:ag (Gw u1 w7):=G6.o.grown r2 (fun q hq=>(World.ownsRow.lt O6.o q hq).1)
  have aD:ag _:=Vz.o w7 v' G7.o E7;obtain ⟨bo7,c7,rfl⟩:=J0 E7;clear r1 r2 r3 k1 k0 kf kp E7 O6 O5 e1 e2;obtain ⟨⟨k1,k0,kf,kp⟩,_⟩:=jx.o w7 G7.o;generalize L.length=nL at aD ⊢;go_wp2_with fail;go_ret;exact ⟨rfl,aD.o⟩
def jN (w w':World) (p:Nat) (F:Nat->Prop) (eps buf keys:Int) (l:List ah) (rs:List (Option Rn)) (B W_:Int) (e:ah):Prop :=
 ∃ F' l' rs' B' W',dq w' p F' eps buf keys l' rs' B' W'/\kK ba w w' eps buf l rs B W_ l' rs' B' W' e/\Dm w F F' rs rs'/\Gx F w w'
variable {w':World} {F:Nat->Prop} {eps buf keys B W_:Int}
theorem jN.mk {pb pc rb:Nat} {Sb S':Nat->Prop} {l':List ah} {B' W':Int} {e:ah} (h:dq w p F eps buf keys l rs B W_)
  (h1:w.heap[p]?=some (.cells #[By eps,By buf,By keys,IS pb,IS pc] 59 (0,0))) (h3:aQ w pc rb rs eps buf B W_) (h4:p≠pc/\p≠rb/\¬ Sb p/\¬ Sb pc/\¬ Sb rb) (h5:∀ q,F q↔q=p\/q=pc\/q=rb\/Sb q)
  (a1:w'.heap[p]?=w.heap[p]?) (a2:HB 79 w' pb S' buf l') (a3:aQ w' pc rb rs' eps buf B' W') (a4:∀ q,S' q->Sb q\/w.heap.size<=q) (a5:∀ r,some r∈rs'->some r∈rs\/((∀ q,r.S q->w.heap.size<=q)/\∀ q,S' q->Sb q)) (a6:Gx F w w') (a7:kK ba w w' eps buf l rs B W_ l' rs' B' W' e):jN w w' p F eps buf keys l rs B W_ e:=by
 have pl:=ak h1;have p1:=h3.plt;have p2:=h3.blt;have nS:∀ q,q<w.heap.size->¬ Sb q->¬ S' q:=fun q hq n x=>(a4 q x).elim n fun y=>ω
 have low:∀ q,F q->q<w.heap.size:=fun q hq=>h.lt q (.inl hq)
 refine ⟨fun q=>q=p\/q=pc\/q=rb\/S' q,l',rs',B',W',⟨⟨pb,S',pc,rb,a1.trans h1,a2,a3,⟨h4.1,h4.2.1,nS p pl h4.2.2.1,nS pc p1 h4.2.2.2.1,nS rb p2 h4.2.2.2.2⟩,fun q=>Iff.rfl⟩,fun r hr q hq x=>?_⟩,a7,⟨fun q hq=>?_,fun r hr=>(a5 r hr).imp id Ξ⟩,a6⟩
 ·have hF:F q\/(S' q/\w.heap.size<=q):=by
   rcases hq with y | y | y | y
   ·exact .inl ((h5 q).2 (.inl y))
   ·exact .inl ((h5 q).2 (.inr (.inl y)))
   ·exact .inl ((h5 q).2 (.inr (.inr (.inl y))))
   ·exact (a4 q y).imp (fun z=>(h5 q).2 (.inr (.inr (.inr z)))) fun z=>⟨y,z⟩
  rcases a5 r hr with z | ⟨z,z'⟩
  ·rcases hF with y | ⟨_,y⟩
   ·exact h.sep r z q y x
   ·have:=h.lt q (.inr ⟨r,z,x⟩);omega
  ·have:=z q x
   rcases hF with y | ⟨y,y'⟩
   ·have:=low q y;omega
   ·have:=low q ((h5 q).2 (.inr (.inr (.inr (z' q y)))));omega
 ·rcases hq with y | y | y | y
  ·exact .inl ((h5 q).2 (.inl y))
  ·exact .inl ((h5 q).2 (.inr (.inl y)))
  ·exact .inl ((h5 q).2 (.inr (.inr (.inl y))))
  ·exact (a4 q y).imp (fun z=>(h5 q).2 (.inr (.inr (.inr z)))) id
theorem gZ.old {u:World} {kept:List ah} {rn:Option Rn} (h:gZ HR u w' eps kept rn) (s:w.heap.size<=u.heap.size):gZ HR w w' eps kept rn/\∀ r,rn=some r->∀ q,r.S q->w.heap.size<=q:=by
 rcases h with ⟨a,x⟩ | ⟨a,r,b1,b2,b3,b4,b5,b6⟩
 ·exact ⟨.inl ⟨a,x⟩,fun r hr=>by rw [x] at hr;cases hr⟩
 ·exact ⟨.inr ⟨a,r,b1,b2,b3,b4,fun q hq=>Φ s (b5 q hq),b6⟩,fun r' hr q hq=>by rw [b1] at hr;cases hr;exact Φ s (b5 q hq)⟩
theorem VC (O5:jH) (h:dq w p F eps buf keys l rs B W_) (e:ah) (rR:e.ok) (eZ:¬ (e.g=true/\e.v≠0)) (jq:aR l) (room:(l.length:Int)<buf) (few:l.length+1+tot rs<=2000000) (hB:0<=B/\B<4611686018427387904) (hW:0<=W_/\W_<4611686018427387904) :
  Calls prog 28 #[IS p,.agg #[BY e.k,BY e.v,.bool e.g]] w fun ex w'=>ex=π #[]/\jN w w' p F eps buf keys l rs B W_ e:=by
 obtain ⟨pb,Sb,pc,rb,h1,h2,h3,h4,h5⟩:=h.lies;have LE:=vM (x:=e) jq.rise;have PU:ag (∀ W,Gw w W->Calls prog 54 #[IS pb,.agg #[BY e.k,BY e.v,.bool e.g]] W fun ex w'=>ex=χ (By 0)/\jv 79 W w' pb Sb buf (ins ah.k e l)):=fun W gg=>afq pb Sb buf l e ω rR eZ room W (h2.gw gg)
 have HF:ag (∀ q,(q=p\/q=pc\/q=rb\/Sb q)->q<w.heap.size):=fun q hq=>h.lt q (.inl ((h5 q).2 hq))
 have mw:ag (∀ w' S' l' rs' B' W',_):=fun w' S' l' rs' B' W'=>jN.mk (w':=w') (S':=S') (l':=l') (rs':=rs') (B':=B') (W':=W') (e:=e) h h1 h3 h4 h5
 have GF:ag (∀ w',Gx (fun q=>q=pc\/q=rb\/Sb q) w w'->Gx F w w'):=fun w' g=>g.mono fun q hq=>.inl ((h5 q).2 (.inr hq))
 have mC:ag ((ins ah.k e l).length+tot rs<=2000000/\aR (ins ah.k e l)):=⟨ω,JE jq eZ⟩;have SZ:ag _:=And.intro hB hW;have HC:ag (aQ w pc rb rs eps buf B W_):=h3;have H1:ag _:=h1;have ig:ag ((¬ Sb p/\¬ Sb pc/\¬ Sb rb)/\Sb pb/\(p≠pc/\p≠rb)/\∀ r,some r∈rs->∀ q,(q=p\/q=pc\/q=rb\/Sb q)->¬ r.S q):=⟨h4.2.2,h2.own,⟨h4.1,h4.2.1⟩,fun r hr q hq=>h.sep r hr q ((h5 q).2 hq)⟩
 have OO:ag jH:=O5;obtain ⟨l',dw⟩:=qbr (ins ah.k e l);have LL:ag (ins ah.k e l=l'):=dw;rw [dw] at PU mC;have al:=ak h1;have K0:ag (∀ W:World,W.heap[p]?=w.heap[p]?->W.cell? (φ p 3)=some (IS pb)/\W.cell? (φ p 4)=some (IS pc)/\p<W.heap.size):=fun W x=>by
  have:=x.trans h1
  exact ⟨aj this rfl,aj this rfl,ak this⟩
 obtain ⟨uz,uA,uB⟩:=e;have G1:Gw w (w.alloc (.cells #[BY uz,BY uA,.bool uB] 71)):=(Gw.refl w).alloc _ _;have b1:(w.alloc (.cells #[BY uz,BY uA,.bool uB] 71)).heap[w.heap.size]?=some (.cells #[BY uz,BY uA,.bool uB] 71 (0,0)):=Ω w _;obtain ⟨bq,aE⟩:=qbr w.heap.size;have BQ:ag (w.heap.size=bq):=aE;rw [aE] at b1;clear h h1 h2 h3 h4 h5 dw aE jq rR eZ room few hB hW LE O5;simp only at PU ⊢;go_enter func28,ntmps28;go_wp2_with fail;rw [BQ.o];generalize w.alloc (.cells #[BY uz,BY uA,.bool uB] 71)=w1 at G1 b1 ⊢;obtain ⟨d0,d1,d2,dl⟩:=uy (w:=w1.drew) b1;obtain ⟨c3,c4,cl⟩:=K0.o w1.drew (G1.below.block p al);have nT:ag (Gw w w1.drew):=G1.drew;clear G1 b1;refine wp_region_still_tail 5 η η ?_;change wpStill _ _ (World.drew w1) (fun a'=>wpList _ _ _ _ a' (World.drew w1)) _ _
 generalize World.drew w1=w2 at d0 d1 d2 dl c3 c4 cl nT ⊢;simp only [qbj,List.take_zero,List.drop_succ_cons,List.drop_zero]
 repeat still_step
 refine wpStill_nil ?_;go_wp2_with fail;refine Calls.mono (PU.o w2 nT.o) ?_;rintro ex u1 ⟨rfl,S1,nG,oN,s1⟩;have pW:ag (Gx Sb w u1):=(nT.o.gx Sb).trans oN fun q hq=>.inl hq
 have oT:ag (∀ q,S1 q->Sb q\/w.heap.size<=q):=fun q hq=>(s1 q hq).imp id (Φ nT.o.size)
 have nH:ag (HB 79 u1 pb S1 buf l'):=nG;have FU:=ae9 pb S1 buf l' u1 nG;obtain ⟨k3,k4,kl⟩:=K0.o u1 (pW.o.block p (HF.o p (.inl rfl)) ig.o.1.1);clear nG oN s1 PU c3 c4 cl d0 d1 d2 dl nT al;go_wp2_with fail;refine FU.mono ?_;rintro ex u2 ⟨rfl,g2⟩;have oU:ag (Gx Sb w u2):=pW.o.tw g2;have fX:ag (HB 79 u2 pb S1 buf l'):=nH.o.gw g2;obtain ⟨m3,m4,ml⟩:=K0.o u2 (oU.o.block p (HF.o p (.inl rfl)) ig.o.1.1);clear g2 FU k3 k4 kl pW nH;by_cases fl:(l'.length:Int)=buf
 ·have t1:((l'.length:Int) == buf)=true:=by simpa using fl
  rw [t1];have FL:ag ((l'.length:Int)=buf):=fl;have VD:ag (∀ W,Gx S1 u2 W->Gx Sb w W):=fun W g=>oU.o.trans g fun q hq=>oT.o q hq
  have EM:ag (∀ W,Gw u2 W->Calls prog 57 #[IS pb] W fun e w'=>(∃ bo c,e=χ (.slice bo l'.length c)/\ag (EO w' 0 (.slice bo l'.length c) l'/\(l'.length<=c/\(bo=none->l'.length=0/\c=0))/\(∀ q,(Value.slice bo l'.length c).ownBlock=some q->S1 q/\q≠pb))/\ag (HB 79 w' pb (fun q=>q=pb) buf []))/\Gx S1 u2 w'):=fun W gg=>(ae' pb S1 buf l' ω W (fX.o.gw gg)).mono fun e w' ⟨⟨v',x1,x2,x3,x4⟩,x5⟩=>by obtain ⟨bo,c,ev,y1,y2⟩:=fg x2;subst ev;exact ⟨⟨bo,c,x1,⟨x2,⟨y1,y2⟩,x3⟩,x4⟩,(gg.gx S1).trans x5 (fun q hq=>.inl hq)⟩
  have TK:ag (∀ (wA W:World) (bo:Option Addr) (c:Nat),Gx S1 u2 wA->Gw wA W->HB 79 wA pb (fun q=>q=pb) buf []->(EO wA 0 (.slice bo l'.length c) l'/\(l'.length<=c/\(bo=none->l'.length=0/\c=0))/\(∀ q,(Value.slice bo l'.length c).ownBlock=some q->S1 q/\q≠pb))->Calls prog 56 #[IS pc,.slice bo l'.length c] W fun e w'=>(∃ j t k:Nat,e=χ (.tuple #[.agg #[By (j:Int),By (t:Int),By (k:Int)],By 0]))/\w'.heap[p]?=w.heap[p]?/\jN w w' p F eps buf keys l rs B W_ ⟨uz,uA,uB⟩):=fun wA W bo c g1 g2 mD ⟨JF,zx,Jt⟩=>by
   have gA:=(VD.o wA g1).tw g2;have JG:=HC.o.gx gA ig.o.1.2.1 ig.o.1.2.2 fun q hq r hr=>ig.o.2.2.2 r hr q (.inr (.inr (.inr hq)))
   refine (ae7 OO.o JG bo c l' ((je JF fX.o.ok).gw g2) zx.1 zx.2 (fun a ea l0 x=>?_) mC.o.1 SZ.o.1 SZ.o.2).mono fun e w' ⟨⟨r0,cr,x⟩,g⟩=>?_
   ·obtain ⟨y,_⟩:=Jt a.block (by rw [ea];rfl)
    rw [x] at y;exact (oT.o rb y).elim ig.o.1.2.2 fun z=>by have:=HF.o rb (.inr (.inr (.inl rfl)));omega
   rcases x with ⟨x,_⟩ | ⟨_,x,_⟩ | ⟨_,_,o,kp,rn,tr,he,ld,iX⟩
   ·exact absurd (cr.one mC.o.2) x
   ·exact absurd FL.o x
   have De:p≠pc/\p≠rb:=ig.o.2.2.1;have VE:pb≠pc/\pb≠rb:=⟨fun x=>ig.o.1.2.1 (x▸ig.o.2.1),fun x=>ig.o.1.2.2 (x▸ig.o.2.1)⟩
   have VF:w'.heap[p]?=w.heap[p]?:=(g.block p (Θ (HF.o p (.inl rfl)) gA.size) fun x=>x.elim De.1 De.2).trans (gA.block p (HF.o p (.inl rfl)) ig.o.1.1)
   have gF:Gx F w w':=GF.o w' ((gA.mono fun q hq=>.inl (.inr (.inr hq))).trans g fun q hq=>.inl (hq.imp id .inl))
   obtain ⟨l1,l2⟩:=ld.old gA.size;refine ⟨⟨_,_,_,he⟩,VF,mw.o w' (fun q=>q=pb) [] (laid rs rn) (B+gY kp) (W_+kp.length) VF ((mD.gw g2).gx g fun q hq x=>?_) iX (fun q hq=>.inl (by rw [hq];exact ig.o.2.1)) (fun r hr=>?_) gF (.inr ⟨by rw [LL.o];exact FL.o,rfl,o,kp,rn,by rw [LL.o];exact tr,l1,rfl,rfl,rfl⟩)⟩
   ·rw [hq] at x;exact x.elim VE.1 VE.2
   ·unfold laid at hr
    rcases qaq.1 hr with q | q
    ·simp at q
    ·rcases qaf.1 q with q | q
     ·exact .inr ⟨l2 r q.symm,fun q' x=>by rw [x];exact ig.o.2.1⟩
     ·exact .inl (qbn q)
  have KA:ag (∀ W W',Gx S1 u2 W->Gw W W'->W'.cell? (φ p 3)=some (IS pb)/\W'.cell? (φ p 4)=some (IS pc)):=fun W W' g g'=>by obtain ⟨x,y,_⟩:=K0.o W' (((VD.o W g).tw g').block p (HF.o p (.inl rfl)) ig.o.1.1);exact ⟨x,y⟩
  obtain ⟨ln,ax⟩:=qbr l'.length;rw [ax] at EM TK;clear t1 fl ax;go_wp2_with fail;go_region_held3 (fun w'=>w'.cell? (φ p 3)=some (IS pb)/\w'.cell? (φ p 4)=some (IS pc))
   (((first | exact ⟨m3,m4⟩ | exact ag.o δ | assumption);done))
   ((
    first
    | (go_at_call 57;refine (EM.o _ τ).mono ?_;rintro ex wA ⟨⟨nO,cA,rfl,Dn,mD⟩,gA⟩;have PA:ag (∀ w',Gw wA w'->w'.cell? (φ p 3)=some (IS pb)/\w'.cell? (φ p 4)=some (IS pc)):=fun w' g=>KA.o wA w' gA g;have PA0:=PA.o wA (Gw.refl _);have wK:ag (Gx S1 u2 wA):=gA;clear gA)
    | (go_at_call 56;refine (TK.o wA _ nO cA wK.o ξ mD.o Dn.o).mono ?_;rintro ex wB ⟨⟨j,t,k,rfl⟩,kB,ch⟩;have PB:wB.cell? (φ p 3)=some (IS pb)/\wB.cell? (φ p 4)=some (IS pc):=⟨(K0.o wB kB).1,(K0.o wB kB).2.1⟩;have av:ag (jN w wB p F eps buf keys l rs B W_ ⟨uz,uA,uB⟩):=ch;clear kB ch)))
  all_goals
   go_end0
   exact ⟨rfl,av.o⟩
 ·have t1:((l'.length:Int) == buf)=false:=by simpa using fl
  rw [t1];have av:ag (jN w u2 p F eps buf keys l rs B W_ ⟨uz,uA,uB⟩):=mw.o u2 S1 l' rs B W_ (oU.o.block p (HF.o p (.inl rfl)) ig.o.1.1) fX.o (HC.o.gx oU.o ig.o.1.2.1 ig.o.1.2.2 fun q hq r hr=>ig.o.2.2.2 r hr q (.inr (.inr (.inr hq)))) oT.o (fun r hr=>.inl hr) (GF.o u2 (oU.o.mono fun q hq=>.inl (.inr (.inr hq)))) (.inl ⟨by rw [LL.o];have:=fX.o.room;omega,LL.o.symm,rfl,rfl,rfl⟩)
  clear t1 fl;go_wp2_with fail;go_end0;exact ⟨rfl,av.o⟩
def DK (w w':World) (ex:Ending) (p:Nat) (F:Nat->Prop) (eps buf keys:Int) (l:List ah) (rs:List (Option Rn)) (B W_:Int) (live:Nat) (k v:Int):Prop :=
 ((bV l rs k=none/\(live:Int)=keys)/\ex=χ (By 161)/\Gw w w')\/(¬ (bV l rs k=none/\(live:Int)=keys)/\ex=χ (By 0)/\jN w w' p F eps buf keys l rs B W_ ⟨k,v,false⟩)
def Kk (w w':World) (ex:Ending) (p:Nat) (F:Nat->Prop) (eps buf keys:Int) (l:List ah) (rs:List (Option Rn)) (B W_:Int) (k:Int):Prop :=
 (bV l rs k=none/\ex=χ (.bool false)/\Gw w w')\/(bV l rs k≠none/\ex=χ (.bool true)/\jN w w' p F eps buf keys l rs B W_ ⟨k,0,true⟩)
section
variable {w W w':World} {p:Nat} {F:Nat->Prop} {eps buf keys:Int} {l:List ah} {rs:List (Option Rn)} {B W_:Int} {e:ah}
theorem jN.old (g:Gw w W) (h:dq w p F eps buf keys l rs B W_) (c:jN W w' p F eps buf keys l rs B W_ e):jN w w' p F eps buf keys l rs B W_ e:=by
 obtain ⟨F',l',rs',B',W',a,b,⟨c1,c2⟩,d⟩:=c;refine ⟨F',l',rs',B',W',a,?_,⟨fun q hq=>(c1 q hq).imp id (Φ g.size),fun r hr=>(c2 r hr).imp id fun x q hq=>Φ g.size (x q hq)⟩,(g.gx F).trans d fun q hq=>.inl hq⟩
 rcases b with x | ⟨x1,x2,o,kp,rn,x3,x4,x5⟩
 ·exact .inl x
 ·exact .inr ⟨x1,x2,o,kp,rn,x3,(x4.old g.size).1,x5⟩
theorem dq.cfg (h:dq w p F eps buf keys l rs B W_):w.cell? (φ p 0)=some (By eps)/\w.cell? (φ p 1)=some (By buf)/\w.cell? (φ p 2)=some (By keys)/\p<w.heap.size:=h.lies.elim fun _ ⟨_,_,_,x⟩=>⟨aj x.1 rfl,aj x.1 rfl,aj x.1 rfl,ak x.1⟩
end
variable {w:World} {p live:Nat} {F:Nat->Prop} {eps buf keys B W_:Int} {l:List ah} {rs:List (Option Rn)}
theorem VH (O5:jH) (h:dq w p F eps buf keys l rs B W_) (jq:aR l) (room:(l.length:Int)<buf) (few:l.length+1+tot rs<=2000000) (hB:0<=B/\B<4611686018427387904) (hW:0<=W_/\W_<4611686018427387904) (hl:(iA l rs).length=live) (most:(live:Int)<=keys) (k v:Int) (k0:0<=k/\k<18446744073709551616) (v0:0<=v/\v<18446744073709551616) :
  Calls prog 11 #[IS p,BY k,BY v] w fun ex w'=>DK w w' ex p F eps buf keys l rs B W_ live k v:=by
 have GT:=Kh h ω k;have LV:ag (∀ W,Gw w W->Calls prog 27 #[IS p] W fun e w'=>(∃ ob oc,e=χ (.slice ob live oc))/\Gw W w'):=fun W g=>(Kf (h.gw g) ω).mono fun e w' ⟨⟨ob,oc,x,_⟩,y⟩=>by rw [hl] at x;exact ⟨⟨ob,oc,x⟩,y⟩
 have TK:ag (∀ W,Gw w W->Calls prog 28 #[IS p,.agg #[BY k,BY v,.bool false]] W fun ex w'=>ex=π #[]/\jN w w' p F eps buf keys l rs B W_ ⟨k,v,false⟩):=fun W g=>(VC O5 (h.gw g) ⟨k,v,false⟩ ⟨k0,v0⟩ (fun x=>by cases x.1) jq room few hB hW).mono fun ex w' x=>⟨x.1,x.2.old g h⟩
 have KC:ag (∀ W,Gw w W->W.cell? (φ p 2)=some (By keys)/\p<W.heap.size):=fun W g=>(h.gw g).cfg.2.2
 obtain ⟨ov,lL⟩:=qbr (bV l rs k);have OV:ag (bV l rs k=ov):=lL;have ML:ag ((live:Int)<=keys):=most;rw [lL] at GT;unfold qe at GT;clear h jq room few hB hW hl k0 v0 lL O5 most;go_enter func11,ntmps11;go_wp2_with fail;refine GT.mono ?_;rintro e w1 ⟨rfl,g1⟩;have G1:ag (Gw w w1):=g1;obtain ⟨kc,pl⟩:=KC.o w1 g1;clear g1 GT;cases ov with
 | some x =>
  simp only [Option.getD_some,Option.isSome_some];go_wp2_with fail;go_quiet (fail);go_wp2_with fail;refine (TK.o _ (by first | exact G1.o | exact G1.o.drew | exact G1.o.drewN _)).mono ?_
  rintro e w2 ⟨rfl,ch⟩;have av:ag (DK w w2 (χ (By 0)) p F eps buf keys l rs B W_ live k v):=.inr ⟨(fun y=>by rw [OV.o] at y;cases y.1),rfl,ch⟩
  clear ch;go_wp2_with fail;go_ret;exact av.o
 | none =>
  simp only [Option.getD_none,Option.isSome_none];have Kl:ag (∀ W,Gw w1 W->_):=fun W g=>LV.o W (G1.o.trans g)
  have HW:ag (∀ w',Gw w1 w'->Gw w1 w'/\w'.cell? (φ p 2)=some (By keys)/\p<w'.heap.size):=fun w' g=>⟨g,KC.o w' (G1.o.trans g)⟩
  have kD:ag (decide (keys<=(live:Int))=true->(live:Int)=keys):=fun h=>by have:=ML.o;simp at h;omega
  have DO:ag (decide (keys<=(live:Int))=false->(live:Int)≠keys):=fun h=>by simp at h;omega
  obtain ⟨tb,zR⟩:=qbr (decide (keys<=(live:Int)));rw [zR] at kD DO;clear LV kc pl;go_wp2_with fail;go_region_held3 (fun w'=>Gw w1 w'/\w'.cell? (φ p 2)=some (By keys)/\p<w'.heap.size)
   ((refine HW.o _ ?_;(repeat (first | exact Gw.refl _ | exact Ξ δ | exact ag.o δ | refine Gw.drew ?_ | refine Gw.drewN ?_ _));done))
   ((go_at_call 27;refine Calls.mono (Kl.o _ (by repeat (first | exact Gw.refl _ | exact Ξ δ | exact ag.o δ | refine Gw.drew ?_ | refine Gw.drewN ?_ _))) ?_;rintro ex u5 ⟨⟨yo,yc,rfl⟩,g5⟩;have G5:ag (Gw w1 u5):=Gw.trans (by repeat (first | exact Gw.refl _ | exact Ξ δ | exact ag.o δ | refine Gw.drew ?_ | refine Gw.drewN ?_ _)) g5;clear g5))
  cases tb with
  | true =>
   have av:ag (∀ W,Gw w W->DK w W (χ (By 161)) p F eps buf keys l rs B W_ live k v):=fun W g=>.inl ⟨⟨OV.o,kD.o rfl⟩,rfl,g⟩
   have GE:=G1.o.trans G5.o;clear kD DO Kl HW;go_wp2_with fail;go_ret;exact av.o _ GE
  | false =>
   have NE:ag ((live:Int)≠keys):=DO.o rfl;have GE:ag (Gw w u5):=G1.o.trans G5.o;clear kD DO Kl HW;go_wp2_with fail;refine (TK.o _ (by first | exact GE.o | exact GE.o.drew)).mono ?_
   rintro e w2 ⟨rfl,ch⟩;have av:ag (DK w w2 (χ (By 0)) p F eps buf keys l rs B W_ live k v):=.inr ⟨fun y=>NE.o y.2,rfl,ch⟩
   clear ch;go_wp2_with fail;go_ret;exact av.o
theorem VJ (O5:jH) (h:dq w p F eps buf keys l rs B W_) (jq:aR l) (room:(l.length:Int)<buf) (few:l.length+1+tot rs<=2000000) (hB:0<=B/\B<4611686018427387904) (hW:0<=W_/\W_<4611686018427387904) (k:Int) (k0:0<=k/\k<18446744073709551616) :
  Calls prog 13 #[IS p,BY k] w fun ex w'=>Kk w w' ex p F eps buf keys l rs B W_ k:=by
 have GT:=Kh h ω k;have TK:ag (∀ W,Gw w W->Calls prog 28 #[IS p,.agg #[BY k,BY 0,.bool true]] W fun ex w'=>ex=π #[]/\jN w w' p F eps buf keys l rs B W_ ⟨k,0,true⟩):=fun W g=>(VC O5 (h.gw g) ⟨k,0,true⟩ ⟨k0,by show (0:Int)<=0/\(0:Int)<18446744073709551616;decide⟩ (fun x=>x.2 rfl) jq room few hB hW).mono fun ex w' x=>⟨x.1,x.2.old g h⟩
 obtain ⟨ov,lL⟩:=qbr (bV l rs k);have OV:ag (bV l rs k=ov):=lL;rw [lL] at GT;unfold qe at GT;clear h jq room few hB hW k0 lL O5;go_enter func13,ntmps13;go_wp2_with fail;refine GT.mono ?_;rintro e w1 ⟨rfl,g1⟩;have G1:ag (Gw w w1):=g1;clear g1 GT;cases ov with
 | some x =>
  simp only [Option.getD_some,Option.isSome_some];go_wp2_with fail;refine (TK.o _ G1.o).mono ?_;rintro e w2 ⟨rfl,ch⟩;have av:ag (Kk w w2 (χ (.bool true)) p F eps buf keys l rs B W_ k):=.inr ⟨(fun y=>by rw [OV.o] at y;cases y),rfl,ch⟩
  clear ch;go_wp2_with fail;go_ret;exact av.o
 | none =>
  simp only [Option.getD_none,Option.isSome_none];have av:ag (Kk w w1 (χ (.bool false)) p F eps buf keys l rs B W_ k):=.inl ⟨OV.o,rfl,G1.o⟩;go_wp2_with fail;go_ret;exact av.o
variable {rs':List (Option Rn)}
theorem Al.alk (h:Al rs rs'):oW rs rs':=by
 unfold oW;have:=congrArg (List.map (Option.map fun x:Int×List ah×List (List Sg)=>x.2.1)) h
 rw [List.map_map,List.map_map] at this;have e:(Option.map fun x:Int×List ah×List (List Sg)=>x.2.1)∘Option.map sig=Option.map Rn.l:=by
  funext o
  cases o<;>rfl
 rw [e] at this;exact this
theorem VK (al:Al rs rs') (h:aT (ct l rs) live) (hl:aH ah.k l) (hr:∀ r,some r∈rs'->aH ah.k r.l):(iA l rs').length=live:=by
 refine (U4 hl hr).2.2.2.one (h.same fun q=>?_)
 unfold ct;rw [al.alk.newE]
variable {HR:bH} {G:Nat->Prop}
theorem afr (H:bj HR) {x:Nat} (h:HT HR w p F eps buf keys l rs B W_ live) (d:dq w x G eps buf keys l rs' B W_) (al:Al rs rs') (few:l.length+tot rs<=2000000) (q:Int) (q0:0<=q/\q<18446744073709551616) :
  Calls prog 14 #[IS p,IS x,BY q] w fun e w'=>e=χ (.bool true)/\Gw w w':=by
 have K:=H.kp;have lv:=VK al h.inv.all h.inv.ok.rise fun r hr=>(d.ra r hr).ok.rise
 have Km:l.length+tot rs'<=2000000:=by rw [<-al.tot];exact few
 have ST:=UJ H h;have BU:ag (∀ W,Gw w W->Calls prog 29 #[IS p] W fun e w'=>(∃ bo c,e=χ (.slice bo l.length c)/\EL w' bo l)/\Gw W w'):=fun W g=>(aeo (h.gw K g) ω).mono fun e w' ⟨⟨bo,c,a,b⟩,g'⟩=>⟨⟨bo,c,a,je b (h.lies.elim fun _ ⟨_,_,y⟩=>y.2.1.hb.ok)⟩,g'⟩
 have RU:ag (∀ W,Gw w W->_):=fun W g=>aep (h.gw K g)
 have SD:ag (∀ W,Gw w W->_):=fun W g=>afi (d.gw g) Km lv
 have SS:ag (∀ W b t base b' t' c',SZ W base b t rs->qs W b' t' rs'->_):=fun W b t base b' t' c' z z'=>afl (c':=c') live l.length B W_ al h.len W z z'
 have GX:ag (∀ W,Gw w W->_):=fun W g=>zC H (h.gw K g) ω q q0.1 q0.2
 have GY:ag (∀ W,Gw w W->Calls prog 26 #[IS x,BY q] W fun e w'=>e=χ (qe (bV l rs q))/\Gw W w'):=fun W g=>by
  have:=Kh (d.gw g) Km q
  rw [<-al.alk.val] at this;exact this
 have CF:ag (∀ W,Gw w W->_):=fun W g=>aeq (h.gw K g)
 obtain ⟨pb,Sb,pc,rb,h1,h2,h3,_,_⟩:=d.lies;obtain ⟨bv,k1,k2,_,_⟩:=h2.lies;obtain ⟨yo,yc,rfl,_,_⟩:=fg k2;obtain ⟨cc,_,k5⟩:=h3.blk;have YL:ag (EL w yo l):=je k2 h2.ok;have SE:ag (∀ W bo c,Gw w W->EL W bo l->Calls prog 33 #[.slice bo l.length c,.slice yo l.length yc] W fun e w'=>e=χ (.bool true)/\Gw W w'):=fun W bo c g e=>Vt bo yo c yc l ω W e (YL.o.gw g)
 have SR:ag (∀ W base lb t lc,Gw w W->RO W base (ψ lb 0 t lc) (rs.take t)->cX rs t->Calls prog 34 #[ψ lb 0 t lc,ψ rb 0 40 cc] W fun e w'=>e=χ (.bool true)/\Gw W w'):=fun W base lb t lc g ro tp=>afm H ro tp h.len (h.gw K g).pr (fun i hi=>(h3.gw g).cell hi) (h3.gw g).blt (d.gw g).ra al
 have KP:ag (∀ W,Gw w W->(W.cell? (φ x 0)=some (By eps)/\W.cell? (φ x 1)=some (By buf)/\W.cell? (φ x 2)=some (By keys))/\(W.cell? (φ x 3)=some (IS pb)/\W.cell? (φ x 4)=some (IS pc)/\x<W.heap.size)/\(W.cell? (φ pc 2)=some (ψ rb 0 40 cc)/\pc<W.heap.size)/\W.cell? (φ pb 1)=some (.slice yo l.length yc)/\pb<W.heap.size):=fun W g=>by have a:=(g.below.block _ (ak h1)).trans h1;have b:=(g.below.block _ (ak k5)).trans k5;have c:=(g.below.block _ (ak k1)).trans k1;exact ⟨⟨aj a rfl,aj a rfl,aj a rfl⟩,⟨aj a rfl,aj a rfl,ak a⟩,⟨aj b rfl,ak b⟩,aj c rfl,ak c⟩
 unfold wO at ST SS;generalize lL:bV l rs q=ov at GX GY;unfold qe at GX GY;generalize ov.getD 0=gv at GX GY;generalize ov.isSome=gs at GX GY;generalize l.length=ln at ST BU SD SS SE KP;clear h d al few Km lv lL h1 h2 h3 k1 k2 k5 H K q0;go_enter func14,ntmps14;go_wp2_with fail;refine ST.mono ?_;rintro e w1 ⟨⟨sb,st,rfl,sz⟩,g1⟩;have G1:ag (Gw w w1):=g1;have wX:ag (SZ w1 w.heap.size sb st rs):=sz;clear ST g1 sz;go_wp2_with fail;have b2:=Ω w1 (.cells #[By (live:Int),By (ln:Int),By B,By W_,ψ sb 0 st st] 46);have g2:Gw w1 (w1.alloc (.cells #[By (live:Int),By (ln:Int),By B,By W_,ψ sb 0 st st] 46)):=(Gw.refl w1).alloc _ _;generalize w1.alloc (.cells #[By (live:Int),By (ln:Int),By B,By W_,ψ sb 0 st st] 46)=w2 at b2 g2 ⊢;generalize w1.heap.size=bq at b2 ⊢;have G2:ag (Gw w w2):=G1.o.trans g2;have BQ:ag (∀ W,Gw w2 W->(W.cell? (φ bq 0)=some (By (live:Int))/\W.cell? (φ bq 1)=some (By (ln:Int))/\W.cell? (φ bq 2)=some (By B)/\W.cell? (φ bq 3)=some (By W_)/\W.cell? (φ bq 4)=some (ψ sb 0 st st))/\SZ W w.heap.size sb st rs):=fun W g=>by have a:=(g.below.block _ (ak b2)).trans b2;exact ⟨⟨aj a rfl,aj a rfl,aj a rfl,aj a rfl,aj a rfl⟩,wX.o.gw (g2.trans g)⟩
 have VL:=BU.o w2 G2.o;clear b2 g2 G1 wX BU;go_wp2_with fail;refine VL.mono ?_;rintro e w3 ⟨⟨bo,bc,rfl,eb⟩,g3⟩;have G3:ag (Gw w2 w3):=g3;have EB:ag (EL w3 bo l):=eb;have VM:=RU.o w3 (G2.o.trans g3);clear g3 eb VL RU;go_wp2_with fail;refine Calls.mono VM ?_;rintro e w4 ⟨⟨t,lb,lc,rfl,tp,ro⟩,g4⟩;have G4:ag (Gw w2 w4):=G3.o.trans g4;have E4:ag (EL w4 bo l/\cX rs t/\RO w4 w3.heap.size (ψ lb 0 t lc) (rs.take t)):=⟨EB.o.gw g4,tp,ro⟩;have HW:ag (∀ W,Gw w2 W->Gw w2 W/\(W.cell? (φ bq 0)=some (By (live:Int))/\W.cell? (φ bq 1)=some (By (ln:Int))/\W.cell? (φ bq 2)=some (By B)/\W.cell? (φ bq 3)=some (By W_)/\W.cell? (φ bq 4)=some (ψ sb 0 st st))):=fun W g=>⟨g,(BQ.o W g).1⟩
 have SD4:ag (∀ W,Gw w2 W->_):=fun W g=>SD.o W (G2.o.trans g)
 clear g4 tp ro EB VM SD G3;go_wp2_with fail;go_region_held3 (fun W=>Gw w2 W/\(W.cell? (φ bq 0)=some (By (live:Int))/\W.cell? (φ bq 1)=some (By (ln:Int))/\W.cell? (φ bq 2)=some (By B)/\W.cell? (φ bq 3)=some (By W_)/\W.cell? (φ bq 4)=some (ψ sb 0 st st)))
  ((refine HW.o _ ?_;(repeat (first | exact Gw.refl _ | exact Ξ δ | exact ag.o δ | refine Gw.drew ?_));done))
  ((
   first
   | (go_at_call 32;refine Calls.mono (SD4.o _ (by repeat (first | exact Ξ δ | exact ag.o δ | refine Gw.drew ?_))) ?_;rintro ex w5 ⟨⟨b5,t5,c5,rfl,VO⟩,g5⟩;have G5:ag (Gw w4 w5):=(Gw.trans σ g5);have H5:ag (Gw w2 w5):=G4.o.trans G5.o;have S5:ag (qs w5 b5 t5 rs'):=VO;clear VO g5)
   | (go_at_call 31;refine Calls.mono (SS.o _ sb st w.heap.size b5 t5 c5 ((BQ.o _ (by repeat (first | exact ag.o δ | refine Gw.drew ?_))).2) S5.o) ?_;rintro ex w6 ⟨rfl,g6⟩;have G6:ag (Gw w4 w6):=G5.o.trans (Gw.trans σ g6);have H6:ag (Gw w2 w6):=G4.o.trans G6.o;clear g6)))
 all_goals
  have xd:ag (Gw w w6):=G2.o.trans (G4.o.trans G6.o);obtain ⟨_,⟨y3,y4,xl⟩,⟨y2,mA⟩,y1,qb⟩:=KP.o w6 xd.o;have VP:=SE.o w6 bo bc xd.o (E4.o.1.gw G6.o);clear SE;go_wp2_with fail;refine VP.mono ?_;rintro e w7 ⟨rfl,g7⟩;have xf:ag (Gw w w7):=xd.o.trans g7;have G7:ag (Gw w4 w7):=G6.o.trans g7;clear y1 y2 y3 y4 xl mA qb g7 VP;obtain ⟨_,⟨y3,y4,xl⟩,⟨y2,mA⟩,y1,qb⟩:=KP.o w7 xf.o;have Cf:=SR.o w7 w3.heap.size lb t lc xf.o (E4.o.2.2.gw G7.o) E4.o.2.1;clear SR;go_wp2_with fail;refine Cf.mono ?_;rintro e w8 ⟨rfl,g8⟩;have VQ:ag (Gw w w8):=xf.o.trans g8;have VT:=GX.o w8 VQ.o;clear y1 y2 y3 y4 xl mA qb g8 Cf GX;go_wp2_with fail;refine Calls.mono VT ?_;rintro e w9 ⟨rfl,g9⟩;have VU:ag (Gw w w9):=VQ.o.trans g9;have VW:=GY.o w9 VU.o;clear g9 VT GY;go_wp2_with fail;refine Calls.mono VW ?_;rintro e wA ⟨rfl,gA⟩;have UG:ag (Gw w wA):=VU.o.trans gA;have HC:ag (∀ W,Gw w W->Gw w W/\W.cell? (φ x 0)=some (By eps)/\W.cell? (φ x 1)=some (By buf)/\W.cell? (φ x 2)=some (By keys)):=fun W g=>⟨g,(KP.o W g).1⟩
  clear gA VW KP;go_wp2_with fail;go_region_held3 (fun W=>Gw w W/\W.cell? (φ x 0)=some (By eps)/\W.cell? (φ x 1)=some (By buf)/\W.cell? (φ x 2)=some (By keys))
   ((refine HC.o _ ?_;(repeat (first | exact Ξ δ | exact ag.o δ | refine Gw.drew ?_));done))
   ((go_at_call 35;refine Calls.mono (CF.o _ (by repeat (first | exact Ξ δ | exact ag.o δ | refine Gw.drew ?_))) ?_;rintro ex wB ⟨rfl,gB⟩;have GB:ag (Gw w wB):=(Gw.trans (by repeat (first | exact Ξ δ | exact ag.o δ | refine Gw.drew ?_)) gB);clear gB))
  all_goals
   go_wp2_with fail;go_ret
   exact ⟨rfl,GB.o⟩
def eP (F R F' R':Nat->Prop):Prop:=(∀ q,F q->¬ F' q/\¬ R' q)/\∀ q,F' q->¬ R q
section
variable {F R F' R' A S:Nat->Prop} {n:Nat}
theorem eP.symm (h:eP F R F' R'):eP F' R' F R:=⟨fun q a=>⟨fun b=>(h.1 q b).1 a,h.2 q a⟩,fun q a=>(h.1 q a).2⟩
theorem eP.left (h:eP F R F' R') (a:∀ q,A q->F q\/n<=q) (b:∀ q,S q->R q\/n<=q) (c:∀ q,(F' q\/R' q)->q<n):eP A S F' R' :=
 ⟨fun q x=>(a q x).elim (h.1 q) fun y=>⟨fun z=>by have:=c q (.inl z);omega,fun z=>by have:=c q (.inr z);omega⟩,fun q x y=>(b q y).elim (h.2 q x) fun z=>by have:=c q (.inl x);omega⟩
theorem eP.new (a:∀ q,A q->n<=q) (c:∀ q,(F' q\/R' q)->q<n) (d:∀ q,F' q->¬ S q):eP A S F' R' :=
 ⟨fun q x=>⟨fun z=>by have:=a q x;have:=c q (.inl z);omega,fun z=>by have:=a q x;have:=c q (.inr z);omega⟩,d⟩
end
def cI (rs:List (Option Rn)) (q:Nat):Prop:=∃ r,some r∈rs/\r.S q
structure gJ (HR:bH) (w0 w:World) (p x:Nat) (F R G S:Nat->Prop) (eps buf keys:Int) (t:Nat):Prop where
 is:∃ l rs rs' B W live,HT HR w p F eps buf keys l rs B W live/\dq w x G eps buf keys l rs' B W/\Al rs rs'/\BW l rs B W t/\R=cI rs/\S=cI rs'
 off:eP F R G S
 new:∀ q,(F q\/G q)->w0.heap.size<=q
section
variable {HR:bH} {w0 w w' u:World} {p x:Nat} {F R G S A:Nat->Prop} {eps buf keys:Int} {t:Nat}
theorem gJ.lt (K:Kp HR) (h:gJ HR w0 w p x F R G S eps buf keys t):∀ q,(F q\/R q)\/G q\/S q->q<w.heap.size:=fun q hq=>by obtain ⟨l,rs,rs',B,W,live,a,b,_,_,rfl,rfl⟩:=h.is;exact hq.elim (a.lt K q) (b.lt q)
theorem gJ.gx (K:Kp HR) (h:gJ HR w0 w p x F R G S eps buf keys t) (g:Gx A w w') (d:∀ q,A q->¬ F q/\¬ R q/\¬ G q/\¬ S q):gJ HR w0 w' p x F R G S eps buf keys t:=by obtain ⟨l,rs,rs',B,W,live,a,b,c,e,rfl,rfl⟩:=h.is;exact ⟨⟨l,rs,rs',B,W,live,a.gx K g (fun q y=>(d q y).1) (fun q y r hr z=>(d q y).2.1 ⟨r,hr,z⟩),b.gx g (fun q y=>(d q y).2.2.1) (fun r hr q y z=>(d q y).2.2.2 ⟨r,hr,z⟩),c,e,rfl,rfl⟩,h.off,h.new⟩
theorem gJ.gw (K:Kp HR) (h:gJ HR w0 w p x F R G S eps buf keys t) (g:Gw w w'):gJ HR w0 w' p x F R G S eps buf keys t:=h.gx K (A:=fun _=>False) (g.gx _) fun _ y=>y.elim
theorem gJ.more (h:gJ HR w0 w p x F R G S eps buf keys t):gJ HR w0 w p x F R G S eps buf keys (t+1):=by obtain ⟨l,rs,rs',B,W,live,a,b,c,e,f⟩:=h.is;exact ⟨⟨l,rs,rs',B,W,live,a,b,c,e.mono (Nat.le_succ t),f⟩,h.off,h.new⟩
end
variable {HR:bH} {w w':World} {eps buf B:Int} {l:List ah} {rs rs':List (Option Rn)}
theorem afs {u u':World} {l1 l2:List ah} {qt uC:List (Option Rn)} {W B1 W1 B2 W2:Int} {e:ah} (h:Al rs rs') (c:kK HR w w' eps buf l rs B W l1 qt B1 W1 e) (c':kK ba u u' eps buf l rs' B W l2 uC B2 W2 e):l1=l2/\Al qt uC/\B1=B2/\W1=W2:=by
 rcases c with ⟨x,rfl,rfl,rfl,rfl⟩ | ⟨x,rfl,o,kept,rn,tr,ld,rfl,rfl,rfl⟩<;>rcases c' with ⟨y,rfl,rfl,rfl,rfl⟩ | ⟨y,rfl,o',aft,wZ,tr',JI,rfl,rfl,rfl⟩
 ·exact ⟨rfl,h,rfl,rfl⟩
 ·omega
 ·omega
 ·have ek:kept=aft:=(h.takeR tr).one tr'
  subst ek;exact ⟨rfl,h.laid (ld.al JI),rfl,rfl⟩
section
variable {HR:bH} {w0 w w1 w2:World} {p x pz z:Nat} {F R G S F' R' G' S':Nat->Prop} {eps buf keys:Int} {l:List ah} {rs rs':List (Option Rn)} {B W:Int} {live n t:Nat} {e:ah}
structure cD (HR:bH) (w0 w:World) (p x pz z:Nat) (eps buf keys:Int) (t b:Nat) (o:Obj):Prop where
 is:∃ F R G S F' R' G' S',gJ HR w0 w p x F R G S eps buf keys t/\gJ HR w0 w pz z F' R' G' S' eps buf keys t/\(eP F R F' R'/\eP F R G' S'/\eP G S F' R'/\eP G S G' S')/\¬ F b/\¬ G b/\¬ F' b/\¬ G' b
 gw:Gw w0 w
 box:w.heap[b]?=some o
variable {b:Nat} {o:Obj}
theorem cD.to (K:Kp HR) (h:cD HR w0 w p x pz z eps buf keys t b o) (g:Gw w w1):cD HR w0 w1 p x pz z eps buf keys t b o:=by obtain ⟨F,R,G,S,F',R',G',S',a,c,d⟩:=h.is;exact ⟨⟨F,R,G,S,F',R',G',S',a.gw K g,c.gw K g,d⟩,h.gw.trans g,(g.below.block b (ak h.box)).trans h.box⟩
theorem cD.more (h:cD HR w0 w p x pz z eps buf keys t b o):cD HR w0 w p x pz z eps buf keys (t+1) b o:=by obtain ⟨F,R,G,S,F',R',G',S',a,c,d⟩:=h.is;exact ⟨⟨F,R,G,S,F',R',G',S',a.more,c.more,d⟩,h.gw,h.box⟩
theorem cD.swap (h:cD HR w0 w p x pz z eps buf keys t b o):cD HR w0 w pz z p x eps buf keys t b o:=by obtain ⟨F,R,G,S,F',R',G',S',a,c,⟨c1,c2,c3,c4⟩,d1,d2,d3,d4⟩:=h.is;exact ⟨⟨F',R',G',S',F,R,G,S,c,a,⟨c1.symm,c3.symm,c2.symm,c4.symm⟩,d3,d4,d1,d2⟩,h.gw,h.box⟩
theorem cD.boxed (K:Kp HR) (h:cD HR w0 w p x pz z eps buf keys t b o) (cs:Array Value) (ty:TypeId):cD HR w0 (w.alloc (.cells cs ty)) p x pz z eps buf keys t w.heap.size (.cells cs ty (0,0)):=by have h':=h.to K ((Gw.refl w).alloc cs ty);obtain ⟨F,R,G,S,F',R',G',S',a,c,d,_⟩:=h.is;have la:=a.lt K;have lc:=c.lt K;exact ⟨⟨F,R,G,S,F',R',G',S',a.gw K ((Gw.refl w).alloc cs ty),c.gw K ((Gw.refl w).alloc cs ty),d,fun y=>Nat.lt_irrefl _ (la _ (.inl (.inl y))),fun y=>Nat.lt_irrefl _ (la _ (.inr (.inl y))),fun y=>Nat.lt_irrefl _ (lc _ (.inl (.inl y))),fun y=>Nat.lt_irrefl _ (lc _ (.inr (.inl y)))⟩,h'.gw,Ω w _⟩
theorem cD.step (K:Kp HR) (ht:t+1<=2000000) (h1:HT HR w p F eps buf keys l rs B W live) (h2:dq w x G eps buf keys l rs' B W) (al:Al rs rs') (bw:BW l rs B W t) (of:eP F (cI rs) G (cI rs')) (nw:∀ q,(F q\/G q)->w0.heap.size<=q) (c:gJ HR w0 w pz z F' R' G' S' eps buf keys t) (o1:eP F (cI rs) F' R') (o2:eP F (cI rs) G' S') (o3:eP G (cI rs') F' R') (o4:eP G (cI rs') G' S') (nb:¬ F b/\¬ G b/\¬ F' b/\¬ G' b) (gw:Gw w0 w) (bx:w.heap[b]?=some o)
  (ch:uo HR w w1 p F eps buf keys l rs B W e n) (d:jN w1 w2 x G eps buf keys l rs' B W e):cD HR w0 w2 p x pz z eps buf keys (t+1) b o:=by
 obtain ⟨F1,l1,qt,B1,W1,a1,a2,⟨a3,a4⟩,a5⟩:=ch;obtain ⟨G1,l2,uC,B2,W2,d1,d2,⟨d3,d4⟩,d5⟩:=d;obtain ⟨rfl,tN,rfl,rfl⟩:=afs al a2 d2;have s1:=a5.size;have bl:=ak bx;have r1:∀ q,cI qt q->cI rs q\/w.heap.size<=q:=fun q ⟨r,hr,y⟩=>(a4 r hr).imp (fun u=>⟨r,u,y⟩) fun u=>u q y
 have r2:∀ q,cI uC q->cI rs' q\/w1.heap.size<=q:=fun q ⟨r,hr,y⟩=>(d4 r hr).imp (fun u=>⟨r,u,y⟩) fun u=>u q y
 have lG:∀ q,(G q\/cI rs' q)->q<w.heap.size:=fun q=>h2.lt q
 have lF:∀ q,(F1 q\/cI qt q)->q<w1.heap.size:=fun q=>a1.lt K q
 have lz:=c.lt K;have f1:eP F1 (cI qt) G (cI rs'):=of.left a3 r1 lG;have g1:eP G1 (cI uC) F1 (cI qt):=f1.symm.left d3 r2 lF;have lz1:∀ q,(F' q\/R' q)->q<w1.heap.size:=fun q hq=>Θ (lz q (.inl hq)) s1
 have lz2:∀ q,(G' q\/S' q)->q<w1.heap.size:=fun q hq=>Θ (lz q (.inr hq)) s1
 refine ⟨⟨F1,cI qt,G1,cI uC,F',R',G',S',⟨⟨l1,qt,uC,B1,W1,n,a1.gx K d5 (fun q y=>(f1.symm.1 q y).1) (fun q y r hr v=>(f1.symm.1 q y).2 ⟨r,hr,v⟩),d1,tN,bw.step ht h1.inv.ok a2,rfl,rfl⟩,g1.symm,fun q hq=>?_⟩,?_,⟨o1.left a3 r1 fun q hq=>lz q (.inl hq),o2.left a3 r1 fun q hq=>lz q (.inr hq),o3.left d3 r2 lz1,o4.left d3 r2 lz2⟩,fun y=>(a3 b y).elim nb.1 fun v=>ω,fun y=>(d3 b y).elim nb.2.1 fun v=>ω,nb.2.2⟩,?_,?_⟩
 ·have gs:=gw.size
  rcases hq with y | y
  ·exact (a3 q y).elim (fun v=>nw q (.inl v)) (Φ gs)
  ·exact (d3 q y).elim (fun v=>nw q (.inr v)) fun v=>ω
 ·exact ((c.gx K a5 fun q y=>⟨(o1.1 q y).1,(o1.1 q y).2,(o2.1 q y).1,(o2.1 q y).2⟩).gx K d5 fun q y=>⟨(o3.1 q y).1,(o3.1 q y).2,(o4.1 q y).1,(o4.1 q y).2⟩).more
 ·exact Gx.gw (Gx.gw gw a5 fun q y=>nw q (.inl y)) d5 fun q y=>nw q (.inr y)
 ·exact (d5.block b (Θ bl s1) nb.2.1).trans ((a5.block b bl nb.1).trans bx)
theorem cD.clone (K:Kp HR) {F1 G1:Nat->Prop} {p1 x1:Nat} (a:gJ HR w0 w p x F (cI rs) G (cI rs') eps buf keys t) (gw:Gw w0 w) (bx:w.heap[b]?=some o) (nb:¬ F b/\¬ G b) (o1:∀ q,F q->¬ cI rs q) (o2:∀ q,G q->¬ cI rs' q) (al:Al rs rs') (bw:BW l rs B W t)
  (g1:Gw w w1) (c:HT HR w1 p1 F1 eps buf keys l rs B W live) (cn:∀ q,F1 q->w.heap.size<=q) (g2:Gw w1 w2) (d:dq w2 x1 G1 eps buf keys l rs' B W) (dn:∀ q,G1 q->w1.heap.size<=q):cD HR w0 w2 p1 x1 p x eps buf keys t b o:=by
 have s0:=gw.size;have s1:=g1.size;have bl:=ak bx;have lt:=a.lt K;have l1:∀ q,(F q\/cI rs q)->q<w.heap.size:=fun q hq=>lt q (.inl hq)
 have l2:∀ q,(G q\/cI rs' q)->q<w.heap.size:=fun q hq=>lt q (.inr hq)
 have lc:∀ q,(F1 q\/cI rs q)->q<w1.heap.size:=fun q=>c.lt K q
 have m1:∀ q,(F q\/cI rs q)->q<w1.heap.size:=fun q hq=>Θ (l1 q hq) s1
 have m2:∀ q,(G q\/cI rs' q)->q<w1.heap.size:=fun q hq=>Θ (l2 q hq) s1
 refine ⟨⟨F1,cI rs,G1,cI rs',F,cI rs,G,cI rs',⟨⟨l,rs,rs',B,W,live,c.gw K g2,d,al,bw,rfl,rfl⟩,(eP.new dn lc fun q y v=>?_).symm,fun q hq=>?_⟩,(a.gw K g1).gw K g2,⟨eP.new cn l1 o1,eP.new cn l2 a.off.2,eP.new dn m1 fun q y=>(a.off.1 q y).2,eP.new dn m2 o2⟩,fun y=>by have:=cn b y;omega,fun y=>by have:=dn b y;omega,nb⟩,(gw.trans g1).trans g2,((g1.trans g2).below.block b bl).trans bx⟩
 ·have:=cn q y;have:=l2 q (.inr v);omega
 ·rcases hq with y | y
  ·have:=cn q y;omega
  ·have:=dn q y;omega
end
section
variable {HR:bH} {w0 w:World} {p x pz z:Nat} {eps buf keys:Int} {t b:Nat} {o:Obj}
theorem afu (H:bj HR) (O5:jH) (h:cD HR w0 w p x pz z eps buf keys t b o) (ht:t<1048576) (k v:Int) (k0:0<=k/\k<18446744073709551616) (v0:0<=v/\v<18446744073709551616) :
  Calls prog 10 #[IS p,BY k,BY v] w fun ex w1=>∃ a:Int,ex=χ (By a)/\w1.heap[b]?=some o/\Calls prog 11 #[IS x,BY k,BY v] w1 fun ex w2=>ex=χ (By a)/\cD HR w0 w2 p x pz z eps buf keys (t+1) b o:=by
 obtain ⟨F,R,G,S,F',R',G',S',a,c0,⟨o1,o2,o3,o4⟩,nb⟩:=h.is;obtain ⟨l,rs,rs',B,W,live,h1,h2,al,bw,rfl,rfl⟩:=a.is;obtain ⟨m1,m2,m3⟩:=bw.in ω;have lv:=VK al h1.inv.all h1.inv.ok.rise fun r hr=>(h2.ra r hr).ok.rise
 have e:=al.alk.val l k;have lB:l.length+1+tot rs'<=2000000:=by rw [<-al.tot];exact m1
 refine (UI H h1 m1 m2 m3 k v k0 v0).mono fun ex w1 hp=>?_
 rcases hp with ⟨q,rfl,g⟩ | ⟨q,rfl,c⟩
 ·refine ⟨_,rfl,(h.to H.kp g).box,(VH O5 (h2.gw g) h1.inv.ok h1.inv.room lB m2 m3 lv h1.inv.most k v k0 v0).mono fun ex w2 hd=>?_⟩
  rcases hd with ⟨_,rfl,g'⟩ | ⟨n,_⟩
  ·exact ⟨rfl,((h.to H.kp g).to H.kp g').more⟩
  ·exact absurd (e▸q) n
 ·have cg:=c.elim fun _ ⟨_,_,_,_,y⟩=>y.2.2.2
  refine ⟨_,rfl,(cg.block b (ak h.box) nb.1).trans h.box,(VH O5 (h2.gx cg (fun q y=>(a.off.1 q y).1) fun r hr q y v=>(a.off.1 q y).2 ⟨r,hr,v⟩) h1.inv.ok h1.inv.room lB m2 m3 lv h1.inv.most k v k0 v0).mono fun ex w2 hd=>?_⟩
  rcases hd with ⟨n,_⟩ | ⟨_,rfl,d⟩
  ·exact absurd (e▸n) q
  ·exact ⟨rfl,cD.step H.kp ω h1 h2 al bw a.off a.new c0 o1 o2 o3 o4 nb h.gw h.box c d⟩
theorem afv (H:bj HR) (O5:jH) (h:cD HR w0 w p x pz z eps buf keys t b o) (ht:t<1048576) (k:Int) (k0:0<=k/\k<18446744073709551616) :
  Calls prog 12 #[IS p,BY k] w fun ex w1=>∃ a:Bool,ex=χ (.bool a)/\w1.heap[b]?=some o/\Calls prog 13 #[IS x,BY k] w1 fun ex w2=>ex=χ (.bool a)/\cD HR w0 w2 p x pz z eps buf keys (t+1) b o:=by
 obtain ⟨F,R,G,S,F',R',G',S',a,c0,⟨o1,o2,o3,o4⟩,nb⟩:=h.is;obtain ⟨l,rs,rs',B,W,live,h1,h2,al,bw,rfl,rfl⟩:=a.is;obtain ⟨m1,m2,m3⟩:=bw.in ω;have e:=al.alk.val l k;have lB:l.length+1+tot rs'<=2000000:=by rw [<-al.tot];exact m1
 refine (JM H h1 m1 m2 m3 k k0).mono fun ex w1 hp=>?_
 rcases hp with ⟨q,rfl,g⟩ | ⟨q,rfl,_,c⟩
 ·refine ⟨_,rfl,(h.to H.kp g).box,(VJ O5 (h2.gw g) h1.inv.ok h1.inv.room lB m2 m3 k k0).mono fun ex w2 hd=>?_⟩
  rcases hd with ⟨_,rfl,g'⟩ | ⟨n,_⟩
  ·exact ⟨rfl,((h.to H.kp g).to H.kp g').more⟩
  ·exact absurd (e▸q) n
 ·have cg:=c.elim fun _ ⟨_,_,_,_,y⟩=>y.2.2.2
  refine ⟨_,rfl,(cg.block b (ak h.box) nb.1).trans h.box,(VJ O5 (h2.gx cg (fun q y=>(a.off.1 q y).1) fun r hr q y v=>(a.off.1 q y).2 ⟨r,hr,v⟩) h1.inv.ok h1.inv.room lB m2 m3 k k0).mono fun ex w2 hd=>?_⟩
  rcases hd with ⟨n,_⟩ | ⟨_,rfl,d⟩
  ·exact absurd (e▸n) q
  ·exact ⟨rfl,cD.step H.kp ω h1 h2 al bw a.off a.new c0 o1 o2 o3 o4 nb h.gw h.box c d⟩
variable {F G:Nat->Prop}
theorem VX (H:bj HR) {R S:Nat->Prop} (a:gJ HR w0 w p x F R G S eps buf keys t) (bx:w.heap[b]?=some o) (nb:¬ F b/\¬ G b) (gw:Gw w0 w) (ht:t<1048577) :
  Calls prog 7 #[IS p] w fun ex w1=>∃ p1,ex=χ (IS p1)/\Calls prog 8 #[IS x] w1 fun ex w2=>∃ x1,ex=χ (IS x1)/\cD HR w0 w2 p1 x1 p x eps buf keys t b o:=by
 obtain ⟨l,rs,rs',B,W,live,h1,h2,al,bw,rfl,rfl⟩:=a.is;have m1:=(bw.in ω).1;refine (aer H h1 ω).mono fun ex w1 ⟨⟨p1,F1,e,c,cn⟩,g1⟩=>⟨p1,e,(afj (h2.gw g1) ω).mono fun ex w2 ⟨⟨x1,G1,e',d,dn⟩,g2⟩=>⟨x1,e',cD.clone H.kp a gw bx nb (fun q y ⟨r,hr,v⟩=>h1.o r hr q y v) (fun q y ⟨r,hr,v⟩=>h2.sep r hr q y v) al bw g1 c cn g2 d dn⟩⟩
theorem afw (H:bj HR) (h:cD HR w0 w p x pz z eps buf keys t b o) (ht:t<1048576) :
  Calls prog 7 #[IS p] w fun ex w1=>∃ p1,ex=χ (IS p1)/\Calls prog 8 #[IS x] w1 fun ex w2=>∃ x1,ex=χ (IS x1)/\cD HR w0 w2 p1 x1 p x eps buf keys (t+1) b o:=by
 obtain ⟨F,R,G,S,F',R',G',S',a,_,_,nb⟩:=h.is;exact (VX H a h.box ⟨nb.1,nb.2.1⟩ h.gw ω).mono fun ex w1 ⟨p1,e,c⟩=>⟨p1,e,c.mono fun ex w2 ⟨x1,e',d⟩=>⟨x1,e',d.more⟩⟩
theorem VY (H:bj HR) (h:cD HR w0 w p x pz z eps buf keys t b o) (ht:t<1048577) (q:Int) (q0:0<=q/\q<18446744073709551616) :
  Calls prog 14 #[IS p,IS x,BY q] w fun e w'=>e=χ (.bool true)/\cD HR w0 w' p x pz z eps buf keys t b o:=by
 obtain ⟨F,R,G,S,F',R',G',S',a,_⟩:=h.is;obtain ⟨l,rs,rs',B,W,live,h1,h2,al,bw,rfl,rfl⟩:=a.is;have m1:=(bw.in ω).1;exact (afr H h1 h2 al ω q q0).mono fun e w' ⟨y,g⟩=>⟨y,h.to H.kp g⟩
theorem gJ.made {w1 w2:World} (K:Kp HR) (g0:Gw w0 w) (g1:Gw w w1) (c:HT HR w1 p F eps buf keys [] (List.replicate 40 none) 0 0 0) (cn:∀ q,F q->w.heap.size<=q) (g2:Gw w1 w2) (d:dq w2 x G eps buf keys [] (List.replicate 40 none) 0 0) (dn:∀ q,G q->w1.heap.size<=q):gJ HR w0 w2 p x F (cI (List.replicate 40 none)) G (cI (List.replicate 40 none)) eps buf keys 0:=by
 have no:∀ q,¬ cI (List.replicate 40 none) q:=fun q ⟨r,hr,_⟩=>by cases List.eq_of_mem_replicate hr
 have s0:=g0.size;have s1:=g1.size;exact ⟨⟨[],_,_,0,0,0,c.gw K g2,d,rfl,BW.new,rfl,rfl⟩,⟨fun q y=>⟨fun v=>by have:=c.lt K q (.inl y);have:=dn q v;omega,no q⟩,fun q _=>no q⟩,fun q hq=>by
  rcases hq with y | y
  ·have:=cn q y;omega
  ·have:=dn q y;omega⟩
end
variable {HR:bH}
theorem afx (H:bj HR) (O5:jH) (eps buf keys:Int) (ao:Option Addr) (c:Nat) (sl:List (Int×Int×Int)) (Kn:sl.length<=1048576) (w:World) (h:vd w ao sl) :
  Calls prog 3 #[.agg #[By eps,By buf,By keys],.slice ao sl.length c] w fun e w'=>e=χ (.bool true)/\Gw w w':=by
 have SC:ag (vd w ao sl):=h;obtain ⟨n,ax⟩:=qbr sl.length;have LN:ag (sl.length=n):=ax;rw [ax] at Kn;rw [ax];clear h ax;have HH:ag (bj HR):=H;have OO:ag jH:=O5;have SH:ag (∀ W,_):=fun W=>aeH H W
 have NW:ag (∀ W,_):=fun W=>UY H eps buf keys W
 have ND:ag (∀ W,_):=fun W=>afe eps buf keys W
 have LE:ag (n<=1048576):=Kn;have qn:∀ (p:Nat) (W:World),(binOp .eql 26 (IS p) (.pointer none)).run prog W=.ok (.bool false) W:=fun _ _=>η
 have qd:∀ (p:Nat) (W:World),(binOp .eql 30 (IS p) (.pointer none)).run prog W=.ok (.bool false) W:=fun _ _=>η
 have b1:(w.alloc (.cells #[By eps,By buf,By keys] 23)).heap[w.heap.size]?=some (.cells #[By eps,By buf,By keys] 23 (0,0)):=Ω w _;have g1:Gw w (w.alloc (.cells #[By eps,By buf,By keys] 23)):=(Gw.refl w).alloc _ _;obtain ⟨bq,aE⟩:=qbr w.heap.size;have BQ:ag (w.heap.size=bq):=aE;rw [aE] at b1;clear H O5 aE Kn;go_enter func3,ntmps3;go_wp2_with fail;rw [BQ.o];generalize w.alloc (.cells #[By eps,By buf,By keys] 23)=w1 at b1 g1 ⊢;have KC:ag (∀ W,Gw w1 W->W.heap[bq]?=some (.cells #[By eps,By buf,By keys] 23 (0,0))):=fun W g=>(g.below.block _ (ak b1)).trans b1
 have G1:ag (Gw w w1):=g1;clear b1 g1;refine Calls.mono (SH.o w1) ?_;rintro e w2 ⟨rfl,g2⟩;have G2:ag (Gw w1 w2):=g2;obtain ⟨c0,c1,c2,cl⟩:=uy (KC.o w2 g2);clear g2 SH;go_wp2_with fail;refine Calls.mono (NW.o w2) ?_;rintro e w3 ⟨h3,g3⟩;have G3:ag (Gw w1 w3):=G2.o.trans g3;have VZ:ag (Gw w2 w3):=g3;clear c0 c1 c2 cl NW g3;obtain ⟨c0,c1,c2,cl⟩:=uy (KC.o w3 G3.o);rcases h3 with ⟨cf,rfl⟩ | ⟨cf,p,F,rfl,ht,hF⟩
 ·have CF:ag (¬ fR eps buf keys):=cf
  clear cf;go_wp2_with fail;refine Calls.mono (ND.o w3) ?_;rintro e w4 ⟨h4,g4⟩;have GE:ag (Gw w w4):=G1.o.trans (G3.o.trans g4);rcases h4 with ⟨_,rfl⟩ | ⟨cf,_⟩
  ·clear g4 ND
   go_wp2_with fail;go_ret
   exact ⟨rfl,GE.o⟩
  ·exact absurd cf CF.o
 have CF:ag (fR eps buf keys):=cf;have DP:ag (HT HR w3 p F eps buf keys [] (List.replicate 40 none) 0 0 0/\∀ q,F q->w2.heap.size<=q):=⟨ht,hF⟩;clear cf ht hF;go_wp2_with fail;refine Calls.mono (ND.o w3) ?_;rintro e w4 ⟨h4,g4⟩;have G4:ag (Gw w3 w4):=g4;clear g4 ND c0 c1 c2 cl;rcases h4 with ⟨cf,_⟩ | ⟨_,x,G,rfl,dt,hG⟩
 ·exact absurd CF.o cf
 have V4:ag (gJ HR w w4 p x F (cI (List.replicate 40 none)) G (cI (List.replicate 40 none)) eps buf keys 0):=gJ.made HH.o.kp (G1.o.trans G2.o) VZ.o DP.o.1 DP.o.2 G4.o dt hG;have NB:ag (¬ F bq/\¬ G bq):=⟨fun y=>by have:=DP.o.2 bq y;have:=ak (KC.o w2 G2.o);omega,fun y=>by have:=hG bq y;have:=ak (KC.o w3 G3.o);omega⟩
 have CL:=VX HH.o V4.o (KC.o w4 (G3.o.trans G4.o)) NB.o (G1.o.trans (G3.o.trans G4.o)) ω;clear dt hG;go_wp2_with fail;refine Calls.mono CL ?_;rintro e w5 ⟨pz,rfl,h5⟩;have H5:ag _:=h5;clear h5 CL;go_wp2_with fail;refine Calls.mono H5.o ?_;rintro e w6 ⟨z,rfl,h6⟩;have T0:ag (cD HR w w6 p x pz z eps buf keys 0 bq (.cells #[By eps,By buf,By keys] 23 (0,0))):=h6.swap;clear h6 H5 V4 NB DP KC G1 G2 G3 G4 VZ;go_wp2_with fail;go_loopg [6,8,10,11,12] n (fun gg s6 s8 jW lj yy wr=>∃ (i p x pz z b:Nat) (o:Obj),s6=IS p/\s8=IS x/\jW=IS pz/\lj=IS z/\yy=By (i:Int)/\i<=n/\n-i<=gg/\ag (cD HR w wr p x pz z eps buf keys i b o))
 case atStart=>exact ⟨0,p,x,pz,z,bq,_,rfl,rfl,rfl,rfl,rfl,Γ _,ω,T0⟩
 case round =>
  clear T0;obtain ⟨i,p,x,pz,z,b,o,rfl,rfl,rfl,rfl,rfl,a1,a2,T⟩:=hrel;obtain ⟨wS,aS⟩:=qbs wr;subst aS;by_cases ar:i<n
  ·have dH:(i:Int)<(n:Int):=(by omega);have gi:sl[i]?=some (sl.getD i (0,0,0)):=(by rw [qah (by rw [LN.o];exact ar),qag,qah (by rw [LN.o];exact ar)];rfl);obtain ⟨ab,af,rfl,cN,ju⟩:=(SC.o.gw T.o.gw).cells (by rw [LN.o];omega)
   obtain ⟨x0,x1,x2⟩:=ju i _ gi;obtain ⟨zS,DQ⟩:=SC.o.bd _ (List.mem_of_getElem? gi);generalize sl.getD i (0,0,0)=y at x0 x1 x2 zS DQ;obtain ⟨kn,ky,vl⟩:=y;simp only at x0 x1 x2 zS DQ;have KB:ag ((0<=ky/\ky<18446744073709551616)/\0<=vl/\vl<18446744073709551616):=DQ;have KK:ag (∀ W,Calls prog 9 #[By kn] W fun e w'=>e=χ (By (oh kn))/\w'=W):=fun W=>Zg kn zS.1 zS.2 W
   have TB:ag _:=T.o.boxed HH.o.kp #[By kn,BY ky,BY vl] 37;have li:i<1048576:=(by have:=LE.o;omega);clear gi ju zS DQ;go_wp2_with fail;generalize wS.heap.size=bo at TB ⊢;generalize wS.alloc (.cells #[By kn,BY ky,BY vl] 37)=w0 at TB ⊢;have FB:ag (∀ W:World,W.heap[bo]?=some (.cells #[By kn,BY ky,BY vl] 37 (0,0))->W.cell? (φ bo 0)=some (By kn)/\W.cell? (φ bo 1)=some (BY ky)/\W.cell? (φ bo 2)=some (BY vl)/\bo<W.heap.size):=fun W y=>uy y
   have AK:ag (∀ W p x pz z,cD HR w W p x pz z eps buf keys (i+1) bo (.cells #[By kn,BY ky,BY vl] 37 (0,0))->_):=fun W p x pz z y=>VY HH.o y ω ky KB.o.1
   obtain ⟨c0,c1,c2,cl⟩:=FB.o w0 TB.o.box;have KI:=Zf kn;clear x0 x1 x2 T cN;go_wp2_with fail;refine Calls.mono (KK.o w0) ?_;rintro e w1 ⟨rfl,zT⟩;have jD:=zT.symm;subst jD;generalize oh kn=kv at KI ⊢;clear zT KK;have kq:(kv=0\/kv=1\/kv=2\/kv=3)\/(kv=4\/kv=5)\/kv=6\/kv=7:=ω;clear KI;rcases kq with kq | kq | rfl | rfl
   ·rcases kq with rfl | rfl | rfl | rfl
    all_goals as_aux_lemma =>
     go_wp2_with fail;refine Calls.mono (afu HH.o OO.o TB.o li ky vl KB.o.1 KB.o.2) ?_
     rintro e w1 ⟨a,rfl,hb,hc⟩;have HC:ag _:=hc;clear c0 c1 c2 cl hc;obtain ⟨c0,c1,c2,cl⟩:=FB.o w1 hb;clear hb TB;go_wp2_with fail;refine Calls.mono HC.o ?_;rintro e w8 ⟨rfl,h8⟩;have T9:ag (cD HR w w8 p x pz z eps buf keys (i+1) bo (.cells #[By kn,BY ky,BY vl] 37 (0,0))):=h8;clear c0 c1 c2 cl h8 HC;obtain ⟨c0,c1,c2,cl⟩:=FB.o w8 T9.o.box;have ne:(a == a)=true:=ε;go_wp2_with fail;refine Calls.mono (AK.o _ _ _ _ _ T9.o) ?_;rintro e w9 ⟨rfl,h9⟩;have TE:ag (cD HR w w9 p x pz z eps buf keys (i+1) bo (.cells #[By kn,BY ky,BY vl] 37 (0,0))):=h9;clear h9 T9 AK c0 c1 c2 cl;go_wp2_with fail;go_roundg (n-(i+1))
     case measure=>omega
     case rel=>exact ⟨i+1,p,x,pz,z,_,_,rfl,rfl,rfl,rfl,by go_num,ω,Yk _,TE⟩
   ·rcases kq with rfl | rfl
    all_goals as_aux_lemma =>
     go_wp2_with fail;refine Calls.mono (afv HH.o OO.o TB.o li ky KB.o.1) ?_
     rintro e w1 ⟨a,rfl,hb,hc⟩;have HC:ag _:=hc;clear c0 c1 c2 cl hc;obtain ⟨c0,c1,c2,cl⟩:=FB.o w1 hb;clear hb TB;go_wp2_with fail;refine Calls.mono HC.o ?_;rintro e w8 ⟨rfl,h8⟩;have T9:ag (cD HR w w8 p x pz z eps buf keys (i+1) bo (.cells #[By kn,BY ky,BY vl] 37 (0,0))):=h8;clear c0 c1 c2 cl h8 HC;obtain ⟨c0,c1,c2,cl⟩:=FB.o w8 T9.o.box;have ne:(a == a)=true:=ε;go_wp2_with fail;refine Calls.mono (AK.o _ _ _ _ _ T9.o) ?_;rintro e w9 ⟨rfl,h9⟩;have TE:ag (cD HR w w9 p x pz z eps buf keys (i+1) bo (.cells #[By kn,BY ky,BY vl] 37 (0,0))):=h9;clear h9 T9 AK c0 c1 c2 cl;go_wp2_with fail;go_roundg (n-(i+1))
     case measure=>omega
     case rel=>exact ⟨i+1,p,x,pz,z,_,_,rfl,rfl,rfl,rfl,by go_num,ω,Yk _,TE⟩
   ·as_aux_lemma =>
     go_wp2_with fail;refine Calls.mono (afw HH.o TB.o li) ?_
     rintro e w1 ⟨p1,rfl,hc⟩;have HC:ag _:=hc;clear c0 c1 c2 cl hc TB;go_wp2_with fail;refine Calls.mono HC.o ?_;rintro e w8 ⟨x1,rfl,h8⟩;have T9:ag (cD HR w w8 p1 x1 p x eps buf keys (i+1) bo (.cells #[By kn,BY ky,BY vl] 37 (0,0))):=h8;clear h8 HC;obtain ⟨c0,c1,c2,cl⟩:=FB.o w8 T9.o.box;go_wp2_with fail;refine Calls.mono (AK.o _ _ _ _ _ T9.o) ?_;rintro e w9 ⟨rfl,h9⟩;have TE:ag (cD HR w w9 p1 x1 p x eps buf keys (i+1) bo (.cells #[By kn,BY ky,BY vl] 37 (0,0))):=h9;clear h9 T9 AK c0 c1 c2 cl;go_wp2_with fail;go_roundg (n-(i+1))
     case measure=>omega
     case rel=>exact ⟨i+1,p1,x1,p,x,_,_,rfl,rfl,rfl,rfl,by go_num,ω,Yk _,TE⟩
   ·as_aux_lemma =>
     have T9:ag (cD HR w w0 pz z p x eps buf keys (i+1) bo (.cells #[By kn,BY ky,BY vl] 37 (0,0))):=TB.o.more.swap;clear TB;go_wp2_with fail;refine Calls.mono (AK.o _ _ _ _ _ T9.o) ?_;rintro e w9 ⟨rfl,h9⟩;have TE:ag (cD HR w w9 pz z p x eps buf keys (i+1) bo (.cells #[By kn,BY ky,BY vl] 37 (0,0))):=h9;clear h9 T9 AK c0 c1 c2 cl;go_wp2_with fail;go_roundg (n-(i+1))
     case measure=>omega
     case rel=>exact ⟨i+1,pz,z,p,x,_,_,rfl,rfl,rfl,rfl,by go_num,ω,Yk _,TE⟩
  ·have ei:i=n:=(by omega);subst ei;have AE:=VY HH.o T.o.swap (by have:=LE.o;omega) 1 γ
   clear T;go_wp2_with fail;refine AE.mono ?_;rintro e w7 ⟨rfl,h7⟩;have GE:ag (Gw w w7):=h7.gw;clear h7 AE;go_wp2_with fail;go_ret;exact ⟨rfl,GE.o⟩
