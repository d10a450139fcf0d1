import Derived.Test.YtaemofgeciklkaaGreatEVBuild
import Derived.Test.YtaemofgeciklkaaGreatEPXc
import Derived.Test.YtaemofgeciklkaaGreatEPXo
set_option linter.unusedVariables false
set_option maxHeartbeats 4000000
set_option maxRecDepth 10000
open Go.Proofs.Tryz
namespace Go.Proofs.YtaemofgeciklkaaGreat
open Go.RowKit
attribute [local go_sem] iV
abbrev uL:Array Value:=#[BY 0,.float .f64 0,.float .f64 0,By 0,By 0]
theorem ahi:∀ n:Nat,(List.range (n*5)).map (fun i=>uL[i%5]!)=(List.replicate n aF).flatMap dc:=by
 intro n;induction n with
 | zero=>rfl
 | succ n ih =>
  have e:(n+1)*5=n*5+5:=ω;have e2:∀ i,(n*5+i)%5=i%5:=fun i=>ω
  rw [e,List.range_add,qaV,ih,List.map_map,List.replicate_succ',OT];congr 1;show (List.range 5).map (fun i=>uL[(n*5+i)%5]!)=dc aF
  simp only [e2];rfl
theorem ahj (w:World) (base n:Nat) (hb:base<=w.heap.size) (hn:n<=4000000):SR (w.alloc (.cells (madeCells uL (n*5)) 174)) base (ψ w.heap.size 0 n n) (List.replicate n aF):=by
 show World.ownsRow _ _ _ _ _ _ _;rw [qbc];refine ⟨by rw [vA,qbc],.inr ⟨w.heap.size,n,madeCells uL (n*5),rfl,hb,Ω w _,Yk _,by unfold maxLen;omega,size_madeCells _ _,?_⟩⟩
 rw [<-ahi,qaQ (by simp [madeCells])]
 simp [madeCells]
variable {m:Nat}
theorem ahk {l:List Sg} {k:Nat} (hl:l.length=k) (s:Sg) (hk:k<m):(l++List.replicate (m-k) aF).set k s=(l++[s])++List.replicate (m-(k+1)) aF:=by
 rw [show m-k=(m-(k+1))+1 by omega,List.replicate_succ,List.set_append_right _ _ ω,hl,Nat.sub_self,qaI]
 rfl
theorem ahl (C:xr) (M:iD) (eps:Int) (k2:2<=eps) (k3:eps<=64) (bo:Option Addr) (m c:Nat) (g:Nat->Int) (m0:0<m) (m1:m<=2000000) (mc:m<=c) (u:Up g m) (w:World) (k:KS w bo m g) :
  Calls prog 143 #[.slice bo m c,By eps] w fun e w'=>(∃ (b:Nat) (lv:List Sg),e=χ (ψ b 0 lv.length lv.length)/\da eps g m 0 lv/\SR w' w.heap.size (ψ b 0 lv.length lv.length) lv/\(∀ j,j<lv.length->(lv.getD j aF).ok))/\Gw w w':=by
 have HK:ag _:=k;have UP:ag _:=u;have KE:ag (2<=eps/\eps<=64):=⟨k2,k3⟩;have CE:ag (∀ W,KS W bo m g->_):=fun W h=>C.ends eps bo m c g ω ω m1 mc W h
 have MO:ag _:=fun (fr:Nat) (hfr:fr<=m) (ao:Option Addr) (n cp:Nat) (f:Nat->Int) (hn:n<=2000000) (dA:n<=cp) (W:World) (h:KS W ao n f)=>M.of eps (fr:Int) ao n cp f ω ω ω ω hn dA W h
 clear k u C M;obtain ⟨bk,off,rfl,gR,di⟩:=HK.o.cells m0;clear di gR;go_enter func143,ntmps143;go_wp2_with fail;refine (CE.o _ HK.o).mono ?_;rintro e w1 ⟨⟨v1,es,err,rfl,hE,hI⟩,g1⟩;obtain ⟨EA,rfl⟩:dr (eps-1) g m 0 es/\err=0:=by
  rcases hE with ⟨q,_⟩ | ⟨_,q,_⟩ | ⟨_,_,q,q'⟩
  ·exact absurd KE.o q
  ·exact absurd UP.o q
  ·exact ⟨q,q'⟩
 have ED:ag _:=EA;have Cb:=EA.len;obtain ⟨eo,ec,rfl,yw,yx⟩:=Pj hI;have rv:0<es.length:=qbi.2 (EA.nonempty m0);cases eo with
 | none=>have:=(yw rfl).1;rw [this] at rv;simp at rv
 | some ea =>
  obtain ⟨eb,rfl,_,gV,kh⟩:=yx ea rfl;have EC:ag (∀ W,Gw w1 W->∀ i,i<es.length->W.cell? (φ eb i)=some (By ((es.getD i 0:Nat):Int))/\eb<W.heap.size):=fun W gW i hi=>⟨(gW.cell _ _ gV).trans (kh i hi),Θ gV gW.size⟩
  have G1:ag _:=g1;clear hE EA hI yw yx kh g1 CE;obtain ⟨en,oD⟩:=qbr es.length;have EN:ag _:=oD;rw [oD] at Cb rv ⊢;clear oD gV;obtain ⟨e9,rfl⟩:∃ e9,en=e9+1:=⟨en-1,ω⟩;have vF:=abO e9 ω;have S4:ag _:=ahj w1 w.heap.size (e9+1) G1.o.size ω;have G4:ag (Gw w (w1.alloc (.cells (madeCells uL ((e9+1)*5)) 174))):=G1.o.alloc _ _;have H4:ag (Gw w1 (w1.alloc (.cells (madeCells uL ((e9+1)*5)) 174))):=(Gw.refl w1).alloc _ _;have B4:ag _:=G1.o.size;have B5:ag (w1.heap.size<=w1.heap.size):=Yk _;go_wp2_with fail;refine (lN 0 _).mono ?_;rintro e w2 ⟨rfl,rfl⟩;go_wp2_with fail;generalize w2.alloc (.cells (madeCells uL ((e9+1)*5)) 174)=w4 at S4 G4 H4 ⊢;obtain ⟨lb,dO⟩:=qbr w2.heap.size;have B6:ag (w2.heap.size<=lb):=by rw [<-dO];exact Yk _
  have B7:ag (w.heap.size<=lb):=by rw [<-dO];exact B4.o
  rw [dO] at S4 ⊢;clear dO B4 B5 G1 vF;obtain ⟨en,oD⟩:=qbr (e9+1);have XS:(e9:Int)+1=(en:Int):=ω;rw [oD] at S4 EN Cb rv ⊢;rw [XS];clear oD XS;go_loopg [6,8,26] en (fun gg s6 s8 z7 wr=>∃ (i fr:Nat) (lv:List Sg),s6=By 0/\s8=By fr/\z7=By i/\i<=en/\en-i<=gg/\ag (lv.length=i)/\ag (fr=mU 0 es i)/\ag (SR wr w.heap.size (ψ lb 0 en en) (lv++List.replicate (en-i) aF))/\ag (∀ j,j<lv.length->(lv.getD j aF).ok)/\ag (∀ l',da eps g m fr l'->da eps g m 0 (lv++l'))/\ag (Gw w wr)/\ag (Gw w2 wr))
  case atStart=>exact ⟨0,0,[],rfl,rfl,rfl,Γ _,ω,(show ag _ from rfl),(show ag _ from rfl),S4,(show ag _ from fun j hj=>by simp at hj),(show ag _ from fun l' h=>h),G4,H4⟩
  case round =>
   clear S4 G4 H4;obtain ⟨i,fr,lv,rfl,rfl,rfl,j1,j2,LI,FR,na,rA,eS,nh,tF⟩:=hrel;have XL:(lv++List.replicate (en-i) aF).length=en:=(by rw [Ψ,LI.o,qbc];omega);by_cases dP:i<en
   ·have ST:=ED.o.step i (by rw [EN.o];exact dP)
    rw [<-FR.o] at ST;obtain ⟨yz,Hp⟩:=EC.o _ tF.o i (by rw [EN.o];exact dP)
    obtain ⟨ei,tG⟩:=qbr (es.getD i 0);rw [tG] at ST yz;obtain ⟨s1,s2,s3,s4,_⟩:=ST;have FN:ag _:=tG;clear tG;have tc:ei<=c:=ω;have cf:¬ c=fr:=ω;have fc:¬ fr=c:=ω;have i1:(0:Int)<=(fr:Int):=ω;have i2:(fr:Int)<=(ei:Int):=ω;have i3:(ei:Int)<=(c:Int):=ω;have fe:fr<=ei:=ω;go_wp2_with fail;refine (MO.o fr ω _ (ei-fr) (c-fr) (sh g fr) ω ω _ (Gr (HK.o.gw nh.o) s2)).mono ?_;rintro ex w5 ⟨⟨k5,cw,cx,F5,T5,er5,rfl,pL⟩,g5⟩;obtain rfl:=Qd pL KE.o ω (qK UP.o s2) s3 ω ω;have yA:∀ t,t<ei-fr->0<=sh g fr t/\sh g fr t<18446744073709551616:=fun t ht=>HK.o.bd (fr+t) ω
    have SA:ag _:=pL;have SO:ag _:=pL.ok ω yA;have Cd:ag (Gw w w5):=nh.o.trans g5;have yB:ag (Gw w2 w5):=tF.o.trans g5;have An:ag (SR w5 w.heap.size (ψ lb 0 (lv++List.replicate (en-i) aF).length en) (lv++List.replicate (en-i) aF)):=(by rw [XL];exact Bt na.o g5);have cc:∀ r,r<5->w5.cell? (φ lb (i*5+r))=some (ox (lv++List.replicate (en-i) aF) (i*5+r)):=fun r hr=>by have h':w5.ownsRow w.heap.size 174 5 (ψ lb 0 (lv++List.replicate (en-i) aF).length en) (lv++List.replicate (en-i) aF).length ((lv++List.replicate (en-i) aF).flatMap dc):=An.o;rw [h'.cellAt _ ω];exact Gu _ _ ω
    have fz:∀ r,w5.frozen? (φ lb r)=false:=fun r=>World.ownsRow.frozenAt An.o r
    have x0:=cc 0 γ;have x1:=cc 1 γ;have x2:=cc 2 γ;have x3:=cc 3 γ;have x4:=cc 4 γ;rw [Nat.add_zero] at x0;have y0:=fz (i*5);have y1:=fz (i*5+1);have y2:=fz (i*5+2);have y3:=fz (i*5+3);have y4:=fz (i*5+4);generalize ox (lv++List.replicate (en-i) aF) (i*5)=z0 at x0;generalize ox (lv++List.replicate (en-i) aF) (i*5+1)=z1 at x1;generalize ox (lv++List.replicate (en-i) aF) (i*5+2)=z2 at x2;generalize ox (lv++List.replicate (en-i) aF) (i*5+3)=z3 at x3;generalize ox (lv++List.replicate (en-i) aF) (i*5+4)=z4 at x4;have S9:ag (SR (sY w5 lb (i*5) ⟨k5,cw,cx,F5,T5⟩) w.heap.size (ψ lb 0 en en) ((lv++[⟨k5,cw,cx,F5,T5⟩])++List.replicate (en-(i+1)) aF)):=by have r:=OY An.o (k:=i) ω ⟨k5,cw,cx,F5,T5⟩;rw [ahk LI.o _ dP] at r;have el:((lv++[(⟨k5,cw,cx,F5,T5⟩:Sg)])++List.replicate (en-(i+1)) aF).length=en:=(by rw [Ψ,Ψ,LI.o,qbc];simp;omega);rw [el] at r;exact r
    have GS9:ag (Gw w (sY w5 lb (i*5) ⟨k5,cw,cx,F5,T5⟩)):=Gv Cd.o B7.o;have GT9:ag (Gw w2 (sY w5 lb (i*5) ⟨k5,cw,cx,F5,T5⟩)):=Gv yB.o B6.o;have vH:ag ((lv++[(Sg.mk k5 cw cx F5 T5)]).length=i+1):=(by show (lv++[_]).length=i+1;rw [Ψ,LI.o];rfl);have Hs:ag (∀ j,j<(lv++[(Sg.mk k5 cw cx F5 T5)]).length->((lv++[(Sg.mk k5 cw cx F5 T5)]).getD j aF).ok):=fun j hj=>by
     rw [vH.o] at hj;by_cases x:j<lv.length
     ·rw [show (lv++[(Sg.mk k5 cw cx F5 T5)]).getD j aF=lv.getD j aF by simp [List.getD,qau x]]
      exact rA.o j x
     ·have e:j=lv.length:=(by have:=LI.o;omega);rw [show (lv++[(Sg.mk k5 cw cx F5 T5)]).getD j aF=(Sg.mk k5 cw cx F5 T5) by subst e;simp [List.getD]]
      exact SO.o
    have Ht:ag (∀ l',da eps g m ei l'->da eps g m 0 ((lv++[(Sg.mk k5 cw cx F5 T5)])++l')):=fun l' h=>by rw [qaI];exact eS.o ((Sg.mk k5 cw cx F5 T5)::l') ⟨ei,⟨s1,s2,s3,s4⟩,SA.o,h⟩
    have Hu:ag _:=FN.o.symm;have lbl:lb<w5.heap.size:=(lS An.o lb rfl).2;clear pL yA g5 nh tF na yz Hp cc fz An s3 s4 rA eS SA XL;go_wp2_with fail;refine (lN 0 _).mono ?_;rintro e w6 ⟨rfl,rfl⟩;go_wp2_with fail;go_roundg (en-(i+1))
    case measure=>omega
    case rel=>exact ⟨i+1,ei,lv++[(Sg.mk k5 cw cx F5 T5)],rfl,rfl,by go_num,ω,Yk _,vH,Hu,S9,Hs,Ht,GS9,GT9⟩
   ·have ei:i=en:=(by omega);subst ei;have yD:fr=m:=by
     rw [FR.o];obtain ⟨i',dQ⟩:∃ i',i=i'+1:=⟨i-1,ω⟩;have:=(ED.o.last i' (by rw [EN.o];omega)).2 (by rw [EN.o];omega)
     rw [dQ];exact this
    have ja:ag (da eps g m 0 lv):=by
     have:=eS.o [] yD
     rwa [qaJ] at this
    have S9:ag (SR wr w.heap.size (ψ lb 0 lv.length lv.length) lv):=by
     have:=na.o
     rw [Nat.sub_self,List.replicate_zero,qaJ] at this;rw [LI.o];exact this
    have LE:ag (Ending.returned (ψ lb 0 i i)=Ending.returned (ψ lb 0 lv.length lv.length)):=(by show _=_;rw [LI.o]);clear eS na yD;go_wp2_with fail;go_ret;exact ⟨⟨lb,lv,LE.o,ja.o,S9.o,rA.o⟩,nh.o⟩
end Go.Proofs.YtaemofgeciklkaaGreat
namespace Go.Proofs.YtaemofgeciklkaaGreat
open Go.RowKit
def Et (K:Nat) (args:Value->Array Value) (I:Nat->World->Option Addr->Nat->Nat->(Nat->Int)->Prop) (Q:World->Prop) (X:List PanicEntry->World->Prop):Prop :=
 ∀ (r:Nat) (W:World) (bo:Option Addr) (m c:Nat) (g:Nat->Int),I r W bo m c g->Calls prog K (args (.slice bo m c)) W fun e w' =>
  (∃ (ao:Option Addr) (lc:Nat),e=χ (.slice ao 0 lc)/\Q w') \/
  (∃ (ao:Option Addr) (lc:Nat) (lv:List Sg) (r':Nat),e=χ (.slice ao lv.length lc)/\0<lv.length/\lv.length<=4000000/\GS w' ao lv/\r'<r/\∀ (b:Nat) (dW:World),Gw w' dW->KS dW (some (φ b 0)) lv.length (bu lv)->I r' dW (some (φ b 0)) lv.length lv.length (bu lv)) \/
  (∃ ch,e=.panicked ch/\X ch w')
theorem ahm (p0 p1:Value) (I:Nat->World->Option Addr->Nat->Nat->(Nat->Int)->Prop) (Q:World->Prop) (X:List PanicEntry->World->Prop) (O:Et 142 (fun v=>#[v,p0,p1]) I Q X) (r:Nat) (bo:Option Addr) (m c:Nat) (g:Nat->Int) (w:World) (h:I r w bo m c g) :
  Calls prog 141 #[.slice bo m c,.func (.func 142) #[] #[p0,p1]] w fun e w'=>(e=π #[]/\Q w')\/(∃ ch,e=.panicked ch/\X ch w'):=by
 have HI:ag _:=h;have HO:ag _:=O;have FI:ag _:=fun (ao:Option Addr) (c:Nat) (l:List Sg) (hl:l.length<=4000000) (w:World) (h:GS w ao l)=>Wn ao c l hl w h
 clear h O;go_enter func141,ntmps141;go_wp2_with fail;refine (HO.o r _ bo m c g HI.o).mono ?_;clear HI;rintro e w1 (⟨ao,lc,rfl,hq⟩ | ⟨ao,lc,lv,r1,rfl,l0,l1,hG,hr,hI⟩ | ⟨ch,rfl,hx⟩)
 ·have HQ:ag (Q w1):=hq
  clear hq;go_wp2_with fail;go_loopg [4] 0 (fun gg s4 wr=>s4=.slice ao 0 lc/\ag (Q wr))
  case atStart=>exact ⟨rfl,HQ⟩
  case round =>
   obtain ⟨rfl,HQ⟩:=hrel;go_wp2_with fail;go_end0;exact .inl ⟨rfl,HQ.o⟩
 ·have LV:ag (0<lv.length/\lv.length<=4000000):=⟨l0,l1⟩
  have HG:ag _:=hG;have HN:ag _:=hI;obtain ⟨ln,ax⟩:=qbr lv.length;have LN:ag _:=ax;rw [ax];clear hG hI l0 l1 ax;go_wp2_with fail;go_loopg [4] r (fun gg s4 wr=>∃ (ao:Option Addr) (lc ln:Nat),s4=.slice ao ln lc/\((ln=0/\ag (Q wr))\/(0<ln/\∃ (lv:List Sg) (r':Nat),r'<gg/\ag (lv.length=ln)/\ag (lv.length<=4000000)/\ag (GS wr ao lv)/\ag (∀ (b:Nat) (dW:World),Gw wr dW->KS dW (some (φ b 0)) lv.length (bu lv)->I r' dW (some (φ b 0)) lv.length lv.length (bu lv)))))
  case atStart=>exact ⟨ao,lc,ln,rfl,.inr ⟨by rw [<-LN.o];exact LV.o.1,lv,r1,hr,LN,(show ag _ from LV.o.2),HG,HN⟩⟩
  case round =>
   clear LV HG HN LN;obtain ⟨ao,lc,ln,rfl,⟨rfl,HQ⟩ | ⟨l0,lv,r2,gT,LN,LL,HG,HN⟩⟩:=hrel
   ·go_wp2_with fail
    go_end0
    exact .inl ⟨rfl,HQ.o⟩
   ·have Ao:ag (∀ W,GS W ao lv->Calls prog 156 #[.slice ao ln lc] W fun e w'=>(∃ b,e=χ (ψ b 0 lv.length lv.length)/\W.heap.size<=b/\KS w' (some (φ b 0)) lv.length (bu lv))/\Gw W w'):=fun W h=>by
     have:=FI.o ao lc lv LL.o W h
     rw [LN.o] at this ⊢;exact this
    have t0:decide ((0:Int)<(ln:Int))=true:=(by simp;omega);go_wp2_with fail;refine (Ao.o _ HG.o).mono ?_
    rintro e w3 ⟨⟨b,rfl,hb,hk⟩,g3⟩;have qC:ag _:=HN.o b w3 g3 hk;clear hk g3 hb HN HG Ao;generalize lv.length=q3 at qC ⊢;generalize bu lv=g3 at qC;clear LN LL;go_wp2_with fail;refine (HO.o r2 _ _ _ _ _ qC.o).mono ?_;clear qC;rintro e w4 (⟨uM,uN,rfl,hq⟩ | ⟨uM,uN,uO,r4,rfl,l4,Ap,hG,Ma,hI⟩ | ⟨ch,rfl,hx⟩)
    ·have HQ:ag (Q w4):=hq
     clear hq;go_wp2_with fail;go_roundg 0
     case measure=>omega
     case rel=>exact ⟨uM,uN,0,rfl,.inl ⟨rfl,HQ⟩⟩
    ·have Mb:ag (uO.length<=4000000):=Ap
     have Mc:ag _:=hG;have Md:ag _:=hI;obtain ⟨za,ax⟩:=qbr uO.length;have Me:ag _:=ax;rw [ax] at l4 ⊢;clear hG hI ax Ap;go_wp2_with fail;go_roundg r2
     case measure=>omega
     case rel=>exact ⟨uM,uN,za,rfl,.inr ⟨l4,uO,r4,Ma,Me,Mb,Mc,Md⟩⟩
    ·have HX:ag (X ch w4):=hx
     clear hx;go_wp2_with fail;exact ⟨rfl,.inr ⟨ch,rfl,HX.o⟩⟩
 ·have HX:ag (X ch w1):=hx
  clear hx;go_wp2_with fail;exact ⟨rfl,.inr ⟨ch,rfl,HX.o⟩⟩
theorem ahn (p0 p1 p2:Value) (I:Nat->World->Option Addr->Nat->Nat->(Nat->Int)->Prop) (Q:World->Prop) (X:List PanicEntry->World->Prop) (O:Et 180 (fun v=>#[v,p0,p1,p2]) I Q X) (r:Nat) (bo:Option Addr) (m c:Nat) (g:Nat->Int) (w:World) (h:I r w bo m c g) :
  Calls prog 141 #[.slice bo m c,.func (.func 180) #[] #[p0,p1,p2]] w fun e w'=>(e=π #[]/\Q w')\/(∃ ch,e=.panicked ch/\X ch w'):=by
 have HI:ag _:=h;have HO:ag _:=O;have FI:ag _:=fun (ao:Option Addr) (c:Nat) (l:List Sg) (hl:l.length<=4000000) (w:World) (h:GS w ao l)=>Wn ao c l hl w h
 clear h O;go_enter func141,ntmps141;go_wp2_with fail;refine (HO.o r _ bo m c g HI.o).mono ?_;clear HI;rintro e w1 (⟨ao,lc,rfl,hq⟩ | ⟨ao,lc,lv,r1,rfl,l0,l1,hG,hr,hI⟩ | ⟨ch,rfl,hx⟩)
 ·have HQ:ag (Q w1):=hq
  clear hq;go_wp2_with fail;go_loopg [4] 0 (fun gg s4 wr=>s4=.slice ao 0 lc/\ag (Q wr))
  case atStart=>exact ⟨rfl,HQ⟩
  case round =>
   obtain ⟨rfl,HQ⟩:=hrel;go_wp2_with fail;go_end0;exact .inl ⟨rfl,HQ.o⟩
 ·have LV:ag (0<lv.length/\lv.length<=4000000):=⟨l0,l1⟩
  have HG:ag _:=hG;have HN:ag _:=hI;obtain ⟨ln,ax⟩:=qbr lv.length;have LN:ag _:=ax;rw [ax];clear hG hI l0 l1 ax;go_wp2_with fail;go_loopg [4] r (fun gg s4 wr=>∃ (ao:Option Addr) (lc ln:Nat),s4=.slice ao ln lc/\((ln=0/\ag (Q wr))\/(0<ln/\∃ (lv:List Sg) (r':Nat),r'<gg/\ag (lv.length=ln)/\ag (lv.length<=4000000)/\ag (GS wr ao lv)/\ag (∀ (b:Nat) (dW:World),Gw wr dW->KS dW (some (φ b 0)) lv.length (bu lv)->I r' dW (some (φ b 0)) lv.length lv.length (bu lv)))))
  case atStart=>exact ⟨ao,lc,ln,rfl,.inr ⟨by rw [<-LN.o];exact LV.o.1,lv,r1,hr,LN,(show ag _ from LV.o.2),HG,HN⟩⟩
  case round =>
   clear LV HG HN LN;obtain ⟨ao,lc,ln,rfl,⟨rfl,HQ⟩ | ⟨l0,lv,r2,gT,LN,LL,HG,HN⟩⟩:=hrel
   ·go_wp2_with fail
    go_end0
    exact .inl ⟨rfl,HQ.o⟩
   ·have Ao:ag (∀ W,GS W ao lv->Calls prog 156 #[.slice ao ln lc] W fun e w'=>(∃ b,e=χ (ψ b 0 lv.length lv.length)/\W.heap.size<=b/\KS w' (some (φ b 0)) lv.length (bu lv))/\Gw W w'):=fun W h=>by
     have:=FI.o ao lc lv LL.o W h
     rw [LN.o] at this ⊢;exact this
    have t0:decide ((0:Int)<(ln:Int))=true:=(by simp;omega);go_wp2_with fail;refine (Ao.o _ HG.o).mono ?_
    rintro e w3 ⟨⟨b,rfl,hb,hk⟩,g3⟩;have qC:ag _:=HN.o b w3 g3 hk;clear hk g3 hb HN HG Ao;generalize lv.length=q3 at qC ⊢;generalize bu lv=g3 at qC;clear LN LL;go_wp2_with fail;refine (HO.o r2 _ _ _ _ _ qC.o).mono ?_;clear qC;rintro e w4 (⟨uM,uN,rfl,hq⟩ | ⟨uM,uN,uO,r4,rfl,l4,Ap,hG,Ma,hI⟩ | ⟨ch,rfl,hx⟩)
    ·have HQ:ag (Q w4):=hq
     clear hq;go_wp2_with fail;go_roundg 0
     case measure=>omega
     case rel=>exact ⟨uM,uN,0,rfl,.inl ⟨rfl,HQ⟩⟩
    ·have Mb:ag (uO.length<=4000000):=Ap
     have Mc:ag _:=hG;have Md:ag _:=hI;obtain ⟨za,ax⟩:=qbr uO.length;have Me:ag _:=ax;rw [ax] at l4 ⊢;clear hG hI ax Ap;go_wp2_with fail;go_roundg r2
     case measure=>omega
     case rel=>exact ⟨uM,uN,za,rfl,.inr ⟨l4,uO,r4,Ma,Me,Mb,Mc,Md⟩⟩
    ·have HX:ag (X ch w4):=hx
     clear hx;go_wp2_with fail;exact ⟨rfl,.inr ⟨ch,rfl,HX.o⟩⟩
 ·have HX:ag (X ch w1):=hx
  clear hx;go_wp2_with fail;exact ⟨rfl,.inr ⟨ch,rfl,HX.o⟩⟩
theorem XU (bl be:Nat) (v0 v1:Value) (E:Int) (ne:¬ bl=be) (w:World) (h0:w.cell? (φ bl 0)=some v0) (f0:w.frozen? (φ bl 0)=false) (h1:w.cell? (φ be 0)=some v1) (f1:w.frozen? (φ be 0)=false) :
  CallsD prog 138 #[IS bl,IS be] (.panicking (iP E)) w fun e u' w' =>
   e=π #[]/\u'=.panicking [{ v:=.iface 27 (By E),recovered:=true }]/\w'=(w.setCell (φ bl 0) (.slice none 0 0)).setCell (φ be 0) (By E):=by
 refine callsD_of_wpS func138 rfl fun c₀ cs hu=>?_
 apply wpS_seq
 apply wpS_region
 simp [wpOpsS,go_sem,recoverD,hu,ntmps138,Exit.thenS]
 apply wpS_seq
 apply wpS_region
 simp [wpOpsS,go_sem,recoverD,Exit.thenS]
 refine wpS_cond (t:=true) (by simp [Act.eval,Array.replicate]) ?_
 simp only [if_true];refine wpS_of_wp ?_;change Code.wp _ _ _ ⟨#[IS bl,IS be,.iface 27 (By E),.iface 27 (By E),.iface 27 (By E),.bool true,undef,undef],[]⟩ w;go_wp2_with fail;refine (Wj E _).mono ?_;rintro e w1 ⟨rfl,rfl⟩;go_wp2_with fail;simp [bodyPostS,results,results138,go_sem]
theorem aho (bl be:Nat) (w:World) :
  CallsD prog 138 #[IS bl,IS be] .returning w fun e u' w'=>e=π #[]/\u'=.returning/\w'=w:=by
 refine callsD_of_wpS func138 rfl fun c₀ cs hu=>?_
 apply wpS_seq
 apply wpS_region
 simp [wpOpsS,go_sem,recoverD,hu,ntmps138,Exit.thenS]
 apply wpS_seq
 apply wpS_region
 simp [wpOpsS,go_sem,recoverD,Exit.thenS]
 refine wpS_cond (t:=false) (by simp [Act.eval,Array.replicate]) ?_
 simp only [Bool.false_eq_true,if_false];refine wpS_of_wp (wp_skip ?_);cases c₀
 simp_all [bodyPostS,results,results138]
theorem xw (be:Nat) (v1:Value) (E:Int) (w:World) (h1:w.cell? (φ be 0)=some v1) (f1:w.frozen? (φ be 0)=false) :
  CallsD prog 178 #[IS be] (.panicking (iP E)) w fun e u' w' =>
   e=π #[]/\u'=.panicking [{ v:=.iface 27 (By E),recovered:=true }]/\w'=w.setCell (φ be 0) (By E):=by
 refine callsD_of_wpS func178 rfl fun c₀ cs hu=>?_
 apply wpS_seq
 apply wpS_region
 simp [wpOpsS,go_sem,recoverD,hu,ntmps178,Exit.thenS]
 apply wpS_seq
 apply wpS_region
 simp [wpOpsS,go_sem,recoverD,Exit.thenS]
 refine wpS_cond (t:=true) (by simp [Act.eval,Array.replicate]) ?_
 simp only [if_true];refine wpS_of_wp ?_;change Code.wp _ _ _ ⟨#[IS be,.iface 27 (By E),.iface 27 (By E),.iface 27 (By E),.bool true,undef,undef],[]⟩ w;go_wp2_with fail;refine (Wj E _).mono ?_;rintro e w1 ⟨rfl,rfl⟩;go_wp2_with fail;simp [bodyPostS,results,results178,go_sem]
theorem XW (be:Nat) (w:World) :
  CallsD prog 178 #[IS be] .returning w fun e u' w'=>e=π #[]/\u'=.returning/\w'=w:=by
 refine callsD_of_wpS func178 rfl fun c₀ cs hu=>?_
 apply wpS_seq
 apply wpS_region
 simp [wpOpsS,go_sem,recoverD,hu,ntmps178,Exit.thenS]
 apply wpS_seq
 apply wpS_region
 simp [wpOpsS,go_sem,recoverD,Exit.thenS]
 refine wpS_cond (t:=false) (by simp [Act.eval,Array.replicate]) ?_
 simp only [Bool.false_eq_true,if_false];refine wpS_of_wp (wp_skip ?_);cases c₀
 simp_all [bodyPostS,results,results178]
def aO (w:World) (b:Nat) (v:Value) (t:TypeId):Prop:=w.heap[b]?=some (.cells #[v] t (0,0))
variable {w:World} {b:Nat} {v:Value} {t:TypeId}
theorem aO.lt (h:aO w b v t):b<w.heap.size:=(qab.1 h).1
theorem aO.gw {w':World} (h:aO w b v t) (g:Gw w w'):aO w' b v t:=(g.below.block b h.lt).trans h
theorem aO.cell (h:aO w b v t):w.cell? (φ b 0)=some v:=by unfold aO at h;simp [World.cell?,h]
theorem aO.fz (h:aO w b v t):w.frozen? (φ b 0)=false:=by unfold aO at h;simp [World.frozen?,h]
theorem aO.new (w:World) (v:Value) (t:TypeId):aO (w.alloc (.cells #[v] t)) w.heap.size v t:=Ω w _
theorem aO.set (h:aO w b v t) (u:Value):aO (w.setCell (φ b 0) u) b u t:=by unfold aO at *;simp [World.setCell,Array.getElem?_modify,h]
theorem aO.other (h:aO w b v t) (a:Addr) (u:Value) (e:b≠a.block):aO (w.setCell a u) b v t:=(qac _ _ _ _ e).trans h
structure BI (w0:World) (bp bl be B:Nat) (eps:Int) (f:Nat->Int) (n:Nat) (W:World) (lo:Option Addr) (lc:Nat) (L:List (List Sg)) (au:List Value):Prop where
 gw:Gw w0 W
 sz:B<=W.heap.size
 ep:aO W bp (By eps) 3
 lx:aO W bl (.slice lo L.length lc) 103
 er:aO W be (By 0) 27
 own:cZ W B (.slice lo L.length lc) L au
 ok:x6 L
 le:L.length<=lc
 few:L.length<=n
variable {w0 W:World} {bp bl be B n lc:Nat} {eps:Int} {f:Nat->Int} {lo:Option Addr} {L:List (List Sg)} {au:List Value}
theorem BI.mono {W':World} (h:BI w0 bp bl be B eps f n W lo lc L au) (g:Gw W W'):BI w0 bp bl be B eps f n W' lo lc L au :=
 ⟨h.gw.trans g,Φ h.sz g.size,h.ep.gw g,h.lx.gw g,h.er.gw g,h.own.gw g,h.ok,h.le,h.few⟩
theorem BI.more {w':World} {oc:Array Value} {ot:TypeId} {vl:Value} {lv:List Sg} {b8 cap8:Nat} (h:BI w0 bp bl be B eps f n W lo lc L au) (g:Gw W w) (hs:SR w W.heap.size vl lv) (fD:∀ j,j<lv.length->(lv.getD j aF).ok)
  (r1:w'.ownsRow B 150 1 (ψ b8 0 (L.length+1) cap8) (L.length+1) (au++[vl])) (r2:(w.alloc (.cells oc ot)).grownBy w' (Value.slice lo L.length lc).ownBlock) (r4:(Value.slice (some (φ b8 0)) (L.length+1) cap8).ownBlock=(Value.slice lo L.length lc).ownBlock\/(Value.slice (some (φ b8 0)) (L.length+1) cap8).ownBlock=some (w.heap.size+1))
  (n1:bl≠bp) (n2:bl≠be) (b1:bl<B) (b2:bp<B) (b3:be<B) (hb:w0.heap.size<=bl) (hB:w0.heap.size<=B) (hc:L.length+1<=cap8) (hf:L.length+1<=n) :
  BI w0 bp bl be B eps f n (w'.setCell (φ bl 0) (ψ b8 0 (L.length+1) cap8)) (some (φ b8 0)) cap8 (L++[lv]) (au++[vl]):=by
 have ln:(L++[lv]).length=L.length+1:=ε;have ow:∀ q,(Value.slice lo L.length lc).ownBlock=some q->B<=q:=fun q hq=>(h.own.outer.lt q hq).1
 have keep:∀ q,q<w.heap.size->q<B->w'.heap[q]?=w.heap[q]?:=fun q hq hn=>(r2.block q ζ (fun e=>by have:=ow q e.symm;omega)).trans (qap w _ hq)
 have bx:∀ {q:Nat} {v:Value} {t:TypeId},aO W q v t->q<B->aO w' q v t:=fun hx hq=>(keep _ (hx.gw g).lt hq).trans (hx.gw g)
 have gw':Gw w0 w':=((h.gw.trans g).alloc _ _).grown r2 (fun q hq=>Φ hB (ow q hq))
 refine ⟨gw'.setCell hb _,?_,aO.other (bx h.ep b2) _ _ (fun e=>n1 e.symm),?_,aO.other (bx h.er b3) _ _ (fun e=>n2 e.symm),?_,?_,by rw [ln];exact hc,by rw [ln];exact hf⟩
 ·have:=r2.size;have:=g.size;have:=h.sz;simp at *;omega
 ·rw [ln];exact (bx h.lx b1).set _
 ·have:=cZ.more h.own g hs h.sz r1 r2 r4
  rw [ln];exact this.keep fun q hq _=>qac _ _ _ _ (by show q≠bl;omega)
 ·intro i hi j hj
  by_cases e:i<L.length
  ·rw [show (L++[lv]).getD i []=L.getD i [] by simp [List.getD,qau e]] at hj ⊢
   exact h.ok i e j hj
  ·have ei:i=L.length:=(by omega);subst ei;rw [show (L++[lv]).getD L.length []=lv by simp [List.getD]] at hj ⊢
   exact fD j hj
def Rest (eps:Int) (f:Nat->Int) (n:Nat) (L:List (List Sg)) (g:Nat->Int) (m:Nat):Prop:=∀ rr,(if L≠[]/\m=1 then rr=[] else du eps g m rr)->du eps f n (L++rr)
variable {g:Nat->Int} {m:Nat}
theorem Rest.next {lv:List Sg} (h:Rest eps f n L g m) (c:¬ (L≠[]/\m=1)) (m0:0<m) (l:da eps g m 0 lv):Rest eps f n (L++[lv]) (bu lv) lv.length:=fun rr hr=>by
 rw [qaI];refine h ([lv]++rr) ?_;rw [Yl c];refine ⟨m0,l,?_⟩;by_cases e:lv.length=1
 ·rw [Ym e];rw [Ym ⟨ε,e⟩] at hr;exact hr
 ·rw [Yl e];rw [Yl (fun q=>e q.2)] at hr;exact hr
theorem Rest.done (h:Rest eps f n L g m) (c:m=0\/(L≠[]/\m=1)):du eps f n L:=by
 have:=h [] (by
  rcases c with rfl | c
  ·rw [Yl (fun q=>by have:=q.2;omega)];exact rfl
  ·rw [Ym c])
 rwa [qaJ] at this
def XY (w0:World) (bp bl be B:Nat) (eps:Int) (f:Nat->Int) (n:Nat) (r:Nat) (W:World) (bo:Option Addr) (m c:Nat) (g:Nat->Int):Prop :=
 ∃ lo lc L au,BI w0 bp bl be B eps f n W lo lc L au/\KS W bo m g/\Up g m/\m<=2000000/\m<=c/\Rest eps f n L g m/\(if L=[] then m+1 else m)<=r/\L.length+r<=n+1
def Eu (w0:World) (bp bl be B:Nat) (eps:Int) (f:Nat->Int) (n:Nat) (W:World):Prop:=∃ lo lc L au,BI w0 bp bl be B eps f n W lo lc L au/\du eps f n L
theorem ahp (C:xr) (M:iD) (w0:World) (bp bl be B:Nat) (eps:Int) (f:Nat->Int) (n:Nat) (hn:n<=2000000) (k2:2<=eps) (k3:eps<=64) (n1:bl≠bp) (n2:bl≠be) (b1:bl<B) (b2:bp<B) (b3:be<B) (hb:w0.heap.size<=bl) (hB:w0.heap.size<=B) :
  Et 142 (fun v=>#[v,IS bl,IS bp]) (XY w0 bp bl be B eps f n) (Eu w0 bp bl be B eps f n) (fun _ _=>False):=by
 rintro r W bo m c g ⟨lo,lc,L,au,kS,hK,hU,m1,mc,hR,ta,gT⟩;have HB:ag (BI w0 bp bl be B eps f n W lo lc L au):=kS;have HK:ag _:=hK;have UP:ag _:=hU;have RS:ag (Rest eps f n L g m):=hR;have CV:ag _:=fun (m0:0<m) (W:World) (k:KS W bo m g)=>ahl C M eps k2 k3 bo m c g m0 m1 mc UP.o W k
 have cl:=kS.lx.cell;have fl:=kS.lx.fz;have ll:=kS.lx.lt;have cp:=kS.ep.cell;have lp:=kS.ep.lt;have R1:ag ((if L=[] then m+1 else m)<=r/\L.length+r<=n+1):=⟨ta,gT⟩
 have XZ:ag (L=[]↔L.length=0):=(qbh).symm;clear kS hK hU hR ta gT C M;obtain ⟨ln,ax⟩:=qbr L.length;have LN:ag _:=ax;rw [ax] at cl;clear ax;by_cases m0:m=0
 ·have BR:ag (Eu w0 bp bl be B eps f n W):=⟨lo,lc,L,au,HB.o,RS.o.done (.inl m0)⟩
  subst m0;clear CV;go_enter func142,ntmps142;go_wp2_with fail;go_ret;exact .inl ⟨none,0,rfl,BR.o⟩
 ·have t0:((m:Int) == 0)=false:=by simp;omega
  have kV:0<m:=ω;by_cases c1:m=1/\0<ln
  ·have BR:ag (Eu w0 bp bl be B eps f n W):=⟨lo,lc,L,au,HB.o,RS.o.done (.inr ⟨fun q=>by have:=XZ.o.1 q;rw [LN.o] at this;omega,c1.1⟩)⟩
   have t1:((m:Int) == 1)=true:=(by simp;omega);have t2:decide ((0:Int)<(ln:Int))=true:=(by simp;omega);have t3:0<ln:=c1.2;clear CV c1 m0;go_enter func142,ntmps142;go_wp2_with fail;go_ret;exact .inl ⟨none,0,rfl,BR.o⟩
  ·have NC:ag (¬ (L≠[]/\m=1)):=fun q=>c1 ⟨q.2,Nat.pos_of_ne_zero (fun e=>q.1 (XZ.o.2 (by rw [LN.o];exact e)))⟩
   obtain ⟨jj,ka,jz,js,kg⟩:=info_parts Br;have TT:(((m:Int) == 1)=true/\¬ 0<ln)\/((m:Int) == 1)=false:=by
    by_cases e:m=1
    ·exact .inl ⟨by simp;omega,ω⟩
    ·exact .inr ζ
   have wz:=HB.o.gw.size;clear c1 m0;rcases TT with ⟨t1,t2⟩ | t1
   all_goals go_enter func142,ntmps142
   all_goals go_wp2_with fail
   all_goals refine (CV.o kV _ HK.o).mono ?_
   all_goals rintro e w2 ⟨⟨b,lv,rfl,pe,hS,fD⟩,g2⟩
   all_goals have ja:ag (da eps g m 0 lv):=pe
   all_goals have SV:ag (SR w2 W.heap.size (ψ b 0 lv.length lv.length) lv):=hS
   all_goals have OK:ag (∀ j,j<lv.length->(lv.getD j aF).ok):=fD
   all_goals have G2:ag (Gw W w2):=g2
   all_goals have Ya:w2.cell? (φ bl 0)=some (.slice lo ln lc):=(g2.cell _ _ ll).trans cl
   all_goals have Mf:bl<w2.heap.size:=Θ ll g2.size
   all_goals have OW:ag (cZ w2 B (.slice lo L.length lc) L au):=HB.o.own.gw g2
   all_goals have OR:ag (w2.ownsRow B 150 1 (.slice lo ln lc) ln au):=by have:=OW.o.outer;rw [LN.o] at this;exact this
   all_goals have ln1:ln<=n:=by have:=HB.o.few;rw [LN.o] at this;exact this
   all_goals have sz2:B<=w2.heap.size:=Φ HB.o.sz g2.size
   all_goals obtain ⟨vn,Mh⟩:=qbr lv.length
   all_goals have VN:ag (lv.length=vn):=Mh
   all_goals rw [Mh]
   all_goals clear pe hS fD g2 Mh cl ll cp lp fl
   all_goals go_wp2_with (at_builtin;refine wpList_append_own_at _ rfl _ _ 103 rfl B 150 jj (.slice none 0 0) 1 24 underlying103 ka jz js kg rfl γ _ ln _ rfl (OR.o.alloc _) ⟨w2.heap.size,0,none⟩ 1 1 [(ψ b 0 vn vn)] rfl rfl (Hm w2 (ψ b 0 vn vn) 150) (fun u hu=>by simp at hu;subst hu;rfl) θ ω ζ ?_)
   all_goals intro v' w7 r1 r2 r3 r4
   all_goals obtain ⟨b8,cap8,rfl,pM,hc8,_⟩:=cJ r1 r3
   all_goals have FW:=ja.o.few k2 kV m1 HK.o.bd UP.o
   all_goals have Hv:=ja.o.len m1 HK.o.bd
   all_goals have lv0:0<vn:=by rw [<-VN.o];exact qbi.2 (ja.o.some kV)
   all_goals have ow:∀ q,(Value.slice lo ln lc).ownBlock=some q->B<=q:=fun q hq=>(OR.o.lt q hq).1
   all_goals rw [VN.o] at FW Hv
   all_goals
    have rk:vn<r:=by
     have R2:=R1.o.1;by_cases e:L=[]
     ·rw [Ym e] at R2;omega
     ·rw [Yl e] at R2
      have mm:m≠1:=fun q=>NC.o ⟨e,q⟩
      by_cases x:vn=1
      ·omega
      ·have:=qV (e:=eps.toNat) ω (FW.2 x)
       have:=FW.1
       omega
   all_goals have rn:=R1.o.2
   all_goals rw [LN.o] at rn
   all_goals
    have B8:ag (BI w0 bp bl be B eps f n (w7.setCell (φ bl 0) (ψ b8 0 (ln+1) cap8)) (some (φ b8 0)) cap8 (L++[lv]) (au++[ψ b 0 vn vn])):=by
     have:=BI.more (cap8:=cap8) (b8:=b8) (w':=w7) HB.o G2.o SV.o OK.o (by rw [LN.o,VN.o];exact r1) (by rw [LN.o];exact r2) (by rw [LN.o];exact r4) n1 n2 b1 b2 b3 hb hB (by rw [LN.o];exact hc8) (by rw [LN.o];omega)
     rw [LN.o,VN.o] at this;exact this
   all_goals have bW:W.heap.size<=b/\b<w2.heap.size:=lS SV.o b rfl
   all_goals
    have G8:ag (GS (w7.setCell (φ bl 0) (ψ b8 0 (ln+1) cap8)) (some (φ b 0)) lv):=by
     refine Ca (Gt SV.o OK.o) ?_ ?_
     ·refine (qac _ _ _ _ (by show b≠bl;have:=HB.o.lx.lt;omega)).trans ?_
      refine (r2.block b ζ (fun e=>?_)).trans (qap w2 _ bW.2)
      have:=(HB.o.own.outer.lt b (by rw [LN.o];exact e.symm)).2
      omega
     ·have:=r2.size;simp at this ⊢;omega
   all_goals have NX:ag (Rest eps f n (L++[lv]) (bu lv) lv.length):=RS.o.next NC.o kV ja.o
   all_goals have UN:ag (Up (bu lv) lv.length):=(pE UP.o (ja.o.tiles m1 HK.o.bd) (ja.o.keys m1 HK.o.bd)).1
   all_goals
    have cl7:w7.cell? (φ bl 0)=some (.slice lo ln lc):=by
     have e:w7.heap[bl]?=w2.heap[bl]?:=(r2.block bl ζ (fun e=>by have:=ow bl e.symm;omega)).trans (qap w2 _ Mf)
     exact (qba (a:=⟨bl,0,none⟩) e).trans Ya
   all_goals
    have fl7:w7.frozen? (φ bl 0)=false:=by
     have e:w7.heap[bl]?=w2.heap[bl]?:=(r2.block bl ζ (fun e=>by have:=ow bl e.symm;omega)).trans (qap w2 _ Mf)
     exact (World.frozen?_of_block (a:=⟨bl,0,none⟩) e).trans (HB.o.lx.gw G2.o).fz
   all_goals have ll7:bl<w7.heap.size:=by have:=r2.size;simp at this;omega
   all_goals clear r1 r2 r3 r4 pM ow FW Ya Mf OW OR SV G2 OK
   all_goals go_wp2_with fail
   all_goals go_ret
   all_goals exact .inr (.inl ⟨some ⟨b,0,none⟩,vn,lv,lv.length,by rw [VN.o];rfl,by rw [VN.o];exact lv0,by rw [VN.o];omega,G8.o,by rw [VN.o];exact rk,fun b9 w9 g9 k9=>⟨_,_,_,_,B8.o.mono g9,k9,UN.o,by rw [VN.o];omega,Yk _,NX.o,by rw [Yl ε];exact Yk _,by rw [Ψ,LN.o,VN.o];simp;omega⟩⟩)
theorem Ev (w:World) (B:Nat):cZ w B (.slice none 0 0) [] []:=⟨qaL _ _ _ _,fun i hi=>by simp at hi,fun i hi=>by simp at hi⟩
theorem cZ.base {B':Nat} (h:cZ w B v L au) (hb:B'<=B):cZ w B' v L au:=by
 refine ⟨⟨h.outer.1,?_⟩,fun i hi=>⟨(h.rows i hi).1,?_⟩,h.apart⟩
 ·rcases h.outer.2 with q | ⟨b,cap,cur,e1,e2,e3⟩
  ·exact .inl q
  ·exact .inr ⟨b,cap,cur,e1,Φ hb e2,e3⟩
 ·rcases (h.rows i hi).2 with q | ⟨b,cap,cur,e1,e2,e3⟩
  ·exact .inl q
  ·exact .inr ⟨b,cap,cur,e1,Φ hb e2,e3⟩
theorem ahq (C:xr) (M:iD):Gy:=by
 intro eps ao n cp f e0 e1 hn dA w hk;have hmf:∀ (fn:Fn) (first cap:Array Value) (w:World),(Instr.makeFunc fn first cap).run prog w=.ok (.func fn first cap) w:=fun _ _ _ _=>rfl
 have HK:ag _:=hk;have CC:ag (xr/\iD):=⟨C,M⟩;clear hk C M;have NB:ag (∀ W,KS W ao n f->_):=fun W h=>Wm eps ao n cp f ω W h
 go_enter_defers func125,ntmps125
 go_wp2_with fail;have P3:ag (aO (((w.alloc (.cells #[By eps] 3)).alloc (.cells #[.slice none 0 0] 103)).alloc (.cells #[By 0] 27)) w.heap.size (By eps) 3):=((aO.new w _ _).gw ((Gw.refl _).alloc _ _)).gw ((Gw.refl _).alloc _ _)
 have L3:ag (aO (((w.alloc (.cells #[By eps] 3)).alloc (.cells #[.slice none 0 0] 103)).alloc (.cells #[By 0] 27)) (w.heap.size+1) (.slice none 0 0) 103):=by
  have:=(aO.new (w.alloc (.cells #[By eps] 3)) (.slice none 0 0) 103).gw ((Gw.refl _).alloc #[By 0] 27)
  simp at this;exact this
 have E3:ag (aO (((w.alloc (.cells #[By eps] 3)).alloc (.cells #[.slice none 0 0] 103)).alloc (.cells #[By 0] 27)) (w.heap.size+1+1) (By 0) 27):=by
  have:=aO.new ((w.alloc (.cells #[By eps] 3)).alloc (.cells #[.slice none 0 0] 103)) (By 0) 27
  simp at this;exact this
 have G3:ag (Gw w (((w.alloc (.cells #[By eps] 3)).alloc (.cells #[.slice none 0 0] 103)).alloc (.cells #[By 0] 27))):=(((Gw.refl w).alloc _ _).alloc _ _).alloc _ _;have Z3:ag (w.heap.size+3<=(((w.alloc (.cells #[By eps] 3)).alloc (.cells #[.slice none 0 0] 103)).alloc (.cells #[By 0] 27)).heap.size):=by show _<=_;simp
 generalize (((w.alloc (.cells #[By eps] 3)).alloc (.cells #[.slice none 0 0] 103)).alloc (.cells #[By 0] 27))=w3 at P3 L3 E3 G3 Z3 ⊢;obtain ⟨bp,lQ⟩:=qbr w.heap.size;obtain ⟨bl,bG⟩:=qbr (bp+1);obtain ⟨be,qD⟩:=qbr (bl+1);have BB:ag (w.heap.size=bp/\bp+1=bl/\bl+1=be):=⟨lQ,bG,qD⟩;rw [lQ,bG] at L3;rw [lQ,bG,qD] at E3;rw [lQ] at P3;rw [lQ,bG,qD];have ne:¬ bl=be:=ω;clear lQ bG qD;refine (NB.o _ (HK.o.gw G3.o)).mono ?_;rintro e w4 ⟨hb,g4⟩;have P4:ag _:=P3.o.gw g4;have L4:ag (aO w4 bl (.slice none 0 0) 103):=L3.o.gw g4;have E4:ag (aO w4 be (By 0) 27):=E3.o.gw g4;have G4:ag _:=G3.o.trans g4;have Z4:ag _:=Φ Z3.o g4.size;clear g4 P3 L3 E3 G3 Z3 NB;rcases hb with ⟨k0,rfl⟩ | ⟨k0,k1,rfl⟩ | ⟨k0,k1,rfl⟩
 rotate_left 2
 ·have HI:XY w bp bl be (bp+3) eps f n (n+1) w4 ao n cp f:=by have bz:=BB.o;exact ⟨none,0,[],[],⟨G4.o,by have:=Z4.o;omega,P4.o,L4.o,E4.o,Ev _ _,fun i hi=>by simp at hi,Yk _,Γ _⟩,HK.o.gw G4.o,k1,hn,dA,(fun rr hr=>by rw [Yl (fun q=>q.1 rfl)] at hr;exact hr),by rw [Ym rfl];exact Yk _,ε⟩
  have CB:=ahm (IS bl) (IS bp) _ _ _ (ahp CC.o.1 CC.o.2 w bp bl be (bp+3) eps f n hn k0.1 k0.2 (by have:=BB.o;omega) (by have:=BB.o;omega) (by have:=BB.o;omega) (by have:=BB.o;omega) (by have:=BB.o;omega) (by have:=BB.o;omega) (by have:=BB.o;omega)) (n+1) ao n cp f w4 HI
  have Aq:ag (Calls prog 141 #[.slice ao n cp,.func (.func 142) #[] #[IS bl,IS bp]] w4 fun e w'=>(e=π #[]/\Eu w bp bl be (bp+3) eps f n w')\/(∃ ch,e=.panicked ch/\False)):=CB
  have KE:ag ((2<=eps/\eps<=64)/\Up f n):=⟨k0,k1⟩;clear HI CB k0 k1 CC;go_wp2_with fail;refine Aq.o.mono ?_;rintro e w5 (⟨rfl,lo,lc,L,au,kS,Yb⟩ | ⟨ch,_,q⟩)
  ·have HB:ag (BI w bp bl be (bp+3) eps f n w5 lo lc L au):=kS
   have R:ag (qX eps f n L 0):=.inr (.inr ⟨KE.o.1,KE.o.2,Yb,rfl⟩);have c0:=kS.lx.cell;have f0:=kS.lx.fz;have c1:=kS.er.cell;have f1:=kS.er.fz;obtain ⟨ln,ax⟩:=qbr L.length;have LN:ag _:=ax;rw [ax] at c0;clear kS Yb Aq ax;go_wp2_with fail;refine leaves_cons (f:=138) (args:=#[IS bl,IS be]) ε ι ?_;refine (aho bl be _).mono ?_;rintro e u' w6 ⟨rfl,rfl,rfl⟩;have c5:=(aO.other (HB.o.lx.set (.slice lo ln lc)) ⟨be,0,none⟩ (By 0) ne).cell;have d5:=(aO.set (aO.other HB.o.er ⟨bl,0,none⟩ (.slice lo ln lc) (fun e=>ne e.symm)) (By 0)).cell
   refine ⟨.tuple #[.slice lo ln lc,By 0],by simp [results,results125,go_sem,c5,d5],⟨lo,lc,L,0,au,by rw [LN.o],R.o,HB.o.le,?_,HB.o.ok⟩,?_⟩
   ·refine (HB.o.own.keep fun q hq _=>?_).base (by have:=BB.o;omega)
    have bz:=BB.o;exact (qac _ _ _ _ (by show q≠be;omega)).trans (qac _ _ _ _ (by show q≠bl;omega))
   ·exact (HB.o.gw.setCell (by show w.heap.size<=bl;have:=BB.o;omega) _).setCell (by show w.heap.size<=be;have:=BB.o;omega) _
  ·exact q.elim
 ·have R:ag (qX eps f n [] 1):=.inl ⟨k0,rfl,rfl⟩
  clear k0;go_wp2_with fail;refine leaves_cons (f:=138) (args:=#[IS bl,IS be]) ε ι ?_;refine (XU bl be _ _ 1 ne _ L4.o.cell L4.o.fz E4.o.cell E4.o.fz).mono ?_;rintro e u' w5 ⟨rfl,rfl,rfl⟩;have c5:=(aO.other (L4.o.set (.slice none 0 0)) ⟨be,0,none⟩ (By 1) ne).cell;have d5:=(aO.set (aO.other E4.o ⟨bl,0,none⟩ (.slice none 0 0) (fun e=>ne e.symm)) (By 1)).cell
  refine ⟨.tuple #[.slice none 0 0,By 1],by simp [results,results125,go_sem,c5,d5],⟨none,0,[],1,[],rfl,R.o,Yk _,Ev _ _,fun i hi=>by simp at hi⟩,?_⟩
  exact (G4.o.setCell (by show w.heap.size<=bl;have:=BB.o;omega) _).setCell (by show w.heap.size<=be;have:=BB.o;omega) _
 ·have R:ag (qX eps f n [] 80):=.inr (.inl ⟨k0,k1,rfl,rfl⟩)
  clear k0 k1;go_wp2_with fail;refine leaves_cons (f:=138) (args:=#[IS bl,IS be]) ε ι ?_;refine (XU bl be _ _ 80 ne _ L4.o.cell L4.o.fz E4.o.cell E4.o.fz).mono ?_;rintro e u' w5 ⟨rfl,rfl,rfl⟩;have c5:=(aO.other (L4.o.set (.slice none 0 0)) ⟨be,0,none⟩ (By 80) ne).cell;have d5:=(aO.set (aO.other E4.o ⟨bl,0,none⟩ (.slice none 0 0) (fun e=>ne e.symm)) (By 80)).cell
  refine ⟨.tuple #[.slice none 0 0,By 80],by simp [results,results125,go_sem,c5,d5],⟨none,0,[],80,[],rfl,R.o,Yk _,Ev _ _,fun i hi=>by simp at hi⟩,?_⟩
  exact (G4.o.setCell (by show w.heap.size<=bl;have:=BB.o;omega) _).setCell (by show w.heap.size<=be;have:=BB.o;omega) _
variable {bh:Nat}
theorem ahr {bo:Option Addr} (h:KS w bo m g) {x:Int} (hx:aO w bh (By x) t) (v:Value):KS (w.setCell (φ bh 0) v) bo m g:=by
 refine ⟨fun h0=>?_,h.bd⟩
 obtain ⟨b,off,e,hb,hc⟩:=h.cells h0;have ne:b≠bh:=fun q=>by
  subst q;have c:=hc 0 h0;unfold aO at hx;simp only [World.cell?,hx] at c;cases off with
  | zero=>simp at c
  | succ o=>simp at c
 have blk:(w.setCell (φ bh 0) v).heap[b]?=w.heap[b]?:=qac _ _ _ _ ne;exact ⟨b,off,e,by simpa using hb,fun i hi=>(qba (a:=⟨b,off+i,none⟩) blk).trans (hc i hi)⟩
structure CI (w0:World) (bp bl be bh:Nat) (eps:Int) (lo:Option Addr) (lc:Nat) (L:List (List Sg)) (W:World) (i:Nat):Prop where
 gw:Gw w0 W
 ep:aO W bp (By eps) 3
 lx:aO W bl (.slice lo L.length lc) 103
 er:aO W be (By 0) 27
 hx:aO W bh (By (i:Int)) 3
theorem CI.mono {W':World} {i:Nat} (h:CI w0 bp bl be bh eps lo lc L W i) (g:Gw W W'):CI w0 bp bl be bh eps lo lc L W' i:=⟨h.gw.trans g,h.ep.gw g,h.lx.gw g,h.er.gw g,h.hx.gw g⟩
theorem CI.up {i:Nat} (h:CI w0 bp bl be bh eps lo lc L W i) (n1:bp≠bh) (n2:bl≠bh) (n3:be≠bh) (hb:w0.heap.size<=bh) (j:Nat):CI w0 bp bl be bh eps lo lc L (W.setCell (φ bh 0) (By (j:Int))) j :=
 ⟨h.gw.setCell hb _,h.ep.other _ _ n1,h.lx.other _ _ n2,h.er.other _ _ n3,h.hx.set _⟩
def uP (eps:Int) (L:List (List Sg)) (i:Nat) (g:Nat->Int) (m:Nat):Int:=if i<L.length then mX eps g m (L.drop i) else if i=0 then 0 else if (L.getD (i-1) []).length=1 then 0 else 84
def Yc (w0:World) (bp bl be bh:Nat) (eps:Int) (lo:Option Addr) (lc:Nat) (L:List (List Sg)) (E:Int) (r:Nat) (W:World) (bo:Option Addr) (m c:Nat) (g:Nat->Int):Prop :=
 ∃ i,CI w0 bp bl be bh eps lo lc L W i/\KS W bo m g/\Up g m/\m<=2000000/\m<=c/\i<=L.length/\(i<L.length->0<m)/\E=uP eps L i g m/\L.length+1-i<=r
def Mj (w0:World) (bp bl be bh:Nat) (eps:Int) (lo:Option Addr) (lc:Nat) (L:List (List Sg)) (E:Int) (W:World):Prop:=CI w0 bp bl be bh eps lo lc L W L.length/\E=if L.length=0 then 0 else if (L.getD (L.length-1) []).length=1 then 0 else 84
def Ew (w0:World) (be:Nat) (E:Int) (ch:List PanicEntry) (W:World):Prop:=ch=iP E/\Gw w0 W/\aO W be (By 0) 27
theorem ahs (M:iD) (w0:World) (bp bl be bh:Nat) (eps:Int) (lo:Option Addr) (lc:Nat) (L:List (List Sg)) (E:Int) (hL:ou L) (hv:VS w0 lo L) (n1:bp≠bh) (n2:bl≠bh) (n3:be≠bh) (hb:w0.heap.size<=bh) :
  Et 180 (fun v=>#[v,IS bh,IS bl,IS bp]) (Yc w0 bp bl be bh eps lo lc L E) (Mj w0 bp bl be bh eps lo lc L E) (Ew w0 be E):=by
 rintro r W bo m c g ⟨i,qE,hK,hU,m1,mc,hi,hm,hE,hr⟩;have HC:ag _:=qE;have HK:ag _:=hK;have UP:ag _:=hU;have HV:ag _:=hv;have HL:ag _:=hL;have HE:ag _:=hE;have cl:=qE.lx.cell;have ll:=qE.lx.lt;have cp:=qE.ep.cell;have lp:=qE.ep.lt;have ch:=qE.hx.cell;have fh:=qE.hx.fz;have lh:=qE.hx.lt;have NL:ag _:=fun (ao:Option Addr) (cl:Nat) (l:List Sg) (hl:l.length<=4000000) (w:World) (k:KS w bo m g) (h:GS w ao l)=>afY M eps bo m c g ω mc UP.o ao cl l hl w k h
 have hLn:=hL.1;obtain ⟨ln,ax⟩:=qbr L.length;have LN:ag _:=ax;rw [ax] at cl hi hm hr hLn;clear ax qE hK hU hv hE hL M;by_cases dP:i<ln
 ·have z0:((i:Int) == (ln:Int))=false:=by simp;omega
  have z1:¬ i=ln:=ω;obtain ⟨lb,lf,rfl,rz,hc⟩:=HV.o.cells (by rw [LN.o];omega)
  obtain ⟨so,sc,lW,q2,q3,q4⟩:=hc i (by rw [LN.o];exact dP)
  have q1:=(HC.o.gw.cell _ _ rz).trans lW;have dO:=Θ rz HC.o.gw.size;have lbh:¬ lb=bh:=ω;clear lW rz;have sl:=HL.o.2 i (by rw [LN.o];exact dP)
  have ED:ag (E=mX eps g m (L.getD i []::L.drop (i+1))):=by
   have:=HE.o
   unfold uP at this;rw [Ym (by rw [LN.o];exact dP),abF (by rw [LN.o];exact dP)] at this
   exact this
  have EF:ag (i+1=ln->L.drop (i+1)=[]):=fun q=>qbp (by rw [LN.o];omega)
  have EG:ag (i+1<ln->L.drop (i+1)≠[]):=fun q e=>by have:=congrArg List.length e;rw [qax,LN.o] at this;simp at this;omega
  have Ar:ag (L.getD (i+1-1) []=L.getD i []):=rfl;clear hc HE;obtain ⟨l,hl⟩:=qbr (L.getD i []);rw [hl] at q1 q2 q3 q4 sl ED Ar;have GL:ag (GS w0 so l):=q4;have Mk:=NL.o so sc l ω;obtain ⟨sn,oA⟩:=qbr l.length;have SN:ag _:=oA;rw [oA] at q1 q2 q3 sl Mk;have NH:ag (∀ W,KS W bo m g->GS W so l->_):=fun W k h=>Mk W k h
  clear hl oA q4 NL Mk;have wi:IntKind.i64.wrap ((i:Int)+1)=((i+1:Nat):Int):=by rw [Δ];omega
  go_enter func180,ntmps180;have C2:ag (CI w0 bp bl be bh eps (some (φ lb lf)) lc L (W.setCell (φ bh 0) (By ((i:Int)+1))) (i+1)):=HC.o.up n1 n2 n3 hb (i+1);have K2:ag (KS (W.setCell (φ bh 0) (By ((i:Int)+1))) bo m g):=ahr HK.o HC.o.hx _;go_wp2_with fail;generalize W.setCell (φ bh 0) (By ((i:Int)+1))=W2 at C2 K2 ⊢;refine (NH.o _ K2.o (GL.o.gw C2.o.gw)).mono ?_;rintro e w3 ⟨he,g3⟩;have C3:ag _:=C2.o.mono g3;have m0:0<m:=hm dP;clear g3 NH;by_cases tb:dK m 0 l=true
  ·have ne:l.isEmpty=false:=by
    cases l with
    | nil=>have:=Gl.1 tb;omega
    | cons s l=>rfl
   have EI:E=if eR eps g l≠0 then eR eps g l else Bo eps l (L.drop (i+1)):=(by rw [ED.o,OQ,Yl (by rw [tb,ne];decide)]);unfold DX at he;rw [Ym tb] at he;rcases he with ⟨v0,rfl⟩ | ⟨v0,rfl⟩
   ·rw [Yl (fun q=>q v0)] at EI
    have ER:ag _:=EI;have DA:=Gm.1 v0;have UN:ag _:=(pE UP.o tb (fun s hs=>(mW.1 (DA s hs)).2.1)).1
    have Yd:0<sn:=by
     rw [<-SN.o];cases l with
     | nil=>cases ne
     | cons s l=>simp
    have NX:ag (E=uP eps L (i+1) (bu l) l.length):=by
     show E=_;unfold uP;by_cases q:i+1<ln
     ·rw [Ym (by rw [LN.o];exact q),ER.o]
      unfold Bo;rw [Yl (EG.o q)]
     ·rw [Yl (by rw [LN.o];exact q),Yl ω,Ar.o,ER.o]
      unfold Bo;rw [Ym (EF.o ω)]
    clear EI ER DA tb ne ED EF EG Ar v0;go_wp2_with fail;go_ret;exact .inr (.inl ⟨so,sc,l,r-1,by rw [SN.o];rfl,by rw [SN.o];exact Yd,by rw [SN.o];omega,GL.o.gw C3.o.gw,ω,fun b9 w9 g9 k9=>⟨i+1,C3.o.mono g9,k9,UN.o,by rw [SN.o];omega,Yk _,by rw [LN.o];omega,fun _=>by rw [SN.o];exact Yd,NX.o,by rw [LN.o];omega⟩⟩)
   ·rw [Ym v0] at EI
    have R:ag (Ew w0 be E (iP (eR eps g l)) w3):=⟨by rw [EI],C3.o.gw,C3.o.er⟩
    clear EI ED EF EG Ar v0 tb ne;generalize eR eps g l=EE at R ⊢;go_wp2_with fail;exact ⟨rfl,.inr (.inr ⟨_,rfl,R.o⟩)⟩
  ·have tf:dK m 0 l=false:=(by simpa using tb);have EI:E=82:=(by rw [ED.o,OQ,Ym (by rw [tf];rfl)]);unfold DX at he;rw [Yl tb] at he;obtain rfl:e=.panicked (iP 82):=by
    rcases he with ⟨q,_⟩ | ⟨_,q⟩
    ·exact absurd q γ
    ·exact q
   have R:ag (Ew w0 be E (iP 82) w3):=⟨by rw [EI],C3.o.gw,C3.o.er⟩
   clear EI ED EF EG Ar tb tf he;go_wp2_with fail;exact ⟨rfl,.inr (.inr ⟨_,rfl,R.o⟩)⟩
 ·have ei:i=ln:=by omega
  subst ei;have R:ag (Mj w0 bp bl be bh eps lo lc L E W):=by
   refine ⟨by rw [LN.o];exact HC.o,?_⟩
   have:=HE.o
   unfold uP at this;rw [Yl (by rw [LN.o];omega)] at this
   rw [LN.o];exact this
  clear HE NL;go_enter func180,ntmps180;go_wp2_with fail;go_ret;exact .inl ⟨none,0,rfl,R.o⟩
theorem aht (M:iD) (eps:Int) (ao:Option Addr) (n cp:Nat) (f:Nat->Int) (lo:Option Addr) (lc:Nat) (L:List (List Sg)) (e0:-9223372036854775808<=eps) (e1:eps<9223372036854775808) (hn:n<=2000000) (dA:n<=cp) (hS:ou L) (w:World) (hk:KS w ao n f) (hv:VS w lo L) :
  Calls prog 159 #[.slice ao n cp,By eps,.slice lo L.length lc] w fun ex w'=>abH ex eps f n L/\Gw w w':=by
 have hmf:∀ (fn:Fn) (first cap:Array Value) (w:World),(Instr.makeFunc fn first cap).run prog w=.ok (.func fn first cap) w:=fun _ _ _ _=>rfl
 have HK:ag _:=hk;have HV:ag _:=hv;have HS:ag _:=hS;have MM:ag iD:=M;have lns:=hS.1;clear hk hv hS M;have NB:ag (∀ W,KS W ao n f->_):=fun W h=>Wm eps ao n cp f ω W h
 have MX:ag (∀ W,Calls prog 179 #[By 4294967296,By eps] W fun ex w'=>ex=χ (By (oo 4294967296 eps))/\w'=W):=fun W=>afQ 4294967296 eps γ γ e0 e1 W
 obtain ⟨H,hH⟩:=qbr (oo 4294967296 eps);have HH:ag _:=hH;rw [hH] at MX;obtain ⟨ln,ax⟩:=qbr L.length;have LN:ag _:=ax;rw [ax] at lns ⊢;clear hH ax;go_enter_defers func159,ntmps159;go_wp2_with fail;have P3:ag (aO (((w.alloc (.cells #[By eps] 3)).alloc (.cells #[.slice lo ln lc] 103)).alloc (.cells #[By 0] 27)) w.heap.size (By eps) 3):=((aO.new w _ _).gw ((Gw.refl _).alloc _ _)).gw ((Gw.refl _).alloc _ _);have L3:ag (aO (((w.alloc (.cells #[By eps] 3)).alloc (.cells #[.slice lo ln lc] 103)).alloc (.cells #[By 0] 27)) (w.heap.size+1) (.slice lo ln lc) 103):=by
  have:=(aO.new (w.alloc (.cells #[By eps] 3)) (.slice lo ln lc) 103).gw ((Gw.refl _).alloc #[By 0] 27)
  simp at this;exact this
 have E3:ag (aO (((w.alloc (.cells #[By eps] 3)).alloc (.cells #[.slice lo ln lc] 103)).alloc (.cells #[By 0] 27)) (w.heap.size+1+1) (By 0) 27):=by
  have:=aO.new ((w.alloc (.cells #[By eps] 3)).alloc (.cells #[.slice lo ln lc] 103)) (By 0) 27
  simp at this;exact this
 have G3:ag (Gw w (((w.alloc (.cells #[By eps] 3)).alloc (.cells #[.slice lo ln lc] 103)).alloc (.cells #[By 0] 27))):=(((Gw.refl w).alloc _ _).alloc _ _).alloc _ _;have Z3:ag (w.heap.size+3<=(((w.alloc (.cells #[By eps] 3)).alloc (.cells #[.slice lo ln lc] 103)).alloc (.cells #[By 0] 27)).heap.size):=by show _<=_;simp
 generalize ((w.alloc (.cells #[By eps] 3)).alloc (.cells #[.slice lo ln lc] 103)).alloc (.cells #[By 0] 27)=w3 at P3 L3 E3 G3 Z3 ⊢;obtain ⟨bp,lQ⟩:=qbr w.heap.size;obtain ⟨bl,bG⟩:=qbr (bp+1);obtain ⟨be,qD⟩:=qbr (bl+1);have BB:ag (w.heap.size=bp/\bp+1=bl/\bl+1=be):=⟨lQ,bG,qD⟩;rw [lQ,bG] at L3;rw [lQ,bG,qD] at E3;rw [lQ] at P3;rw [lQ,bG,qD];have ne:¬ bl=be:=ω;clear lQ bG qD;refine (NB.o _ (HK.o.gw G3.o)).mono ?_;rintro e w4 ⟨hb,g4⟩;have P4:ag (aO w4 bp (By eps) 3):=P3.o.gw g4;have L4:ag (aO w4 bl (.slice lo ln lc) 103):=L3.o.gw g4;have E4:ag (aO w4 be (By 0) 27):=E3.o.gw g4;have G4:ag _:=G3.o.trans g4;have Z4:ag _:=Φ Z3.o g4.size;clear g4 P3 L3 E3 G3 Z3 NB;rcases hb with ⟨k0,rfl⟩ | ⟨k0,k1,rfl⟩ | ⟨k0,k1,rfl⟩
 ·have R:ag (jV eps f n L 1):=.inl ⟨k0,rfl⟩
  clear k0;go_wp2_with fail;refine leaves_cons (f:=178) (args:=#[IS be]) ε ι ?_;refine (xw be _ 1 _ E4.o.cell E4.o.fz).mono ?_;rintro e u' wz ⟨rfl,rfl,rfl⟩;have d5:=(aO.set E4.o (By 1)).cell;refine ⟨By 1,by simp [results,results159,go_sem,d5],⟨1,rfl,R.o⟩,?_⟩
  exact (G4.o).setCell (by show w.heap.size<=be;have:=BB.o;omega) _
 ·have R:ag (jV eps f n L 80):=.inr (.inl ⟨k0,k1,rfl⟩)
  clear k0 k1;go_wp2_with fail;refine leaves_cons (f:=178) (args:=#[IS be]) ε ι ?_;refine (xw be _ 80 _ E4.o.cell E4.o.fz).mono ?_;rintro e u' wz ⟨rfl,rfl,rfl⟩;have d5:=(aO.set E4.o (By 80)).cell;refine ⟨By 80,by simp [results,results159,go_sem,d5],⟨80,rfl,R.o⟩,?_⟩
  exact (G4.o).setCell (by show w.heap.size<=be;have:=BB.o;omega) _
 ·have KE:ag ((2<=eps/\eps<=64)/\Up f n):=⟨k0,k1⟩
  have cl:=L4.o.cell;have ll:=L4.o.lt;have Ye:=P4.o.cell;have zY:=P4.o.lt;clear k0 k1;have Ml:=MX.o w4.drew;have oM:w4.drew.cell? (φ bl 0)=some (.slice lo ln lc):=cl;have hcq:w4.drew.cell? (φ bp 0)=some (By eps):=Ye;have E5:ag _:=E4.o;have G5:ag _:=G4.o.drew;by_cases hi:(ln:Int)<=H
  rotate_left
  ·have R:ag (jV eps f n L 81):=.inr (.inr (.inl ⟨KE.o.1,KE.o.2,fun q=>hi (by have:=q.1;rw [LN.o,HH.o] at this;exact this),rfl⟩))
   have ti:decide ((ln:Int)<=H)=false:=(by simpa using hi);clear hi;go_wp2_with fail;refine wp_region_still_tail 5 η η ?_;change wpStill _ _ (World.drew w4) (fun a'=>wpList _ _ _ _ a' (World.drew w4)) _ _
   simp only [qbj,List.take_zero,List.drop_succ_cons,List.drop_zero]
   still_step
   still_step
   still_step
   still_call Ml
   still_step
   refine wpStill_nil ?_;go_wp2_with fail;refine (qv 81 _).mono ?_;rintro e w6 ⟨rfl,e6⟩;have E6:ag (aO w6 be (By 0) 27):=(by rw [e6];exact E4.o);have G6:ag (Gw w w6):=(by rw [e6];exact G4.o.drew);clear e6;go_wp2_with fail;refine leaves_cons (f:=178) (args:=#[IS be]) ε ι ?_;refine (xw be _ 81 _ E6.o.cell E6.o.fz).mono ?_;rintro e u' wz ⟨rfl,rfl,rfl⟩;have d5:=(aO.set E6.o (By 81)).cell;refine ⟨By 81,by simp [results,results159,go_sem,d5],⟨81,rfl,R.o⟩,?_⟩
   exact (G6.o).setCell (by show w.heap.size<=be;have:=BB.o;omega) _
  ·have ti:decide ((ln:Int)<=H)=true:=(by simpa using hi);have HI:ag _:=hi;clear hi;go_wp2_with fail;refine wp_region_still_tail 5 η η ?_;change wpStill _ _ (World.drew w4) (fun a'=>wpList _ _ _ _ a' (World.drew w4)) _ _
   simp only [qbj,List.take_zero,List.drop_succ_cons,List.drop_zero]
   still_step
   still_step
   still_step
   still_call Ml
   still_step
   refine wpStill_nil ?_;go_wp2_with fail;refine (lN 81 _).mono ?_;rintro e w6 ⟨rfl,e6⟩;have L6:ag (aO w6 bl (.slice lo ln lc) 103):=(by rw [e6];exact L4.o);have E6:ag (aO w6 be (By 0) 27):=(by rw [e6];exact E4.o);have P6:ag (aO w6 bp (By eps) 3):=(by rw [e6];exact P4.o);have G6:ag (Gw w w6):=(by rw [e6];exact G4.o.drew);have Z6:ag (w.heap.size+3<=w6.heap.size):=(by rw [e6];exact Z4.o);have cl6:=L6.o.cell;have ll6:=L6.o.lt;clear e6 Ml oM hcq E5 G5 cl ll Ye zY L4 E4 P4 G4 Z4 MX ti;go_wp2_with fail;obtain ⟨bb,oC⟩:=qbr ((((ln:Int) == 0) == ((n:Int) == 0)));have HB:ag (bb=true↔(ln=0↔n=0)):=by
    show _↔_;rw [<-oC];by_cases x:ln=0
    ·by_cases y:n=0
     ·simp [x,y]
     ·simp [x,y]
    ·by_cases y:n=0
     ·simp [x,y]
     ·rw [show ((ln:Int) == 0)=false by simp;omega,show ((n:Int) == 0)=false by simp;omega];simp [x,y]
   generalize ((ln:Int) == 0)=bx at oC ⊢;generalize ((n:Int) == 0)=by_ at oC ⊢;rw [oC];clear oC;cases bb with
   | false =>
    have R:ag (jV eps f n L 81):=.inr (.inr (.inl ⟨KE.o.1,KE.o.2,fun q=>by have:=HB.o.2 (by have:=q.2;rw [LN.o] at this;exact this);simp at this,rfl⟩))
    refine (qv 81 _).mono ?_;rintro e w7 ⟨rfl,rfl⟩;go_wp2_with fail;refine leaves_cons (f:=178) (args:=#[IS be]) ε ι ?_;refine (xw be _ 81 _ E6.o.cell E6.o.fz).mono ?_;rintro e u' wz ⟨rfl,rfl,rfl⟩;have d5:=(aO.set E6.o (By 81)).cell;refine ⟨By 81,by simp [results,results159,go_sem,d5],⟨81,rfl,R.o⟩,?_⟩
    exact (G6.o).setCell (by show w.heap.size<=be;have:=BB.o;omega) _
   | true =>
    have ZZ:ag _:=HB.o.1 rfl;obtain ⟨E,hE⟩:=qbr (mX eps f n L);have RR:ag (jV eps f n L E):=.inr (.inr (.inr ⟨KE.o.1,KE.o.2,⟨by rw [LN.o,HH.o];exact HI.o,by rw [LN.o];exact ZZ.o⟩,hE.symm⟩))
    have HE:ag (E=uP eps L 0 f n):=by
     show E=_;unfold uP;by_cases x:0<L.length
     ·rw [Ym x];exact hE.symm
     ·have:L=[]:=qbd ω
      rw [Yl x,Ym rfl,<-hE,this];rfl
    clear hE HB;refine (lN 81 _).mono ?_;rintro e w7 ⟨rfl,rfl⟩;have C8:ag (CI w bp bl be w7.heap.size eps lo lc L (w7.alloc (.cells #[By 0] 3)) 0):=⟨G6.o.alloc _ _,P6.o.gw ((Gw.refl _).alloc _ _),by rw [LN.o];exact L6.o.gw ((Gw.refl _).alloc _ _),E6.o.gw ((Gw.refl _).alloc _ _),aO.new w7 _ _⟩
    have Z8:ag _:=Z6.o;go_wp2_with fail;generalize w7.alloc (.cells #[By 0] 3)=w8 at C8 ⊢;generalize w7.heap.size=bh at C8 Z8 ⊢;clear L6 E6 P6 G6 Z6 cl6 ll6;have Yf:Yc w bp bl be bh eps lo lc L E (ln+1) w8 ao n cp f:=⟨0,C8.o,HK.o.gw C8.o.gw,KE.o.2,hn,dA,Γ _,fun q=>by have:=ZZ.o;rw [LN.o] at q;omega,HE.o,by rw [LN.o];omega⟩
    have CB:=ahn (IS bh) (IS bl) (IS bp) _ _ _ (ahs MM.o w bp bl be bh eps lo lc L E HS.o HV.o (by have:=BB.o;have:=Z8.o;omega) (by have:=BB.o;have:=Z8.o;omega) (by have:=BB.o;have:=Z8.o;omega) (by have:=BB.o;have:=Z8.o;omega)) (ln+1) ao n cp f w8 Yf
    have Aq:ag (Calls prog 141 #[.slice ao n cp,.func (.func 180) #[] #[IS bh,IS bl,IS bp]] w8 fun e w'=>(e=π #[]/\Mj w bp bl be bh eps lo lc L E w')\/(∃ ch,e=.panicked ch/\Ew w be E ch w')):=CB
    clear Yf CB;refine Aq.o.mono ?_;clear Aq MM;rintro e w9 (⟨rfl,hC,Yg⟩ | ⟨ch,rfl,rfl,g9,b9⟩)
    ·have C9:ag (CI w bp bl be bh eps lo lc L w9 L.length):=hC
     have E9:ag _:=Yg;rw [LN.o] at C9 E9;have cl9:=hC.lx.cell;have ll9:=hC.lx.lt;have ch9:=hC.hx.cell;have lh9:=hC.hx.lt;have ce9:=hC.er.cell;have fe9:=hC.er.fz;rw [LN.o] at cl9 ch9;clear hC Yg;by_cases l0:ln=0
     ·have E0:E=0:=(by rw [E9.o,Ym l0]);subst E0;have z0:((ln:Int) == 0)=true:=(by simp;omega);go_wp2_with fail;refine (lN 84 _).mono ?_
      rintro e sG ⟨rfl,rfl⟩;go_wp2_with fail;refine leaves_cons (f:=178) (args:=#[IS be]) ε ι ?_;refine (XW be _).mono ?_;rintro e u' wz ⟨rfl,rfl,rfl⟩;have d5:=(aO.set C9.o.er (By 0)).cell;refine ⟨By 0,by simp [results,results159,go_sem,d5],⟨0,rfl,RR.o⟩,?_⟩
      exact C9.o.gw.setCell (by show w.heap.size<=be;have:=BB.o;omega) _
     ·obtain ⟨lb,lf,rfl,dO,hc⟩:=(HV.o.gw C9.o.gw).cells (by rw [LN.o];omega)
      obtain ⟨so,sc,q1,_,_,_⟩:=hc (ln-1) (by rw [LN.o];omega)
      have sl:=HS.o.2 (ln-1) (by rw [LN.o];omega)
      have EE:=E9.o;rw [Yl l0] at EE;clear hc;generalize (L.getD (ln-1) []).length=sn at q1 sl EE;have wi:IntKind.i64.wrap ((ln:Int)-1)=((ln-1:Nat):Int):=(by rw [Δ];omega);obtain ⟨i1,yY⟩:=qbr (ln-1);rw [yY] at q1 wi;have lt1:i1<ln:=ω;have z0:((ln:Int) == 0)=false:=(by simp;omega);clear yY;by_cases s1:sn=1
      ·have E0:E=0:=(by rw [EE,Ym s1]);subst E0 s1;clear EE;go_wp2_with fail;refine (lN 84 _).mono ?_;rintro e sG ⟨rfl,rfl⟩;go_wp2_with fail;refine leaves_cons (f:=178) (args:=#[IS be]) ε ι ?_;refine (XW be _).mono ?_;rintro e u' wz ⟨rfl,rfl,rfl⟩;have d5:=(aO.set C9.o.er (By 0)).cell;refine ⟨By 0,by simp [results,results159,go_sem,d5],⟨0,rfl,RR.o⟩,?_⟩
       exact C9.o.gw.setCell (by show w.heap.size<=be;have:=BB.o;omega) _
      ·have E0:E=84:=(by rw [EE,Yl s1]);subst E0;have z1:((sn:Int) == 1)=false:=(by simp;omega);clear EE;go_wp2_with fail;refine (qv 84 _).mono ?_;rintro e sG ⟨rfl,rfl⟩;go_wp2_with fail;refine leaves_cons (f:=178) (args:=#[IS be]) ε ι ?_;refine (xw be _ 84 _ C9.o.er.cell C9.o.er.fz).mono ?_;rintro e u' wz ⟨rfl,rfl,rfl⟩;have d5:=(aO.set C9.o.er (By 84)).cell;refine ⟨By 84,by simp [results,results159,go_sem,d5],⟨84,rfl,RR.o⟩,?_⟩
       exact (C9.o.gw).setCell (by show w.heap.size<=be;have:=BB.o;omega) _
    ·have G9:ag (Gw w w9):=g9
     have B9:ag (aO w9 be (By 0) 27):=b9;clear g9 b9;go_wp2_with fail;refine leaves_cons (f:=178) (args:=#[IS be]) ε ι ?_;refine (xw be _ E _ B9.o.cell B9.o.fz).mono ?_;rintro e u' wz ⟨rfl,rfl,rfl⟩;have d5:=(aO.set B9.o (By E)).cell;refine ⟨By E,by simp [results,results159,go_sem,d5],⟨E,rfl,RR.o⟩,?_⟩
     exact (G9.o).setCell (by show w.heap.size<=be;have:=BB.o;omega) _
theorem ahu:Gy:=ahq agC L9
theorem ahv {P:Program} (w:World) {ops:Array Oper} {o:Oper} {a:Act} {K:Act->World->Prop} {Q:Exit->Act->World->Prop} {E:Prop} (kT:o.guard=none) (s x:Operand) (t:TypeId)
  (ho:o.op=.call { callee:=.builtin .append,args:=#[s,x],argTypes:=#[t,t] })
  (base:Nat) (e:TypeId) (i:TypeInfo) (z:Value) (size bytes:Nat) (ht:P.underlying t=some (.slice e)) (hi:P.info? e=some i) (hz:i.zero=some z)
  (mL:i.size=size) (aJ:i.bytes=bytes) (mM:z.cells.size=size) (cF:0<size)
  (v:Value) (n:Nat) (xs:List Value) (hs:a.eval s=v) (fM:w.ownsRow base e size v n xs)
  (ad:Addr) (m c:Nat) (news:List Value) (hx:a.eval x=.slice (some ad) m c) (hl:news.length=m*size) (jA:∀ j u,news[j]?=some u->w.cell? (ad.add j)=some u) (h1:∀ u∈news,u.oneCell'=true)
  (mO:n+m<=maxLen) (mP:(n+m)*bytes<=140737488355328) (mQ:base<=w.heap.size)
  (h:∀ v' w',w'.ownsRow base e size v' (n+m) (xs++news)->w.grownBy w' v.ownBlock->(v'=.slice none 0 0↔v=.slice none 0 0/\m=0)->(v'.ownBlock=v.ownBlock\/v'.ownBlock=some w.heap.size)->K (a.put o.dst v') w') :
  if Region.wanted o (yielded ops a.tmps)=true then Oper.wp P o a w K Q else E:=by
 have hw:Region.wanted o (yielded ops a.tmps)=true:=by simp [Region.wanted,kT]
 rw [Ym hw];obtain ⟨v',w',hr,h2,h3,h4,h5⟩:=run_append_own_at (P:=P) w base t o.type e i z size bytes ht hi hz mL aJ mM cF v n xs fM ad m c news hl jA h1 mO mP mQ;unfold Oper.wp execOp;simp only [ho,resolve,invoke,builtin,Sem.run_bind,Sem.run_pure,Result.andThen_ok,List.map_toArray,qaw,List.map_nil,hs,hx,hr];exact h v' w' h2 h3 h4 h5
theorem ahw {x y z:Value} (h:w.heap[b]?=some (.cells #[x,y,z] t (0,0))) (u:Value):(w.setCell (φ b 2) u).heap[b]?=some (.cells #[x,y,u] t (0,0)):=by simp [World.setCell,Array.getElem?_modify,h]
theorem ahx {ao:Option Addr} {cp:Nat} (h:KS w ao n f) (hn:n<=2000000) :
  Calls prog 160 #[.slice ao n cp] w fun e w'=>(∃ bo c,e=χ (.slice bo n c)/\KS w' bo n f/\n<=c/\∀ a,bo=some a->w.heap.size<=a.block)/\Gw w w':=by
 cases ao with
 | none =>
  have n0:n=0:=by
   rcases Nat.eq_zero_or_pos n with e | e
   ·exact e
   ·obtain ⟨b,off,e',_⟩:=h.cells e;cases e'
  subst n0;have HK:ag _:=h;clear h;have hq:∀ W:World,(binOp .eql 143 (.slice none 0 cp) (.slice none 0 0)).run prog W=.ok (.bool true) W:=fun _=>η
  go_enter func160,ntmps160;go_wp2_with fail;go_ret;exact ⟨⟨none,0,rfl,HK.o,Yk _,fun a e=>by cases e⟩,Gw.refl w⟩
 | some ad =>
  have OW:ag (∀ x,(some ad:Option Addr)=some x->∀ j u,((List.range n).map fun j=>Value.int .u64 (f j))[j]?=some u->(w.alloc (.cells #[] 35)).cell? (x.add j)=some u):=by
   intro x e j u hu;cases e;have hj:j<n:=by
    have:=(qaT.1 hu).1
    simpa using this
   obtain ⟨b,off,e',hb,hc⟩:=h.cells ω;cases e';rw [Addr.add_lit];refine (((Gw.refl w).alloc _ _).cell _ _ hb).trans ((hc j hj).trans ?_);simpa [hj] using hu
  have O0:ag ((w.alloc (.cells #[] 35)).ownsRow w.heap.size 35 1 (ψ w.heap.size 0 0 0) 0 []):=World.ownsRow_made w #[] 0 (Yk _) (Γ _) rfl;obtain ⟨ii,aK,hz,hs,aJ⟩:=info_parts qF;have BD:ag _:=h.bd;have NL:ag (((List.range n).map fun j=>Value.int .u64 (f j)).length=n*1):=by show _=_;simp
  have N1:ag (∀ u∈((List.range n).map fun j=>Value.int .u64 (f j)),u.oneCell'=true):=by intro u hu;obtain ⟨j,_,rfl⟩:=qaA.1 hu;rfl
  clear h;have hq:∀ W:World,(binOp .eql 143 (.slice (some ad) n cp) (.slice none 0 0)).run prog W=.ok (.bool false) W:=fun _=>η
  go_enter func160,ntmps160;go_wp2_with (at_builtin;refine qG _ rfl _ _ 143 rfl w.heap.size 35 ii (BY 0) 1 8 underlying143 aK hz hs aJ rfl γ _ 0 [] rfl O0.o (some ad) n cp ((List.range n).map fun j=>Value.int .u64 (f j)) rfl (fun q=>by cases q) NL.o OW.o N1.o θ ω ε ?_)
  intro v' w7 q1 q2 q3;have G7:ag (Gw w w7):=((Gw.refl w).alloc _ _).grown q2 (fun k hk=>by cases hk;exact Yk _)
  have FM:∃ bo c,v'=.slice bo n c/\KS w7 bo n f/\n<=c/\∀ a,bo=some a->w.heap.size<=a.block:=by
   have lW:w7.ownsRow w.heap.size 35 1 v' n ((List.range n).map fun j=>Value.int .u64 (f j)):=(by simpa using q1);rcases lW.2 with ⟨e,z⟩ | ⟨g,cap,cur,e,hb,hh,hc,_⟩
   ·subst z
    exact ⟨none,0,e,⟨fun h0=>ω,BD.o⟩,Yk _,fun a q=>by cases q⟩
   ·subst e
    exact ⟨some ⟨g,0,none⟩,cap,rfl,xA lW (Yk _) (fun j hj=>by simp [hj]) BD.o,hc,fun a q=>by cases q;exact hb⟩
  obtain ⟨bo,c,rfl,r1,r2,r3⟩:=FM;have av:ag (KS w7 bo n f/\n<=c/\∀ a,bo=some a->w.heap.size<=a.block):=⟨r1,r2,r3⟩;clear q1 q2 q3 aK hz hs aJ r1 r2 r3;go_wp2_with fail;go_ret;exact ⟨⟨bo,c,rfl,av.o⟩,G7.o⟩
theorem ahy {ao:Option Addr} {cp:Nat} {l:List Sg} (h:GS w ao l) (hn:l.length<=2000000) :
  Calls prog 161 #[.slice ao l.length cp] w fun e w'=>(∃ bo c,e=χ (.slice bo l.length c)/\SR w' w.heap.size (.slice bo l.length c) l)/\Gw w w':=by
 cases ao with
 | none =>
  have n0:l.length=0:=by
   rcases Nat.eq_zero_or_pos l.length with e | e
   ·exact e
   ·obtain ⟨b,off,e',_⟩:=h.cells e;cases e'
  have l0:l=[]:=qbd n0;subst l0;clear h n0;show Calls _ _ #[.slice none 0 cp] _ _;have hq:∀ W:World,(binOp .eql 150 (.slice none 0 cp) (.slice none 0 0)).run prog W=.ok (.bool true) W:=fun _=>η
  go_enter func161,ntmps161;go_wp2_with fail;go_ret;exact ⟨⟨none,0,rfl,qaL _ _ _ _⟩,Gw.refl w⟩
 | some ad =>
  have OW:ag (∀ x,(some ad:Option Addr)=some x->∀ j u,(l.flatMap dc)[j]?=some u->(w.alloc (.cells #[] 174)).cell? (x.add j)=some u):=by
   intro x e j u hu;cases e;have hj:j<l.length*5:=by
    have:=(qaT.1 hu).1
    rw [vA] at this;exact this
   obtain ⟨b,off,e',hb,hc⟩:=abN h ω;cases e';rw [Addr.add_lit];refine (((Gw.refl w).alloc _ _).cell _ _ hb).trans ((hc j hj).trans ?_);rw [<-Gu l j hj];exact hu
  have O0:ag ((w.alloc (.cells #[] 174)).ownsRow w.heap.size 174 5 (ψ w.heap.size 0 0 0) 0 []):=World.ownsRow_made w #[] 0 (Yk _) (Γ _) rfl;obtain ⟨ii,aK,hz,hs,aJ⟩:=info_parts Bq;have NL:ag _:=vA l;have N1:ag (∀ u∈l.flatMap dc,u.oneCell'=true):=by intro u hu;obtain ⟨s,-,hs⟩:=List.mem_flatMap.1 hu;exact OS s u hs
  clear h;obtain ⟨n,ax⟩:=qbr l.length;have LN:ag _:=ax;rw [ax] at hn NL ⊢;clear ax;have hq:∀ W:World,(binOp .eql 150 (.slice (some ad) n cp) (.slice none 0 0)).run prog W=.ok (.bool false) W:=fun _=>η
  go_enter func161,ntmps161;go_wp2_with (at_builtin;refine qG _ rfl _ _ 150 rfl w.heap.size 174 ii (.agg #[BY 0,.float .f64 0,.float .f64 0,By 0,By 0]) 5 40 underlying150 aK hz hs aJ rfl γ _ 0 [] rfl O0.o (some ad) n cp (l.flatMap dc) rfl (fun q=>by cases q) NL.o OW.o N1.o θ ω ε ?_)
  intro v' w7 q1 q2 q3;have G7:ag (Gw w w7):=((Gw.refl w).alloc _ _).grown q2 (fun k hk=>by cases hk;exact Yk _)
  have FM:∃ bo c,v'=.slice bo n c/\SR w7 w.heap.size (.slice bo n c) l:=by
   have lW:w7.ownsRow w.heap.size 174 5 v' n (l.flatMap dc):=(by simpa using q1);have vv:SR w7 w.heap.size v' l:=(by show World.ownsRow _ _ _ _ _ _ _;rw [LN.o];exact lW);rcases lW.2 with ⟨e,z⟩ | ⟨g,cap,cur,e,hb,hh,hc,_⟩
   ·subst z
    exact ⟨none,0,e,by rw [<-e];exact vv⟩
   ·subst e
    exact ⟨some ⟨g,0,none⟩,cap,rfl,vv⟩
  obtain ⟨bo,c,rfl,r1⟩:=FM;have av:ag _:=r1;clear q1 q2 q3 aK hz hs aJ r1;go_wp2_with fail;go_ret;exact ⟨⟨bo,c,rfl,av.o⟩,G7.o⟩
theorem of9 (M:iD) (eps:Int) (ao:Option Addr) (n cp:Nat) (f:Nat->Int) (lo:Option Addr) (lc:Nat) (L:List (List Sg)) (e0:-9223372036854775808<=eps) (e1:eps<9223372036854775808) (hn:n<=2000000) (dA:n<=cp) (hS:ou L) (bL:L.length<=lc) (w:World) (hk:KS w ao n f) (hv:VS w lo L) :
  Calls prog 144 #[.slice ao n cp,By eps,.slice lo L.length lc] w fun ex w'=>PV fF w w' ex eps f n L/\Gw w w':=by
 have CK:ag _:=aht M eps ao n cp f lo lc L e0 e1 hn dA hS w hk hv;have HK:ag _:=hk;have HV:ag _:=hv;have SH:ag _:=hS;obtain ⟨ln,ax⟩:=qbr L.length;have LN:ag _:=ax;have ln1:ln<=2000000:=by have:=hS.1;omega
 rw [ax] at CK bL ⊢;clear hk hv hS ax M;go_enter func144,ntmps144;go_wp2_with fail;refine Calls.mono CK.o ?_;rintro e w1 ⟨⟨E,rfl,hR⟩,g1⟩;have CR:ag _:=hR;have G1:ag _:=g1;clear hR g1 CK;by_cases E0:E=0
 ·subst E0
  have K1:ag _:=HK.o.gw G1.o;go_wp2_with fail;refine (ahx K1.o hn).mono ?_;rintro e w2 ⟨⟨ko,kc,rfl,Gh,di,iq⟩,g2⟩;have K2:ag (KS w2 ko n f/\n<=kc/\∀ a,ko=some a->w1.heap.size<=a.block):=⟨Gh,di,iq⟩;have G2:ag _:=g2;clear Gh di iq g2 K1;go_wp2_with fail;have B3:ag ((w2.alloc (.cells #[By eps,.slice ko n kc,.slice none 0 0] 149)).heap[w2.heap.size]?=some (.cells #[By eps,.slice ko n kc,.slice none 0 0] 149 (0,0))):=Ω w2 _;have G3:ag (Gw w2 (w2.alloc (.cells #[By eps,.slice ko n kc,.slice none 0 0] 149))):=(Gw.refl w2).alloc _ _;have z3:(w2.alloc (.cells #[By eps,.slice ko n kc,.slice none 0 0] 149)).heap.size=w2.heap.size+1:=ε;obtain ⟨pb,nU⟩:=qbr w2.heap.size;have PB:ag _:=nU;have Z3:ag ((w2.alloc (.cells #[By eps,.slice ko n kc,.slice none 0 0] 149)).heap.size=pb+1):=by rw [<-nU];exact z3
  rw [nU] at B3 ⊢;clear nU z3;generalize w2.alloc (.cells #[By eps,.slice ko n kc,.slice none 0 0] 149)=w3 at B3 G3 Z3 ⊢;obtain ⟨jj,ka,jz,js,kg⟩:=info_parts Br;have WP:ag (w.heap.size<=pb):=by have:=G1.o.size;have:=G2.o.size;have:=PB.o;show _<=_;omega
  go_loopg [26] ln (fun gg z7 wr=>∃ (i:Nat) (vo:Option Addr) (vc:Nat) (au:List Value),z7=By (i:Int)/\i<=ln/\ln-i<=gg/\ag (wr.heap[pb]?=some (.cells #[By eps,.slice ko n kc,.slice vo i vc] 149 (0,0)))/\ag (cZ wr (pb+1) (.slice vo i vc) (L.take i) au)/\ag (Gw w2 wr))
  case atStart=>exact ⟨0,none,0,[],rfl,Γ _,ω,B3,(show ag _ from Ev _ _),G3⟩
  case round =>
   clear B3 G3;obtain ⟨i,vo,vc,au,rfl,a1,a2,BK,OV,GG⟩:=hrel;obtain ⟨wS,aS⟩:=qbs wr;subst aS;by_cases ar:i<ln
   ·obtain ⟨ab,af,rfl,cN,ju⟩:=(((HV.o.gw G1.o).gw G2.o).gw GG.o).cells (by rw [LN.o];omega)
    obtain ⟨so,sc,p1,_,_,p4⟩:=ju i (by rw [LN.o];exact ar)
    obtain ⟨lv,pe⟩:=qbr (L.getD i []);have LV:ag _:=pe;have TK:ag (L.take (i+1)=L.take i++[lv]):=(by have:=abR (L:=L) (i:=i) (by rw [LN.o];exact ar);rw [pe] at this;exact this);have TL:ag ((L.take i).length=i):=(by show _=_;rw [qav,LN.o];omega);rw [pe] at p1 p4;have sn1:lv.length<=2000000:=(by have:=SH.o.2 i (by rw [LN.o];exact ar);rw [pe] at this;exact this);have GSR:ag _:=p4;have CG:ag (∀ W,Gw wS W->Calls prog 161 #[.slice so lv.length sc] W fun e w'=>(∃ bo c,e=χ (.slice bo lv.length c)/\SR w' W.heap.size (.slice bo lv.length c) lv)/\Gw W w'):=fun W gW=>ahy (p4.gw gW) sn1
    obtain ⟨sn,oA⟩:=qbr lv.length;have SN:ag _:=oA;rw [oA] at p1 CG;have bl:=(qab.1 BK.o).1;have OW:ag (∀ W,Gw wS W->∀ o,(W.alloc o).ownsRow (pb+1) 150 1 (.slice vo i vc) i au):=fun W gW o=>by
     have:=(OV.o.gw gW).outer
     rw [TL.o] at this;exact this.alloc o
    have aD:ag (∀ (W:World) (bo:Option Addr) (c:Nat) (v':Value) (w7:World),Gw wS W->SR W wS.heap.size (.slice bo sn c) lv->w7.ownsRow (pb+1) 150 1 v' (i+1) (au++[.slice bo sn c])->(W.alloc (.cells #[.slice bo sn c] 150)).grownBy w7 (Value.slice vo i vc).ownBlock->(v'.ownBlock=(Value.slice vo i vc).ownBlock\/v'.ownBlock=some (W.heap.size+1))->w7.heap[pb]?=some (.cells #[By eps,.slice ko n kc,.slice vo i vc] 149 (0,0))/\(w7.setCell (φ pb 2) v').heap[pb]?=some (.cells #[By eps,.slice ko n kc,v'] 149 (0,0))/\cZ (w7.setCell (φ pb 2) v') (pb+1) v' (L.take (i+1)) (au++[.slice bo sn c])/\Gw w2 (w7.setCell (φ pb 2) v')):=fun W bo c v' w7 gW hs r1 r2 r4=>by
     have ow:∀ q,(Value.slice vo i vc).ownBlock=some q->pb+1<=q:=fun q e=>((OW.o W gW (.cells #[] 0)).lt q e).1
     have B7:w7.heap[pb]?=some (.cells #[By eps,.slice ko n kc,.slice vo i vc] 149 (0,0)):=(r2.block pb (by have:=gW.size;simp;omega) (fun e=>by have:=ow pb e.symm;omega)).trans ((qap _ _ (Θ bl gW.size)).trans ((gW.below.block pb bl).trans BK.o))
     refine ⟨B7,ahw B7 v',?_,?_⟩
     ·rw [TK.o]
      have:=cZ.more (o:=.cells #[.slice bo sn c] 150) OV.o gW hs ω (by rw [TL.o];exact r1) r2 r4
      exact this.keep fun q hq _=>qac _ _ _ _ (by show q≠pb;omega)
     ·refine Gw.setCell (((GG.o.trans gW).alloc _ _).grown r2 (fun q hq=>?_)) (by show w2.heap.size<=pb;rw [PB.o];exact Yk _) _
      have:=ow q hq
      rw [PB.o];omega
    have k2:wS.drew.cell? (φ pb 2)=some (.slice vo i vc):=(tB BK.o).2.2;clear ju pe oA p4;go_wp2_with fail;go_region_law (first
     | (go_simp;refine (CG.o _ ((Gw.refl wS).drew)).mono ?_;rintro e w4 ⟨⟨bo,c,rfl,Yh⟩,g4⟩;have S4:ag (SR w4 wS.heap.size (.slice bo sn c) lv):=Yh;have G4:ag (Gw wS w4):=((Gw.refl wS).drew.trans g4);have k4:w4.cell? (φ pb 2)=some (.slice vo i vc):=(g4.cell _ _ bl).trans k2;have l4:pb<w4.heap.size:=Θ bl g4.size;clear Yh g4)
     | (refine ahv _ rfl (.tmp 34) (.tmp 37) 103 rfl (pb+1) 150 jj (.slice none 0 0) 1 24 underlying103 ka jz js kg rfl γ (.slice vo i vc) i au κ (OW.o w4 G4.o _) ⟨w4.heap.size,0,none⟩ 1 1 [.slice bo sn c] κ rfl (Hm w4 (.slice bo sn c) 150) (fun u hu=>by simp at hu;subst hu;rfl) θ ω (Φ (show pb+1<=w4.heap.size by omega) ((Gw.refl w4).alloc _ _).size) ?_;intro v' w7 r1 r2 r3 r4;obtain ⟨b8,cap8,ev,_,_,_⟩:=cJ r1 (by simpa using r3);obtain ⟨B7,Q7⟩:=aD.o w4 bo c v' w7 G4.o S4.o r1 r2 (by simpa using r4);have k7:=(tB B7).2.2;have f7:w7.frozen? (φ pb 2)=false:=(by simp [World.frozen?,B7]);have l7:pb<w7.heap.size:=(qab.1 B7).1;have Q8:ag _:=Q7;clear B7 Q7 r1 r2 r3 r4;subst ev))
    all_goals go_wp2_with fail
    all_goals go_roundg (ln-(i+1))
    all_goals first
     | (case measure=>omega)
     | (case rel=>exact ⟨i+1,some ⟨b8,0,none⟩,cap8,au++[Value.slice bo sn c],by go_num,ω,Yk _,(show ag _ from Q8.o.1),(show ag _ from Q8.o.2.1),(show ag _ from Q8.o.2.2)⟩)
   ·have ei:i=ln:=(by omega);subst ei;have e1:L.take i=L:=(by rw [qaQ (by rw [LN.o];exact Yk _)]);have Yi:cZ wS w.heap.size (.slice vo L.length vc) L au:=by
     have:=OV.o
     rw [e1] at this;rw [LN.o];exact this.base (by have:=WP.o;omega)
    have GA:ag _:=(G1.o.trans G2.o).trans GG.o;have Yj:iG wS w.heap.size vo L:=Yi.vsf (abS HV.o);have Ee:ag (fF wS pb (fun q=>w.heap.size<=q/\q<wS.heap.size) eps f n L):=(by refine ⟨⟨wS,w.heap.size,ko,kc,vo,vc,fun q=>Iff.rfl,Yk _,fun q _ _=>rfl,by rw [LN.o];exact BK.o,WP.o,K2.o.1.gw GG.o,fun a ea=>Φ G1.o.size (K2.o.2.2 a ea),Yj⟩,hn,SH.o⟩);clear Yi Yj e1;go_wp2_with fail;go_ret2;exact ⟨⟨0,CR.o,.inr ⟨rfl,pb,_,rfl,fun q hq=>hq.1,Ee.o⟩⟩,GA.o⟩
 ·have t0:(E == 0)=false:=by simpa using E0
  have HE:ag _:=E0;clear E0;go_wp2_with fail;go_ret2;exact ⟨⟨E,CR.o,.inl ⟨HE.o,rfl⟩⟩,G1.o⟩
