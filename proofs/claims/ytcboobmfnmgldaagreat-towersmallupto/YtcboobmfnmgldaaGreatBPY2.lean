/- Package levels: cover. -/
import Derived.StillTailTactics
import Derived.Test.YtcboobmfnmgldaaGreatBVBuild
import Derived.Test.YtcboobmfnmgldaaGreatBPXc
import Derived.Test.YtcboobmfnmgldaaGreatBPXo
set_option linter.unusedVariables false
set_option maxHeartbeats 4000000
set_option maxRecDepth 10000
open Go.Proofs.Tryz
namespace Go.Proofs.YtcboobmfnmgldaaGreat
open Go.RowKit
attribute [local go_sem] iy
abbrev sK:Array Value:=#[By 0,.float .f64 0,.float .f64 0,AI 0,AI 0]
theorem ae9:∀ n:Nat,(List.range (n*5)).map (fun i=>sK[i%5]!)=(List.replicate n aK).flatMap da:=by
 intro n;induction n with
 | zero=>rfl
 | succ n ih =>
  have e:(n+1)*5=n*5+5:=by omega
  have e2:∀ i,(n*5+i)%5=i%5:=fun i=>by omega
  rw [e,List.range_add,List.map_append,ih,List.map_map,List.replicate_succ',Mf];congr 1;show (List.range 5).map (fun i=>sK[(n*5+i)%5]!)=da aK
  simp only [e2];rfl
theorem ae' (w:World) (base n:Nat) (hb:base<=w.heap.size) (hn:n<=4000000):SR (w.alloc (.cells (madeCells sK (n*5)) 145)) base (.slice (some ⟨w.heap.size,0,none⟩) n n) (List.replicate n aK):=by
 show World.ownsRow _ _ _ _ _ _ _;rw [List.length_replicate];refine ⟨by rw [zI,List.length_replicate],.inr ⟨w.heap.size,n,madeCells sK (n*5),rfl,hb,heap_alloc_new w _,Nat.le_refl _,by unfold maxLen;omega,size_madeCells _ _,?_⟩⟩
 rw [<-ae9,List.take_of_length_le (by simp [madeCells])]
 simp [madeCells]
variable {m:Nat}
theorem afa {l:List Sg} {k:Nat} (hl:l.length=k) (s:Sg) (hk:k<m):(l++List.replicate (m-k) aK).set k s=(l++[s])++List.replicate (m-(k+1)) aK:=by
 rw [show m-k=(m-(k+1))+1 by omega,List.replicate_succ,List.set_append_right _ _ (by omega),hl,Nat.sub_self,List.append_assoc]
 rfl
theorem afb (C:uF) (M:gQ) (eps:Int) (k2:2<=eps) (k3:eps<=64) (bo:Option Addr) (m c:Nat) (g:Nat->Int) (m0:0<m) (m1:m<=2000000) (mc:m<=c) (u:Up g m) (w:World) (k:KS w bo m g) :
  Calls prog 56 #[.slice bo m c,AI eps] w fun e w'=>(∃ (b:Nat) (lv:List Sg),e=.returned (.slice (some ⟨b,0,none⟩) lv.length lv.length)/\cK eps g m 0 lv/\SR w' w.heap.size (.slice (some ⟨b,0,none⟩) lv.length lv.length) lv/\(∀ j,j<lv.length->(lv.getD j aK).ok))/\Gw w w':=by
 have HK:ag _:=k;have UP:ag _:=u;have KE:ag (2<=eps/\eps<=64):=⟨k2,k3⟩;have CE:ag (∀ W,KS W bo m g->_):=fun W h=>C.ends eps bo m c g (by omega) (by omega) m1 mc W h
 have MO:ag _:=fun (fr:Nat) (hfr:fr<=m) (ao:Option Addr) (n cp:Nat) (f:Nat->Int) (hn:n<=2000000) (dc:n<=cp) (W:World) (h:KS W ao n f)=>M.of eps (fr:Int) ao n cp f (by omega) (by omega) (by omega) (by omega) hn dc W h
 clear k u C M;obtain ⟨bk,off,rfl,fT,dY⟩:=HK.o.cells m0;clear dY fT;go_enter func56,ntmps56;go_wp2_with fail;refine (CE.o _ HK.o).mono ?_;rintro e w1 ⟨⟨v1,es,err,rfl,hE,hI⟩,g1⟩;obtain ⟨EA,rfl⟩:cV (eps-1) g m 0 es/\err=0:=by
  rcases hE with ⟨q,_⟩ | ⟨_,q,_⟩ | ⟨_,_,q,q'⟩
  ·exact absurd KE.o q
  ·exact absurd UP.o q
  ·exact ⟨q,q'⟩
 have ED:ag _:=EA;have zX:=EA.len;obtain ⟨eo,ec,rfl,vH,vI⟩:=Mz hI;have px:0<es.length:=List.length_pos_iff.2 (EA.nonempty m0);cases eo with
 | none=>have:=(vH rfl).1;rw [this] at px;simp at px
 | some ea =>
  obtain ⟨eb,rfl,_,jO,py⟩:=vI ea rfl;have EC:ag (∀ W,Gw w1 W->∀ i,i<es.length->W.cell? ⟨eb,i,none⟩=some (AI ((es.getD i 0:Nat):Int))/\eb<W.heap.size):=fun W gW i hi=>⟨(gW.cell _ _ jO).trans (py i hi),Nat.lt_of_lt_of_le jO gW.size⟩
  have G1:ag _:=g1;clear hE EA hI vH vI py g1 CE;obtain ⟨en,mI⟩:∃ en,es.length=en:=⟨_,rfl⟩;have EN:ag _:=mI;rw [mI] at zX px ⊢;clear mI jO;obtain ⟨e9,rfl⟩:∃ e9,en=e9+1:=⟨en-1,by omega⟩
  have zU:=aaf e9 (by omega)
  have S4:ag _:=ae' w1 w.heap.size (e9+1) G1.o.size (by omega)
  have G4:ag (Gw w (w1.alloc (.cells (madeCells sK ((e9+1)*5)) 145))):=G1.o.alloc _ _;have H4:ag (Gw w1 (w1.alloc (.cells (madeCells sK ((e9+1)*5)) 145))):=(Gw.refl w1).alloc _ _;have B4:ag _:=G1.o.size;have B5:ag (w1.heap.size<=w1.heap.size):=Nat.le_refl _;go_wp2_with fail;refine (kh 0 _).mono ?_;rintro e w2 ⟨rfl,rfl⟩;go_wp2_with fail;generalize w2.alloc (.cells (madeCells sK ((e9+1)*5)) 145)=w4 at S4 G4 H4 ⊢;obtain ⟨lb,eR⟩:∃ lb,w2.heap.size=lb:=⟨_,rfl⟩;have B6:ag (w2.heap.size<=lb):=by rw [<-eR];exact Nat.le_refl _
  have B7:ag (w.heap.size<=lb):=by rw [<-eR];exact B4.o
  rw [eR] at S4 ⊢;clear eR B4 B5 G1 zU;obtain ⟨en,mI⟩:∃ en,e9+1=en:=⟨_,rfl⟩;have Vs:(e9:Int)+1=(en:Int):=by omega
  rw [mI] at S4 EN zX px ⊢;rw [Vs];clear mI Vs;go_loopg [6,8,26] en (fun gg s6 s8 yr wr=>∃ (i fr:Nat) (lv:List Sg),s6=AI 0/\s8=AI fr/\yr=AI i/\i<=en/\en-i<=gg/\ag (lv.length=i)/\ag (fr=kX 0 es i)/\ag (SR wr w.heap.size (.slice (some ⟨lb,0,none⟩) en en) (lv++List.replicate (en-i) aK))/\ag (∀ j,j<lv.length->(lv.getD j aK).ok)/\ag (∀ l',cK eps g m fr l'->cK eps g m 0 (lv++l'))/\ag (Gw w wr)/\ag (Gw w2 wr))
  case atStart=>exact ⟨0,0,[],rfl,rfl,rfl,Nat.zero_le _,by omega,(show ag _ from rfl),(show ag _ from rfl),S4,(show ag _ from fun j hj=>by simp at hj),(show ag _ from fun l' h=>h),G4,H4⟩
  case round =>
   clear S4 G4 H4;obtain ⟨i,fr,lv,rfl,rfl,rfl,j1,j2,LI,FR,lA,pA,dX,lB,qX⟩:=hrel;have XL:(lv++List.replicate (en-i) aK).length=en:=by rw [List.length_append,LI.o,List.length_replicate];omega
   by_cases fX:i<en
   ·have ST:=ED.o.step i (by rw [EN.o];exact fX)
    rw [<-FR.o] at ST;obtain ⟨vJ,Ec⟩:=EC.o _ qX.o i (by rw [EN.o];exact fX)
    obtain ⟨ei,qY⟩:∃ ei,es.getD i 0=ei:=⟨_,rfl⟩;rw [qY] at ST vJ;obtain ⟨s1,s2,s3,s4,_⟩:=ST;have FN:ag _:=qY;clear qY;have tc:ei<=c:=by omega
    have cf:¬ c=fr:=by omega
    have fc:¬ fr=c:=by omega
    have i1:(0:Int)<=(fr:Int):=by omega
    have i2:(fr:Int)<=(ei:Int):=by omega
    have i3:(ei:Int)<=(c:Int):=by omega
    have fe:fr<=ei:=by omega
    go_wp2_with fail;refine (MO.o fr (by omega) _ (ei-fr) (c-fr) (sh g fr) (by omega) (by omega) _ (DG (HK.o.gw lB.o) s2)).mono ?_
    rintro ex w5 ⟨⟨k5,bX,bZ,F5,T5,er5,rfl,nN⟩,g5⟩;obtain rfl:=Nl nN KE.o (by omega) (oJ UP.o s2) s3 (by omega) (by omega)
    have vK:∀ t,t<ei-fr->0<=sh g fr t/\sh g fr t<18446744073709551616:=fun t ht=>HK.o.bd (fr+t) (by omega)
    have SA:ag _:=nN;have SO:ag _:=nN.ok (by omega) vK
    have zZ:ag (Gw w w5):=lB.o.trans g5;have vL:ag (Gw w2 w5):=qX.o.trans g5;have yJ:ag (SR w5 w.heap.size (.slice (some ⟨lb,0,none⟩) (lv++List.replicate (en-i) aK).length en) (lv++List.replicate (en-i) aK)):=by rw [XL];exact DK lA.o g5
    have cc:∀ r,r<5->w5.cell? ⟨lb,i*5+r,none⟩=some (mx (lv++List.replicate (en-i) aK) (i*5+r)):=fun r hr=>by
     have h':w5.ownsRow w.heap.size 145 5 (.slice (some ⟨lb,0,none⟩) (lv++List.replicate (en-i) aK).length en) (lv++List.replicate (en-i) aK).length ((lv++List.replicate (en-i) aK).flatMap da):=yJ.o;rw [h'.cellAt _ (by omega)]
     exact DP _ _ (by omega)
    have fz:∀ r,w5.frozen? ⟨lb,r,none⟩=false:=fun r=>World.ownsRow.frozenAt yJ.o r
    have x0:=cc 0 (by decide)
    have x1:=cc 1 (by decide)
    have x2:=cc 2 (by decide)
    have x3:=cc 3 (by decide)
    have x4:=cc 4 (by decide)
    rw [Nat.add_zero] at x0;have y0:=fz (i*5);have y1:=fz (i*5+1);have y2:=fz (i*5+2);have y3:=fz (i*5+3);have y4:=fz (i*5+4);generalize mx (lv++List.replicate (en-i) aK) (i*5)=z0 at x0;generalize mx (lv++List.replicate (en-i) aK) (i*5+1)=z1 at x1;generalize mx (lv++List.replicate (en-i) aK) (i*5+2)=z2 at x2;generalize mx (lv++List.replicate (en-i) aK) (i*5+3)=z3 at x3;generalize mx (lv++List.replicate (en-i) aK) (i*5+4)=z4 at x4;have S9:ag (SR (vx w5 lb (i*5) ⟨k5,bX,bZ,F5,T5⟩) w.heap.size (.slice (some ⟨lb,0,none⟩) en en) ((lv++[⟨k5,bX,bZ,F5,T5⟩])++List.replicate (en-(i+1)) aK)):=by
     have r:=aai yJ.o (k:=i) (by omega) ⟨k5,bX,bZ,F5,T5⟩
     rw [afa LI.o _ fX] at r;have el:((lv++[(⟨k5,bX,bZ,F5,T5⟩:Sg)])++List.replicate (en-(i+1)) aK).length=en:=by rw [List.length_append,List.length_append,LI.o,List.length_replicate];simp;omega
     rw [el] at r;exact r
    have GS9:ag (Gw w (vx w5 lb (i*5) ⟨k5,bX,bZ,F5,T5⟩)):=Mh zZ.o B7.o;have GT9:ag (Gw w2 (vx w5 lb (i*5) ⟨k5,bX,bZ,F5,T5⟩)):=Mh vL.o B6.o;have tO:ag ((lv++[(Sg.mk k5 bX bZ F5 T5)]).length=i+1):=by show (lv++[_]).length=i+1;rw [List.length_append,LI.o];rfl
    have Ef:ag (∀ j,j<(lv++[(Sg.mk k5 bX bZ F5 T5)]).length->((lv++[(Sg.mk k5 bX bZ F5 T5)]).getD j aK).ok):=fun j hj=>by
     rw [tO.o] at hj;by_cases x:j<lv.length
     ·rw [show (lv++[(Sg.mk k5 bX bZ F5 T5)]).getD j aK=lv.getD j aK by simp [List.getD,List.getElem?_append_left x]]
      exact pA.o j x
     ·have e:j=lv.length:=by have:=LI.o;omega
      rw [show (lv++[(Sg.mk k5 bX bZ F5 T5)]).getD j aK=(Sg.mk k5 bX bZ F5 T5) by subst e;simp [List.getD]]
      exact SO.o
    have Eg:ag (∀ l',cK eps g m ei l'->cK eps g m 0 ((lv++[(Sg.mk k5 bX bZ F5 T5)])++l')):=fun l' h=>by
     rw [List.append_assoc];exact dX.o ((Sg.mk k5 bX bZ F5 T5)::l') ⟨ei,⟨s1,s2,s3,s4⟩,SA.o,h⟩
    have Eh:ag _:=FN.o.symm;have lbl:lb<w5.heap.size:=(mu yJ.o lb rfl).2;clear nN vK g5 lB qX lA vJ Ec cc fz yJ s3 s4 pA dX SA XL;go_wp2_with fail;refine (kh 0 _).mono ?_;rintro e w6 ⟨rfl,rfl⟩;go_wp2_with fail;go_roundg (en-(i+1))
    case measure=>omega
    case rel=>exact ⟨i+1,ei,lv++[(Sg.mk k5 bX bZ F5 T5)],rfl,rfl,by go_num,by omega,Nat.le_refl _,tO,Eh,S9,Ef,Eg,GS9,GT9⟩
   ·have ei:i=en:=by omega
    subst ei;have vM:fr=m:=by
     rw [FR.o];obtain ⟨i',gX⟩:∃ i',i=i'+1:=⟨i-1,by omega⟩
     have:=(ED.o.last i' (by rw [EN.o];omega)).2 (by rw [EN.o];omega)
     rw [gX];exact this
    have iE:ag (cK eps g m 0 lv):=by
     have:=dX.o [] vM
     rwa [List.append_nil] at this
    have S9:ag (SR wr w.heap.size (.slice (some ⟨lb,0,none⟩) lv.length lv.length) lv):=by
     have:=lA.o
     rw [Nat.sub_self,List.replicate_zero,List.append_nil] at this;rw [LI.o];exact this
    have LE:ag (Ending.returned (.slice (some ⟨lb,0,none⟩) i i)=Ending.returned (.slice (some ⟨lb,0,none⟩) lv.length lv.length)):=by show _=_;rw [LI.o]
    clear dX lA vM;go_wp2_with fail;go_ret;exact ⟨⟨lb,lv,LE.o,iE.o,S9.o,pA.o⟩,lB.o⟩
end Go.Proofs.YtcboobmfnmgldaaGreat
namespace Go.Proofs.YtcboobmfnmgldaaGreat
open Go.RowKit
def Cj (K:Nat) (args:Value->Array Value) (I:Nat->World->Option Addr->Nat->Nat->(Nat->Int)->Prop) (Q:World->Prop) (X:List PanicEntry->World->Prop):Prop :=
 ∀ (r:Nat) (W:World) (bo:Option Addr) (m c:Nat) (g:Nat->Int),I r W bo m c g->Calls prog K (args (.slice bo m c)) W fun e w' =>
  (∃ (ao:Option Addr) (lc:Nat),e=.returned (.slice ao 0 lc)/\Q w') \/
  (∃ (ao:Option Addr) (lc:Nat) (lv:List Sg) (r':Nat),e=.returned (.slice ao lv.length lc)/\0<lv.length/\lv.length<=4000000/\GS w' ao lv/\r'<r/\∀ (b:Nat) (dG:World),Gw w' dG->KS dG (some ⟨b,0,none⟩) lv.length (bf lv)->I r' dG (some ⟨b,0,none⟩) lv.length lv.length (bf lv)) \/
  (∃ ch,e=.panicked ch/\X ch w')
theorem afc (p0 p1:Value) (I:Nat->World->Option Addr->Nat->Nat->(Nat->Int)->Prop) (Q:World->Prop) (X:List PanicEntry->World->Prop) (O:Cj 55 (fun v=>#[v,p0,p1]) I Q X) (r:Nat) (bo:Option Addr) (m c:Nat) (g:Nat->Int) (w:World) (h:I r w bo m c g) :
  Calls prog 54 #[.slice bo m c,.func (.func 55) #[] #[p0,p1]] w fun e w'=>(e=.returned (.tuple #[])/\Q w')\/(∃ ch,e=.panicked ch/\X ch w'):=by
 have HI:ag _:=h;have HO:ag _:=O;have FI:ag _:=fun (ao:Option Addr) (c:Nat) (l:List Sg) (hl:l.length<=4000000) (w:World) (h:GS w ao l)=>TQ ao c l hl w h
 clear h O;go_enter func54,ntmps54;go_wp2_with fail;refine (HO.o r _ bo m c g HI.o).mono ?_;clear HI;rintro e w1 (⟨ao,lc,rfl,hq⟩ | ⟨ao,lc,lv,r1,rfl,l0,l1,hG,hr,hI⟩ | ⟨ch,rfl,hx⟩)
 ·have HQ:ag (Q w1):=hq
  clear hq;go_wp2_with fail;go_loopg [4] 0 (fun gg s4 wr=>s4=.slice ao 0 lc/\ag (Q wr))
  case atStart=>exact ⟨rfl,HQ⟩
  case round =>
   obtain ⟨rfl,HQ⟩:=hrel;go_wp2_with fail;go_end0;exact .inl ⟨rfl,HQ.o⟩
 ·have LV:ag (0<lv.length/\lv.length<=4000000):=⟨l0,l1⟩
  have HG:ag _:=hG;have HN:ag _:=hI;obtain ⟨ln,au⟩:∃ ln,lv.length=ln:=⟨_,rfl⟩;have LN:ag _:=au;rw [au];clear hG hI l0 l1 au;go_wp2_with fail;go_loopg [4] r (fun gg s4 wr=>∃ (ao:Option Addr) (lc ln:Nat),s4=.slice ao ln lc/\((ln=0/\ag (Q wr))\/(0<ln/\∃ (lv:List Sg) (r':Nat),r'<gg/\ag (lv.length=ln)/\ag (lv.length<=4000000)/\ag (GS wr ao lv)/\ag (∀ (b:Nat) (dG:World),Gw wr dG->KS dG (some ⟨b,0,none⟩) lv.length (bf lv)->I r' dG (some ⟨b,0,none⟩) lv.length lv.length (bf lv)))))
  case atStart=>exact ⟨ao,lc,ln,rfl,.inr ⟨by rw [<-LN.o];exact LV.o.1,lv,r1,hr,LN,(show ag _ from LV.o.2),HG,HN⟩⟩
  case round =>
   clear LV HG HN LN;obtain ⟨ao,lc,ln,rfl,⟨rfl,HQ⟩ | ⟨l0,lv,r2,fU,LN,LL,HG,HN⟩⟩:=hrel
   ·go_wp2_with fail
    go_end0
    exact .inl ⟨rfl,HQ.o⟩
   ·have yK:ag (∀ W,GS W ao lv->Calls prog 95 #[.slice ao ln lc] W fun e w'=>(∃ b,e=.returned (.slice (some ⟨b,0,none⟩) lv.length lv.length)/\W.heap.size<=b/\KS w' (some ⟨b,0,none⟩) lv.length (bf lv))/\Gw W w'):=fun W h=>by
     have:=FI.o ao lc lv LL.o W h
     rw [LN.o] at this ⊢;exact this
    have t0:decide ((0:Int)<(ln:Int))=true:=by simp;omega
    go_wp2_with fail;refine (yK.o _ HG.o).mono ?_
    rintro e w3 ⟨⟨b,rfl,hb,hk⟩,g3⟩;have oD:ag _:=HN.o b w3 g3 hk;clear hk g3 hb HN HG yK;generalize lv.length=q3 at oD ⊢;generalize bf lv=g3 at oD;clear LN LL;go_wp2_with fail;refine (HO.o r2 _ _ _ _ _ oD.o).mono ?_;clear oD;rintro e w4 (⟨sM,sN,rfl,hq⟩ | ⟨sM,sN,sO,r4,rfl,l4,yL,hG,JD,hI⟩ | ⟨ch,rfl,hx⟩)
    ·have HQ:ag (Q w4):=hq
     clear hq;go_wp2_with fail;go_roundg 0
     case measure=>omega
     case rel=>exact ⟨sM,sN,0,rfl,.inl ⟨rfl,HQ⟩⟩
    ·have JE:ag (sO.length<=4000000):=yL
     have JF:ag _:=hG;have JG:ag _:=hI;obtain ⟨wQ,au⟩:∃ ln,sO.length=ln:=⟨_,rfl⟩;have JH:ag _:=au;rw [au] at l4 ⊢;clear hG hI au yL;go_wp2_with fail;go_roundg r2
     case measure=>omega
     case rel=>exact ⟨sM,sN,wQ,rfl,.inr ⟨l4,sO,r4,JD,JH,JE,JF,JG⟩⟩
    ·have HX:ag (X ch w4):=hx
     clear hx;go_wp2_with fail;exact ⟨rfl,.inr ⟨ch,rfl,HX.o⟩⟩
 ·have HX:ag (X ch w1):=hx
  clear hx;go_wp2_with fail;exact ⟨rfl,.inr ⟨ch,rfl,HX.o⟩⟩
theorem afd (p0 p1 p2:Value) (I:Nat->World->Option Addr->Nat->Nat->(Nat->Int)->Prop) (Q:World->Prop) (X:List PanicEntry->World->Prop) (O:Cj 127 (fun v=>#[v,p0,p1,p2]) I Q X) (r:Nat) (bo:Option Addr) (m c:Nat) (g:Nat->Int) (w:World) (h:I r w bo m c g) :
  Calls prog 54 #[.slice bo m c,.func (.func 127) #[] #[p0,p1,p2]] w fun e w'=>(e=.returned (.tuple #[])/\Q w')\/(∃ ch,e=.panicked ch/\X ch w'):=by
 have HI:ag _:=h;have HO:ag _:=O;have FI:ag _:=fun (ao:Option Addr) (c:Nat) (l:List Sg) (hl:l.length<=4000000) (w:World) (h:GS w ao l)=>TQ ao c l hl w h
 clear h O;go_enter func54,ntmps54;go_wp2_with fail;refine (HO.o r _ bo m c g HI.o).mono ?_;clear HI;rintro e w1 (⟨ao,lc,rfl,hq⟩ | ⟨ao,lc,lv,r1,rfl,l0,l1,hG,hr,hI⟩ | ⟨ch,rfl,hx⟩)
 ·have HQ:ag (Q w1):=hq
  clear hq;go_wp2_with fail;go_loopg [4] 0 (fun gg s4 wr=>s4=.slice ao 0 lc/\ag (Q wr))
  case atStart=>exact ⟨rfl,HQ⟩
  case round =>
   obtain ⟨rfl,HQ⟩:=hrel;go_wp2_with fail;go_end0;exact .inl ⟨rfl,HQ.o⟩
 ·have LV:ag (0<lv.length/\lv.length<=4000000):=⟨l0,l1⟩
  have HG:ag _:=hG;have HN:ag _:=hI;obtain ⟨ln,au⟩:∃ ln,lv.length=ln:=⟨_,rfl⟩;have LN:ag _:=au;rw [au];clear hG hI l0 l1 au;go_wp2_with fail;go_loopg [4] r (fun gg s4 wr=>∃ (ao:Option Addr) (lc ln:Nat),s4=.slice ao ln lc/\((ln=0/\ag (Q wr))\/(0<ln/\∃ (lv:List Sg) (r':Nat),r'<gg/\ag (lv.length=ln)/\ag (lv.length<=4000000)/\ag (GS wr ao lv)/\ag (∀ (b:Nat) (dG:World),Gw wr dG->KS dG (some ⟨b,0,none⟩) lv.length (bf lv)->I r' dG (some ⟨b,0,none⟩) lv.length lv.length (bf lv)))))
  case atStart=>exact ⟨ao,lc,ln,rfl,.inr ⟨by rw [<-LN.o];exact LV.o.1,lv,r1,hr,LN,(show ag _ from LV.o.2),HG,HN⟩⟩
  case round =>
   clear LV HG HN LN;obtain ⟨ao,lc,ln,rfl,⟨rfl,HQ⟩ | ⟨l0,lv,r2,fU,LN,LL,HG,HN⟩⟩:=hrel
   ·go_wp2_with fail
    go_end0
    exact .inl ⟨rfl,HQ.o⟩
   ·have yK:ag (∀ W,GS W ao lv->Calls prog 95 #[.slice ao ln lc] W fun e w'=>(∃ b,e=.returned (.slice (some ⟨b,0,none⟩) lv.length lv.length)/\W.heap.size<=b/\KS w' (some ⟨b,0,none⟩) lv.length (bf lv))/\Gw W w'):=fun W h=>by
     have:=FI.o ao lc lv LL.o W h
     rw [LN.o] at this ⊢;exact this
    have t0:decide ((0:Int)<(ln:Int))=true:=by simp;omega
    go_wp2_with fail;refine (yK.o _ HG.o).mono ?_
    rintro e w3 ⟨⟨b,rfl,hb,hk⟩,g3⟩;have oD:ag _:=HN.o b w3 g3 hk;clear hk g3 hb HN HG yK;generalize lv.length=q3 at oD ⊢;generalize bf lv=g3 at oD;clear LN LL;go_wp2_with fail;refine (HO.o r2 _ _ _ _ _ oD.o).mono ?_;clear oD;rintro e w4 (⟨sM,sN,rfl,hq⟩ | ⟨sM,sN,sO,r4,rfl,l4,yL,hG,JD,hI⟩ | ⟨ch,rfl,hx⟩)
    ·have HQ:ag (Q w4):=hq
     clear hq;go_wp2_with fail;go_roundg 0
     case measure=>omega
     case rel=>exact ⟨sM,sN,0,rfl,.inl ⟨rfl,HQ⟩⟩
    ·have JE:ag (sO.length<=4000000):=yL
     have JF:ag _:=hG;have JG:ag _:=hI;obtain ⟨wQ,au⟩:∃ ln,sO.length=ln:=⟨_,rfl⟩;have JH:ag _:=au;rw [au] at l4 ⊢;clear hG hI au yL;go_wp2_with fail;go_roundg r2
     case measure=>omega
     case rel=>exact ⟨sM,sN,wQ,rfl,.inr ⟨l4,sO,r4,JD,JH,JE,JF,JG⟩⟩
    ·have HX:ag (X ch w4):=hx
     clear hx;go_wp2_with fail;exact ⟨rfl,.inr ⟨ch,rfl,HX.o⟩⟩
 ·have HX:ag (X ch w1):=hx
  clear hx;go_wp2_with fail;exact ⟨rfl,.inr ⟨ch,rfl,HX.o⟩⟩
theorem Vt (bl be:Nat) (v0 v1:Value) (E:Int) (ne:¬ bl=be) (w:World) (h0:w.cell? ⟨bl,0,none⟩=some v0) (f0:w.frozen? ⟨bl,0,none⟩=false) (h1:w.cell? ⟨be,0,none⟩=some v1) (f1:w.frozen? ⟨be,0,none⟩=false) :
  CallsD prog 51 #[BY bl,BY be] (.panicking (im E)) w fun e u' w' =>
   e=.returned (.tuple #[])/\u'=.panicking [{ v:=.iface 31 (AI E),recovered:=true }]/\w'=(w.setCell ⟨bl,0,none⟩ (.slice none 0 0)).setCell ⟨be,0,none⟩ (AI E):=by
 refine callsD_of_wpS func51 rfl fun c₀ cs hu=>?_
 apply wpS_seq
 apply wpS_region
 simp [wpOpsS,go_sem,recoverD,hu,ntmps51,Exit.thenS]
 apply wpS_seq
 apply wpS_region
 simp [wpOpsS,go_sem,recoverD,Exit.thenS]
 refine wpS_cond (t:=true) (by simp [Act.eval,Array.replicate]) ?_
 simp only [if_true];refine wpS_of_wp ?_;change Code.wp _ _ _ ⟨#[BY bl,BY be,.iface 31 (AI E),.iface 31 (AI E),.iface 31 (AI E),.bool true,undef,undef],[]⟩ w;go_wp2_with fail;refine (TC E _).mono ?_;rintro e w1 ⟨rfl,rfl⟩;go_wp2_with fail;simp [bodyPostS,results,results51,go_sem]
theorem afe (bl be:Nat) (w:World) :
  CallsD prog 51 #[BY bl,BY be] .returning w fun e u' w'=>e=.returned (.tuple #[])/\u'=.returning/\w'=w:=by
 refine callsD_of_wpS func51 rfl fun c₀ cs hu=>?_
 apply wpS_seq
 apply wpS_region
 simp [wpOpsS,go_sem,recoverD,hu,ntmps51,Exit.thenS]
 apply wpS_seq
 apply wpS_region
 simp [wpOpsS,go_sem,recoverD,Exit.thenS]
 refine wpS_cond (t:=false) (by simp [Act.eval,Array.replicate]) ?_
 simp only [Bool.false_eq_true,if_false];refine wpS_of_wp (wp_skip ?_);cases c₀
 simp_all [bodyPostS,results,results51]
theorem uH (be:Nat) (v1:Value) (E:Int) (w:World) (h1:w.cell? ⟨be,0,none⟩=some v1) (f1:w.frozen? ⟨be,0,none⟩=false) :
  CallsD prog 125 #[BY be] (.panicking (im E)) w fun e u' w' =>
   e=.returned (.tuple #[])/\u'=.panicking [{ v:=.iface 31 (AI E),recovered:=true }]/\w'=w.setCell ⟨be,0,none⟩ (AI E):=by
 refine callsD_of_wpS func125 rfl fun c₀ cs hu=>?_
 apply wpS_seq
 apply wpS_region
 simp [wpOpsS,go_sem,recoverD,hu,ntmps125,Exit.thenS]
 apply wpS_seq
 apply wpS_region
 simp [wpOpsS,go_sem,recoverD,Exit.thenS]
 refine wpS_cond (t:=true) (by simp [Act.eval,Array.replicate]) ?_
 simp only [if_true];refine wpS_of_wp ?_;change Code.wp _ _ _ ⟨#[BY be,.iface 31 (AI E),.iface 31 (AI E),.iface 31 (AI E),.bool true,undef,undef],[]⟩ w;go_wp2_with fail;refine (TC E _).mono ?_;rintro e w1 ⟨rfl,rfl⟩;go_wp2_with fail;simp [bodyPostS,results,results125,go_sem]
theorem Vu (be:Nat) (w:World) :
  CallsD prog 125 #[BY be] .returning w fun e u' w'=>e=.returned (.tuple #[])/\u'=.returning/\w'=w:=by
 refine callsD_of_wpS func125 rfl fun c₀ cs hu=>?_
 apply wpS_seq
 apply wpS_region
 simp [wpOpsS,go_sem,recoverD,hu,ntmps125,Exit.thenS]
 apply wpS_seq
 apply wpS_region
 simp [wpOpsS,go_sem,recoverD,Exit.thenS]
 refine wpS_cond (t:=false) (by simp [Act.eval,Array.replicate]) ?_
 simp only [Bool.false_eq_true,if_false];refine wpS_of_wp (wp_skip ?_);cases c₀
 simp_all [bodyPostS,results,results125]
def aN (w:World) (b:Nat) (v:Value) (t:TypeId):Prop:=w.heap[b]?=some (.cells #[v] t (0,0))
variable {w:World} {b:Nat} {v:Value} {t:TypeId}
theorem aN.lt (h:aN w b v t):b<w.heap.size:=(Array.getElem?_eq_some_iff.1 h).1
theorem aN.gw {w':World} (h:aN w b v t) (g:Gw w w'):aN w' b v t:=(g.below.block b h.lt).trans h
theorem aN.cell (h:aN w b v t):w.cell? ⟨b,0,none⟩=some v:=by unfold aN at h;simp [World.cell?,h]
theorem aN.fz (h:aN w b v t):w.frozen? ⟨b,0,none⟩=false:=by unfold aN at h;simp [World.frozen?,h]
theorem aN.new (w:World) (v:Value) (t:TypeId):aN (w.alloc (.cells #[v] t)) w.heap.size v t:=heap_alloc_new w _
theorem aN.set (h:aN w b v t) (u:Value):aN (w.setCell ⟨b,0,none⟩ u) b u t:=by
 unfold aN at *;simp [World.setCell,Array.getElem?_modify,h]
theorem aN.other (h:aN w b v t) (a:Addr) (u:Value) (e:b≠a.block):aN (w.setCell a u) b v t:=(Go.Deep.blk_setCell_other _ _ _ _ e).trans h
structure BI (w0:World) (bp bl be B:Nat) (eps:Int) (f:Nat->Int) (n:Nat) (W:World) (lo:Option Addr) (lc:Nat) (L:List (List Sg)) (az:List Value):Prop where
 gw:Gw w0 W
 sz:B<=W.heap.size
 ep:aN W bp (AI eps) 3
 lx:aN W bl (.slice lo L.length lc) 80
 er:aN W be (AI 0) 31
 own:dQ W B (.slice lo L.length lc) L az
 ok:Mj L
 le:L.length<=lc
 few:L.length<=n
variable {w0 W:World} {bp bl be B n lc:Nat} {eps:Int} {f:Nat->Int} {lo:Option Addr} {L:List (List Sg)} {az:List Value}
theorem BI.mono {W':World} (h:BI w0 bp bl be B eps f n W lo lc L az) (g:Gw W W'):BI w0 bp bl be B eps f n W' lo lc L az :=
 ⟨h.gw.trans g,Nat.le_trans h.sz g.size,h.ep.gw g,h.lx.gw g,h.er.gw g,h.own.gw g,h.ok,h.le,h.few⟩
theorem BI.more {w':World} {oc:Array Value} {ot:TypeId} {vl:Value} {lv:List Sg} {b8 cap8:Nat} (h:BI w0 bp bl be B eps f n W lo lc L az) (g:Gw W w) (hs:SR w W.heap.size vl lv) (eH:∀ j,j<lv.length->(lv.getD j aK).ok)
  (r1:w'.ownsRow B 122 1 (.slice (some ⟨b8,0,none⟩) (L.length+1) cap8) (L.length+1) (az++[vl])) (r2:(w.alloc (.cells oc ot)).grownBy w' (Value.slice lo L.length lc).ownBlock) (r4:(Value.slice (some ⟨b8,0,none⟩) (L.length+1) cap8).ownBlock=(Value.slice lo L.length lc).ownBlock\/(Value.slice (some ⟨b8,0,none⟩) (L.length+1) cap8).ownBlock=some (w.heap.size+1))
  (n1:bl≠bp) (n2:bl≠be) (b1:bl<B) (b2:bp<B) (b3:be<B) (hb:w0.heap.size<=bl) (hB:w0.heap.size<=B) (hc:L.length+1<=cap8) (hf:L.length+1<=n) :
  BI w0 bp bl be B eps f n (w'.setCell ⟨bl,0,none⟩ (.slice (some ⟨b8,0,none⟩) (L.length+1) cap8)) (some ⟨b8,0,none⟩) cap8 (L++[lv]) (az++[vl]):=by
 have ln:(L++[lv]).length=L.length+1:=by simp
 have ow:∀ q,(Value.slice lo L.length lc).ownBlock=some q->B<=q:=fun q hq=>(h.own.outer.lt q hq).1
 have keep:∀ q,q<w.heap.size->q<B->w'.heap[q]?=w.heap[q]?:=fun q hq hn=>(r2.block q (by simp;omega) (fun e=>by have:=ow q e.symm;omega)).trans (heap_alloc_old w _ hq)
 have bx:∀ {q:Nat} {v:Value} {t:TypeId},aN W q v t->q<B->aN w' q v t:=fun hx hq=>(keep _ (hx.gw g).lt hq).trans (hx.gw g)
 have gw':Gw w0 w':=((h.gw.trans g).alloc _ _).grown r2 (fun q hq=>Nat.le_trans hB (ow q hq))
 refine ⟨gw'.setCell hb _,?_,aN.other (bx h.ep b2) _ _ (fun e=>n1 e.symm),?_,aN.other (bx h.er b3) _ _ (fun e=>n2 e.symm),?_,?_,by rw [ln];exact hc,by rw [ln];exact hf⟩
 ·have:=r2.size;have:=g.size;have:=h.sz;simp at *;omega
 ·rw [ln];exact (bx h.lx b1).set _
 ·have:=dQ.more h.own g hs h.sz r1 r2 r4
  rw [ln];exact this.keep fun q hq _=>Go.Deep.blk_setCell_other _ _ _ _ (by show q≠bl;omega)
 ·intro i hi j hj
  by_cases e:i<L.length
  ·rw [show (L++[lv]).getD i []=L.getD i [] by simp [List.getD,List.getElem?_append_left e]] at hj ⊢
   exact h.ok i e j hj
  ·have ei:i=L.length:=by omega
   subst ei;rw [show (L++[lv]).getD L.length []=lv by simp [List.getD]] at hj ⊢
   exact eH j hj
def Rest (eps:Int) (f:Nat->Int) (n:Nat) (L:List (List Sg)) (g:Nat->Int) (m:Nat):Prop:=∀ rr,(if L≠[]/\m=1 then rr=[] else cQ eps g m rr)->cQ eps f n (L++rr)
variable {g:Nat->Int} {m:Nat}
theorem Rest.next {lv:List Sg} (h:Rest eps f n L g m) (c:¬ (L≠[]/\m=1)) (m0:0<m) (l:cK eps g m 0 lv):Rest eps f n (L++[lv]) (bf lv) lv.length:=fun rr hr=>by
 rw [List.append_assoc];refine h ([lv]++rr) ?_;rw [if_neg c];refine ⟨m0,l,?_⟩;by_cases e:lv.length=1
 ·rw [if_pos e];rw [if_pos ⟨by simp,e⟩] at hr;exact hr
 ·rw [if_neg e];rw [if_neg (fun q=>e q.2)] at hr;exact hr
theorem Rest.done (h:Rest eps f n L g m) (c:m=0\/(L≠[]/\m=1)):cQ eps f n L:=by
 have:=h [] (by
  rcases c with rfl | c
  ·rw [if_neg (fun q=>by have:=q.2;omega)];exact rfl
  ·rw [if_pos c])
 rwa [List.append_nil] at this
def Vv (w0:World) (bp bl be B:Nat) (eps:Int) (f:Nat->Int) (n:Nat) (r:Nat) (W:World) (bo:Option Addr) (m c:Nat) (g:Nat->Int):Prop :=
 ∃ lo lc L az,BI w0 bp bl be B eps f n W lo lc L az/\KS W bo m g/\Up g m/\m<=2000000/\m<=c/\Rest eps f n L g m/\(if L=[] then m+1 else m)<=r/\L.length+r<=n+1
def Ck (w0:World) (bp bl be B:Nat) (eps:Int) (f:Nat->Int) (n:Nat) (W:World):Prop:=∃ lo lc L az,BI w0 bp bl be B eps f n W lo lc L az/\cQ eps f n L
theorem aff (C:uF) (M:gQ) (w0:World) (bp bl be B:Nat) (eps:Int) (f:Nat->Int) (n:Nat) (hn:n<=2000000) (k2:2<=eps) (k3:eps<=64) (n1:bl≠bp) (n2:bl≠be) (b1:bl<B) (b2:bp<B) (b3:be<B) (hb:w0.heap.size<=bl) (hB:w0.heap.size<=B) :
  Cj 55 (fun v=>#[v,BY bl,BY bp]) (Vv w0 bp bl be B eps f n) (Ck w0 bp bl be B eps f n) (fun _ _=>False):=by
 rintro r W bo m c g ⟨lo,lc,L,az,jH,hK,hU,m1,mc,hR,qQ,fU⟩;have HB:ag (BI w0 bp bl be B eps f n W lo lc L az):=jH;have HK:ag _:=hK;have UP:ag _:=hU;have RS:ag (Rest eps f n L g m):=hR;have CV:ag _:=fun (m0:0<m) (W:World) (k:KS W bo m g)=>afb C M eps k2 k3 bo m c g m0 m1 mc UP.o W k
 have cl:=jH.lx.cell;have fl:=jH.lx.fz;have ll:=jH.lx.lt;have cp:=jH.ep.cell;have lp:=jH.ep.lt;have R1:ag ((if L=[] then m+1 else m)<=r/\L.length+r<=n+1):=⟨qQ,fU⟩
 have Vw:ag (L=[]↔L.length=0):=(List.length_eq_zero_iff).symm;clear jH hK hU hR qQ fU C M;obtain ⟨ln,au⟩:∃ ln,L.length=ln:=⟨_,rfl⟩;have LN:ag _:=au;rw [au] at cl;clear au;by_cases m0:m=0
 ·have BR:ag (Ck w0 bp bl be B eps f n W):=⟨lo,lc,L,az,HB.o,RS.o.done (.inl m0)⟩
  subst m0;clear CV;go_enter func55,ntmps55;go_wp2_with fail;go_ret;exact .inl ⟨none,0,rfl,BR.o⟩
 ·have t0:((m:Int) == 0)=false:=by simp;omega
  have jK:0<m:=by omega
  by_cases c1:m=1/\0<ln
  ·have BR:ag (Ck w0 bp bl be B eps f n W):=⟨lo,lc,L,az,HB.o,RS.o.done (.inr ⟨fun q=>by have:=Vw.o.1 q;rw [LN.o] at this;omega,c1.1⟩)⟩
   have t1:((m:Int) == 1)=true:=by simp;omega
   have t2:decide ((0:Int)<(ln:Int))=true:=by simp;omega
   have t3:0<ln:=c1.2;clear CV c1 m0;go_enter func55,ntmps55;go_wp2_with fail;go_ret;exact .inl ⟨none,0,rfl,BR.o⟩
  ·have NC:ag (¬ (L≠[]/\m=1)):=fun q=>c1 ⟨q.2,Nat.pos_of_ne_zero (fun e=>q.1 (Vw.o.2 (by rw [LN.o];exact e)))⟩
   obtain ⟨jj,mF,jz,js,mG⟩:=info_parts DI;have TT:(((m:Int) == 1)=true/\¬ 0<ln)\/((m:Int) == 1)=false:=by
    by_cases e:m=1
    ·exact .inl ⟨by simp;omega,by omega⟩
    ·exact .inr (by simp;omega)
   have wz:=HB.o.gw.size;clear c1 m0;rcases TT with ⟨t1,t2⟩ | t1
   all_goals go_enter func55,ntmps55
   all_goals go_wp2_with fail
   all_goals refine (CV.o jK _ HK.o).mono ?_
   all_goals rintro e w2 ⟨⟨b,lv,rfl,qj,hS,eH⟩,g2⟩
   all_goals have iE:ag (cK eps g m 0 lv):=qj
   all_goals have SV:ag (SR w2 W.heap.size (.slice (some ⟨b,0,none⟩) lv.length lv.length) lv):=hS
   all_goals have OK:ag (∀ j,j<lv.length->(lv.getD j aK).ok):=eH
   all_goals have G2:ag (Gw W w2):=g2
   all_goals have Vx:w2.cell? ⟨bl,0,none⟩=some (.slice lo ln lc):=(g2.cell _ _ ll).trans cl
   all_goals have JI:bl<w2.heap.size:=Nat.lt_of_lt_of_le ll g2.size
   all_goals have OW:ag (dQ w2 B (.slice lo L.length lc) L az):=HB.o.own.gw g2
   all_goals have OR:ag (w2.ownsRow B 122 1 (.slice lo ln lc) ln az):=by have:=OW.o.outer;rw [LN.o] at this;exact this
   all_goals have Sx:ln<=n:=by have:=HB.o.few;rw [LN.o] at this;exact this
   all_goals have sz2:B<=w2.heap.size:=Nat.le_trans HB.o.sz g2.size
   all_goals obtain ⟨vn,JL⟩:∃ vn,lv.length=vn:=⟨_,rfl⟩
   all_goals have VN:ag (lv.length=vn):=JL
   all_goals rw [JL]
   all_goals clear qj hS eH g2 JL cl ll cp lp fl
   all_goals go_wp2_with (at_builtin;refine wpList_append_own_at _ rfl _ _ 80 rfl B 122 jj (.slice none 0 0) 1 24 underlying80 mF jz js mG rfl (by decide) _ ln _ rfl (OR.o.alloc _) ⟨w2.heap.size,0,none⟩ 1 1 [(.slice (some ⟨b,0,none⟩) vn vn)] rfl rfl (D9 w2 (.slice (some ⟨b,0,none⟩) vn vn) 122) (fun u hu=>by simp at hu;subst hu;rfl) (by simp only [maxLen];omega) (by omega) (by simp;omega) ?_)
   all_goals intro v' w7 r1 r2 r3 r4
   all_goals obtain ⟨b8,cap8,rfl,nO,hc8,_⟩:=dh r1 r3
   all_goals have FW:=iE.o.few k2 jK m1 HK.o.bd UP.o
   all_goals have Ei:=iE.o.len m1 HK.o.bd
   all_goals have lv0:0<vn:=by rw [<-VN.o];exact List.length_pos_iff.2 (iE.o.some jK)
   all_goals have ow:∀ q,(Value.slice lo ln lc).ownBlock=some q->B<=q:=fun q hq=>(OR.o.lt q hq).1
   all_goals rw [VN.o] at FW Ei
   all_goals
    have rk:vn<r:=by
     have R2:=R1.o.1;by_cases e:L=[]
     ·rw [if_pos e] at R2;omega
     ·rw [if_neg e] at R2
      have mm:m≠1:=fun q=>NC.o ⟨e,q⟩
      by_cases x:vn=1
      ·omega
      ·have:=oW (e:=eps.toNat) (by omega) (FW.2 x)
       have:=FW.1
       omega
   all_goals have rn:=R1.o.2
   all_goals rw [LN.o] at rn
   all_goals
    have B8:ag (BI w0 bp bl be B eps f n (w7.setCell ⟨bl,0,none⟩ (.slice (some ⟨b8,0,none⟩) (ln+1) cap8)) (some ⟨b8,0,none⟩) cap8 (L++[lv]) (az++[.slice (some ⟨b,0,none⟩) vn vn])):=by
     have:=BI.more (cap8:=cap8) (b8:=b8) (w':=w7) HB.o G2.o SV.o OK.o (by rw [LN.o,VN.o];exact r1) (by rw [LN.o];exact r2) (by rw [LN.o];exact r4) n1 n2 b1 b2 b3 hb hB (by rw [LN.o];exact hc8) (by rw [LN.o];omega)
     rw [LN.o,VN.o] at this;exact this
   all_goals have bW:W.heap.size<=b/\b<w2.heap.size:=mu SV.o b rfl
   all_goals
    have G8:ag (GS (w7.setCell ⟨bl,0,none⟩ (.slice (some ⟨b8,0,none⟩) (ln+1) cap8)) (some ⟨b,0,none⟩) lv):=by
     refine zW (DO SV.o OK.o) ?_ ?_
     ·refine (Go.Deep.blk_setCell_other _ _ _ _ (by show b≠bl;have:=HB.o.lx.lt;omega)).trans ?_
      refine (r2.block b (by simp;omega) (fun e=>?_)).trans (heap_alloc_old w2 _ bW.2)
      have:=(HB.o.own.outer.lt b (by rw [LN.o];exact e.symm)).2
      omega
     ·have:=r2.size;simp at this ⊢;omega
   all_goals have NX:ag (Rest eps f n (L++[lv]) (bf lv) lv.length):=RS.o.next NC.o jK iE.o
   all_goals have UN:ag (Up (bf lv) lv.length):=(nF UP.o (iE.o.tiles m1 HK.o.bd) (iE.o.keys m1 HK.o.bd)).1
   all_goals
    have cl7:w7.cell? ⟨bl,0,none⟩=some (.slice lo ln lc):=by
     have e:w7.heap[bl]?=w2.heap[bl]?:=(r2.block bl (by simp;omega) (fun e=>by have:=ow bl e.symm;omega)).trans (heap_alloc_old w2 _ JI)
     exact (World.cell?_of_block (a:=⟨bl,0,none⟩) e).trans Vx
   all_goals
    have fl7:w7.frozen? ⟨bl,0,none⟩=false:=by
     have e:w7.heap[bl]?=w2.heap[bl]?:=(r2.block bl (by simp;omega) (fun e=>by have:=ow bl e.symm;omega)).trans (heap_alloc_old w2 _ JI)
     exact (World.frozen?_of_block (a:=⟨bl,0,none⟩) e).trans (HB.o.lx.gw G2.o).fz
   all_goals have ll7:bl<w7.heap.size:=by have:=r2.size;simp at this;omega
   all_goals clear r1 r2 r3 r4 nO ow FW Vx JI OW OR SV G2 OK
   all_goals go_wp2_with fail
   all_goals go_ret
   all_goals exact .inr (.inl ⟨some ⟨b,0,none⟩,vn,lv,lv.length,by rw [VN.o];rfl,by rw [VN.o];exact lv0,by rw [VN.o];omega,G8.o,by rw [VN.o];exact rk,fun b9 w9 g9 k9=>⟨_,_,_,_,B8.o.mono g9,k9,UN.o,by rw [VN.o];omega,Nat.le_refl _,NX.o,by rw [if_neg (by simp)];exact Nat.le_refl _,by rw [List.length_append,LN.o,VN.o];simp;omega⟩⟩)
theorem Cl (w:World) (B:Nat):dQ w B (.slice none 0 0) [] []:=⟨World.ownsRow_nil _ _ _ _,fun i hi=>by simp at hi,fun i hi=>by simp at hi⟩
theorem dQ.base {B':Nat} (h:dQ w B v L az) (hb:B'<=B):dQ w B' v L az:=by
 refine ⟨⟨h.outer.1,?_⟩,fun i hi=>⟨(h.rows i hi).1,?_⟩,h.apart⟩
 ·rcases h.outer.2 with q | ⟨b,cap,cur,e1,e2,e3⟩
  ·exact .inl q
  ·exact .inr ⟨b,cap,cur,e1,Nat.le_trans hb e2,e3⟩
 ·rcases (h.rows i hi).2 with q | ⟨b,cap,cur,e1,e2,e3⟩
  ·exact .inl q
  ·exact .inr ⟨b,cap,cur,e1,Nat.le_trans hb e2,e3⟩
theorem afg (C:uF) (M:gQ):DT:=by
 intro eps ao n cp f e0 e1 hn dc w hk;have hmf:∀ (fn:Fn) (first cap:Array Value) (w:World),(Instr.makeFunc fn first cap).run prog w=.ok (.func fn first cap) w:=fun _ _ _ _=>rfl
 have HK:ag _:=hk;have CC:ag (uF/\gQ):=⟨C,M⟩;clear hk C M;have NB:ag (∀ W,KS W ao n f->_):=fun W h=>TM eps ao n cp f (by omega) W h
 go_enter_defers func29,ntmps29
 go_wp2_with fail;have P3:ag (aN (((w.alloc (.cells #[AI eps] 3)).alloc (.cells #[.slice none 0 0] 80)).alloc (.cells #[AI 0] 31)) w.heap.size (AI eps) 3):=((aN.new w _ _).gw ((Gw.refl _).alloc _ _)).gw ((Gw.refl _).alloc _ _)
 have L3:ag (aN (((w.alloc (.cells #[AI eps] 3)).alloc (.cells #[.slice none 0 0] 80)).alloc (.cells #[AI 0] 31)) (w.heap.size+1) (.slice none 0 0) 80):=by
  have:=(aN.new (w.alloc (.cells #[AI eps] 3)) (.slice none 0 0) 80).gw ((Gw.refl _).alloc #[AI 0] 31)
  simp at this;exact this
 have E3:ag (aN (((w.alloc (.cells #[AI eps] 3)).alloc (.cells #[.slice none 0 0] 80)).alloc (.cells #[AI 0] 31)) (w.heap.size+1+1) (AI 0) 31):=by
  have:=aN.new ((w.alloc (.cells #[AI eps] 3)).alloc (.cells #[.slice none 0 0] 80)) (AI 0) 31
  simp at this;exact this
 have G3:ag (Gw w (((w.alloc (.cells #[AI eps] 3)).alloc (.cells #[.slice none 0 0] 80)).alloc (.cells #[AI 0] 31))):=(((Gw.refl w).alloc _ _).alloc _ _).alloc _ _;have Z3:ag (w.heap.size+3<=(((w.alloc (.cells #[AI eps] 3)).alloc (.cells #[.slice none 0 0] 80)).alloc (.cells #[AI 0] 31)).heap.size):=by show _<=_;simp
 generalize (((w.alloc (.cells #[AI eps] 3)).alloc (.cells #[.slice none 0 0] 80)).alloc (.cells #[AI 0] 31))=w3 at P3 L3 E3 G3 Z3 ⊢;obtain ⟨bp,ku⟩:∃ bp,w.heap.size=bp:=⟨_,rfl⟩;obtain ⟨bl,bu⟩:∃ bl,bp+1=bl:=⟨_,rfl⟩;obtain ⟨be,oE⟩:∃ be,bl+1=be:=⟨_,rfl⟩;have BB:ag (w.heap.size=bp/\bp+1=bl/\bl+1=be):=⟨ku,bu,oE⟩;rw [ku,bu] at L3;rw [ku,bu,oE] at E3;rw [ku] at P3;rw [ku,bu,oE];have ne:¬ bl=be:=by omega
 clear ku bu oE;refine (NB.o _ (HK.o.gw G3.o)).mono ?_;rintro e w4 ⟨hb,g4⟩;have P4:ag _:=P3.o.gw g4;have L4:ag (aN w4 bl (.slice none 0 0) 80):=L3.o.gw g4;have E4:ag (aN w4 be (AI 0) 31):=E3.o.gw g4;have G4:ag _:=G3.o.trans g4;have Z4:ag _:=Nat.le_trans Z3.o g4.size;clear g4 P3 L3 E3 G3 Z3 NB;rcases hb with ⟨k0,rfl⟩ | ⟨k0,k1,rfl⟩ | ⟨k0,k1,rfl⟩
 rotate_left 2
 ·have HI:Vv w bp bl be (bp+3) eps f n (n+1) w4 ao n cp f:=by
   have bz:=BB.o;exact ⟨none,0,[],[],⟨G4.o,by have:=Z4.o;omega,P4.o,L4.o,E4.o,Cl _ _,fun i hi=>by simp at hi,Nat.le_refl _,Nat.zero_le _⟩,HK.o.gw G4.o,k1,hn,dc,(fun rr hr=>by rw [if_neg (fun q=>q.1 rfl)] at hr;exact hr),by rw [if_pos rfl];exact Nat.le_refl _,by simp⟩
  have CB:=afc (BY bl) (BY bp) _ _ _ (aff CC.o.1 CC.o.2 w bp bl be (bp+3) eps f n hn k0.1 k0.2 (by have:=BB.o;omega) (by have:=BB.o;omega) (by have:=BB.o;omega) (by have:=BB.o;omega) (by have:=BB.o;omega) (by have:=BB.o;omega) (by have:=BB.o;omega)) (n+1) ao n cp f w4 HI
  have yM:ag (Calls prog 54 #[.slice ao n cp,.func (.func 55) #[] #[BY bl,BY bp]] w4 fun e w'=>(e=.returned (.tuple #[])/\Ck w bp bl be (bp+3) eps f n w')\/(∃ ch,e=.panicked ch/\False)):=CB
  have KE:ag ((2<=eps/\eps<=64)/\Up f n):=⟨k0,k1⟩;clear HI CB k0 k1 CC;go_wp2_with fail;refine yM.o.mono ?_;rintro e w5 (⟨rfl,lo,lc,L,az,jH,Vy⟩ | ⟨ch,_,q⟩)
  ·have HB:ag (BI w bp bl be (bp+3) eps f n w5 lo lc L az):=jH
   have R:ag (oY eps f n L 0):=.inr (.inr ⟨KE.o.1,KE.o.2,Vy,rfl⟩);have c0:=jH.lx.cell;have f0:=jH.lx.fz;have c1:=jH.er.cell;have f1:=jH.er.fz;obtain ⟨ln,au⟩:∃ ln,L.length=ln:=⟨_,rfl⟩;have LN:ag _:=au;rw [au] at c0;clear jH Vy yM au;go_wp2_with fail;refine leaves_cons (f:=51) (args:=#[BY bl,BY be]) (by simp) (by simp [go_sem]) ?_
   refine (afe bl be _).mono ?_;rintro e u' w6 ⟨rfl,rfl,rfl⟩;have c5:=(aN.other (HB.o.lx.set (.slice lo ln lc)) ⟨be,0,none⟩ (AI 0) ne).cell;have d5:=(aN.set (aN.other HB.o.er ⟨bl,0,none⟩ (.slice lo ln lc) (fun e=>ne e.symm)) (AI 0)).cell
   refine ⟨.tuple #[.slice lo ln lc,AI 0],by simp [results,results29,go_sem,c5,d5],⟨lo,lc,L,0,az,by rw [LN.o],R.o,HB.o.le,?_,HB.o.ok⟩,?_⟩
   ·refine (HB.o.own.keep fun q hq _=>?_).base (by have:=BB.o;omega)
    have bz:=BB.o;exact (Go.Deep.blk_setCell_other _ _ _ _ (by show q≠be;omega)).trans (Go.Deep.blk_setCell_other _ _ _ _ (by show q≠bl;omega))
   ·exact (HB.o.gw.setCell (by show w.heap.size<=bl;have:=BB.o;omega) _).setCell (by show w.heap.size<=be;have:=BB.o;omega) _
  ·exact q.elim
 ·have R:ag (oY eps f n [] 1):=.inl ⟨k0,rfl,rfl⟩
  clear k0;go_wp2_with fail;refine leaves_cons (f:=51) (args:=#[BY bl,BY be]) (by simp) (by simp [go_sem]) ?_
  refine (Vt bl be _ _ 1 ne _ L4.o.cell L4.o.fz E4.o.cell E4.o.fz).mono ?_;rintro e u' w5 ⟨rfl,rfl,rfl⟩;have c5:=(aN.other (L4.o.set (.slice none 0 0)) ⟨be,0,none⟩ (AI 1) ne).cell;have d5:=(aN.set (aN.other E4.o ⟨bl,0,none⟩ (.slice none 0 0) (fun e=>ne e.symm)) (AI 1)).cell
  refine ⟨.tuple #[.slice none 0 0,AI 1],by simp [results,results29,go_sem,c5,d5],⟨none,0,[],1,[],rfl,R.o,Nat.le_refl _,Cl _ _,fun i hi=>by simp at hi⟩,?_⟩
  exact (G4.o.setCell (by show w.heap.size<=bl;have:=BB.o;omega) _).setCell (by show w.heap.size<=be;have:=BB.o;omega) _
 ·have R:ag (oY eps f n [] 80):=.inr (.inl ⟨k0,k1,rfl,rfl⟩)
  clear k0 k1;go_wp2_with fail;refine leaves_cons (f:=51) (args:=#[BY bl,BY be]) (by simp) (by simp [go_sem]) ?_
  refine (Vt bl be _ _ 80 ne _ L4.o.cell L4.o.fz E4.o.cell E4.o.fz).mono ?_;rintro e u' w5 ⟨rfl,rfl,rfl⟩;have c5:=(aN.other (L4.o.set (.slice none 0 0)) ⟨be,0,none⟩ (AI 80) ne).cell;have d5:=(aN.set (aN.other E4.o ⟨bl,0,none⟩ (.slice none 0 0) (fun e=>ne e.symm)) (AI 80)).cell
  refine ⟨.tuple #[.slice none 0 0,AI 80],by simp [results,results29,go_sem,c5,d5],⟨none,0,[],80,[],rfl,R.o,Nat.le_refl _,Cl _ _,fun i hi=>by simp at hi⟩,?_⟩
  exact (G4.o.setCell (by show w.heap.size<=bl;have:=BB.o;omega) _).setCell (by show w.heap.size<=be;have:=BB.o;omega) _
variable {bh:Nat}
theorem afh {bo:Option Addr} (h:KS w bo m g) {x:Int} (hx:aN w bh (AI x) t) (v:Value):KS (w.setCell ⟨bh,0,none⟩ v) bo m g:=by
 refine ⟨fun h0=>?_,h.bd⟩
 obtain ⟨b,off,e,hb,hc⟩:=h.cells h0;have ne:b≠bh:=fun q=>by
  subst q;have c:=hc 0 h0;unfold aN at hx;simp only [World.cell?,hx] at c;cases off with
  | zero=>simp at c
  | succ o=>simp at c
 have blk:(w.setCell ⟨bh,0,none⟩ v).heap[b]?=w.heap[b]?:=Go.Deep.blk_setCell_other _ _ _ _ ne;exact ⟨b,off,e,by simpa using hb,fun i hi=>(World.cell?_of_block (a:=⟨b,off+i,none⟩) blk).trans (hc i hi)⟩
structure CI (w0:World) (bp bl be bh:Nat) (eps:Int) (lo:Option Addr) (lc:Nat) (L:List (List Sg)) (W:World) (i:Nat):Prop where
 gw:Gw w0 W
 ep:aN W bp (AI eps) 3
 lx:aN W bl (.slice lo L.length lc) 80
 er:aN W be (AI 0) 31
 hx:aN W bh (AI (i:Int)) 3
theorem CI.mono {W':World} {i:Nat} (h:CI w0 bp bl be bh eps lo lc L W i) (g:Gw W W'):CI w0 bp bl be bh eps lo lc L W' i:=⟨h.gw.trans g,h.ep.gw g,h.lx.gw g,h.er.gw g,h.hx.gw g⟩
theorem CI.up {i:Nat} (h:CI w0 bp bl be bh eps lo lc L W i) (n1:bp≠bh) (n2:bl≠bh) (n3:be≠bh) (hb:w0.heap.size<=bh) (j:Nat):CI w0 bp bl be bh eps lo lc L (W.setCell ⟨bh,0,none⟩ (AI (j:Int))) j :=
 ⟨h.gw.setCell hb _,h.ep.other _ _ n1,h.lx.other _ _ n2,h.er.other _ _ n3,h.hx.set _⟩
def sP (eps:Int) (L:List (List Sg)) (i:Nat) (g:Nat->Int) (m:Nat):Int:=if i<L.length then lj eps g m (L.drop i) else if i=0 then 0 else if (L.getD (i-1) []).length=1 then 0 else 84
def Vz (w0:World) (bp bl be bh:Nat) (eps:Int) (lo:Option Addr) (lc:Nat) (L:List (List Sg)) (E:Int) (r:Nat) (W:World) (bo:Option Addr) (m c:Nat) (g:Nat->Int):Prop :=
 ∃ i,CI w0 bp bl be bh eps lo lc L W i/\KS W bo m g/\Up g m/\m<=2000000/\m<=c/\i<=L.length/\(i<L.length->0<m)/\E=sP eps L i g m/\L.length+1-i<=r
def JM (w0:World) (bp bl be bh:Nat) (eps:Int) (lo:Option Addr) (lc:Nat) (L:List (List Sg)) (E:Int) (W:World):Prop:=CI w0 bp bl be bh eps lo lc L W L.length/\E=if L.length=0 then 0 else if (L.getD (L.length-1) []).length=1 then 0 else 84
def Cm (w0:World) (be:Nat) (E:Int) (ch:List PanicEntry) (W:World):Prop:=ch=im E/\Gw w0 W/\aN W be (AI 0) 31
theorem afi (M:gQ) (w0:World) (bp bl be bh:Nat) (eps:Int) (lo:Option Addr) (lc:Nat) (L:List (List Sg)) (E:Int) (hL:mq L) (hv:VS w0 lo L) (n1:bp≠bh) (n2:bl≠bh) (n3:be≠bh) (hb:w0.heap.size<=bh) :
  Cj 127 (fun v=>#[v,BY bh,BY bl,BY bp]) (Vz w0 bp bl be bh eps lo lc L E) (JM w0 bp bl be bh eps lo lc L E) (Cm w0 be E):=by
 rintro r W bo m c g ⟨i,oF,hK,hU,m1,mc,hi,hm,hE,hr⟩;have HC:ag _:=oF;have HK:ag _:=hK;have UP:ag _:=hU;have HV:ag _:=hv;have HL:ag _:=hL;have HE:ag _:=hE;have cl:=oF.lx.cell;have ll:=oF.lx.lt;have cp:=oF.ep.cell;have lp:=oF.ep.lt;have ch:=oF.hx.cell;have fh:=oF.hx.fz;have lh:=oF.hx.lt;have NL:ag _:=fun (ao:Option Addr) (cl:Nat) (l:List Sg) (hl:l.length<=4000000) (w:World) (k:KS w bo m g) (h:GS w ao l)=>adN M eps bo m c g (by omega) mc UP.o ao cl l hl w k h
 have hLn:=hL.1;obtain ⟨ln,au⟩:∃ ln,L.length=ln:=⟨_,rfl⟩;have LN:ag _:=au;rw [au] at cl hi hm hr hLn;clear au oF hK hU hv hE hL M;by_cases fX:i<ln
 ·have z0:((i:Int) == (ln:Int))=false:=by simp;omega
  have z1:¬ i=ln:=by omega
  obtain ⟨lb,lf,rfl,pz,hc⟩:=HV.o.cells (by rw [LN.o];omega)
  obtain ⟨so,sc,iY,q2,q3,q4⟩:=hc i (by rw [LN.o];exact fX)
  have q1:=(HC.o.gw.cell _ _ pz).trans iY;have eR:=Nat.lt_of_lt_of_le pz HC.o.gw.size;have lbh:¬ lb=bh:=by omega
  clear iY pz;have sl:=HL.o.2 i (by rw [LN.o];exact fX)
  have ED:ag (E=lj eps g m (L.getD i []::L.drop (i+1))):=by
   have:=HE.o
   unfold sP at this;rw [if_pos (by rw [LN.o];exact fX),ZU (by rw [LN.o];exact fX)] at this
   exact this
  have EF:ag (i+1=ln->L.drop (i+1)=[]):=fun q=>List.drop_eq_nil_of_le (by rw [LN.o];omega)
  have EG:ag (i+1<ln->L.drop (i+1)≠[]):=fun q e=>by have:=congrArg List.length e;rw [List.length_drop,LN.o] at this;simp at this;omega
  have yN:ag (L.getD (i+1-1) []=L.getD i []):=rfl;clear hc HE;obtain ⟨l,hl⟩:∃ l,L.getD i []=l:=⟨_,rfl⟩;rw [hl] at q1 q2 q3 q4 sl ED yN;have GL:ag (GS w0 so l):=q4;have JN:=NL.o so sc l (by omega)
  obtain ⟨sn,mB⟩:∃ sn,l.length=sn:=⟨_,rfl⟩;have SN:ag _:=mB;rw [mB] at q1 q2 q3 sl JN;have NH:ag (∀ W,KS W bo m g->GS W so l->_):=fun W k h=>JN W k h
  clear hl mB q4 NL JN;have wi:IntKind.i64.wrap ((i:Int)+1)=((i+1:Nat):Int):=by rw [IntKind.wrap_i64];omega
  go_enter func127,ntmps127;have C2:ag (CI w0 bp bl be bh eps (some ⟨lb,lf,none⟩) lc L (W.setCell ⟨bh,0,none⟩ (AI ((i:Int)+1))) (i+1)):=HC.o.up n1 n2 n3 hb (i+1);have K2:ag (KS (W.setCell ⟨bh,0,none⟩ (AI ((i:Int)+1))) bo m g):=afh HK.o HC.o.hx _;go_wp2_with fail;generalize W.setCell ⟨bh,0,none⟩ (AI ((i:Int)+1))=W2 at C2 K2 ⊢;refine (NH.o _ K2.o (GL.o.gw C2.o.gw)).mono ?_;rintro e w3 ⟨he,g3⟩;have C3:ag _:=C2.o.mono g3;have m0:0<m:=hm fX;clear g3 NH;by_cases tb:dx m 0 l=true
  ·have ne:l.isEmpty=false:=by
    cases l with
    | nil=>have:=Dx.1 tb;omega
    | cons s l=>rfl
   have EI:E=if dW eps g l≠0 then dW eps g l else zH eps l (L.drop (i+1)):=by
    rw [ED.o,Mc,if_neg (by rw [tb,ne];decide)]
   unfold Bq at he;rw [if_pos tb] at he;rcases he with ⟨v0,rfl⟩ | ⟨v0,rfl⟩
   ·rw [if_neg (fun q=>q v0)] at EI
    have ER:ag _:=EI;have VC:=Dy.1 v0;have UN:ag _:=(nF UP.o tb (fun s hs=>(k6.1 (VC s hs)).2.1)).1
    have VD:0<sn:=by
     rw [<-SN.o];cases l with
     | nil=>cases ne
     | cons s l=>simp
    have NX:ag (E=sP eps L (i+1) (bf l) l.length):=by
     show E=_;unfold sP;by_cases q:i+1<ln
     ·rw [if_pos (by rw [LN.o];exact q),ER.o]
      unfold zH;rw [if_neg (EG.o q)]
     ·rw [if_neg (by rw [LN.o];exact q),if_neg (by omega),yN.o,ER.o]
      unfold zH;rw [if_pos (EF.o (by omega))]
    clear EI ER VC tb ne ED EF EG yN v0;go_wp2_with fail;go_ret;exact .inr (.inl ⟨so,sc,l,r-1,by rw [SN.o];rfl,by rw [SN.o];exact VD,by rw [SN.o];omega,GL.o.gw C3.o.gw,by omega,fun b9 w9 g9 k9=>⟨i+1,C3.o.mono g9,k9,UN.o,by rw [SN.o];omega,Nat.le_refl _,by rw [LN.o];omega,fun _=>by rw [SN.o];exact VD,NX.o,by rw [LN.o];omega⟩⟩)
   ·rw [if_pos v0] at EI
    have R:ag (Cm w0 be E (im (dW eps g l)) w3):=⟨by rw [EI],C3.o.gw,C3.o.er⟩
    clear EI ED EF EG yN v0 tb ne;generalize dW eps g l=EE at R ⊢;go_wp2_with fail;exact ⟨rfl,.inr (.inr ⟨_,rfl,R.o⟩)⟩
  ·have tf:dx m 0 l=false:=by simpa using tb
   have EI:E=82:=by rw [ED.o,Mc,if_pos (by rw [tf];rfl)]
   unfold Bq at he;rw [if_neg tb] at he;obtain rfl:e=.panicked (im 82):=by
    rcases he with ⟨q,_⟩ | ⟨_,q⟩
    ·exact absurd q (by decide)
    ·exact q
   have R:ag (Cm w0 be E (im 82) w3):=⟨by rw [EI],C3.o.gw,C3.o.er⟩
   clear EI ED EF EG yN tb tf he;go_wp2_with fail;exact ⟨rfl,.inr (.inr ⟨_,rfl,R.o⟩)⟩
 ·have ei:i=ln:=by omega
  subst ei;have R:ag (JM w0 bp bl be bh eps lo lc L E W):=by
   refine ⟨by rw [LN.o];exact HC.o,?_⟩
   have:=HE.o
   unfold sP at this;rw [if_neg (by rw [LN.o];omega)] at this
   rw [LN.o];exact this
  clear HE NL;go_enter func127,ntmps127;go_wp2_with fail;go_ret;exact .inl ⟨none,0,rfl,R.o⟩
theorem afj (M:gQ) (eps:Int) (ao:Option Addr) (n cp:Nat) (f:Nat->Int) (lo:Option Addr) (lc:Nat) (L:List (List Sg)) (e0:-9223372036854775808<=eps) (e1:eps<9223372036854775808) (hn:n<=2000000) (dc:n<=cp) (hS:mq L) (w:World) (hk:KS w ao n f) (hv:VS w lo L) :
  Calls prog 98 #[.slice ao n cp,AI eps,.slice lo L.length lc] w fun ex w'=>ZX ex eps f n L/\Gw w w':=by
 have hmf:∀ (fn:Fn) (first cap:Array Value) (w:World),(Instr.makeFunc fn first cap).run prog w=.ok (.func fn first cap) w:=fun _ _ _ _=>rfl
 have HK:ag _:=hk;have HV:ag _:=hv;have HS:ag _:=hS;have MM:ag gQ:=M;have lns:=hS.1;clear hk hv hS M;have NB:ag (∀ W,KS W ao n f->_):=fun W h=>TM eps ao n cp f (by omega) W h
 have MX:ag (∀ W,Calls prog 126 #[AI 4294967296,AI eps] W fun ex w'=>ex=.returned (AI (mo 4294967296 eps))/\w'=W):=fun W=>adF 4294967296 eps (by decide) (by decide) e0 e1 W
 obtain ⟨H,hH⟩:∃ H,mo 4294967296 eps=H:=⟨_,rfl⟩;have HH:ag _:=hH;rw [hH] at MX;obtain ⟨ln,au⟩:∃ ln,L.length=ln:=⟨_,rfl⟩;have LN:ag _:=au;rw [au] at lns ⊢;clear hH au;go_enter_defers func98,ntmps98;go_wp2_with fail;have P3:ag (aN (((w.alloc (.cells #[AI eps] 3)).alloc (.cells #[.slice lo ln lc] 80)).alloc (.cells #[AI 0] 31)) w.heap.size (AI eps) 3):=((aN.new w _ _).gw ((Gw.refl _).alloc _ _)).gw ((Gw.refl _).alloc _ _);have L3:ag (aN (((w.alloc (.cells #[AI eps] 3)).alloc (.cells #[.slice lo ln lc] 80)).alloc (.cells #[AI 0] 31)) (w.heap.size+1) (.slice lo ln lc) 80):=by
  have:=(aN.new (w.alloc (.cells #[AI eps] 3)) (.slice lo ln lc) 80).gw ((Gw.refl _).alloc #[AI 0] 31)
  simp at this;exact this
 have E3:ag (aN (((w.alloc (.cells #[AI eps] 3)).alloc (.cells #[.slice lo ln lc] 80)).alloc (.cells #[AI 0] 31)) (w.heap.size+1+1) (AI 0) 31):=by
  have:=aN.new ((w.alloc (.cells #[AI eps] 3)).alloc (.cells #[.slice lo ln lc] 80)) (AI 0) 31
  simp at this;exact this
 have G3:ag (Gw w (((w.alloc (.cells #[AI eps] 3)).alloc (.cells #[.slice lo ln lc] 80)).alloc (.cells #[AI 0] 31))):=(((Gw.refl w).alloc _ _).alloc _ _).alloc _ _;have Z3:ag (w.heap.size+3<=(((w.alloc (.cells #[AI eps] 3)).alloc (.cells #[.slice lo ln lc] 80)).alloc (.cells #[AI 0] 31)).heap.size):=by show _<=_;simp
 generalize ((w.alloc (.cells #[AI eps] 3)).alloc (.cells #[.slice lo ln lc] 80)).alloc (.cells #[AI 0] 31)=w3 at P3 L3 E3 G3 Z3 ⊢;obtain ⟨bp,ku⟩:∃ bp,w.heap.size=bp:=⟨_,rfl⟩;obtain ⟨bl,bu⟩:∃ bl,bp+1=bl:=⟨_,rfl⟩;obtain ⟨be,oE⟩:∃ be,bl+1=be:=⟨_,rfl⟩;have BB:ag (w.heap.size=bp/\bp+1=bl/\bl+1=be):=⟨ku,bu,oE⟩;rw [ku,bu] at L3;rw [ku,bu,oE] at E3;rw [ku] at P3;rw [ku,bu,oE];have ne:¬ bl=be:=by omega
 clear ku bu oE;refine (NB.o _ (HK.o.gw G3.o)).mono ?_;rintro e w4 ⟨hb,g4⟩;have P4:ag (aN w4 bp (AI eps) 3):=P3.o.gw g4;have L4:ag (aN w4 bl (.slice lo ln lc) 80):=L3.o.gw g4;have E4:ag (aN w4 be (AI 0) 31):=E3.o.gw g4;have G4:ag _:=G3.o.trans g4;have Z4:ag _:=Nat.le_trans Z3.o g4.size;clear g4 P3 L3 E3 G3 Z3 NB;rcases hb with ⟨k0,rfl⟩ | ⟨k0,k1,rfl⟩ | ⟨k0,k1,rfl⟩
 ·have R:ag (ji eps f n L 1):=.inl ⟨k0,rfl⟩
  clear k0;go_wp2_with fail;refine leaves_cons (f:=125) (args:=#[BY be]) (by simp) (by simp [go_sem]) ?_
  refine (uH be _ 1 _ E4.o.cell E4.o.fz).mono ?_;rintro e u' wz ⟨rfl,rfl,rfl⟩;have d5:=(aN.set E4.o (AI 1)).cell;refine ⟨AI 1,by simp [results,results98,go_sem,d5],⟨1,rfl,R.o⟩,?_⟩
  exact (G4.o).setCell (by show w.heap.size<=be;have:=BB.o;omega) _
 ·have R:ag (ji eps f n L 80):=.inr (.inl ⟨k0,k1,rfl⟩)
  clear k0 k1;go_wp2_with fail;refine leaves_cons (f:=125) (args:=#[BY be]) (by simp) (by simp [go_sem]) ?_
  refine (uH be _ 80 _ E4.o.cell E4.o.fz).mono ?_;rintro e u' wz ⟨rfl,rfl,rfl⟩;have d5:=(aN.set E4.o (AI 80)).cell;refine ⟨AI 80,by simp [results,results98,go_sem,d5],⟨80,rfl,R.o⟩,?_⟩
  exact (G4.o).setCell (by show w.heap.size<=be;have:=BB.o;omega) _
 ·have KE:ag ((2<=eps/\eps<=64)/\Up f n):=⟨k0,k1⟩
  have cl:=L4.o.cell;have ll:=L4.o.lt;have VE:=P4.o.cell;have ym:=P4.o.lt;clear k0 k1;have JO:=MX.o w4.drew;have mO:w4.drew.cell? ⟨bl,0,none⟩=some (.slice lo ln lc):=cl;have hcq:w4.drew.cell? ⟨bp,0,none⟩=some (AI eps):=VE;have E5:ag _:=E4.o;have G5:ag _:=G4.o.drew;by_cases hi:(ln:Int)<=H
  rotate_left
  ·have R:ag (ji eps f n L 81):=.inr (.inr (.inl ⟨KE.o.1,KE.o.2,fun q=>hi (by have:=q.1;rw [LN.o,HH.o] at this;exact this),rfl⟩))
   have ti:decide ((ln:Int)<=H)=false:=by simpa using hi
   clear hi;go_wp2_with fail;refine wp_region_still_tail 5 (by kernel_rfl) (by kernel_rfl) ?_
   change wpStill _ _ (World.drew w4) (fun a'=>wpList _ _ _ _ a' (World.drew w4)) _ _
   simp only [List.take_succ_cons,List.take_zero,List.drop_succ_cons,List.drop_zero]
   still_step
   still_step
   still_step
   still_call JO
   still_step
   refine wpStill_nil ?_;go_wp2_with fail;refine (oz 81 _).mono ?_;rintro e w6 ⟨rfl,e6⟩;have E6:ag (aN w6 be (AI 0) 31):=by rw [e6];exact E4.o
   have G6:ag (Gw w w6):=by rw [e6];exact G4.o.drew
   clear e6;go_wp2_with fail;refine leaves_cons (f:=125) (args:=#[BY be]) (by simp) (by simp [go_sem]) ?_
   refine (uH be _ 81 _ E6.o.cell E6.o.fz).mono ?_;rintro e u' wz ⟨rfl,rfl,rfl⟩;have d5:=(aN.set E6.o (AI 81)).cell;refine ⟨AI 81,by simp [results,results98,go_sem,d5],⟨81,rfl,R.o⟩,?_⟩
   exact (G6.o).setCell (by show w.heap.size<=be;have:=BB.o;omega) _
  ·have ti:decide ((ln:Int)<=H)=true:=by simpa using hi
   have HI:ag _:=hi;clear hi;go_wp2_with fail;refine wp_region_still_tail 5 (by kernel_rfl) (by kernel_rfl) ?_
   change wpStill _ _ (World.drew w4) (fun a'=>wpList _ _ _ _ a' (World.drew w4)) _ _
   simp only [List.take_succ_cons,List.take_zero,List.drop_succ_cons,List.drop_zero]
   still_step
   still_step
   still_step
   still_call JO
   still_step
   refine wpStill_nil ?_;go_wp2_with fail;refine (kh 81 _).mono ?_;rintro e w6 ⟨rfl,e6⟩;have L6:ag (aN w6 bl (.slice lo ln lc) 80):=by rw [e6];exact L4.o
   have E6:ag (aN w6 be (AI 0) 31):=by rw [e6];exact E4.o
   have P6:ag (aN w6 bp (AI eps) 3):=by rw [e6];exact P4.o
   have G6:ag (Gw w w6):=by rw [e6];exact G4.o.drew
   have Z6:ag (w.heap.size+3<=w6.heap.size):=by rw [e6];exact Z4.o
   have cl6:=L6.o.cell;have ll6:=L6.o.lt;clear e6 JO mO hcq E5 G5 cl ll VE ym L4 E4 P4 G4 Z4 MX ti;go_wp2_with fail;obtain ⟨bb,nL⟩:∃ bb,(((ln:Int) == 0) == ((n:Int) == 0))=bb:=⟨_,rfl⟩;have HB:ag (bb=true↔(ln=0↔n=0)):=by
    show _↔_;rw [<-nL];by_cases x:ln=0
    ·by_cases y:n=0
     ·simp [x,y]
     ·simp [x,y]
    ·by_cases y:n=0
     ·simp [x,y]
     ·rw [show ((ln:Int) == 0)=false by simp;omega,show ((n:Int) == 0)=false by simp;omega];simp [x,y]
   generalize ((ln:Int) == 0)=bx at nL ⊢;generalize ((n:Int) == 0)=by_ at nL ⊢;rw [nL];clear nL;cases bb with
   | false =>
    have R:ag (ji eps f n L 81):=.inr (.inr (.inl ⟨KE.o.1,KE.o.2,fun q=>by have:=HB.o.2 (by have:=q.2;rw [LN.o] at this;exact this);simp at this,rfl⟩))
    refine (oz 81 _).mono ?_;rintro e w7 ⟨rfl,rfl⟩;go_wp2_with fail;refine leaves_cons (f:=125) (args:=#[BY be]) (by simp) (by simp [go_sem]) ?_
    refine (uH be _ 81 _ E6.o.cell E6.o.fz).mono ?_;rintro e u' wz ⟨rfl,rfl,rfl⟩;have d5:=(aN.set E6.o (AI 81)).cell;refine ⟨AI 81,by simp [results,results98,go_sem,d5],⟨81,rfl,R.o⟩,?_⟩
    exact (G6.o).setCell (by show w.heap.size<=be;have:=BB.o;omega) _
   | true =>
    have ZZ:ag _:=HB.o.1 rfl;obtain ⟨E,hE⟩:∃ E,lj eps f n L=E:=⟨_,rfl⟩;have RR:ag (ji eps f n L E):=.inr (.inr (.inr ⟨KE.o.1,KE.o.2,⟨by rw [LN.o,HH.o];exact HI.o,by rw [LN.o];exact ZZ.o⟩,hE.symm⟩))
    have HE:ag (E=sP eps L 0 f n):=by
     show E=_;unfold sP;by_cases x:0<L.length
     ·rw [if_pos x];exact hE.symm
     ·have:L=[]:=List.eq_nil_of_length_eq_zero (by omega)
      rw [if_neg x,if_pos rfl,<-hE,this];rfl
    clear hE HB;refine (kh 81 _).mono ?_;rintro e w7 ⟨rfl,rfl⟩;have C8:ag (CI w bp bl be w7.heap.size eps lo lc L (w7.alloc (.cells #[AI 0] 3)) 0):=⟨G6.o.alloc _ _,P6.o.gw ((Gw.refl _).alloc _ _),by rw [LN.o];exact L6.o.gw ((Gw.refl _).alloc _ _),E6.o.gw ((Gw.refl _).alloc _ _),aN.new w7 _ _⟩
    have Z8:ag _:=Z6.o;go_wp2_with fail;generalize w7.alloc (.cells #[AI 0] 3)=w8 at C8 ⊢;generalize w7.heap.size=bh at C8 Z8 ⊢;clear L6 E6 P6 G6 Z6 cl6 ll6;have VF:Vz w bp bl be bh eps lo lc L E (ln+1) w8 ao n cp f:=⟨0,C8.o,HK.o.gw C8.o.gw,KE.o.2,hn,dc,Nat.zero_le _,fun q=>by have:=ZZ.o;rw [LN.o] at q;omega,HE.o,by rw [LN.o];omega⟩
    have CB:=afd (BY bh) (BY bl) (BY bp) _ _ _ (afi MM.o w bp bl be bh eps lo lc L E HS.o HV.o (by have:=BB.o;have:=Z8.o;omega) (by have:=BB.o;have:=Z8.o;omega) (by have:=BB.o;have:=Z8.o;omega) (by have:=BB.o;have:=Z8.o;omega)) (ln+1) ao n cp f w8 VF
    have yM:ag (Calls prog 54 #[.slice ao n cp,.func (.func 127) #[] #[BY bh,BY bl,BY bp]] w8 fun e w'=>(e=.returned (.tuple #[])/\JM w bp bl be bh eps lo lc L E w')\/(∃ ch,e=.panicked ch/\Cm w be E ch w')):=CB
    clear VF CB;refine yM.o.mono ?_;clear yM MM;rintro e w9 (⟨rfl,hC,VH⟩ | ⟨ch,rfl,rfl,g9,b9⟩)
    ·have C9:ag (CI w bp bl be bh eps lo lc L w9 L.length):=hC
     have E9:ag _:=VH;rw [LN.o] at C9 E9;have cl9:=hC.lx.cell;have ll9:=hC.lx.lt;have ch9:=hC.hx.cell;have lh9:=hC.hx.lt;have ce9:=hC.er.cell;have fe9:=hC.er.fz;rw [LN.o] at cl9 ch9;clear hC VH;by_cases l0:ln=0
     ·have E0:E=0:=by rw [E9.o,if_pos l0]
      subst E0;have z0:((ln:Int) == 0)=true:=by simp;omega
      go_wp2_with fail;refine (kh 84 _).mono ?_
      rintro e qm ⟨rfl,rfl⟩;go_wp2_with fail;refine leaves_cons (f:=125) (args:=#[BY be]) (by simp) (by simp [go_sem]) ?_
      refine (Vu be _).mono ?_;rintro e u' wz ⟨rfl,rfl,rfl⟩;have d5:=(aN.set C9.o.er (AI 0)).cell;refine ⟨AI 0,by simp [results,results98,go_sem,d5],⟨0,rfl,RR.o⟩,?_⟩
      exact C9.o.gw.setCell (by show w.heap.size<=be;have:=BB.o;omega) _
     ·obtain ⟨lb,lf,rfl,eR,hc⟩:=(HV.o.gw C9.o.gw).cells (by rw [LN.o];omega)
      obtain ⟨so,sc,q1,_,_,_⟩:=hc (ln-1) (by rw [LN.o];omega)
      have sl:=HS.o.2 (ln-1) (by rw [LN.o];omega)
      have EE:=E9.o;rw [if_neg l0] at EE;clear hc;generalize (L.getD (ln-1) []).length=sn at q1 sl EE;have wi:IntKind.i64.wrap ((ln:Int)-1)=((ln-1:Nat):Int):=by rw [IntKind.wrap_i64];omega
      obtain ⟨i1,wJ⟩:∃ i1,ln-1=i1:=⟨_,rfl⟩;rw [wJ] at q1 wi;have lt1:i1<ln:=by omega
      have z0:((ln:Int) == 0)=false:=by simp;omega
      clear wJ;by_cases s1:sn=1
      ·have E0:E=0:=by rw [EE,if_pos s1]
       subst E0 s1;clear EE;go_wp2_with fail;refine (kh 84 _).mono ?_;rintro e qm ⟨rfl,rfl⟩;go_wp2_with fail;refine leaves_cons (f:=125) (args:=#[BY be]) (by simp) (by simp [go_sem]) ?_
       refine (Vu be _).mono ?_;rintro e u' wz ⟨rfl,rfl,rfl⟩;have d5:=(aN.set C9.o.er (AI 0)).cell;refine ⟨AI 0,by simp [results,results98,go_sem,d5],⟨0,rfl,RR.o⟩,?_⟩
       exact C9.o.gw.setCell (by show w.heap.size<=be;have:=BB.o;omega) _
      ·have E0:E=84:=by rw [EE,if_neg s1]
       subst E0;have z1:((sn:Int) == 1)=false:=by simp;omega
       clear EE;go_wp2_with fail;refine (oz 84 _).mono ?_;rintro e qm ⟨rfl,rfl⟩;go_wp2_with fail;refine leaves_cons (f:=125) (args:=#[BY be]) (by simp) (by simp [go_sem]) ?_
       refine (uH be _ 84 _ C9.o.er.cell C9.o.er.fz).mono ?_;rintro e u' wz ⟨rfl,rfl,rfl⟩;have d5:=(aN.set C9.o.er (AI 84)).cell;refine ⟨AI 84,by simp [results,results98,go_sem,d5],⟨84,rfl,RR.o⟩,?_⟩
       exact (C9.o.gw).setCell (by show w.heap.size<=be;have:=BB.o;omega) _
    ·have G9:ag (Gw w w9):=g9
     have B9:ag (aN w9 be (AI 0) 31):=b9;clear g9 b9;go_wp2_with fail;refine leaves_cons (f:=125) (args:=#[BY be]) (by simp) (by simp [go_sem]) ?_
     refine (uH be _ E _ B9.o.cell B9.o.fz).mono ?_;rintro e u' wz ⟨rfl,rfl,rfl⟩;have d5:=(aN.set B9.o (AI E)).cell;refine ⟨AI E,by simp [results,results98,go_sem,d5],⟨E,rfl,RR.o⟩,?_⟩
     exact (G9.o).setCell (by show w.heap.size<=be;have:=BB.o;omega) _
theorem afk:DT:=afg aep JC
theorem afl {P:Program} (w:World) {ops:Array Oper} {o:Oper} {a:Act} {K:Act->World->Prop} {Q:Exit->Act->World->Prop} {E:Prop} (kT:o.guard=none) (s x:Operand) (t:TypeId)
  (ho:o.op=.call { callee:=.builtin .append,args:=#[s,x],argTypes:=#[t,t] })
  (base:Nat) (e:TypeId) (i:TypeInfo) (z:Value) (size bytes:Nat) (ht:P.underlying t=some (.slice e)) (hi:P.info? e=some i) (hz:i.zero=some z)
  (qz:i.size=size) (aR:i.bytes=bytes) (qA:z.cells.size=size) (cU:0<size)
  (v:Value) (n:Nat) (xs:List Value) (hs:a.eval s=v) (iM:w.ownsRow base e size v n xs)
  (ad:Addr) (m c:Nat) (news:List Value) (hx:a.eval x=.slice (some ad) m c) (hl:news.length=m*size) (kU:∀ j u,news[j]?=some u->w.cell? (ad.add j)=some u) (h1:∀ u∈news,u.oneCell'=true)
  (qB:n+m<=maxLen) (qC:(n+m)*bytes<=140737488355328) (qD:base<=w.heap.size)
  (h:∀ v' w',w'.ownsRow base e size v' (n+m) (xs++news)->w.grownBy w' v.ownBlock->(v'=.slice none 0 0↔v=.slice none 0 0/\m=0)->(v'.ownBlock=v.ownBlock\/v'.ownBlock=some w.heap.size)->K (a.put o.dst v') w') :
  if Region.wanted o (yielded ops a.tmps)=true then Oper.wp P o a w K Q else E:=by
 have hw:Region.wanted o (yielded ops a.tmps)=true:=by simp [Region.wanted,kT]
 rw [if_pos hw];obtain ⟨v',w',hr,h2,h3,h4,h5⟩:=run_append_own_at (P:=P) w base t o.type e i z size bytes ht hi hz qz aR qA cU v n xs iM ad m c news hl kU h1 qB qC qD;unfold Oper.wp execOp;simp only [ho,resolve,invoke,builtin,Sem.run_bind,Sem.run_pure,Result.andThen_ok,List.map_toArray,List.map_cons,List.map_nil,hs,hx,hr];exact h v' w' h2 h3 h4 h5
theorem afm {x y z:Value} (h:w.heap[b]?=some (.cells #[x,y,z] t (0,0))) (u:Value):(w.setCell ⟨b,2,none⟩ u).heap[b]?=some (.cells #[x,y,u] t (0,0)):=by simp [World.setCell,Array.getElem?_modify,h]
theorem afn {ao:Option Addr} {cp:Nat} (h:KS w ao n f) (hn:n<=2000000) :
  Calls prog 99 #[.slice ao n cp] w fun e w'=>(∃ bo c,e=.returned (.slice bo n c)/\KS w' bo n f/\n<=c/\∀ a,bo=some a->w.heap.size<=a.block)/\Gw w w':=by
 cases ao with
 | none =>
  have n0:n=0:=by
   rcases Nat.eq_zero_or_pos n with e | e
   ·exact e
   ·obtain ⟨b,off,e',_⟩:=h.cells e;cases e'
  subst n0;have HK:ag _:=h;clear h;have hq:∀ W:World,(binOp .eql 83 (.slice none 0 cp) (.slice none 0 0)).run prog W=.ok (.bool true) W:=fun _=>by kernel_rfl
  go_enter func99,ntmps99;go_wp2_with fail;go_ret;exact ⟨⟨none,0,rfl,HK.o,Nat.le_refl _,fun a e=>by cases e⟩,Gw.refl w⟩
 | some ad =>
  have OW:ag (∀ x,(some ad:Option Addr)=some x->∀ j u,((List.range n).map fun j=>Value.int .u64 (f j))[j]?=some u->(w.alloc (.cells #[] 42)).cell? (x.add j)=some u):=by
   intro x e j u hu;cases e;have hj:j<n:=by
    have:=(List.getElem?_eq_some_iff.1 hu).1
    simpa using this
   obtain ⟨b,off,e',hb,hc⟩:=h.cells (by omega)
   cases e'
   rw [Addr.add_lit];refine (((Gw.refl w).alloc _ _).cell _ _ hb).trans ((hc j hj).trans ?_);simpa [hj] using hu
  have O0:ag ((w.alloc (.cells #[] 42)).ownsRow w.heap.size 42 1 (.slice (some ⟨w.heap.size,0,none⟩) 0 0) 0 []):=World.ownsRow_made w #[] 0 (Nat.le_refl _) (Nat.zero_le _) rfl;obtain ⟨ii,aQ,hz,hs,aR⟩:=info_parts qv;have BD:ag _:=h.bd;have NL:ag (((List.range n).map fun j=>Value.int .u64 (f j)).length=n*1):=by show _=_;simp
  have N1:ag (∀ u∈((List.range n).map fun j=>Value.int .u64 (f j)),u.oneCell'=true):=by
   intro u hu;obtain ⟨j,_,rfl⟩:=List.mem_map.1 hu;rfl
  clear h;have hq:∀ W:World,(binOp .eql 83 (.slice (some ad) n cp) (.slice none 0 0)).run prog W=.ok (.bool false) W:=fun _=>by kernel_rfl
  go_enter func99,ntmps99;go_wp2_with (at_builtin;refine uL _ rfl _ _ 83 rfl w.heap.size 42 ii (By 0) 1 8 underlying83 aQ hz hs aR rfl (by decide) _ 0 [] rfl O0.o (some ad) n cp ((List.range n).map fun j=>Value.int .u64 (f j)) rfl (fun q=>by cases q) NL.o OW.o N1.o (by simp only [maxLen];omega) (by omega) (by simp) ?_)
  intro v' w7 q1 q2 q3;have G7:ag (Gw w w7):=((Gw.refl w).alloc _ _).grown q2 (fun k hk=>by cases hk;exact Nat.le_refl _)
  have FM:∃ bo c,v'=.slice bo n c/\KS w7 bo n f/\n<=c/\∀ a,bo=some a->w.heap.size<=a.block:=by
   have iY:w7.ownsRow w.heap.size 42 1 v' n ((List.range n).map fun j=>Value.int .u64 (f j)):=by simpa using q1
   rcases iY.2 with ⟨e,z⟩ | ⟨g,cap,cur,e,hb,hh,hc,_⟩
   ·subst z
    exact ⟨none,0,e,⟨fun h0=>by omega,BD.o⟩,Nat.le_refl _,fun a q=>by cases q⟩
   ·subst e
    exact ⟨some ⟨g,0,none⟩,cap,rfl,yU iY (Nat.le_refl _) (fun j hj=>by simp [hj]) BD.o,hc,fun a q=>by cases q;exact hb⟩
  obtain ⟨bo,c,rfl,r1,r2,r3⟩:=FM;have ak:ag (KS w7 bo n f/\n<=c/\∀ a,bo=some a->w.heap.size<=a.block):=⟨r1,r2,r3⟩;clear q1 q2 q3 aQ hz hs aR r1 r2 r3;go_wp2_with fail;go_ret;exact ⟨⟨bo,c,rfl,ak.o⟩,G7.o⟩
theorem afo {ao:Option Addr} {cp:Nat} {l:List Sg} (h:GS w ao l) (hn:l.length<=2000000) :
  Calls prog 100 #[.slice ao l.length cp] w fun e w'=>(∃ bo c,e=.returned (.slice bo l.length c)/\SR w' w.heap.size (.slice bo l.length c) l)/\Gw w w':=by
 cases ao with
 | none =>
  have n0:l.length=0:=by
   rcases Nat.eq_zero_or_pos l.length with e | e
   ·exact e
   ·obtain ⟨b,off,e',_⟩:=h.cells e;cases e'
  have l0:l=[]:=List.eq_nil_of_length_eq_zero n0;subst l0;clear h n0;show Calls _ _ #[.slice none 0 cp] _ _;have hq:∀ W:World,(binOp .eql 122 (.slice none 0 cp) (.slice none 0 0)).run prog W=.ok (.bool true) W:=fun _=>by kernel_rfl
  go_enter func100,ntmps100;go_wp2_with fail;go_ret;exact ⟨⟨none,0,rfl,World.ownsRow_nil _ _ _ _⟩,Gw.refl w⟩
 | some ad =>
  have OW:ag (∀ x,(some ad:Option Addr)=some x->∀ j u,(l.flatMap da)[j]?=some u->(w.alloc (.cells #[] 145)).cell? (x.add j)=some u):=by
   intro x e j u hu;cases e;have hj:j<l.length*5:=by
    have:=(List.getElem?_eq_some_iff.1 hu).1
    rw [zI] at this;exact this
   obtain ⟨b,off,e',hb,hc⟩:=aae h (by omega)
   cases e'
   rw [Addr.add_lit];refine (((Gw.refl w).alloc _ _).cell _ _ hb).trans ((hc j hj).trans ?_);rw [<-DP l j hj];exact hu
  have O0:ag ((w.alloc (.cells #[] 145)).ownsRow w.heap.size 145 5 (.slice (some ⟨w.heap.size,0,none⟩) 0 0) 0 []):=World.ownsRow_made w #[] 0 (Nat.le_refl _) (Nat.zero_le _) rfl;obtain ⟨ii,aQ,hz,hs,aR⟩:=info_parts DH;have NL:ag _:=zI l;have N1:ag (∀ u∈l.flatMap da,u.oneCell'=true):=by
   intro u hu;obtain ⟨s,-,hs⟩:=List.mem_flatMap.1 hu;exact Me s u hs
  clear h;obtain ⟨n,au⟩:∃ n,l.length=n:=⟨_,rfl⟩;have LN:ag _:=au;rw [au] at hn NL ⊢;clear au;have hq:∀ W:World,(binOp .eql 122 (.slice (some ad) n cp) (.slice none 0 0)).run prog W=.ok (.bool false) W:=fun _=>by kernel_rfl
  go_enter func100,ntmps100;go_wp2_with (at_builtin;refine uL _ rfl _ _ 122 rfl w.heap.size 145 ii (.agg #[By 0,.float .f64 0,.float .f64 0,AI 0,AI 0]) 5 40 underlying122 aQ hz hs aR rfl (by decide) _ 0 [] rfl O0.o (some ad) n cp (l.flatMap da) rfl (fun q=>by cases q) NL.o OW.o N1.o (by simp only [maxLen];omega) (by omega) (by simp) ?_)
  intro v' w7 q1 q2 q3;have G7:ag (Gw w w7):=((Gw.refl w).alloc _ _).grown q2 (fun k hk=>by cases hk;exact Nat.le_refl _)
  have FM:∃ bo c,v'=.slice bo n c/\SR w7 w.heap.size (.slice bo n c) l:=by
   have iY:w7.ownsRow w.heap.size 145 5 v' n (l.flatMap da):=by simpa using q1
   have nB:SR w7 w.heap.size v' l:=by show World.ownsRow _ _ _ _ _ _ _;rw [LN.o];exact iY
   rcases iY.2 with ⟨e,z⟩ | ⟨g,cap,cur,e,hb,hh,hc,_⟩
   ·subst z
    exact ⟨none,0,e,by rw [<-e];exact nB⟩
   ·subst e
    exact ⟨some ⟨g,0,none⟩,cap,rfl,nB⟩
  obtain ⟨bo,c,rfl,r1⟩:=FM;have ak:ag _:=r1;clear q1 q2 q3 aQ hz hs aR r1;go_wp2_with fail;go_ret;exact ⟨⟨bo,c,rfl,ak.o⟩,G7.o⟩
theorem of9 (M:gQ) (eps:Int) (ao:Option Addr) (n cp:Nat) (f:Nat->Int) (lo:Option Addr) (lc:Nat) (L:List (List Sg)) (e0:-9223372036854775808<=eps) (e1:eps<9223372036854775808) (hn:n<=2000000) (dc:n<=cp) (hS:mq L) (cL:L.length<=lc) (w:World) (hk:KS w ao n f) (hv:VS w lo L) :
  Calls prog 57 #[.slice ao n cp,AI eps,.slice lo L.length lc] w fun ex w'=>Nb eQ w w' ex eps f n L/\Gw w w':=by
 have CK:ag _:=afj M eps ao n cp f lo lc L e0 e1 hn dc hS w hk hv;have HK:ag _:=hk;have HV:ag _:=hv;have SH:ag _:=hS;obtain ⟨ln,au⟩:∃ ln,L.length=ln:=⟨_,rfl⟩;have LN:ag _:=au;have Sx:ln<=2000000:=by have:=hS.1;omega
 rw [au] at CK cL ⊢;clear hk hv hS au M;go_enter func57,ntmps57;go_wp2_with fail;refine Calls.mono CK.o ?_;rintro e w1 ⟨⟨E,rfl,hR⟩,g1⟩;have CR:ag _:=hR;have G1:ag _:=g1;clear hR g1 CK;by_cases E0:E=0
 ·subst E0
  have K1:ag _:=HK.o.gw G1.o;go_wp2_with fail;refine (afn K1.o hn).mono ?_;rintro e w2 ⟨⟨ko,kc,rfl,Du,dY,jk⟩,g2⟩;have K2:ag (KS w2 ko n f/\n<=kc/\∀ a,ko=some a->w1.heap.size<=a.block):=⟨Du,dY,jk⟩;have G2:ag _:=g2;clear Du dY jk g2 K1;go_wp2_with fail;have B3:ag ((w2.alloc (.cells #[AI eps,.slice ko n kc,.slice none 0 0] 169)).heap[w2.heap.size]?=some (.cells #[AI eps,.slice ko n kc,.slice none 0 0] 169 (0,0))):=heap_alloc_new w2 _;have G3:ag (Gw w2 (w2.alloc (.cells #[AI eps,.slice ko n kc,.slice none 0 0] 169))):=(Gw.refl w2).alloc _ _;have z3:(w2.alloc (.cells #[AI eps,.slice ko n kc,.slice none 0 0] 169)).heap.size=w2.heap.size+1:=by simp
  obtain ⟨pb,lP⟩:∃ pb,w2.heap.size=pb:=⟨_,rfl⟩;have PB:ag _:=lP;have Z3:ag ((w2.alloc (.cells #[AI eps,.slice ko n kc,.slice none 0 0] 169)).heap.size=pb+1):=by rw [<-lP];exact z3
  rw [lP] at B3 ⊢;clear lP z3;generalize w2.alloc (.cells #[AI eps,.slice ko n kc,.slice none 0 0] 169)=w3 at B3 G3 Z3 ⊢;obtain ⟨jj,mF,jz,js,mG⟩:=info_parts DI;have WP:ag (w.heap.size<=pb):=by have:=G1.o.size;have:=G2.o.size;have:=PB.o;show _<=_;omega
  go_loopg [26] ln (fun gg yr wr=>∃ (i:Nat) (vo:Option Addr) (vc:Nat) (az:List Value),yr=AI (i:Int)/\i<=ln/\ln-i<=gg/\ag (wr.heap[pb]?=some (.cells #[AI eps,.slice ko n kc,.slice vo i vc] 169 (0,0)))/\ag (dQ wr (pb+1) (.slice vo i vc) (L.take i) az)/\ag (Gw w2 wr))
  case atStart=>exact ⟨0,none,0,[],rfl,Nat.zero_le _,by omega,B3,(show ag _ from Cl _ _),G3⟩
  case round =>
   clear B3 G3;obtain ⟨i,vo,vc,az,rfl,a1,a2,BK,OV,GG⟩:=hrel;obtain ⟨wS,bj⟩:∃ wx,wx=wr:=⟨_,rfl⟩;subst bj;by_cases ar:i<ln
   ·obtain ⟨ab,af,rfl,cT,jX⟩:=(((HV.o.gw G1.o).gw G2.o).gw GG.o).cells (by rw [LN.o];omega)
    obtain ⟨so,sc,p1,_,_,p4⟩:=jX i (by rw [LN.o];exact ar)
    obtain ⟨lv,qj⟩:∃ lv,L.getD i []=lv:=⟨_,rfl⟩;have LV:ag _:=qj;have TK:ag (L.take (i+1)=L.take i++[lv]):=by have:=aaj (L:=L) (i:=i) (by rw [LN.o];exact ar);rw [qj] at this;exact this
    have TL:ag ((L.take i).length=i):=by show _=_;rw [List.length_take,LN.o];omega
    rw [qj] at p1 p4;have sn1:lv.length<=2000000:=by have:=SH.o.2 i (by rw [LN.o];exact ar);rw [qj] at this;exact this
    have GSR:ag _:=p4;have CG:ag (∀ W,Gw wS W->Calls prog 100 #[.slice so lv.length sc] W fun e w'=>(∃ bo c,e=.returned (.slice bo lv.length c)/\SR w' W.heap.size (.slice bo lv.length c) lv)/\Gw W w'):=fun W gW=>afo (p4.gw gW) sn1
    obtain ⟨sn,mB⟩:∃ sn,lv.length=sn:=⟨_,rfl⟩;have SN:ag _:=mB;rw [mB] at p1 CG;have bl:=(Array.getElem?_eq_some_iff.1 BK.o).1;have OW:ag (∀ W,Gw wS W->∀ o,(W.alloc o).ownsRow (pb+1) 122 1 (.slice vo i vc) i az):=fun W gW o=>by
     have:=(OV.o.gw gW).outer
     rw [TL.o] at this;exact this.alloc o
    have aL:ag (∀ (W:World) (bo:Option Addr) (c:Nat) (v':Value) (w7:World),Gw wS W->SR W wS.heap.size (.slice bo sn c) lv->w7.ownsRow (pb+1) 122 1 v' (i+1) (az++[.slice bo sn c])->(W.alloc (.cells #[.slice bo sn c] 122)).grownBy w7 (Value.slice vo i vc).ownBlock->(v'.ownBlock=(Value.slice vo i vc).ownBlock\/v'.ownBlock=some (W.heap.size+1))->w7.heap[pb]?=some (.cells #[AI eps,.slice ko n kc,.slice vo i vc] 169 (0,0))/\(w7.setCell ⟨pb,2,none⟩ v').heap[pb]?=some (.cells #[AI eps,.slice ko n kc,v'] 169 (0,0))/\dQ (w7.setCell ⟨pb,2,none⟩ v') (pb+1) v' (L.take (i+1)) (az++[.slice bo sn c])/\Gw w2 (w7.setCell ⟨pb,2,none⟩ v')):=fun W bo c v' w7 gW hs r1 r2 r4=>by
     have ow:∀ q,(Value.slice vo i vc).ownBlock=some q->pb+1<=q:=fun q e=>((OW.o W gW (.cells #[] 0)).lt q e).1
     have B7:w7.heap[pb]?=some (.cells #[AI eps,.slice ko n kc,.slice vo i vc] 169 (0,0)):=(r2.block pb (by have:=gW.size;simp;omega) (fun e=>by have:=ow pb e.symm;omega)).trans ((heap_alloc_old _ _ (Nat.lt_of_lt_of_le bl gW.size)).trans ((gW.below.block pb bl).trans BK.o))
     refine ⟨B7,afm B7 v',?_,?_⟩
     ·rw [TK.o]
      have:=dQ.more (o:=.cells #[.slice bo sn c] 122) OV.o gW hs (by omega) (by rw [TL.o];exact r1) r2 r4
      exact this.keep fun q hq _=>Go.Deep.blk_setCell_other _ _ _ _ (by show q≠pb;omega)
     ·refine Gw.setCell (((GG.o.trans gW).alloc _ _).grown r2 (fun q hq=>?_)) (by show w2.heap.size<=pb;rw [PB.o];exact Nat.le_refl _) _
      have:=ow q hq
      rw [PB.o];omega
    have k2:wS.drew.cell? ⟨pb,2,none⟩=some (.slice vo i vc):=(qU BK.o).2.2;clear jX qj mB p4;go_wp2_with fail;go_region_law (first
     | (go_simp;refine (CG.o _ ((Gw.refl wS).drew)).mono ?_;rintro e w4 ⟨⟨bo,c,rfl,VJ⟩,g4⟩;have S4:ag (SR w4 wS.heap.size (.slice bo sn c) lv):=VJ;have G4:ag (Gw wS w4):=((Gw.refl wS).drew.trans g4);have k4:w4.cell? ⟨pb,2,none⟩=some (.slice vo i vc):=(g4.cell _ _ bl).trans k2;have l4:pb<w4.heap.size:=Nat.lt_of_lt_of_le bl g4.size;clear VJ g4)
     | (refine afl _ rfl (.tmp 34) (.tmp 37) 80 rfl (pb+1) 122 jj (.slice none 0 0) 1 24 underlying80 mF jz js mG rfl (by decide) (.slice vo i vc) i az (by simp [Act.eval]) (OW.o w4 G4.o _) ⟨w4.heap.size,0,none⟩ 1 1 [.slice bo sn c] (by simp [Act.eval]) rfl (D9 w4 (.slice bo sn c) 122) (fun u hu=>by simp at hu;subst hu;rfl) (by simp only [maxLen];omega) (by omega) (Nat.le_trans (show pb+1<=w4.heap.size by omega) ((Gw.refl w4).alloc _ _).size) ?_;intro v' w7 r1 r2 r3 r4;obtain ⟨b8,cap8,ev,_,_,_⟩:=dh r1 (by simpa using r3);obtain ⟨B7,Q7⟩:=aL.o w4 bo c v' w7 G4.o S4.o r1 r2 (by simpa using r4);have k7:=(qU B7).2.2;have f7:w7.frozen? ⟨pb,2,none⟩=false:=(by simp [World.frozen?,B7]);have l7:pb<w7.heap.size:=(Array.getElem?_eq_some_iff.1 B7).1;have Q8:ag _:=Q7;clear B7 Q7 r1 r2 r3 r4;subst ev))
    all_goals go_wp2_with fail
    all_goals go_roundg (ln-(i+1))
    all_goals first
     | (case measure=>omega)
     | (case rel=>exact ⟨i+1,some ⟨b8,0,none⟩,cap8,az++[Value.slice bo sn c],by go_num,by omega,Nat.le_refl _,(show ag _ from Q8.o.1),(show ag _ from Q8.o.2.1),(show ag _ from Q8.o.2.2)⟩)
   ·have ei:i=ln:=by omega
    subst ei;have e1:L.take i=L:=by rw [List.take_of_length_le (by rw [LN.o];exact Nat.le_refl _)]
    have VK:dQ wS w.heap.size (.slice vo L.length vc) L az:=by
     have:=OV.o
     rw [e1] at this;rw [LN.o];exact this.base (by have:=WP.o;omega)
    have GA:ag _:=(G1.o.trans G2.o).trans GG.o;have VL:gT wS w.heap.size vo L:=VK.vsf (aak HV.o);have BH:ag (eQ wS pb (fun q=>w.heap.size<=q/\q<wS.heap.size) eps f n L):=by
     refine ⟨⟨wS,w.heap.size,ko,kc,vo,vc,fun q=>Iff.rfl,Nat.le_refl _,fun q _ _=>rfl,by rw [LN.o];exact BK.o,WP.o,K2.o.1.gw GG.o,fun a ea=>Nat.le_trans G1.o.size (K2.o.2.2 a ea),VL⟩,hn,SH.o⟩
    clear VK VL e1;go_wp2_with fail;go_ret2;exact ⟨⟨0,CR.o,.inr ⟨rfl,pb,_,rfl,fun q hq=>hq.1,BH.o⟩⟩,GA.o⟩
 ·have t0:(E == 0)=false:=by simpa using E0
  have HE:ag _:=E0;clear E0;go_wp2_with fail;go_ret2;exact ⟨⟨E,CR.o,.inl ⟨HE.o,rfl⟩⟩,G1.o⟩
end Go.Proofs.YtcboobmfnmgldaaGreat
