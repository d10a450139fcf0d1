/- Package levels: cover. -/
import Derived.StillTailTactics
import Derived.Test.YtklkpldicbkjeaaGreatVVBuild
import Derived.Test.YtklkpldicbkjeaaGreatVPXc
import Derived.Test.YtklkpldicbkjeaaGreatVXClimb
set_option linter.unusedVariables false
set_option maxHeartbeats 4000000
set_option maxRecDepth 10000
open Go.Proofs.Tryz
namespace Go.Proofs.YtklkpldicbkjeaaGreat
open Go.RowKit
attribute [local go_sem] fZ
abbrev se:Array Value:=#[.int .u64 0,.float .f64 0,.float .f64 0,.int .i64 0,.int .i64 0]
theorem aeS:∀ n:Nat,(List.range (n*5)).map (fun i=>se[i%5]!)=(List.replicate n az).flatMap cI:=by
 intro n;induction n with
 | zero=>rfl
 | succ n ih =>
  have e:(n+1)*5=n*5+5:=by omega
  have e2:∀ i,(n*5+i)%5=i%5:=fun i=>by omega
  rw [e,List.range_add,List.map_append,ih,List.map_map,List.replicate_succ',Lq];congr 1;show (List.range 5).map (fun i=>se[(n*5+i)%5]!)=cI az
  simp only [e2];rfl
theorem aeT (w:World) (base n:Nat) (hb:base<=w.heap.size) (hn:n<=4000000):SR (w.alloc (.cells (madeCells se (n*5)) 129)) base (.slice (some ⟨w.heap.size,0,none⟩) n n) (List.replicate n az):=by
 show World.ownsRow _ _ _ _ _ _ _;rw [List.length_replicate];refine ⟨by rw [sY,List.length_replicate],.inr ⟨w.heap.size,n,madeCells se (n*5),rfl,hb,heap_alloc_new w _,Nat.le_refl _,by unfold maxLen;omega,size_madeCells _ _,?_⟩⟩
 rw [<-aeS,List.take_of_length_le (by simp [madeCells])]
 simp [madeCells]
theorem aeU {l:List Sg} {k m:Nat} (hl:l.length=k) (s:Sg) (hk:k<m):(l++List.replicate (m-k) az).set k s=(l++[s])++List.replicate (m-(k+1)) az:=by
 rw [show m-k=(m-(k+1))+1 by omega,List.replicate_succ,List.set_append_right _ _ (by omega),hl,Nat.sub_self,List.append_assoc]
 rfl
theorem aeV (C:ur) (M:gh) (eps:Int) (k2:2<=eps) (k3:eps<=64) (bo:Option Addr) (m c:Nat) (g:Nat->Int) (m0:0<m) (m1:m<=2000000) (mc:m<=c) (u:Up g m) (w:World) (k:KS w bo m g) :
  Calls prog 83 #[.slice bo m c,.int .i64 eps] w fun e w'=>(∃ (b:Nat) (lv:List Sg),e=.returned (.slice (some ⟨b,0,none⟩) lv.length lv.length)/\cH eps g m 0 lv/\SR w' w.heap.size (.slice (some ⟨b,0,none⟩) lv.length lv.length) lv/\(∀ j,j<lv.length->(lv.getD j az).ok))/\Gw w w':=by
 have HK:ag _:=k;have UP:ag _:=u;have KE:ag (2<=eps/\eps<=64):=⟨k2,k3⟩;have CE:ag (∀ W,KS W bo m g->_):=fun W h=>C.ends eps bo m c g (by omega) (by omega) m1 mc W h
 have MO:ag _:=fun (fr:Nat) (hfr:fr<=m) (ao:Option Addr) (n cp:Nat) (f:Nat->Int) (hn:n<=2000000) (cZ:n<=cp) (W:World) (h:KS W ao n f)=>M.of eps (fr:Int) ao n cp f (by omega) (by omega) (by omega) (by omega) hn cZ W h
 clear k u C M;obtain ⟨bk,off,rfl,iD,cQ⟩:=HK.o.cells m0;clear cQ iD;go_enter func83,ntmps83;go_wp2_with fail;refine (CE.o _ HK.o).mono ?_;rintro e w1 ⟨⟨v1,es,err,rfl,hE,hI⟩,g1⟩;obtain ⟨EA,rfl⟩:cT (eps-1) g m 0 es/\err=0:=by
  rcases hE with ⟨q,_⟩ | ⟨_,q,_⟩ | ⟨_,_,q,q'⟩
  ·exact absurd KE.o q
  ·exact absurd UP.o q
  ·exact ⟨q,q'⟩
 have ED:ag _:=EA;have zs:=EA.len;obtain ⟨eo,ec,rfl,vw,vx⟩:=Md hI;have pe:0<es.length:=List.length_pos_iff.2 (EA.nonempty m0);cases eo with
 | none=>have:=(vw rfl).1;rw [this] at pe;simp at pe
 | some ea =>
  obtain ⟨eb,rfl,_,jF,kZ⟩:=vx ea rfl;have EC:ag (∀ W,Gw w1 W->∀ i,i<es.length->W.cell? ⟨eb,i,none⟩=some (.int .i64 ((es.getD i 0:Nat):Int))/\eb<W.heap.size):=fun W gW i hi=>⟨(gW.cell _ _ jF).trans (kZ i hi),Nat.lt_of_lt_of_le jF gW.size⟩
  have G1:ag _:=g1;clear hE EA hI vw vx kZ g1 CE;obtain ⟨en,my⟩:∃ en,es.length=en:=⟨_,rfl⟩;have EN:ag _:=my;rw [my] at zs pe ⊢;clear my jF;obtain ⟨e9,rfl⟩:∃ e9,en=e9+1:=⟨en-1,by omega⟩
  have tB:=Zy e9 (by omega)
  have S4:ag _:=aeT w1 w.heap.size (e9+1) G1.o.size (by omega)
  have G4:ag (Gw w (w1.alloc (.cells (madeCells se ((e9+1)*5)) 129))):=G1.o.alloc _ _;have H4:ag (Gw w1 (w1.alloc (.cells (madeCells se ((e9+1)*5)) 129))):=(Gw.refl w1).alloc _ _;have B4:ag _:=G1.o.size;have B5:ag (w1.heap.size<=w1.heap.size):=Nat.le_refl _;go_wp2_with fail;refine (jX 0 _).mono ?_;rintro e w2 ⟨rfl,rfl⟩;go_wp2_with fail;generalize w2.alloc (.cells (madeCells se ((e9+1)*5)) 129)=w4 at S4 G4 H4 ⊢;obtain ⟨lb,fs⟩:∃ lb,w2.heap.size=lb:=⟨_,rfl⟩;have B6:ag (w2.heap.size<=lb):=by rw [<-fs];exact Nat.le_refl _
  have B7:ag (w.heap.size<=lb):=by rw [<-fs];exact B4.o
  rw [fs] at S4 ⊢;clear fs B4 B5 G1 tB;obtain ⟨en,my⟩:∃ en,e9+1=en:=⟨_,rfl⟩;have VL:(e9:Int)+1=(en:Int):=by omega
  rw [my] at S4 EN zs pe ⊢;rw [VL];clear my VL;go_loopg [6,8,26] en (fun gg s6 s8 xO wr=>∃ (i fr:Nat) (lv:List Sg),s6=.int .i64 0/\s8=.int .i64 fr/\xO=.int .i64 i/\i<=en/\en-i<=gg/\ag (lv.length=i)/\ag (fr=kP 0 es i)/\ag (SR wr w.heap.size (.slice (some ⟨lb,0,none⟩) en en) (lv++List.replicate (en-i) az))/\ag (∀ j,j<lv.length->(lv.getD j az).ok)/\ag (∀ l',cH eps g m fr l'->cH eps g m 0 (lv++l'))/\ag (Gw w wr)/\ag (Gw w2 wr))
  case atStart=>exact ⟨0,0,[],rfl,rfl,rfl,Nat.zero_le _,by omega,(show ag _ from rfl),(show ag _ from rfl),S4,(show ag _ from fun j hj=>by simp at hj),(show ag _ from fun l' h=>h),G4,H4⟩
  case round =>
   clear S4 G4 H4;obtain ⟨i,fr,lv,rfl,rfl,rfl,j1,j2,LI,FR,k6,pg,dW,lj,qQ⟩:=hrel;have XL:(lv++List.replicate (en-i) az).length=en:=by rw [List.length_append,LI.o,List.length_replicate];omega
   by_cases dJ:i<en
   ·have ST:=ED.o.step i (by rw [EN.o];exact dJ)
    rw [<-FR.o] at ST;obtain ⟨vz,Dl⟩:=EC.o _ qQ.o i (by rw [EN.o];exact dJ)
    obtain ⟨ei,qR⟩:∃ ei,es.getD i 0=ei:=⟨_,rfl⟩;rw [qR] at ST vz;obtain ⟨s1,s2,s3,s4,_⟩:=ST;have FN:ag _:=qR;clear qR;have tc:ei<=c:=by omega
    have cf:¬ c=fr:=by omega
    have fc:¬ fr=c:=by omega
    have i1:(0:Int)<=(fr:Int):=by omega
    have i2:(fr:Int)<=(ei:Int):=by omega
    have i3:(ei:Int)<=(c:Int):=by omega
    have fe:fr<=ei:=by omega
    go_wp2_with fail;refine (MO.o fr (by omega) _ (ei-fr) (c-fr) (sh g fr) (by omega) (by omega) _ (CU (HK.o.gw lj.o) s2)).mono ?_
    rintro ex w5 ⟨⟨k5,bM,bN,F5,T5,er5,rfl,nR⟩,g5⟩;obtain rfl:=MF nR KE.o (by omega) (oJ UP.o s2) s3 (by omega) (by omega)
    have vA:∀ t,t<ei-fr->0<=sh g fr t/\sh g fr t<18446744073709551616:=fun t ht=>HK.o.bd (fr+t) (by omega)
    have SA:ag _:=nR;have SO:ag _:=nR.ok (by omega) vA
    have zu:ag (Gw w w5):=lj.o.trans g5;have vB:ag (Gw w2 w5):=qQ.o.trans g5;have ye:ag (SR w5 w.heap.size (.slice (some ⟨lb,0,none⟩) (lv++List.replicate (en-i) az).length en) (lv++List.replicate (en-i) az)):=by rw [XL];exact yZ k6.o g5
    have cc:∀ r,r<5->w5.cell? ⟨lb,i*5+r,none⟩=some (mj (lv++List.replicate (en-i) az) (i*5+r)):=fun r hr=>by
     have h':w5.ownsRow w.heap.size 129 5 (.slice (some ⟨lb,0,none⟩) (lv++List.replicate (en-i) az).length en) (lv++List.replicate (en-i) az).length ((lv++List.replicate (en-i) az).flatMap cI):=ye.o;rw [h'.cellAt _ (by omega)]
     exact CX _ _ (by omega)
    have fz:∀ r,w5.frozen? ⟨lb,r,none⟩=false:=fun r=>World.ownsRow.frozenAt ye.o r
    have x0:=cc 0 (by decide)
    have x1:=cc 1 (by decide)
    have x2:=cc 2 (by decide)
    have x3:=cc 3 (by decide)
    have x4:=cc 4 (by decide)
    rw [Nat.add_zero] at x0;have y0:=fz (i*5);have y1:=fz (i*5+1);have y2:=fz (i*5+2);have y3:=fz (i*5+3);have y4:=fz (i*5+4);generalize mj (lv++List.replicate (en-i) az) (i*5)=z0 at x0;generalize mj (lv++List.replicate (en-i) az) (i*5+1)=z1 at x1;generalize mj (lv++List.replicate (en-i) az) (i*5+2)=z2 at x2;generalize mj (lv++List.replicate (en-i) az) (i*5+3)=z3 at x3;generalize mj (lv++List.replicate (en-i) az) (i*5+4)=z4 at x4;have S9:ag (SR (qG w5 lb (i*5) ⟨k5,bM,bN,F5,T5⟩) w.heap.size (.slice (some ⟨lb,0,none⟩) en en) ((lv++[⟨k5,bM,bN,F5,T5⟩])++List.replicate (en-(i+1)) az)):=by
     have r:=Lr ye.o (k:=i) (by omega) ⟨k5,bM,bN,F5,T5⟩
     rw [aeU LI.o _ dJ] at r;have el:((lv++[(⟨k5,bM,bN,F5,T5⟩:Sg)])++List.replicate (en-(i+1)) az).length=en:=by rw [List.length_append,List.length_append,LI.o,List.length_replicate];simp;omega
     rw [el] at r;exact r
    have GS9:ag (Gw w (qG w5 lb (i*5) ⟨k5,bM,bN,F5,T5⟩)):=CY zu.o B7.o;have GT9:ag (Gw w2 (qG w5 lb (i*5) ⟨k5,bM,bN,F5,T5⟩)):=CY vB.o B6.o;have tF:ag ((lv++[(Sg.mk k5 bM bN F5 T5)]).length=i+1):=by show (lv++[_]).length=i+1;rw [List.length_append,LI.o];rfl
    have Dp:ag (∀ j,j<(lv++[(Sg.mk k5 bM bN F5 T5)]).length->((lv++[(Sg.mk k5 bM bN F5 T5)]).getD j az).ok):=fun j hj=>by
     rw [tF.o] at hj;by_cases x:j<lv.length
     ·rw [show (lv++[(Sg.mk k5 bM bN F5 T5)]).getD j az=lv.getD j az by simp [List.getD,List.getElem?_append_left x]]
      exact pg.o j x
     ·have e:j=lv.length:=by have:=LI.o;omega
      rw [show (lv++[(Sg.mk k5 bM bN F5 T5)]).getD j az=(Sg.mk k5 bM bN F5 T5) by subst e;simp [List.getD]]
      exact SO.o
    have Dq:ag (∀ l',cH eps g m ei l'->cH eps g m 0 ((lv++[(Sg.mk k5 bM bN F5 T5)])++l')):=fun l' h=>by
     rw [List.append_assoc];exact dW.o ((Sg.mk k5 bM bN F5 T5)::l') ⟨ei,⟨s1,s2,s3,s4⟩,SA.o,h⟩
    have Dr:ag _:=FN.o.symm;have lbl:lb<w5.heap.size:=(kh ye.o lb rfl).2;clear nR vA g5 lj qQ k6 vz Dl cc fz ye s3 s4 pg dW SA XL;go_wp2_with fail;refine (jX 0 _).mono ?_;rintro e w6 ⟨rfl,rfl⟩;go_wp2_with fail;go_roundg (en-(i+1))
    case measure=>omega
    case rel=>exact ⟨i+1,ei,lv++[(Sg.mk k5 bM bN F5 T5)],rfl,rfl,by go_num,by omega,Nat.le_refl _,tF,Dr,S9,Dp,Dq,GS9,GT9⟩
   ·have ei:i=en:=by omega
    subst ei;have vD:fr=m:=by
     rw [FR.o];obtain ⟨i',bV⟩:∃ i',i=i'+1:=⟨i-1,by omega⟩
     have:=(ED.o.last i' (by rw [EN.o];omega)).2 (by rw [EN.o];omega)
     rw [bV];exact this
    have hJ:ag (cH eps g m 0 lv):=by
     have:=dW.o [] vD
     rwa [List.append_nil] at this
    have S9:ag (SR wr w.heap.size (.slice (some ⟨lb,0,none⟩) lv.length lv.length) lv):=by
     have:=k6.o
     rw [Nat.sub_self,List.replicate_zero,List.append_nil] at this;rw [LI.o];exact this
    have LE:ag (Ending.returned (.slice (some ⟨lb,0,none⟩) i i)=Ending.returned (.slice (some ⟨lb,0,none⟩) lv.length lv.length)):=by show _=_;rw [LI.o]
    clear dW k6 vD;go_wp2_with fail;go_ret;exact ⟨⟨lb,lv,LE.o,hJ.o,S9.o,pg.o⟩,lj.o⟩
end Go.Proofs.YtklkpldicbkjeaaGreat
namespace Go.Proofs.YtklkpldicbkjeaaGreat
open Go.RowKit
def Bu (K:Nat) (args:Value->Array Value) (I:Nat->World->Option Addr->Nat->Nat->(Nat->Int)->Prop) (Q:World->Prop) (X:List PanicEntry->World->Prop):Prop :=
 ∀ (r:Nat) (W:World) (bo:Option Addr) (m c:Nat) (g:Nat->Int),I r W bo m c g->Calls prog K (args (.slice bo m c)) W fun e w' =>
  (∃ (ao:Option Addr) (lc:Nat),e=.returned (.slice ao 0 lc)/\Q w') \/
  (∃ (ao:Option Addr) (lc:Nat) (lv:List Sg) (r':Nat),e=.returned (.slice ao lv.length lc)/\0<lv.length/\lv.length<=4000000/\GS w' ao lv/\r'<r/\∀ (b:Nat) (dE:World),Gw w' dE->KS dE (some ⟨b,0,none⟩) lv.length (aW lv)->I r' dE (some ⟨b,0,none⟩) lv.length lv.length (aW lv)) \/
  (∃ ch,e=.panicked ch/\X ch w')
theorem aeW (p0 p1:Value) (I:Nat->World->Option Addr->Nat->Nat->(Nat->Int)->Prop) (Q:World->Prop) (X:List PanicEntry->World->Prop) (O:Bu 82 (fun v=>#[v,p0,p1]) I Q X) (r:Nat) (bo:Option Addr) (m c:Nat) (g:Nat->Int) (w:World) (h:I r w bo m c g) :
  Calls prog 81 #[.slice bo m c,.func (.func 82) #[] #[p0,p1]] w fun e w'=>(e=.returned (.tuple #[])/\Q w')\/(∃ ch,e=.panicked ch/\X ch w'):=by
 have HI:ag _:=h;have HO:ag _:=O;have FI:ag _:=fun (ao:Option Addr) (c:Nat) (l:List Sg) (hl:l.length<=4000000) (w:World) (h:GS w ao l)=>TZ ao c l hl w h
 clear h O;go_enter func81,ntmps81;go_wp2_with fail;refine (HO.o r _ bo m c g HI.o).mono ?_;clear HI;rintro e w1 (⟨ao,lc,rfl,hq⟩ | ⟨ao,lc,lv,r1,rfl,l0,l1,hG,hr,hI⟩ | ⟨ch,rfl,hx⟩)
 ·have HQ:ag (Q w1):=hq
  clear hq;go_wp2_with fail;go_loopg [4] 0 (fun gg s4 wr=>s4=.slice ao 0 lc/\ag (Q wr))
  case atStart=>exact ⟨rfl,HQ⟩
  case round =>
   obtain ⟨rfl,HQ⟩:=hrel;go_wp2_with fail;go_end0;exact .inl ⟨rfl,HQ.o⟩
 ·have LV:ag (0<lv.length/\lv.length<=4000000):=⟨l0,l1⟩
  have HG:ag _:=hG;have HN:ag _:=hI;obtain ⟨ln,aA⟩:∃ ln,lv.length=ln:=⟨_,rfl⟩;have LN:ag _:=aA;rw [aA];clear hG hI l0 l1 aA;go_wp2_with fail;go_loopg [4] r (fun gg s4 wr=>∃ (ao:Option Addr) (lc ln:Nat),s4=.slice ao ln lc/\((ln=0/\ag (Q wr))\/(0<ln/\∃ (lv:List Sg) (r':Nat),r'<gg/\ag (lv.length=ln)/\ag (lv.length<=4000000)/\ag (GS wr ao lv)/\ag (∀ (b:Nat) (dE:World),Gw wr dE->KS dE (some ⟨b,0,none⟩) lv.length (aW lv)->I r' dE (some ⟨b,0,none⟩) lv.length lv.length (aW lv)))))
  case atStart=>exact ⟨ao,lc,ln,rfl,.inr ⟨by rw [<-LN.o];exact LV.o.1,lv,r1,hr,LN,(show ag _ from LV.o.2),HG,HN⟩⟩
  case round =>
   clear LV HG HN LN;obtain ⟨ao,lc,ln,rfl,⟨rfl,HQ⟩ | ⟨l0,lv,r2,fG,LN,LL,HG,HN⟩⟩:=hrel
   ·go_wp2_with fail
    go_end0
    exact .inl ⟨rfl,HQ.o⟩
   ·have yf:ag (∀ W,GS W ao lv->Calls prog 99 #[.slice ao ln lc] W fun e w'=>(∃ b,e=.returned (.slice (some ⟨b,0,none⟩) lv.length lv.length)/\W.heap.size<=b/\KS w' (some ⟨b,0,none⟩) lv.length (aW lv))/\Gw W w'):=fun W h=>by
     have:=FI.o ao lc lv LL.o W h
     rw [LN.o] at this ⊢;exact this
    have t0:decide ((0:Int)<(ln:Int))=true:=by simp;omega
    go_wp2_with fail;refine (yf.o _ HG.o).mono ?_
    rintro e w3 ⟨⟨b,rfl,hb,hk⟩,g3⟩;have oC:ag _:=HN.o b w3 g3 hk;clear hk g3 hb HN HG yf;generalize lv.length=q3 at oC ⊢;generalize aW lv=g3 at oC;clear LN LL;go_wp2_with fail;refine (HO.o r2 _ _ _ _ _ oC.o).mono ?_;clear oC;rintro e w4 (⟨sq,sw,rfl,hq⟩ | ⟨sq,sw,sA,r4,rfl,l4,yg,hG,JA,hI⟩ | ⟨ch,rfl,hx⟩)
    ·have HQ:ag (Q w4):=hq
     clear hq;go_wp2_with fail;go_roundg 0
     case measure=>omega
     case rel=>exact ⟨sq,sw,0,rfl,.inl ⟨rfl,HQ⟩⟩
    ·have JB:ag (sA.length<=4000000):=yg
     have JC:ag _:=hG;have JD:ag _:=hI;obtain ⟨wP,aA⟩:∃ ln,sA.length=ln:=⟨_,rfl⟩;have JE:ag _:=aA;rw [aA] at l4 ⊢;clear hG hI aA yg;go_wp2_with fail;go_roundg r2
     case measure=>omega
     case rel=>exact ⟨sq,sw,wP,rfl,.inr ⟨l4,sA,r4,JA,JE,JB,JC,JD⟩⟩
    ·have HX:ag (X ch w4):=hx
     clear hx;go_wp2_with fail;exact ⟨rfl,.inr ⟨ch,rfl,HX.o⟩⟩
 ·have HX:ag (X ch w1):=hx
  clear hx;go_wp2_with fail;exact ⟨rfl,.inr ⟨ch,rfl,HX.o⟩⟩
theorem aeX (p0 p1 p2:Value) (I:Nat->World->Option Addr->Nat->Nat->(Nat->Int)->Prop) (Q:World->Prop) (X:List PanicEntry->World->Prop) (O:Bu 122 (fun v=>#[v,p0,p1,p2]) I Q X) (r:Nat) (bo:Option Addr) (m c:Nat) (g:Nat->Int) (w:World) (h:I r w bo m c g) :
  Calls prog 81 #[.slice bo m c,.func (.func 122) #[] #[p0,p1,p2]] w fun e w'=>(e=.returned (.tuple #[])/\Q w')\/(∃ ch,e=.panicked ch/\X ch w'):=by
 have HI:ag _:=h;have HO:ag _:=O;have FI:ag _:=fun (ao:Option Addr) (c:Nat) (l:List Sg) (hl:l.length<=4000000) (w:World) (h:GS w ao l)=>TZ ao c l hl w h
 clear h O;go_enter func81,ntmps81;go_wp2_with fail;refine (HO.o r _ bo m c g HI.o).mono ?_;clear HI;rintro e w1 (⟨ao,lc,rfl,hq⟩ | ⟨ao,lc,lv,r1,rfl,l0,l1,hG,hr,hI⟩ | ⟨ch,rfl,hx⟩)
 ·have HQ:ag (Q w1):=hq
  clear hq;go_wp2_with fail;go_loopg [4] 0 (fun gg s4 wr=>s4=.slice ao 0 lc/\ag (Q wr))
  case atStart=>exact ⟨rfl,HQ⟩
  case round =>
   obtain ⟨rfl,HQ⟩:=hrel;go_wp2_with fail;go_end0;exact .inl ⟨rfl,HQ.o⟩
 ·have LV:ag (0<lv.length/\lv.length<=4000000):=⟨l0,l1⟩
  have HG:ag _:=hG;have HN:ag _:=hI;obtain ⟨ln,aA⟩:∃ ln,lv.length=ln:=⟨_,rfl⟩;have LN:ag _:=aA;rw [aA];clear hG hI l0 l1 aA;go_wp2_with fail;go_loopg [4] r (fun gg s4 wr=>∃ (ao:Option Addr) (lc ln:Nat),s4=.slice ao ln lc/\((ln=0/\ag (Q wr))\/(0<ln/\∃ (lv:List Sg) (r':Nat),r'<gg/\ag (lv.length=ln)/\ag (lv.length<=4000000)/\ag (GS wr ao lv)/\ag (∀ (b:Nat) (dE:World),Gw wr dE->KS dE (some ⟨b,0,none⟩) lv.length (aW lv)->I r' dE (some ⟨b,0,none⟩) lv.length lv.length (aW lv)))))
  case atStart=>exact ⟨ao,lc,ln,rfl,.inr ⟨by rw [<-LN.o];exact LV.o.1,lv,r1,hr,LN,(show ag _ from LV.o.2),HG,HN⟩⟩
  case round =>
   clear LV HG HN LN;obtain ⟨ao,lc,ln,rfl,⟨rfl,HQ⟩ | ⟨l0,lv,r2,fG,LN,LL,HG,HN⟩⟩:=hrel
   ·go_wp2_with fail
    go_end0
    exact .inl ⟨rfl,HQ.o⟩
   ·have yf:ag (∀ W,GS W ao lv->Calls prog 99 #[.slice ao ln lc] W fun e w'=>(∃ b,e=.returned (.slice (some ⟨b,0,none⟩) lv.length lv.length)/\W.heap.size<=b/\KS w' (some ⟨b,0,none⟩) lv.length (aW lv))/\Gw W w'):=fun W h=>by
     have:=FI.o ao lc lv LL.o W h
     rw [LN.o] at this ⊢;exact this
    have t0:decide ((0:Int)<(ln:Int))=true:=by simp;omega
    go_wp2_with fail;refine (yf.o _ HG.o).mono ?_
    rintro e w3 ⟨⟨b,rfl,hb,hk⟩,g3⟩;have oC:ag _:=HN.o b w3 g3 hk;clear hk g3 hb HN HG yf;generalize lv.length=q3 at oC ⊢;generalize aW lv=g3 at oC;clear LN LL;go_wp2_with fail;refine (HO.o r2 _ _ _ _ _ oC.o).mono ?_;clear oC;rintro e w4 (⟨sq,sw,rfl,hq⟩ | ⟨sq,sw,sA,r4,rfl,l4,yg,hG,JA,hI⟩ | ⟨ch,rfl,hx⟩)
    ·have HQ:ag (Q w4):=hq
     clear hq;go_wp2_with fail;go_roundg 0
     case measure=>omega
     case rel=>exact ⟨sq,sw,0,rfl,.inl ⟨rfl,HQ⟩⟩
    ·have JB:ag (sA.length<=4000000):=yg
     have JC:ag _:=hG;have JD:ag _:=hI;obtain ⟨wP,aA⟩:∃ ln,sA.length=ln:=⟨_,rfl⟩;have JE:ag _:=aA;rw [aA] at l4 ⊢;clear hG hI aA yg;go_wp2_with fail;go_roundg r2
     case measure=>omega
     case rel=>exact ⟨sq,sw,wP,rfl,.inr ⟨l4,sA,r4,JA,JE,JB,JC,JD⟩⟩
    ·have HX:ag (X ch w4):=hx
     clear hx;go_wp2_with fail;exact ⟨rfl,.inr ⟨ch,rfl,HX.o⟩⟩
 ·have HX:ag (X ch w1):=hx
  clear hx;go_wp2_with fail;exact ⟨rfl,.inr ⟨ch,rfl,HX.o⟩⟩
theorem VM (bl be:Nat) (v0 v1:Value) (E:Int) (ne:¬ bl=be) (w:World) (h0:w.cell? ⟨bl,0,none⟩=some v0) (f0:w.frozen? ⟨bl,0,none⟩=false) (h1:w.cell? ⟨be,0,none⟩=some v1) (f1:w.frozen? ⟨be,0,none⟩=false) :
  CallsD prog 78 #[.pointer (some ⟨bl,0,none⟩),.pointer (some ⟨be,0,none⟩)] (.panicking (gO E)) w fun e u' w' =>
   e=.returned (.tuple #[])/\u'=.panicking [{ v:=.iface 25 (.int .i64 E),recovered:=true }]/\w'=(w.setCell ⟨bl,0,none⟩ (.slice none 0 0)).setCell ⟨be,0,none⟩ (.int .i64 E):=by
 refine callsD_of_wpS func78 rfl fun c₀ cs hu=>?_
 apply wpS_seq
 apply wpS_region
 simp [wpOpsS,go_sem,recoverD,hu,ntmps78,Exit.thenS]
 apply wpS_seq
 apply wpS_region
 simp [wpOpsS,go_sem,recoverD,Exit.thenS]
 refine wpS_cond (t:=true) (by simp [Act.eval,Array.replicate]) ?_
 simp only [if_true];refine wpS_of_wp ?_;change Code.wp _ _ _ ⟨#[.pointer (some ⟨bl,0,none⟩),.pointer (some ⟨be,0,none⟩),.iface 25 (.int .i64 E),.iface 25 (.int .i64 E),.iface 25 (.int .i64 E),.bool true,undef,undef],[]⟩ w;go_wp2_with fail;refine (TQ E _).mono ?_;rintro e w1 ⟨rfl,rfl⟩;go_wp2_with fail;simp [bodyPostS,results,results78,go_sem]
theorem aeY (bl be:Nat) (w:World) :
  CallsD prog 78 #[.pointer (some ⟨bl,0,none⟩),.pointer (some ⟨be,0,none⟩)] .returning w fun e u' w'=>e=.returned (.tuple #[])/\u'=.returning/\w'=w:=by
 refine callsD_of_wpS func78 rfl fun c₀ cs hu=>?_
 apply wpS_seq
 apply wpS_region
 simp [wpOpsS,go_sem,recoverD,hu,ntmps78,Exit.thenS]
 apply wpS_seq
 apply wpS_region
 simp [wpOpsS,go_sem,recoverD,Exit.thenS]
 refine wpS_cond (t:=false) (by simp [Act.eval,Array.replicate]) ?_
 simp only [Bool.false_eq_true,if_false];refine wpS_of_wp (wp_skip ?_);cases c₀
 simp_all [bodyPostS,results,results78]
theorem uv (be:Nat) (v1:Value) (E:Int) (w:World) (h1:w.cell? ⟨be,0,none⟩=some v1) (f1:w.frozen? ⟨be,0,none⟩=false) :
  CallsD prog 120 #[.pointer (some ⟨be,0,none⟩)] (.panicking (gO E)) w fun e u' w' =>
   e=.returned (.tuple #[])/\u'=.panicking [{ v:=.iface 25 (.int .i64 E),recovered:=true }]/\w'=w.setCell ⟨be,0,none⟩ (.int .i64 E):=by
 refine callsD_of_wpS func120 rfl fun c₀ cs hu=>?_
 apply wpS_seq
 apply wpS_region
 simp [wpOpsS,go_sem,recoverD,hu,ntmps120,Exit.thenS]
 apply wpS_seq
 apply wpS_region
 simp [wpOpsS,go_sem,recoverD,Exit.thenS]
 refine wpS_cond (t:=true) (by simp [Act.eval,Array.replicate]) ?_
 simp only [if_true];refine wpS_of_wp ?_;change Code.wp _ _ _ ⟨#[.pointer (some ⟨be,0,none⟩),.iface 25 (.int .i64 E),.iface 25 (.int .i64 E),.iface 25 (.int .i64 E),.bool true,undef,undef],[]⟩ w;go_wp2_with fail;refine (TQ E _).mono ?_;rintro e w1 ⟨rfl,rfl⟩;go_wp2_with fail;simp [bodyPostS,results,results120,go_sem]
theorem VO (be:Nat) (w:World) :
  CallsD prog 120 #[.pointer (some ⟨be,0,none⟩)] .returning w fun e u' w'=>e=.returned (.tuple #[])/\u'=.returning/\w'=w:=by
 refine callsD_of_wpS func120 rfl fun c₀ cs hu=>?_
 apply wpS_seq
 apply wpS_region
 simp [wpOpsS,go_sem,recoverD,hu,ntmps120,Exit.thenS]
 apply wpS_seq
 apply wpS_region
 simp [wpOpsS,go_sem,recoverD,Exit.thenS]
 refine wpS_cond (t:=false) (by simp [Act.eval,Array.replicate]) ?_
 simp only [Bool.false_eq_true,if_false];refine wpS_of_wp (wp_skip ?_);cases c₀
 simp_all [bodyPostS,results,results120]
def aH (w:World) (b:Nat) (v:Value) (t:TypeId):Prop:=w.heap[b]?=some (.cells #[v] t (0,0))
theorem aH.lt {w:World} {b:Nat} {v:Value} {t:TypeId} (h:aH w b v t):b<w.heap.size:=(Array.getElem?_eq_some_iff.1 h).1
theorem aH.gw {w w':World} {b:Nat} {v:Value} {t:TypeId} (h:aH w b v t) (g:Gw w w'):aH w' b v t:=(g.below.block b h.lt).trans h
theorem aH.cell {w:World} {b:Nat} {v:Value} {t:TypeId} (h:aH w b v t):w.cell? ⟨b,0,none⟩=some v:=by unfold aH at h;simp [World.cell?,h]
theorem aH.fz {w:World} {b:Nat} {v:Value} {t:TypeId} (h:aH w b v t):w.frozen? ⟨b,0,none⟩=false:=by unfold aH at h;simp [World.frozen?,h]
theorem aH.new (w:World) (v:Value) (t:TypeId):aH (w.alloc (.cells #[v] t)) w.heap.size v t:=heap_alloc_new w _
theorem aH.set {w:World} {b:Nat} {v:Value} {t:TypeId} (h:aH w b v t) (u:Value):aH (w.setCell ⟨b,0,none⟩ u) b u t:=by
 unfold aH at *;simp [World.setCell,Array.getElem?_modify,h]
theorem aH.other {w:World} {b:Nat} {v:Value} {t:TypeId} (h:aH w b v t) (a:Addr) (u:Value) (e:b≠a.block):aH (w.setCell a u) b v t:=(Go.Deep.blk_setCell_other _ _ _ _ e).trans h
structure BI (w0:World) (bp bl be B:Nat) (eps:Int) (f:Nat->Int) (n:Nat) (W:World) (lo:Option Addr) (lc:Nat) (L:List (List Sg)) (aj:List Value):Prop where
 gw:Gw w0 W
 sz:B<=W.heap.size
 ep:aH W bp (.int .i64 eps) 3
 lx:aH W bl (.slice lo L.length lc) 85
 er:aH W be (.int .i64 0) 25
 own:cF W B (.slice lo L.length lc) L aj
 ok:uT L
 le:L.length<=lc
 few:L.length<=n
theorem BI.mono {w0:World} {bp bl be B:Nat} {eps:Int} {f:Nat->Int} {n:Nat} {W W':World} {lo:Option Addr} {lc:Nat} {L:List (List Sg)} {aj:List Value} (h:BI w0 bp bl be B eps f n W lo lc L aj) (g:Gw W W'):BI w0 bp bl be B eps f n W' lo lc L aj :=
 ⟨h.gw.trans g,Nat.le_trans h.sz g.size,h.ep.gw g,h.lx.gw g,h.er.gw g,h.own.gw g,h.ok,h.le,h.few⟩
theorem BI.more {w0:World} {bp bl be B:Nat} {eps:Int} {f:Nat->Int} {n:Nat} {W w w':World} {oc:Array Value} {ot:TypeId} {lo:Option Addr} {lc:Nat} {L:List (List Sg)} {aj:List Value} {vl:Value} {lv:List Sg} {b8 cap8:Nat} (h:BI w0 bp bl be B eps f n W lo lc L aj) (g:Gw W w) (hs:SR w W.heap.size vl lv) (eI:∀ j,j<lv.length->(lv.getD j az).ok)
  (r1:w'.ownsRow B 126 1 (.slice (some ⟨b8,0,none⟩) (L.length+1) cap8) (L.length+1) (aj++[vl])) (r2:(w.alloc (.cells oc ot)).grownBy w' (Value.slice lo L.length lc).ownBlock) (r4:(Value.slice (some ⟨b8,0,none⟩) (L.length+1) cap8).ownBlock=(Value.slice lo L.length lc).ownBlock\/(Value.slice (some ⟨b8,0,none⟩) (L.length+1) cap8).ownBlock=some (w.heap.size+1))
  (n1:bl≠bp) (n2:bl≠be) (b1:bl<B) (b2:bp<B) (b3:be<B) (hb:w0.heap.size<=bl) (hB:w0.heap.size<=B) (hc:L.length+1<=cap8) (hf:L.length+1<=n) :
  BI w0 bp bl be B eps f n (w'.setCell ⟨bl,0,none⟩ (.slice (some ⟨b8,0,none⟩) (L.length+1) cap8)) (some ⟨b8,0,none⟩) cap8 (L++[lv]) (aj++[vl]):=by
 have ln:(L++[lv]).length=L.length+1:=by simp
 have ow:∀ q,(Value.slice lo L.length lc).ownBlock=some q->B<=q:=fun q hq=>(h.own.outer.lt q hq).1
 have keep:∀ q,q<w.heap.size->q<B->w'.heap[q]?=w.heap[q]?:=fun q hq hn=>(r2.block q (by simp;omega) (fun e=>by have:=ow q e.symm;omega)).trans (heap_alloc_old w _ hq)
 have bx:∀ {q:Nat} {v:Value} {t:TypeId},aH W q v t->q<B->aH w' q v t:=fun hx hq=>(keep _ (hx.gw g).lt hq).trans (hx.gw g)
 have gw':Gw w0 w':=((h.gw.trans g).alloc _ _).grown r2 (fun q hq=>Nat.le_trans hB (ow q hq))
 refine ⟨gw'.setCell hb _,?_,aH.other (bx h.ep b2) _ _ (fun e=>n1 e.symm),?_,aH.other (bx h.er b3) _ _ (fun e=>n2 e.symm),?_,?_,by rw [ln];exact hc,by rw [ln];exact hf⟩
 ·have:=r2.size;have:=g.size;have:=h.sz;simp at *;omega
 ·rw [ln];exact (bx h.lx b1).set _
 ·have:=cF.more h.own g hs h.sz r1 r2 r4
  rw [ln];exact this.keep fun q hq _=>Go.Deep.blk_setCell_other _ _ _ _ (by show q≠bl;omega)
 ·intro i hi j hj
  by_cases e:i<L.length
  ·rw [show (L++[lv]).getD i []=L.getD i [] by simp [List.getD,List.getElem?_append_left e]] at hj ⊢
   exact h.ok i e j hj
  ·have ei:i=L.length:=by omega
   subst ei;rw [show (L++[lv]).getD L.length []=lv by simp [List.getD]] at hj ⊢
   exact eI j hj
def Rest (eps:Int) (f:Nat->Int) (n:Nat) (L:List (List Sg)) (g:Nat->Int) (m:Nat):Prop:=∀ rr,(if L≠[]/\m=1 then rr=[] else cU eps g m rr)->cU eps f n (L++rr)
theorem Rest.next {eps:Int} {f:Nat->Int} {n:Nat} {L:List (List Sg)} {g:Nat->Int} {m:Nat} {lv:List Sg} (h:Rest eps f n L g m) (c:¬ (L≠[]/\m=1)) (m0:0<m) (l:cH eps g m 0 lv):Rest eps f n (L++[lv]) (aW lv) lv.length:=fun rr hr=>by
 rw [List.append_assoc];refine h ([lv]++rr) ?_;rw [if_neg c];refine ⟨m0,l,?_⟩;by_cases e:lv.length=1
 ·rw [if_pos e];rw [if_pos ⟨by simp,e⟩] at hr;exact hr
 ·rw [if_neg e];rw [if_neg (fun q=>e q.2)] at hr;exact hr
theorem Rest.done {eps:Int} {f:Nat->Int} {n:Nat} {L:List (List Sg)} {g:Nat->Int} {m:Nat} (h:Rest eps f n L g m) (c:m=0\/(L≠[]/\m=1)):cU eps f n L:=by
 have:=h [] (by
  rcases c with rfl | c
  ·rw [if_neg (fun q=>by have:=q.2;omega)];exact rfl
  ·rw [if_pos c])
 rwa [List.append_nil] at this
def VP (w0:World) (bp bl be B:Nat) (eps:Int) (f:Nat->Int) (n:Nat) (r:Nat) (W:World) (bo:Option Addr) (m c:Nat) (g:Nat->Int):Prop :=
 ∃ lo lc L aj,BI w0 bp bl be B eps f n W lo lc L aj/\KS W bo m g/\Up g m/\m<=2000000/\m<=c/\Rest eps f n L g m/\(if L=[] then m+1 else m)<=r/\L.length+r<=n+1
def Bv (w0:World) (bp bl be B:Nat) (eps:Int) (f:Nat->Int) (n:Nat) (W:World):Prop:=∃ lo lc L aj,BI w0 bp bl be B eps f n W lo lc L aj/\cU eps f n L
theorem aeZ (C:ur) (M:gh) (w0:World) (bp bl be B:Nat) (eps:Int) (f:Nat->Int) (n:Nat) (hn:n<=2000000) (k2:2<=eps) (k3:eps<=64) (n1:bl≠bp) (n2:bl≠be) (b1:bl<B) (b2:bp<B) (b3:be<B) (hb:w0.heap.size<=bl) (hB:w0.heap.size<=B) :
  Bu 82 (fun v=>#[v,.pointer (some ⟨bl,0,none⟩),.pointer (some ⟨bp,0,none⟩)]) (VP w0 bp bl be B eps f n) (Bv w0 bp bl be B eps f n) (fun _ _=>False):=by
 rintro r W bo m c g ⟨lo,lc,L,aj,jw,hK,hU,m1,mc,hR,qJ,fG⟩;have HB:ag (BI w0 bp bl be B eps f n W lo lc L aj):=jw;have HK:ag _:=hK;have UP:ag _:=hU;have RS:ag (Rest eps f n L g m):=hR;have CV:ag _:=fun (m0:0<m) (W:World) (k:KS W bo m g)=>aeV C M eps k2 k3 bo m c g m0 m1 mc UP.o W k
 have cl:=jw.lx.cell;have fl:=jw.lx.fz;have ll:=jw.lx.lt;have cp:=jw.ep.cell;have lp:=jw.ep.lt;have R1:ag ((if L=[] then m+1 else m)<=r/\L.length+r<=n+1):=⟨qJ,fG⟩
 have VQ:ag (L=[]↔L.length=0):=(List.length_eq_zero_iff).symm;clear jw hK hU hR qJ fG C M;obtain ⟨ln,aA⟩:∃ ln,L.length=ln:=⟨_,rfl⟩;have LN:ag _:=aA;rw [aA] at cl;clear aA;by_cases m0:m=0
 ·have BR:ag (Bv w0 bp bl be B eps f n W):=⟨lo,lc,L,aj,HB.o,RS.o.done (.inl m0)⟩
  subst m0;clear CV;go_enter func82,ntmps82;go_wp2_with fail;go_ret;exact .inl ⟨none,0,rfl,BR.o⟩
 ·have t0:((m:Int) == 0)=false:=by simp;omega
  have jB:0<m:=by omega
  by_cases c1:m=1/\0<ln
  ·have BR:ag (Bv w0 bp bl be B eps f n W):=⟨lo,lc,L,aj,HB.o,RS.o.done (.inr ⟨fun q=>by have:=VQ.o.1 q;rw [LN.o] at this;omega,c1.1⟩)⟩
   have t1:((m:Int) == 1)=true:=by simp;omega
   have t2:decide ((0:Int)<(ln:Int))=true:=by simp;omega
   have t3:0<ln:=c1.2;clear CV c1 m0;go_enter func82,ntmps82;go_wp2_with fail;go_ret;exact .inl ⟨none,0,rfl,BR.o⟩
  ·have NC:ag (¬ (L≠[]/\m=1)):=fun q=>c1 ⟨q.2,Nat.pos_of_ne_zero (fun e=>q.1 (VQ.o.2 (by rw [LN.o];exact e)))⟩
   obtain ⟨jj,kX,jz,js,kY⟩:=info_parts yY;have TT:(((m:Int) == 1)=true/\¬ 0<ln)\/((m:Int) == 1)=false:=by
    by_cases e:m=1
    ·exact .inl ⟨by simp;omega,by omega⟩
    ·exact .inr (by simp;omega)
   have wz:=HB.o.gw.size;clear c1 m0;rcases TT with ⟨t1,t2⟩ | t1
   all_goals go_enter func82,ntmps82
   all_goals go_wp2_with fail
   all_goals refine (CV.o jB _ HK.o).mono ?_
   all_goals rintro e w2 ⟨⟨b,lv,rfl,nf,hS,eI⟩,g2⟩
   all_goals have hJ:ag (cH eps g m 0 lv):=nf
   all_goals have SV:ag (SR w2 W.heap.size (.slice (some ⟨b,0,none⟩) lv.length lv.length) lv):=hS
   all_goals have OK:ag (∀ j,j<lv.length->(lv.getD j az).ok):=eI
   all_goals have G2:ag (Gw W w2):=g2
   all_goals have VT:w2.cell? ⟨bl,0,none⟩=some (.slice lo ln lc):=(g2.cell _ _ ll).trans cl
   all_goals have JF:bl<w2.heap.size:=Nat.lt_of_lt_of_le ll g2.size
   all_goals have OW:ag (cF w2 B (.slice lo L.length lc) L aj):=HB.o.own.gw g2
   all_goals have OR:ag (w2.ownsRow B 126 1 (.slice lo ln lc) ln aj):=by have:=OW.o.outer;rw [LN.o] at this;exact this
   all_goals have ln1:ln<=n:=by have:=HB.o.few;rw [LN.o] at this;exact this
   all_goals have sz2:B<=w2.heap.size:=Nat.le_trans HB.o.sz g2.size
   all_goals obtain ⟨vn,JG⟩:∃ vn,lv.length=vn:=⟨_,rfl⟩
   all_goals have VN:ag (lv.length=vn):=JG
   all_goals rw [JG]
   all_goals clear nf hS eI g2 JG cl ll cp lp fl
   all_goals go_wp2_with (at_builtin;refine wpList_append_own_at _ rfl _ _ 85 rfl B 126 jj (.slice none 0 0) 1 24 underlying85 kX jz js kY rfl (by decide) _ ln _ rfl (OR.o.alloc _) ⟨w2.heap.size,0,none⟩ 1 1 [(.slice (some ⟨b,0,none⟩) vn vn)] rfl rfl (Di w2 (.slice (some ⟨b,0,none⟩) vn vn) 126) (fun u hu=>by simp at hu;subst hu;rfl) (by simp only [maxLen];omega) (by omega) (by simp;omega) ?_)
   all_goals intro v' w7 r1 r2 r3 r4
   all_goals obtain ⟨b8,cap8,rfl,nT,hc8,_⟩:=cS r1 r3
   all_goals have FW:=hJ.o.few k2 jB m1 HK.o.bd UP.o
   all_goals have Ds:=hJ.o.len m1 HK.o.bd
   all_goals have lv0:0<vn:=by rw [<-VN.o];exact List.length_pos_iff.2 (hJ.o.some jB)
   all_goals have ow:∀ q,(Value.slice lo ln lc).ownBlock=some q->B<=q:=fun q hq=>(OR.o.lt q hq).1
   all_goals rw [VN.o] at FW Ds
   all_goals
    have rk:vn<r:=by
     have R2:=R1.o.1;by_cases e:L=[]
     ·rw [if_pos e] at R2;omega
     ·rw [if_neg e] at R2
      have mm:m≠1:=fun q=>NC.o ⟨e,q⟩
      by_cases x:vn=1
      ·omega
      ·have:=oO (e:=eps.toNat) (by omega) (FW.2 x)
       have:=FW.1
       omega
   all_goals have rn:=R1.o.2
   all_goals rw [LN.o] at rn
   all_goals
    have B8:ag (BI w0 bp bl be B eps f n (w7.setCell ⟨bl,0,none⟩ (.slice (some ⟨b8,0,none⟩) (ln+1) cap8)) (some ⟨b8,0,none⟩) cap8 (L++[lv]) (aj++[.slice (some ⟨b,0,none⟩) vn vn])):=by
     have:=BI.more (cap8:=cap8) (b8:=b8) (w':=w7) HB.o G2.o SV.o OK.o (by rw [LN.o,VN.o];exact r1) (by rw [LN.o];exact r2) (by rw [LN.o];exact r4) n1 n2 b1 b2 b3 hb hB (by rw [LN.o];exact hc8) (by rw [LN.o];omega)
     rw [LN.o,VN.o] at this;exact this
   all_goals have bW:W.heap.size<=b/\b<w2.heap.size:=kh SV.o b rfl
   all_goals
    have G8:ag (GS (w7.setCell ⟨bl,0,none⟩ (.slice (some ⟨b8,0,none⟩) (ln+1) cap8)) (some ⟨b,0,none⟩) lv):=by
     refine zr (CW SV.o OK.o) ?_ ?_
     ·refine (Go.Deep.blk_setCell_other _ _ _ _ (by show b≠bl;have:=HB.o.lx.lt;omega)).trans ?_
      refine (r2.block b (by simp;omega) (fun e=>?_)).trans (heap_alloc_old w2 _ bW.2)
      have:=(HB.o.own.outer.lt b (by rw [LN.o];exact e.symm)).2
      omega
     ·have:=r2.size;simp at this ⊢;omega
   all_goals have NX:ag (Rest eps f n (L++[lv]) (aW lv) lv.length):=RS.o.next NC.o jB hJ.o
   all_goals have UN:ag (Up (aW lv) lv.length):=(nJ UP.o (hJ.o.tiles m1 HK.o.bd) (hJ.o.keys m1 HK.o.bd)).1
   all_goals
    have cl7:w7.cell? ⟨bl,0,none⟩=some (.slice lo ln lc):=by
     have e:w7.heap[bl]?=w2.heap[bl]?:=(r2.block bl (by simp;omega) (fun e=>by have:=ow bl e.symm;omega)).trans (heap_alloc_old w2 _ JF)
     exact (World.cell?_of_block (a:=⟨bl,0,none⟩) e).trans VT
   all_goals
    have fl7:w7.frozen? ⟨bl,0,none⟩=false:=by
     have e:w7.heap[bl]?=w2.heap[bl]?:=(r2.block bl (by simp;omega) (fun e=>by have:=ow bl e.symm;omega)).trans (heap_alloc_old w2 _ JF)
     exact (World.frozen?_of_block (a:=⟨bl,0,none⟩) e).trans (HB.o.lx.gw G2.o).fz
   all_goals have ll7:bl<w7.heap.size:=by have:=r2.size;simp at this;omega
   all_goals clear r1 r2 r3 r4 nT ow FW VT JF OW OR SV G2 OK
   all_goals go_wp2_with fail
   all_goals go_ret
   all_goals exact .inr (.inl ⟨some ⟨b,0,none⟩,vn,lv,lv.length,by rw [VN.o];rfl,by rw [VN.o];exact lv0,by rw [VN.o];omega,G8.o,by rw [VN.o];exact rk,fun b9 w9 g9 k9=>⟨_,_,_,_,B8.o.mono g9,k9,UN.o,by rw [VN.o];omega,Nat.le_refl _,NX.o,by rw [if_neg (by simp)];exact Nat.le_refl _,by rw [List.length_append,LN.o,VN.o];simp;omega⟩⟩)
theorem Bw (w:World) (B:Nat):cF w B (.slice none 0 0) [] []:=⟨World.ownsRow_nil _ _ _ _,fun i hi=>by simp at hi,fun i hi=>by simp at hi⟩
theorem cF.base {w:World} {B B':Nat} {v:Value} {L:List (List Sg)} {aj:List Value} (h:cF w B v L aj) (hb:B'<=B):cF w B' v L aj:=by
 refine ⟨⟨h.outer.1,?_⟩,fun i hi=>⟨(h.rows i hi).1,?_⟩,h.apart⟩
 ·rcases h.outer.2 with q | ⟨b,cap,cur,e1,e2,e3⟩
  ·exact .inl q
  ·exact .inr ⟨b,cap,cur,e1,Nat.le_trans hb e2,e3⟩
 ·rcases (h.rows i hi).2 with q | ⟨b,cap,cur,e1,e2,e3⟩
  ·exact .inl q
  ·exact .inr ⟨b,cap,cur,e1,Nat.le_trans hb e2,e3⟩
theorem ae0 (C:ur) (M:gh):CZ:=by
 intro eps ao n cp f e0 e1 hn cZ w hk;have hmf:∀ (fn:Fn) (first cap:Array Value) (w:World),(Instr.makeFunc fn first cap).run prog w=.ok (.func fn first cap) w:=fun _ _ _ _=>rfl
 have HK:ag _:=hk;have CC:ag (ur/\gh):=⟨C,M⟩;clear hk C M;have NB:ag (∀ W,KS W ao n f->_):=fun W h=>TY eps ao n cp f (by omega) W h
 go_enter_defers func54,ntmps54
 go_wp2_with fail;have P3:ag (aH (((w.alloc (.cells #[.int .i64 eps] 3)).alloc (.cells #[.slice none 0 0] 85)).alloc (.cells #[.int .i64 0] 25)) w.heap.size (.int .i64 eps) 3):=((aH.new w _ _).gw ((Gw.refl _).alloc _ _)).gw ((Gw.refl _).alloc _ _)
 have L3:ag (aH (((w.alloc (.cells #[.int .i64 eps] 3)).alloc (.cells #[.slice none 0 0] 85)).alloc (.cells #[.int .i64 0] 25)) (w.heap.size+1) (.slice none 0 0) 85):=by
  have:=(aH.new (w.alloc (.cells #[.int .i64 eps] 3)) (.slice none 0 0) 85).gw ((Gw.refl _).alloc #[.int .i64 0] 25)
  simp at this;exact this
 have E3:ag (aH (((w.alloc (.cells #[.int .i64 eps] 3)).alloc (.cells #[.slice none 0 0] 85)).alloc (.cells #[.int .i64 0] 25)) (w.heap.size+1+1) (.int .i64 0) 25):=by
  have:=aH.new ((w.alloc (.cells #[.int .i64 eps] 3)).alloc (.cells #[.slice none 0 0] 85)) (.int .i64 0) 25
  simp at this;exact this
 have G3:ag (Gw w (((w.alloc (.cells #[.int .i64 eps] 3)).alloc (.cells #[.slice none 0 0] 85)).alloc (.cells #[.int .i64 0] 25))):=(((Gw.refl w).alloc _ _).alloc _ _).alloc _ _;have Z3:ag (w.heap.size+3<=(((w.alloc (.cells #[.int .i64 eps] 3)).alloc (.cells #[.slice none 0 0] 85)).alloc (.cells #[.int .i64 0] 25)).heap.size):=by show _<=_;simp
 generalize (((w.alloc (.cells #[.int .i64 eps] 3)).alloc (.cells #[.slice none 0 0] 85)).alloc (.cells #[.int .i64 0] 25))=w3 at P3 L3 E3 G3 Z3 ⊢;obtain ⟨bp,j9⟩:∃ bp,w.heap.size=bp:=⟨_,rfl⟩;obtain ⟨bl,aX⟩:∃ bl,bp+1=bl:=⟨_,rfl⟩;obtain ⟨be,oD⟩:∃ be,bl+1=be:=⟨_,rfl⟩;have BB:ag (w.heap.size=bp/\bp+1=bl/\bl+1=be):=⟨j9,aX,oD⟩;rw [j9,aX] at L3;rw [j9,aX,oD] at E3;rw [j9] at P3;rw [j9,aX,oD];have ne:¬ bl=be:=by omega
 clear j9 aX oD;refine (NB.o _ (HK.o.gw G3.o)).mono ?_;rintro e w4 ⟨hb,g4⟩;have P4:ag _:=P3.o.gw g4;have L4:ag (aH w4 bl (.slice none 0 0) 85):=L3.o.gw g4;have E4:ag (aH w4 be (.int .i64 0) 25):=E3.o.gw g4;have G4:ag _:=G3.o.trans g4;have Z4:ag _:=Nat.le_trans Z3.o g4.size;clear g4 P3 L3 E3 G3 Z3 NB;rcases hb with ⟨k0,rfl⟩ | ⟨k0,k1,rfl⟩ | ⟨k0,k1,rfl⟩
 rotate_left 2
 ·have HI:VP w bp bl be (bp+3) eps f n (n+1) w4 ao n cp f:=by
   have bz:=BB.o;exact ⟨none,0,[],[],⟨G4.o,by have:=Z4.o;omega,P4.o,L4.o,E4.o,Bw _ _,fun i hi=>by simp at hi,Nat.le_refl _,Nat.zero_le _⟩,HK.o.gw G4.o,k1,hn,cZ,(fun rr hr=>by rw [if_neg (fun q=>q.1 rfl)] at hr;exact hr),by rw [if_pos rfl];exact Nat.le_refl _,by simp⟩
  have CB:=aeW (.pointer (some ⟨bl,0,none⟩)) (.pointer (some ⟨bp,0,none⟩)) _ _ _ (aeZ CC.o.1 CC.o.2 w bp bl be (bp+3) eps f n hn k0.1 k0.2 (by have:=BB.o;omega) (by have:=BB.o;omega) (by have:=BB.o;omega) (by have:=BB.o;omega) (by have:=BB.o;omega) (by have:=BB.o;omega) (by have:=BB.o;omega)) (n+1) ao n cp f w4 HI
  have yj:ag (Calls prog 81 #[.slice ao n cp,.func (.func 82) #[] #[.pointer (some ⟨bl,0,none⟩),.pointer (some ⟨bp,0,none⟩)]] w4 fun e w'=>(e=.returned (.tuple #[])/\Bv w bp bl be (bp+3) eps f n w')\/(∃ ch,e=.panicked ch/\False)):=CB
  have KE:ag ((2<=eps/\eps<=64)/\Up f n):=⟨k0,k1⟩;clear HI CB k0 k1 CC;go_wp2_with fail;refine yj.o.mono ?_;rintro e w5 (⟨rfl,lo,lc,L,aj,jw,VU⟩ | ⟨ch,_,q⟩)
  ·have HB:ag (BI w bp bl be (bp+3) eps f n w5 lo lc L aj):=jw
   have R:ag (oQ eps f n L 0):=.inr (.inr ⟨KE.o.1,KE.o.2,VU,rfl⟩);have c0:=jw.lx.cell;have f0:=jw.lx.fz;have c1:=jw.er.cell;have f1:=jw.er.fz;obtain ⟨ln,aA⟩:∃ ln,L.length=ln:=⟨_,rfl⟩;have LN:ag _:=aA;rw [aA] at c0;clear jw VU yj aA;go_wp2_with fail;refine leaves_cons (f:=78) (args:=#[.pointer (some ⟨bl,0,none⟩),.pointer (some ⟨be,0,none⟩)]) (by simp) (by simp [go_sem]) ?_
   refine (aeY bl be _).mono ?_;rintro e u' w6 ⟨rfl,rfl,rfl⟩;have c5:=(aH.other (HB.o.lx.set (.slice lo ln lc)) ⟨be,0,none⟩ (.int .i64 0) ne).cell;have d5:=(aH.set (aH.other HB.o.er ⟨bl,0,none⟩ (.slice lo ln lc) (fun e=>ne e.symm)) (.int .i64 0)).cell
   refine ⟨.tuple #[.slice lo ln lc,.int .i64 0],by simp [results,results54,go_sem,c5,d5],⟨lo,lc,L,0,aj,by rw [LN.o],R.o,HB.o.le,?_,HB.o.ok⟩,?_⟩
   ·refine (HB.o.own.keep fun q hq _=>?_).base (by have:=BB.o;omega)
    have bz:=BB.o;exact (Go.Deep.blk_setCell_other _ _ _ _ (by show q≠be;omega)).trans (Go.Deep.blk_setCell_other _ _ _ _ (by show q≠bl;omega))
   ·exact (HB.o.gw.setCell (by show w.heap.size<=bl;have:=BB.o;omega) _).setCell (by show w.heap.size<=be;have:=BB.o;omega) _
  ·exact q.elim
 ·have R:ag (oQ eps f n [] 1):=.inl ⟨k0,rfl,rfl⟩
  clear k0;go_wp2_with fail;refine leaves_cons (f:=78) (args:=#[.pointer (some ⟨bl,0,none⟩),.pointer (some ⟨be,0,none⟩)]) (by simp) (by simp [go_sem]) ?_
  refine (VM bl be _ _ 1 ne _ L4.o.cell L4.o.fz E4.o.cell E4.o.fz).mono ?_;rintro e u' w5 ⟨rfl,rfl,rfl⟩;have c5:=(aH.other (L4.o.set (.slice none 0 0)) ⟨be,0,none⟩ (.int .i64 1) ne).cell;have d5:=(aH.set (aH.other E4.o ⟨bl,0,none⟩ (.slice none 0 0) (fun e=>ne e.symm)) (.int .i64 1)).cell
  refine ⟨.tuple #[.slice none 0 0,.int .i64 1],by simp [results,results54,go_sem,c5,d5],⟨none,0,[],1,[],rfl,R.o,Nat.le_refl _,Bw _ _,fun i hi=>by simp at hi⟩,?_⟩
  exact (G4.o.setCell (by show w.heap.size<=bl;have:=BB.o;omega) _).setCell (by show w.heap.size<=be;have:=BB.o;omega) _
 ·have R:ag (oQ eps f n [] 80):=.inr (.inl ⟨k0,k1,rfl,rfl⟩)
  clear k0 k1;go_wp2_with fail;refine leaves_cons (f:=78) (args:=#[.pointer (some ⟨bl,0,none⟩),.pointer (some ⟨be,0,none⟩)]) (by simp) (by simp [go_sem]) ?_
  refine (VM bl be _ _ 80 ne _ L4.o.cell L4.o.fz E4.o.cell E4.o.fz).mono ?_;rintro e u' w5 ⟨rfl,rfl,rfl⟩;have c5:=(aH.other (L4.o.set (.slice none 0 0)) ⟨be,0,none⟩ (.int .i64 80) ne).cell;have d5:=(aH.set (aH.other E4.o ⟨bl,0,none⟩ (.slice none 0 0) (fun e=>ne e.symm)) (.int .i64 80)).cell
  refine ⟨.tuple #[.slice none 0 0,.int .i64 80],by simp [results,results54,go_sem,c5,d5],⟨none,0,[],80,[],rfl,R.o,Nat.le_refl _,Bw _ _,fun i hi=>by simp at hi⟩,?_⟩
  exact (G4.o.setCell (by show w.heap.size<=bl;have:=BB.o;omega) _).setCell (by show w.heap.size<=be;have:=BB.o;omega) _
theorem ae1 {w:World} {bo:Option Addr} {m:Nat} {g:Nat->Int} (h:KS w bo m g) {bh:Nat} {x:Int} {t:TypeId} (hx:aH w bh (.int .i64 x) t) (v:Value):KS (w.setCell ⟨bh,0,none⟩ v) bo m g:=by
 refine ⟨fun h0=>?_,h.bd⟩
 obtain ⟨b,off,e,hb,hc⟩:=h.cells h0;have ne:b≠bh:=fun q=>by
  subst q;have c:=hc 0 h0;unfold aH at hx;simp only [World.cell?,hx] at c;cases off with
  | zero=>simp at c
  | succ o=>simp at c
 have blk:(w.setCell ⟨bh,0,none⟩ v).heap[b]?=w.heap[b]?:=Go.Deep.blk_setCell_other _ _ _ _ ne;exact ⟨b,off,e,by simpa using hb,fun i hi=>(World.cell?_of_block (a:=⟨b,off+i,none⟩) blk).trans (hc i hi)⟩
structure CI (w0:World) (bp bl be bh:Nat) (eps:Int) (lo:Option Addr) (lc:Nat) (L:List (List Sg)) (W:World) (i:Nat):Prop where
 gw:Gw w0 W
 ep:aH W bp (.int .i64 eps) 3
 lx:aH W bl (.slice lo L.length lc) 85
 er:aH W be (.int .i64 0) 25
 hx:aH W bh (.int .i64 (i:Int)) 3
theorem CI.mono {w0:World} {bp bl be bh:Nat} {eps:Int} {lo:Option Addr} {lc:Nat} {L:List (List Sg)} {W W':World} {i:Nat} (h:CI w0 bp bl be bh eps lo lc L W i) (g:Gw W W'):CI w0 bp bl be bh eps lo lc L W' i:=⟨h.gw.trans g,h.ep.gw g,h.lx.gw g,h.er.gw g,h.hx.gw g⟩
theorem CI.up {w0:World} {bp bl be bh:Nat} {eps:Int} {lo:Option Addr} {lc:Nat} {L:List (List Sg)} {W:World} {i:Nat} (h:CI w0 bp bl be bh eps lo lc L W i) (n1:bp≠bh) (n2:bl≠bh) (n3:be≠bh) (hb:w0.heap.size<=bh) (j:Nat):CI w0 bp bl be bh eps lo lc L (W.setCell ⟨bh,0,none⟩ (.int .i64 (j:Int))) j :=
 ⟨h.gw.setCell hb _,h.ep.other _ _ n1,h.lx.other _ _ n2,h.er.other _ _ n3,h.hx.set _⟩
def sB (eps:Int) (L:List (List Sg)) (i:Nat) (g:Nat->Int) (m:Nat):Int:=if i<L.length then kS eps g m (L.drop i) else if i=0 then 0 else if (L.getD (i-1) []).length=1 then 0 else 84
def VW (w0:World) (bp bl be bh:Nat) (eps:Int) (lo:Option Addr) (lc:Nat) (L:List (List Sg)) (E:Int) (r:Nat) (W:World) (bo:Option Addr) (m c:Nat) (g:Nat->Int):Prop :=
 ∃ i,CI w0 bp bl be bh eps lo lc L W i/\KS W bo m g/\Up g m/\m<=2000000/\m<=c/\i<=L.length/\(i<L.length->0<m)/\E=sB eps L i g m/\L.length+1-i<=r
def JH (w0:World) (bp bl be bh:Nat) (eps:Int) (lo:Option Addr) (lc:Nat) (L:List (List Sg)) (E:Int) (W:World):Prop:=CI w0 bp bl be bh eps lo lc L W L.length/\E=if L.length=0 then 0 else if (L.getD (L.length-1) []).length=1 then 0 else 84
def Bz (w0:World) (be:Nat) (E:Int) (ch:List PanicEntry) (W:World):Prop:=ch=gO E/\Gw w0 W/\aH W be (.int .i64 0) 25
theorem ae2 (M:gh) (w0:World) (bp bl be bh:Nat) (eps:Int) (lo:Option Addr) (lc:Nat) (L:List (List Sg)) (E:Int) (hL:kT L) (hv:VS w0 lo L) (n1:bp≠bh) (n2:bl≠bh) (n3:be≠bh) (hb:w0.heap.size<=bh) :
  Bu 122 (fun v=>#[v,.pointer (some ⟨bh,0,none⟩),.pointer (some ⟨bl,0,none⟩),.pointer (some ⟨bp,0,none⟩)]) (VW w0 bp bl be bh eps lo lc L E) (JH w0 bp bl be bh eps lo lc L E) (Bz w0 be E):=by
 rintro r W bo m c g ⟨i,oE,hK,hU,m1,mc,hi,hm,hE,hr⟩;have HC:ag _:=oE;have HK:ag _:=hK;have UP:ag _:=hU;have HV:ag _:=hv;have HL:ag _:=hL;have HE:ag _:=hE;have cl:=oE.lx.cell;have ll:=oE.lx.lt;have cp:=oE.ep.cell;have lp:=oE.ep.lt;have ch:=oE.hx.cell;have fh:=oE.hx.fz;have lh:=oE.hx.lt;have NL:ag _:=fun (ao:Option Addr) (cl:Nat) (l:List Sg) (hl:l.length<=4000000) (w:World) (k:KS w bo m g) (h:GS w ao l)=>ac9 M eps bo m c g (by omega) mc UP.o ao cl l hl w k h
 have hLn:=hL.1;obtain ⟨ln,aA⟩:∃ ln,L.length=ln:=⟨_,rfl⟩;have LN:ag _:=aA;rw [aA] at cl hi hm hr hLn;clear aA oE hK hU hv hE hL M;by_cases dJ:i<ln
 ·have z0:((i:Int) == (ln:Int))=false:=by simp;omega
  have z1:¬ i=ln:=by omega
  obtain ⟨lb,lf,rfl,pf,hc⟩:=HV.o.cells (by rw [LN.o];omega)
  obtain ⟨so,sc,eP,q2,q3,q4⟩:=hc i (by rw [LN.o];exact dJ)
  have q1:=(HC.o.gw.cell _ _ pf).trans eP;have fs:=Nat.lt_of_lt_of_le pf HC.o.gw.size;have lbh:¬ lb=bh:=by omega
  clear eP pf;have sl:=HL.o.2 i (by rw [LN.o];exact dJ)
  have ED:ag (E=kS eps g m (L.getD i []::L.drop (i+1))):=by
   have:=HE.o
   unfold sB at this;rw [if_pos (by rw [LN.o];exact dJ),Zp (by rw [LN.o];exact dJ)] at this
   exact this
  have EF:ag (i+1=ln->L.drop (i+1)=[]):=fun q=>List.drop_eq_nil_of_le (by rw [LN.o];omega)
  have EG:ag (i+1<ln->L.drop (i+1)≠[]):=fun q e=>by have:=congrArg List.length e;rw [List.length_drop,LN.o] at this;simp at this;omega
  have ym:ag (L.getD (i+1-1) []=L.getD i []):=rfl;clear hc HE;obtain ⟨l,hl⟩:∃ l,L.getD i []=l:=⟨_,rfl⟩;rw [hl] at q1 q2 q3 q4 sl ED ym;have GL:ag (GS w0 so l):=q4;have JI:=NL.o so sc l (by omega)
  obtain ⟨sn,ja⟩:∃ sn,l.length=sn:=⟨_,rfl⟩;have SN:ag _:=ja;rw [ja] at q1 q2 q3 sl JI;have NH:ag (∀ W,KS W bo m g->GS W so l->_):=fun W k h=>JI W k h
  clear hl ja q4 NL JI;have wi:IntKind.i64.wrap ((i:Int)+1)=((i+1:Nat):Int):=by rw [IntKind.wrap_i64];omega
  go_enter func122,ntmps122;have C2:ag (CI w0 bp bl be bh eps (some ⟨lb,lf,none⟩) lc L (W.setCell ⟨bh,0,none⟩ (.int .i64 ((i:Int)+1))) (i+1)):=HC.o.up n1 n2 n3 hb (i+1);have K2:ag (KS (W.setCell ⟨bh,0,none⟩ (.int .i64 ((i:Int)+1))) bo m g):=ae1 HK.o HC.o.hx _;go_wp2_with fail;generalize W.setCell ⟨bh,0,none⟩ (.int .i64 ((i:Int)+1))=W2 at C2 K2 ⊢;refine (NH.o _ K2.o (GL.o.gw C2.o.gw)).mono ?_;rintro e w3 ⟨he,g3⟩;have C3:ag _:=C2.o.mono g3;have m0:0<m:=hm dJ;clear g3 NH;by_cases tb:dk m 0 l=true
  ·have ne:l.isEmpty=false:=by
    cases l with
    | nil=>have:=CF.1 tb;omega
    | cons s l=>rfl
   have EI:E=if dV eps g l≠0 then dV eps g l else yV eps l (L.drop (i+1)):=by
    rw [ED.o,Lo,if_neg (by rw [tb,ne];decide)]
   unfold AS at he;rw [if_pos tb] at he;rcases he with ⟨v0,rfl⟩ | ⟨v0,rfl⟩
   ·rw [if_neg (fun q=>q v0)] at EI
    have ER:ag _:=EI;have VX:=CJ.1 v0;have UN:ag _:=(nJ UP.o tb (fun s hs=>(kR.1 (VX s hs)).2.1)).1
    have VY:0<sn:=by
     rw [<-SN.o];cases l with
     | nil=>cases ne
     | cons s l=>simp
    have NX:ag (E=sB eps L (i+1) (aW l) l.length):=by
     show E=_;unfold sB;by_cases q:i+1<ln
     ·rw [if_pos (by rw [LN.o];exact q),ER.o]
      unfold yV;rw [if_neg (EG.o q)]
     ·rw [if_neg (by rw [LN.o];exact q),if_neg (by omega),ym.o,ER.o]
      unfold yV;rw [if_pos (EF.o (by omega))]
    clear EI ER VX tb ne ED EF EG ym v0;go_wp2_with fail;go_ret;exact .inr (.inl ⟨so,sc,l,r-1,by rw [SN.o];rfl,by rw [SN.o];exact VY,by rw [SN.o];omega,GL.o.gw C3.o.gw,by omega,fun b9 w9 g9 k9=>⟨i+1,C3.o.mono g9,k9,UN.o,by rw [SN.o];omega,Nat.le_refl _,by rw [LN.o];omega,fun _=>by rw [SN.o];exact VY,NX.o,by rw [LN.o];omega⟩⟩)
   ·rw [if_pos v0] at EI
    have R:ag (Bz w0 be E (gO (dV eps g l)) w3):=⟨by rw [EI],C3.o.gw,C3.o.er⟩
    clear EI ED EF EG ym v0 tb ne;generalize dV eps g l=EE at R ⊢;go_wp2_with fail;exact ⟨rfl,.inr (.inr ⟨_,rfl,R.o⟩)⟩
  ·have tf:dk m 0 l=false:=by simpa using tb
   have EI:E=82:=by rw [ED.o,Lo,if_pos (by rw [tf];rfl)]
   unfold AS at he;rw [if_neg tb] at he;obtain rfl:e=.panicked (gO 82):=by
    rcases he with ⟨q,_⟩ | ⟨_,q⟩
    ·exact absurd q (by decide)
    ·exact q
   have R:ag (Bz w0 be E (gO 82) w3):=⟨by rw [EI],C3.o.gw,C3.o.er⟩
   clear EI ED EF EG ym tb tf he;go_wp2_with fail;exact ⟨rfl,.inr (.inr ⟨_,rfl,R.o⟩)⟩
 ·have ei:i=ln:=by omega
  subst ei;have R:ag (JH w0 bp bl be bh eps lo lc L E W):=by
   refine ⟨by rw [LN.o];exact HC.o,?_⟩
   have:=HE.o
   unfold sB at this;rw [if_neg (by rw [LN.o];omega)] at this
   rw [LN.o];exact this
  clear HE NL;go_enter func122,ntmps122;go_wp2_with fail;go_ret;exact .inl ⟨none,0,rfl,R.o⟩
theorem ae3 (M:gh) (eps:Int) (ao:Option Addr) (n cp:Nat) (f:Nat->Int) (lo:Option Addr) (lc:Nat) (L:List (List Sg)) (e0:-9223372036854775808<=eps) (e1:eps<9223372036854775808) (hn:n<=2000000) (cZ:n<=cp) (hS:kT L) (w:World) (hk:KS w ao n f) (hv:VS w lo L) :
  Calls prog 102 #[.slice ao n cp,.int .i64 eps,.slice lo L.length lc] w fun ex w'=>Zr ex eps f n L/\Gw w w':=by
 have hmf:∀ (fn:Fn) (first cap:Array Value) (w:World),(Instr.makeFunc fn first cap).run prog w=.ok (.func fn first cap) w:=fun _ _ _ _=>rfl
 have HK:ag _:=hk;have HV:ag _:=hv;have HS:ag _:=hS;have MM:ag gh:=M;have ui:=hS.1;clear hk hv hS M;have NB:ag (∀ W,KS W ao n f->_):=fun W h=>TY eps ao n cp f (by omega) W h
 have MX:ag (∀ W,Calls prog 121 #[.int .i64 4294967296,.int .i64 eps] W fun ex w'=>ex=.returned (.int .i64 (ma 4294967296 eps))/\w'=W):=fun W=>ac1 4294967296 eps (by decide) (by decide) e0 e1 W
 obtain ⟨H,hH⟩:∃ H,ma 4294967296 eps=H:=⟨_,rfl⟩;have HH:ag _:=hH;rw [hH] at MX;obtain ⟨ln,aA⟩:∃ ln,L.length=ln:=⟨_,rfl⟩;have LN:ag _:=aA;rw [aA] at ui ⊢;clear hH aA;go_enter_defers func102,ntmps102;go_wp2_with fail;have P3:ag (aH (((w.alloc (.cells #[.int .i64 eps] 3)).alloc (.cells #[.slice lo ln lc] 85)).alloc (.cells #[.int .i64 0] 25)) w.heap.size (.int .i64 eps) 3):=((aH.new w _ _).gw ((Gw.refl _).alloc _ _)).gw ((Gw.refl _).alloc _ _);have L3:ag (aH (((w.alloc (.cells #[.int .i64 eps] 3)).alloc (.cells #[.slice lo ln lc] 85)).alloc (.cells #[.int .i64 0] 25)) (w.heap.size+1) (.slice lo ln lc) 85):=by
  have:=(aH.new (w.alloc (.cells #[.int .i64 eps] 3)) (.slice lo ln lc) 85).gw ((Gw.refl _).alloc #[.int .i64 0] 25)
  simp at this;exact this
 have E3:ag (aH (((w.alloc (.cells #[.int .i64 eps] 3)).alloc (.cells #[.slice lo ln lc] 85)).alloc (.cells #[.int .i64 0] 25)) (w.heap.size+1+1) (.int .i64 0) 25):=by
  have:=aH.new ((w.alloc (.cells #[.int .i64 eps] 3)).alloc (.cells #[.slice lo ln lc] 85)) (.int .i64 0) 25
  simp at this;exact this
 have G3:ag (Gw w (((w.alloc (.cells #[.int .i64 eps] 3)).alloc (.cells #[.slice lo ln lc] 85)).alloc (.cells #[.int .i64 0] 25))):=(((Gw.refl w).alloc _ _).alloc _ _).alloc _ _;have Z3:ag (w.heap.size+3<=(((w.alloc (.cells #[.int .i64 eps] 3)).alloc (.cells #[.slice lo ln lc] 85)).alloc (.cells #[.int .i64 0] 25)).heap.size):=by show _<=_;simp
 generalize ((w.alloc (.cells #[.int .i64 eps] 3)).alloc (.cells #[.slice lo ln lc] 85)).alloc (.cells #[.int .i64 0] 25)=w3 at P3 L3 E3 G3 Z3 ⊢;obtain ⟨bp,j9⟩:∃ bp,w.heap.size=bp:=⟨_,rfl⟩;obtain ⟨bl,aX⟩:∃ bl,bp+1=bl:=⟨_,rfl⟩;obtain ⟨be,oD⟩:∃ be,bl+1=be:=⟨_,rfl⟩;have BB:ag (w.heap.size=bp/\bp+1=bl/\bl+1=be):=⟨j9,aX,oD⟩;rw [j9,aX] at L3;rw [j9,aX,oD] at E3;rw [j9] at P3;rw [j9,aX,oD];have ne:¬ bl=be:=by omega
 clear j9 aX oD;refine (NB.o _ (HK.o.gw G3.o)).mono ?_;rintro e w4 ⟨hb,g4⟩;have P4:ag (aH w4 bp (.int .i64 eps) 3):=P3.o.gw g4;have L4:ag (aH w4 bl (.slice lo ln lc) 85):=L3.o.gw g4;have E4:ag (aH w4 be (.int .i64 0) 25):=E3.o.gw g4;have G4:ag _:=G3.o.trans g4;have Z4:ag _:=Nat.le_trans Z3.o g4.size;clear g4 P3 L3 E3 G3 Z3 NB;rcases hb with ⟨k0,rfl⟩ | ⟨k0,k1,rfl⟩ | ⟨k0,k1,rfl⟩
 ·have R:ag (iU eps f n L 1):=.inl ⟨k0,rfl⟩
  clear k0;go_wp2_with fail;refine leaves_cons (f:=120) (args:=#[.pointer (some ⟨be,0,none⟩)]) (by simp) (by simp [go_sem]) ?_
  refine (uv be _ 1 _ E4.o.cell E4.o.fz).mono ?_;rintro e u' wz ⟨rfl,rfl,rfl⟩;have d5:=(aH.set E4.o (.int .i64 1)).cell;refine ⟨.int .i64 1,by simp [results,results102,go_sem,d5],⟨1,rfl,R.o⟩,?_⟩
  exact (G4.o).setCell (by show w.heap.size<=be;have:=BB.o;omega) _
 ·have R:ag (iU eps f n L 80):=.inr (.inl ⟨k0,k1,rfl⟩)
  clear k0 k1;go_wp2_with fail;refine leaves_cons (f:=120) (args:=#[.pointer (some ⟨be,0,none⟩)]) (by simp) (by simp [go_sem]) ?_
  refine (uv be _ 80 _ E4.o.cell E4.o.fz).mono ?_;rintro e u' wz ⟨rfl,rfl,rfl⟩;have d5:=(aH.set E4.o (.int .i64 80)).cell;refine ⟨.int .i64 80,by simp [results,results102,go_sem,d5],⟨80,rfl,R.o⟩,?_⟩
  exact (G4.o).setCell (by show w.heap.size<=be;have:=BB.o;omega) _
 ·have KE:ag ((2<=eps/\eps<=64)/\Up f n):=⟨k0,k1⟩
  have cl:=L4.o.cell;have ll:=L4.o.lt;have VZ:=P4.o.cell;have xM:=P4.o.lt;clear k0 k1;have JL:=MX.o w4.drew;have mL:w4.drew.cell? ⟨bl,0,none⟩=some (.slice lo ln lc):=cl;have hcq:w4.drew.cell? ⟨bp,0,none⟩=some (.int .i64 eps):=VZ;have E5:ag _:=E4.o;have G5:ag _:=G4.o.drew;by_cases hi:(ln:Int)<=H
  rotate_left
  ·have R:ag (iU eps f n L 81):=.inr (.inr (.inl ⟨KE.o.1,KE.o.2,fun q=>hi (by have:=q.1;rw [LN.o,HH.o] at this;exact this),rfl⟩))
   have ti:decide ((ln:Int)<=H)=false:=by simpa using hi
   clear hi;go_wp2_with fail;refine wp_region_still_tail 5 (by kernel_rfl) (by kernel_rfl) ?_
   change wpStill _ _ (World.drew w4) (fun a'=>wpList _ _ _ _ a' (World.drew w4)) _ _
   simp only [List.take_succ_cons,List.take_zero,List.drop_succ_cons,List.drop_zero]
   still_step
   still_step
   still_step
   still_call JL
   still_step
   refine wpStill_nil ?_;go_wp2_with fail;refine (ou 81 _).mono ?_;rintro e w6 ⟨rfl,e6⟩;have E6:ag (aH w6 be (.int .i64 0) 25):=by rw [e6];exact E4.o
   have G6:ag (Gw w w6):=by rw [e6];exact G4.o.drew
   clear e6;go_wp2_with fail;refine leaves_cons (f:=120) (args:=#[.pointer (some ⟨be,0,none⟩)]) (by simp) (by simp [go_sem]) ?_
   refine (uv be _ 81 _ E6.o.cell E6.o.fz).mono ?_;rintro e u' wz ⟨rfl,rfl,rfl⟩;have d5:=(aH.set E6.o (.int .i64 81)).cell;refine ⟨.int .i64 81,by simp [results,results102,go_sem,d5],⟨81,rfl,R.o⟩,?_⟩
   exact (G6.o).setCell (by show w.heap.size<=be;have:=BB.o;omega) _
  ·have ti:decide ((ln:Int)<=H)=true:=by simpa using hi
   have HI:ag _:=hi;clear hi;go_wp2_with fail;refine wp_region_still_tail 5 (by kernel_rfl) (by kernel_rfl) ?_
   change wpStill _ _ (World.drew w4) (fun a'=>wpList _ _ _ _ a' (World.drew w4)) _ _
   simp only [List.take_succ_cons,List.take_zero,List.drop_succ_cons,List.drop_zero]
   still_step
   still_step
   still_step
   still_call JL
   still_step
   refine wpStill_nil ?_;go_wp2_with fail;refine (jX 81 _).mono ?_;rintro e w6 ⟨rfl,e6⟩;have L6:ag (aH w6 bl (.slice lo ln lc) 85):=by rw [e6];exact L4.o
   have E6:ag (aH w6 be (.int .i64 0) 25):=by rw [e6];exact E4.o
   have P6:ag (aH w6 bp (.int .i64 eps) 3):=by rw [e6];exact P4.o
   have G6:ag (Gw w w6):=by rw [e6];exact G4.o.drew
   have Z6:ag (w.heap.size+3<=w6.heap.size):=by rw [e6];exact Z4.o
   have cl6:=L6.o.cell;have ll6:=L6.o.lt;clear e6 JL mL hcq E5 G5 cl ll VZ xM L4 E4 P4 G4 Z4 MX ti;go_wp2_with fail;obtain ⟨bb,iY⟩:∃ bb,(((ln:Int) == 0) == ((n:Int) == 0))=bb:=⟨_,rfl⟩;have HB:ag (bb=true↔(ln=0↔n=0)):=by
    show _↔_;rw [<-iY];by_cases x:ln=0
    ·by_cases y:n=0
     ·simp [x,y]
     ·simp [x,y]
    ·by_cases y:n=0
     ·simp [x,y]
     ·rw [show ((ln:Int) == 0)=false by simp;omega,show ((n:Int) == 0)=false by simp;omega];simp [x,y]
   generalize ((ln:Int) == 0)=bx at iY ⊢;generalize ((n:Int) == 0)=by_ at iY ⊢;rw [iY];clear iY;cases bb with
   | false =>
    have R:ag (iU eps f n L 81):=.inr (.inr (.inl ⟨KE.o.1,KE.o.2,fun q=>by have:=HB.o.2 (by have:=q.2;rw [LN.o] at this;exact this);simp at this,rfl⟩))
    refine (ou 81 _).mono ?_;rintro e w7 ⟨rfl,rfl⟩;go_wp2_with fail;refine leaves_cons (f:=120) (args:=#[.pointer (some ⟨be,0,none⟩)]) (by simp) (by simp [go_sem]) ?_
    refine (uv be _ 81 _ E6.o.cell E6.o.fz).mono ?_;rintro e u' wz ⟨rfl,rfl,rfl⟩;have d5:=(aH.set E6.o (.int .i64 81)).cell;refine ⟨.int .i64 81,by simp [results,results102,go_sem,d5],⟨81,rfl,R.o⟩,?_⟩
    exact (G6.o).setCell (by show w.heap.size<=be;have:=BB.o;omega) _
   | true =>
    have ZZ:ag _:=HB.o.1 rfl;obtain ⟨E,hE⟩:∃ E,kS eps f n L=E:=⟨_,rfl⟩;have RR:ag (iU eps f n L E):=.inr (.inr (.inr ⟨KE.o.1,KE.o.2,⟨by rw [LN.o,HH.o];exact HI.o,by rw [LN.o];exact ZZ.o⟩,hE.symm⟩))
    have HE:ag (E=sB eps L 0 f n):=by
     show E=_;unfold sB;by_cases x:0<L.length
     ·rw [if_pos x];exact hE.symm
     ·have:L=[]:=List.eq_nil_of_length_eq_zero (by omega)
      rw [if_neg x,if_pos rfl,<-hE,this];rfl
    clear hE HB;refine (jX 81 _).mono ?_;rintro e w7 ⟨rfl,rfl⟩;have C8:ag (CI w bp bl be w7.heap.size eps lo lc L (w7.alloc (.cells #[.int .i64 0] 3)) 0):=⟨G6.o.alloc _ _,P6.o.gw ((Gw.refl _).alloc _ _),by rw [LN.o];exact L6.o.gw ((Gw.refl _).alloc _ _),E6.o.gw ((Gw.refl _).alloc _ _),aH.new w7 _ _⟩
    have Z8:ag _:=Z6.o;go_wp2_with fail;generalize w7.alloc (.cells #[.int .i64 0] 3)=w8 at C8 ⊢;generalize w7.heap.size=bh at C8 Z8 ⊢;clear L6 E6 P6 G6 Z6 cl6 ll6;have V3:VW w bp bl be bh eps lo lc L E (ln+1) w8 ao n cp f:=⟨0,C8.o,HK.o.gw C8.o.gw,KE.o.2,hn,cZ,Nat.zero_le _,fun q=>by have:=ZZ.o;rw [LN.o] at q;omega,HE.o,by rw [LN.o];omega⟩
    have CB:=aeX (.pointer (some ⟨bh,0,none⟩)) (.pointer (some ⟨bl,0,none⟩)) (.pointer (some ⟨bp,0,none⟩)) _ _ _ (ae2 MM.o w bp bl be bh eps lo lc L E HS.o HV.o (by have:=BB.o;have:=Z8.o;omega) (by have:=BB.o;have:=Z8.o;omega) (by have:=BB.o;have:=Z8.o;omega) (by have:=BB.o;have:=Z8.o;omega)) (ln+1) ao n cp f w8 V3
    have yj:ag (Calls prog 81 #[.slice ao n cp,.func (.func 122) #[] #[.pointer (some ⟨bh,0,none⟩),.pointer (some ⟨bl,0,none⟩),.pointer (some ⟨bp,0,none⟩)]] w8 fun e w'=>(e=.returned (.tuple #[])/\JH w bp bl be bh eps lo lc L E w')\/(∃ ch,e=.panicked ch/\Bz w be E ch w')):=CB
    clear V3 CB;refine yj.o.mono ?_;clear yj MM;rintro e w9 (⟨rfl,hC,V4⟩ | ⟨ch,rfl,rfl,g9,b9⟩)
    ·have C9:ag (CI w bp bl be bh eps lo lc L w9 L.length):=hC
     have E9:ag _:=V4;rw [LN.o] at C9 E9;have cl9:=hC.lx.cell;have ll9:=hC.lx.lt;have ch9:=hC.hx.cell;have lh9:=hC.hx.lt;have ce9:=hC.er.cell;have fe9:=hC.er.fz;rw [LN.o] at cl9 ch9;clear hC V4;by_cases l0:ln=0
     ·have E0:E=0:=by rw [E9.o,if_pos l0]
      subst E0;have z0:((ln:Int) == 0)=true:=by simp;omega
      go_wp2_with fail;refine (jX 84 _).mono ?_
      rintro e kJ ⟨rfl,rfl⟩;go_wp2_with fail;refine leaves_cons (f:=120) (args:=#[.pointer (some ⟨be,0,none⟩)]) (by simp) (by simp [go_sem]) ?_
      refine (VO be _).mono ?_;rintro e u' wz ⟨rfl,rfl,rfl⟩;have d5:=(aH.set C9.o.er (.int .i64 0)).cell;refine ⟨.int .i64 0,by simp [results,results102,go_sem,d5],⟨0,rfl,RR.o⟩,?_⟩
      exact C9.o.gw.setCell (by show w.heap.size<=be;have:=BB.o;omega) _
     ·obtain ⟨lb,lf,rfl,fs,hc⟩:=(HV.o.gw C9.o.gw).cells (by rw [LN.o];omega)
      obtain ⟨so,sc,q1,_,_,_⟩:=hc (ln-1) (by rw [LN.o];omega)
      have sl:=HS.o.2 (ln-1) (by rw [LN.o];omega)
      have EE:=E9.o;rw [if_neg l0] at EE;clear hc;generalize (L.getD (ln-1) []).length=sn at q1 sl EE;have wi:IntKind.i64.wrap ((ln:Int)-1)=((ln-1:Nat):Int):=by rw [IntKind.wrap_i64];omega
      obtain ⟨i1,wJ⟩:∃ i1,ln-1=i1:=⟨_,rfl⟩;rw [wJ] at q1 wi;have lt1:i1<ln:=by omega
      have z0:((ln:Int) == 0)=false:=by simp;omega
      clear wJ;by_cases s1:sn=1
      ·have E0:E=0:=by rw [EE,if_pos s1]
       subst E0 s1;clear EE;go_wp2_with fail;refine (jX 84 _).mono ?_;rintro e kJ ⟨rfl,rfl⟩;go_wp2_with fail;refine leaves_cons (f:=120) (args:=#[.pointer (some ⟨be,0,none⟩)]) (by simp) (by simp [go_sem]) ?_
       refine (VO be _).mono ?_;rintro e u' wz ⟨rfl,rfl,rfl⟩;have d5:=(aH.set C9.o.er (.int .i64 0)).cell;refine ⟨.int .i64 0,by simp [results,results102,go_sem,d5],⟨0,rfl,RR.o⟩,?_⟩
       exact C9.o.gw.setCell (by show w.heap.size<=be;have:=BB.o;omega) _
      ·have E0:E=84:=by rw [EE,if_neg s1]
       subst E0;have z1:((sn:Int) == 1)=false:=by simp;omega
       clear EE;go_wp2_with fail;refine (ou 84 _).mono ?_;rintro e kJ ⟨rfl,rfl⟩;go_wp2_with fail;refine leaves_cons (f:=120) (args:=#[.pointer (some ⟨be,0,none⟩)]) (by simp) (by simp [go_sem]) ?_
       refine (uv be _ 84 _ C9.o.er.cell C9.o.er.fz).mono ?_;rintro e u' wz ⟨rfl,rfl,rfl⟩;have d5:=(aH.set C9.o.er (.int .i64 84)).cell;refine ⟨.int .i64 84,by simp [results,results102,go_sem,d5],⟨84,rfl,RR.o⟩,?_⟩
       exact (C9.o.gw).setCell (by show w.heap.size<=be;have:=BB.o;omega) _
    ·have G9:ag (Gw w w9):=g9
     have B9:ag (aH w9 be (.int .i64 0) 25):=b9;clear g9 b9;go_wp2_with fail;refine leaves_cons (f:=120) (args:=#[.pointer (some ⟨be,0,none⟩)]) (by simp) (by simp [go_sem]) ?_
     refine (uv be _ E _ B9.o.cell B9.o.fz).mono ?_;rintro e u' wz ⟨rfl,rfl,rfl⟩;have d5:=(aH.set B9.o (.int .i64 E)).cell;refine ⟨.int .i64 E,by simp [results,results102,go_sem,d5],⟨E,rfl,RR.o⟩,?_⟩
     exact (G9.o).setCell (by show w.heap.size<=be;have:=BB.o;omega) _
theorem ae4:CZ:=ae0 ad2 Jz
end Go.Proofs.YtklkpldicbkjeaaGreat
