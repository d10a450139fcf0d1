/- Package levels: cover. -/
import Derived.StillTailTactics
import Derived.Test.YtemijdhemdhclaaGreatNVBuild
import Derived.Test.YtemijdhemdhclaaGreatNPXc
import Derived.Test.YtemijdhemdhclaaGreatNPXo
set_option linter.unusedVariables false
set_option maxHeartbeats 4000000
set_option maxRecDepth 10000
open Go.Proofs.Tryz
namespace Go.Proofs.YtemijdhemdhclaaGreat
open Go.RowKit
attribute [local go_sem] run_store_float
abbrev zsg:Array Value:=#[.int .u64 0,.float .f64 0,.float .f64 0,.int .i64 0,.int .i64 0]
theorem made_flat:∀ n:Nat,(List.range (n*5)).map (fun i=>zsg[i%5]!)=(List.replicate n sg0).flatMap sgc:=by
 intro n;induction n with
 | zero=>rfl
 | succ n ih =>
  have e:(n+1)*5=n*5+5:=by omega
  have e2:∀ i,(n*5+i)%5=i%5:=fun i=>by omega
  rw [e,List.range_add,List.map_append,ih,List.map_map,List.replicate_succ',flat_one];congr 1;show (List.range 5).map (fun i=>zsg[(n*5+i)%5]!)=sgc sg0
  simp only [e2];rfl
theorem made_sr (w:World) (base n:Nat) (hb:base<=w.heap.size) (hn:n<=4000000):SR (w.alloc (.cells (madeCells zsg (n*5)) 170)) base (.slice (some ⟨w.heap.size,0,none⟩) n n) (List.replicate n sg0):=by
 show World.ownsRow _ _ _ _ _ _ _;rw [List.length_replicate];refine ⟨by rw [flat_len,List.length_replicate],.inr ⟨w.heap.size,n,madeCells zsg (n*5),rfl,hb,heap_alloc_new w _,Nat.le_refl _,by unfold maxLen;omega,size_madeCells _ _,?_⟩⟩
 rw [<-made_flat,List.take_of_length_le (by simp [madeCells])]
 simp [madeCells]
theorem set_next {l:List Sg} {k m:Nat} (hl:l.length=k) (s:Sg) (hk:k<m):(l++List.replicate (m-k) sg0).set k s=(l++[s])++List.replicate (m-(k+1)) sg0:=by
 rw [show m-k=(m-(k+1))+1 by omega,List.replicate_succ,List.set_append_right _ _ (by omega),hl,Nat.sub_self,List.append_assoc]
 rfl
theorem cover_any (C:CutC) (M:ModelC) (eps:Int) (k2:2<=eps) (k3:eps<=64) (bo:Option Addr) (m c:Nat) (g:Nat->Int) (m0:0<m) (m1:m<=2000000) (mc:m<=c) (u:Up g m) (w:World) (k:KS w bo m g) :
  Calls prog 106 #[.slice bo m c,.int .i64 eps] w fun e w'=>(∃ (b:Nat) (lv:List Sg),e=.returned (.slice (some ⟨b,0,none⟩) lv.length lv.length)/\LvlAt eps g m 0 lv/\SR w' w.heap.size (.slice (some ⟨b,0,none⟩) lv.length lv.length) lv/\(∀ j,j<lv.length->(lv.getD j sg0).ok))/\Gw w w':=by
 have HK:Aside _:=k;have UP:Aside _:=u;have KE:Aside (2<=eps/\eps<=64):=⟨k2,k3⟩;have CE:Hid (∀ W,KS W bo m g->_):=fun W h=>C.ends eps bo m c g (by omega) (by omega) m1 mc W h
 have MO:Hid _:=fun (fr:Nat) (hfr:fr<=m) (ao:Option Addr) (n cp:Nat) (f:Nat->Int) (hn:n<=2000000) (hcp:n<=cp) (W:World) (h:KS W ao n f)=>M.of eps (fr:Int) ao n cp f (by omega) (by omega) (by omega) (by omega) hn hcp W h
 clear k u C M;obtain ⟨bk,off,rfl,hbk,hkc⟩:=HK.out.cells m0;clear hkc hbk;go_enter func106,ntmps106;go_wp2_with fail;refine (CE.out _ HK.out).mono ?_;rintro e w1 ⟨⟨v1,es,err,rfl,hE,hI⟩,g1⟩;obtain ⟨EA,rfl⟩:EndsAt (eps-1) g m 0 es/\err=0:=by
  rcases hE with ⟨q,_⟩ | ⟨_,q,_⟩ | ⟨_,_,q,q'⟩
  ·exact absurd KE.out q
  ·exact absurd UP.out q
  ·exact ⟨q,q'⟩
 have ED:Aside _:=EA;have eln:=EA.len;obtain ⟨eo,ec,rfl,ei1,ei2⟩:=ir_slice hI;have e1':0<es.length:=List.length_pos_iff.2 (EA.nonempty m0);cases eo with
 | none=>have:=(ei1 rfl).1;rw [this] at e1';simp at e1'
 | some ea =>
  obtain ⟨eb,rfl,_,heb,hec⟩:=ei2 ea rfl;have EC:Aside (∀ W,Gw w1 W->∀ i,i<es.length->W.cell? ⟨eb,i,none⟩=some (.int .i64 ((es.getD i 0:Nat):Int))/\eb<W.heap.size):=fun W gW i hi=>⟨(gW.cell _ _ heb).trans (hec i hi),Nat.lt_of_lt_of_le heb gW.size⟩
  have G1:Aside _:=g1;clear hE EA hI ei1 ei2 hec g1 CE;obtain ⟨en,hen⟩:∃ en,es.length=en:=⟨_,rfl⟩;have EN:Aside _:=hen;rw [hen] at eln e1' ⊢;clear hen heb;obtain ⟨e9,rfl⟩:∃ e9,en=e9+1:=⟨en-1,by omega⟩
  have hmk:=made_sg e9 (by omega)
  have S4:Aside _:=made_sr w1 w.heap.size (e9+1) G1.out.size (by omega)
  have G4:Aside (Gw w (w1.alloc (.cells (madeCells zsg ((e9+1)*5)) 170))):=G1.out.alloc _ _;have H4:Aside (Gw w1 (w1.alloc (.cells (madeCells zsg ((e9+1)*5)) 170))):=(Gw.refl w1).alloc _ _;have B4:Aside _:=G1.out.size;have B5:Aside (w1.heap.size<=w1.heap.size):=Nat.le_refl _;go_wp2_with fail;refine (need_ok 0 _).mono ?_;rintro e w2 ⟨rfl,rfl⟩;go_wp2_with fail;generalize w2.alloc (.cells (madeCells zsg ((e9+1)*5)) 170)=w4 at S4 G4 H4 ⊢;obtain ⟨lb,hlb⟩:∃ lb,w2.heap.size=lb:=⟨_,rfl⟩;have B6:Aside (w2.heap.size<=lb):=by rw [<-hlb];exact Nat.le_refl _
  have B7:Aside (w.heap.size<=lb):=by rw [<-hlb];exact B4.out
  rw [hlb] at S4 ⊢;clear hlb B4 B5 G1 hmk;obtain ⟨en,hen⟩:∃ en,e9+1=en:=⟨_,rfl⟩;have hen':(e9:Int)+1=(en:Int):=by omega
  rw [hen] at S4 EN eln e1' ⊢;rw [hen'];clear hen hen';go_loopg [6,8,26] en (fun gg s6 s8 s26 wr=>∃ (i fr:Nat) (lv:List Sg),s6=.int .i64 0/\s8=.int .i64 fr/\s26=.int .i64 i/\i<=en/\en-i<=gg/\Aside (lv.length=i)/\Aside (fr=starts 0 es i)/\Aside (SR wr w.heap.size (.slice (some ⟨lb,0,none⟩) en en) (lv++List.replicate (en-i) sg0))/\Aside (∀ j,j<lv.length->(lv.getD j sg0).ok)/\Aside (∀ l',LvlAt eps g m fr l'->LvlAt eps g m 0 (lv++l'))/\Aside (Gw w wr)/\Aside (Gw w2 wr))
  case atStart=>exact ⟨0,0,[],rfl,rfl,rfl,Nat.zero_le _,by omega,(show Aside _ from rfl),(show Aside _ from rfl),S4,(show Aside _ from fun j hj=>by simp at hj),(show Aside _ from fun l' h=>h),G4,H4⟩
  case round =>
   clear S4 G4 H4;obtain ⟨i,fr,lv,rfl,rfl,rfl,j1,j2,LI,FR,SRr,OKr,PRE,GSr,GTr⟩:=hrel;have XL:(lv++List.replicate (en-i) sg0).length=en:=by rw [List.length_append,LI.out,List.length_replicate];omega
   by_cases ilt:i<en
   ·have ST:=ED.out.step i (by rw [EN.out];exact ilt)
    rw [<-FR.out] at ST;obtain ⟨ec1,ec2⟩:=EC.out _ GTr.out i (by rw [EN.out];exact ilt)
    obtain ⟨ei,hei⟩:∃ ei,es.getD i 0=ei:=⟨_,rfl⟩;rw [hei] at ST ec1;obtain ⟨s1,s2,s3,s4,_⟩:=ST;have FN:Aside _:=hei;clear hei;have tc:ei<=c:=by omega
    have cf:¬ c=fr:=by omega
    have fc:¬ fr=c:=by omega
    have i1:(0:Int)<=(fr:Int):=by omega
    have i2:(fr:Int)<=(ei:Int):=by omega
    have i3:(ei:Int)<=(c:Int):=by omega
    have fe:fr<=ei:=by omega
    go_wp2_with fail;refine (MO.out fr (by omega) _ (ei-fr) (c-fr) (sh g fr) (by omega) (by omega) _ (ks_cut (HK.out.gw GSr.out) s2)).mono ?_
    rintro ex w5 ⟨⟨k5,sl5,ic5,F5,T5,er5,rfl,hS5⟩,g5⟩;obtain rfl:=seg_ok hS5 KE.out (by omega) (sh_up UP.out s2) s3 (by omega) (by omega)
    have bd5:∀ t,t<ei-fr->0<=sh g fr t/\sh g fr t<18446744073709551616:=fun t ht=>HK.out.bd (fr+t) (by omega)
    have SA:Aside _:=hS5;have SO:Aside _:=hS5.ok (by omega) bd5
    have GS5:Aside (Gw w w5):=GSr.out.trans g5;have GT5:Aside (Gw w2 w5):=GTr.out.trans g5;have SK':Aside (SR w5 w.heap.size (.slice (some ⟨lb,0,none⟩) (lv++List.replicate (en-i) sg0).length en) (lv++List.replicate (en-i) sg0)):=by rw [XL];exact sr_gw SRr.out g5
    have cc:∀ r,r<5->w5.cell? ⟨lb,i*5+r,none⟩=some (flc (lv++List.replicate (en-i) sg0) (i*5+r)):=fun r hr=>by
     have h':w5.ownsRow w.heap.size 170 5 (.slice (some ⟨lb,0,none⟩) (lv++List.replicate (en-i) sg0).length en) (lv++List.replicate (en-i) sg0).length ((lv++List.replicate (en-i) sg0).flatMap sgc):=SK'.out;rw [h'.cellAt _ (by omega)]
     exact flc_get _ _ (by omega)
    have fz:∀ r,w5.frozen? ⟨lb,r,none⟩=false:=fun r=>World.ownsRow.frozenAt SK'.out r
    have x0:=cc 0 (by decide)
    have x1:=cc 1 (by decide)
    have x2:=cc 2 (by decide)
    have x3:=cc 3 (by decide)
    have x4:=cc 4 (by decide)
    rw [Nat.add_zero] at x0;have y0:=fz (i*5);have y1:=fz (i*5+1);have y2:=fz (i*5+2);have y3:=fz (i*5+3);have y4:=fz (i*5+4);generalize flc (lv++List.replicate (en-i) sg0) (i*5)=z0 at x0;generalize flc (lv++List.replicate (en-i) sg0) (i*5+1)=z1 at x1;generalize flc (lv++List.replicate (en-i) sg0) (i*5+2)=z2 at x2;generalize flc (lv++List.replicate (en-i) sg0) (i*5+3)=z3 at x3;generalize flc (lv++List.replicate (en-i) sg0) (i*5+4)=z4 at x4;have S9:Aside (SR (put5 w5 lb (i*5) ⟨k5,sl5,ic5,F5,T5⟩) w.heap.size (.slice (some ⟨lb,0,none⟩) en en) ((lv++[⟨k5,sl5,ic5,F5,T5⟩])++List.replicate (en-(i+1)) sg0)):=by
     have r:=sr_put SK'.out (k:=i) (by omega) ⟨k5,sl5,ic5,F5,T5⟩
     rw [set_next LI.out _ ilt] at r;have el:((lv++[(⟨k5,sl5,ic5,F5,T5⟩:Sg)])++List.replicate (en-(i+1)) sg0).length=en:=by rw [List.length_append,List.length_append,LI.out,List.length_replicate];simp;omega
     rw [el] at r;exact r
    have GS9:Aside (Gw w (put5 w5 lb (i*5) ⟨k5,sl5,ic5,F5,T5⟩)):=put5_gw GS5.out B7.out;have GT9:Aside (Gw w2 (put5 w5 lb (i*5) ⟨k5,sl5,ic5,F5,T5⟩)):=put5_gw GT5.out B6.out;have LI7:Aside ((lv++[(Sg.mk k5 sl5 ic5 F5 T5)]).length=i+1):=by show (lv++[_]).length=i+1;rw [List.length_append,LI.out];rfl
    have OK7:Aside (∀ j,j<(lv++[(Sg.mk k5 sl5 ic5 F5 T5)]).length->((lv++[(Sg.mk k5 sl5 ic5 F5 T5)]).getD j sg0).ok):=fun j hj=>by
     rw [LI7.out] at hj;by_cases x:j<lv.length
     ·rw [show (lv++[(Sg.mk k5 sl5 ic5 F5 T5)]).getD j sg0=lv.getD j sg0 by simp [List.getD,List.getElem?_append_left x]]
      exact OKr.out j x
     ·have e:j=lv.length:=by have:=LI.out;omega
      rw [show (lv++[(Sg.mk k5 sl5 ic5 F5 T5)]).getD j sg0=(Sg.mk k5 sl5 ic5 F5 T5) by subst e;simp [List.getD]]
      exact SO.out
    have PR7:Aside (∀ l',LvlAt eps g m ei l'->LvlAt eps g m 0 ((lv++[(Sg.mk k5 sl5 ic5 F5 T5)])++l')):=fun l' h=>by
     rw [List.append_assoc];exact PRE.out ((Sg.mk k5 sl5 ic5 F5 T5)::l') ⟨ei,⟨s1,s2,s3,s4⟩,SA.out,h⟩
    have FR7:Aside _:=FN.out.symm;have lbl:lb<w5.heap.size:=(sr_lt SK'.out lb rfl).2;clear hS5 bd5 g5 GSr GTr SRr ec1 ec2 cc fz SK' s3 s4 OKr PRE SA XL;go_wp2_with fail;refine (need_ok 0 _).mono ?_;rintro e w6 ⟨rfl,rfl⟩;go_wp2_with fail;go_roundg (en-(i+1))
    case measure=>omega
    case rel=>exact ⟨i+1,ei,lv++[(Sg.mk k5 sl5 ic5 F5 T5)],rfl,rfl,by go_num,by omega,Nat.le_refl _,LI7,FR7,S9,OK7,PR7,GS9,GT9⟩
   ·have ei:i=en:=by omega
    subst ei;have frm:fr=m:=by
     rw [FR.out];obtain ⟨i',hi'⟩:∃ i',i=i'+1:=⟨i-1,by omega⟩
     have:=(ED.out.last i' (by rw [EN.out];omega)).2 (by rw [EN.out];omega)
     rw [hi'];exact this
    have LVL:Aside (LvlAt eps g m 0 lv):=by
     have:=PRE.out [] frm
     rwa [List.append_nil] at this
    have S9:Aside (SR wr w.heap.size (.slice (some ⟨lb,0,none⟩) lv.length lv.length) lv):=by
     have:=SRr.out
     rw [Nat.sub_self,List.replicate_zero,List.append_nil] at this;rw [LI.out];exact this
    have LE:Aside (Ending.returned (.slice (some ⟨lb,0,none⟩) i i)=Ending.returned (.slice (some ⟨lb,0,none⟩) lv.length lv.length)):=by show _=_;rw [LI.out]
    clear PRE SRr frm;go_wp2_with fail;go_ret;exact ⟨⟨lb,lv,LE.out,LVL.out,S9.out,OKr.out⟩,GSr.out⟩
end Go.Proofs.YtemijdhemdhclaaGreat
namespace Go.Proofs.YtemijdhemdhclaaGreat
open Go.RowKit
def OverC (K:Nat) (args:Value->Array Value) (I:Nat->World->Option Addr->Nat->Nat->(Nat->Int)->Prop) (Q:World->Prop) (X:List PanicEntry->World->Prop):Prop :=
 ∀ (r:Nat) (W:World) (bo:Option Addr) (m c:Nat) (g:Nat->Int),I r W bo m c g->Calls prog K (args (.slice bo m c)) W fun e w' =>
  (∃ (ao:Option Addr) (lc:Nat),e=.returned (.slice ao 0 lc)/\Q w') \/
  (∃ (ao:Option Addr) (lc:Nat) (lv:List Sg) (r':Nat),e=.returned (.slice ao lv.length lc)/\0<lv.length/\lv.length<=4000000/\GS w' ao lv/\r'<r/\∀ (b:Nat) (w'':World),Gw w' w''->KS w'' (some ⟨b,0,none⟩) lv.length (fst8 lv)->I r' w'' (some ⟨b,0,none⟩) lv.length lv.length (fst8 lv)) \/
  (∃ ch,e=.panicked ch/\X ch w')
theorem climb_build (p0 p1:Value) (I:Nat->World->Option Addr->Nat->Nat->(Nat->Int)->Prop) (Q:World->Prop) (X:List PanicEntry->World->Prop) (O:OverC 105 (fun v=>#[v,p0,p1]) I Q X) (r:Nat) (bo:Option Addr) (m c:Nat) (g:Nat->Int) (w:World) (h:I r w bo m c g) :
  Calls prog 104 #[.slice bo m c,.func (.func 105) #[] #[p0,p1]] w fun e w'=>(e=.returned (.tuple #[])/\Q w')\/(∃ ch,e=.panicked ch/\X ch w'):=by
 have HI:Aside _:=h;have HO:Hid _:=O;have FI:Hid _:=fun (ao:Option Addr) (c:Nat) (l:List Sg) (hl:l.length<=4000000) (w:World) (h:GS w ao l)=>firsts_any ao c l hl w h
 clear h O;go_enter func104,ntmps104;go_wp2_with fail;refine (HO.out r _ bo m c g HI.out).mono ?_;clear HI;rintro e w1 (⟨ao,lc,rfl,hq⟩ | ⟨ao,lc,lv,r1,rfl,l0,l1,hG,hr,hI⟩ | ⟨ch,rfl,hx⟩)
 ·have HQ:Aside (Q w1):=hq
  clear hq;go_wp2_with fail;go_loopg [4] 0 (fun gg s4 wr=>s4=.slice ao 0 lc/\Aside (Q wr))
  case atStart=>exact ⟨rfl,HQ⟩
  case round =>
   obtain ⟨rfl,HQ⟩:=hrel;go_wp2_with fail;go_end0;exact .inl ⟨rfl,HQ.out⟩
 ·have LV:Aside (0<lv.length/\lv.length<=4000000):=⟨l0,l1⟩
  have HG:Aside _:=hG;have HN:Aside _:=hI;obtain ⟨ln,hln⟩:∃ ln,lv.length=ln:=⟨_,rfl⟩;have LN:Aside _:=hln;rw [hln];clear hG hI l0 l1 hln;go_wp2_with fail;go_loopg [4] r (fun gg s4 wr=>∃ (ao:Option Addr) (lc ln:Nat),s4=.slice ao ln lc/\((ln=0/\Aside (Q wr))\/(0<ln/\∃ (lv:List Sg) (r':Nat),r'<gg/\Aside (lv.length=ln)/\Aside (lv.length<=4000000)/\Aside (GS wr ao lv)/\Aside (∀ (b:Nat) (w'':World),Gw wr w''->KS w'' (some ⟨b,0,none⟩) lv.length (fst8 lv)->I r' w'' (some ⟨b,0,none⟩) lv.length lv.length (fst8 lv)))))
  case atStart=>exact ⟨ao,lc,ln,rfl,.inr ⟨by rw [<-LN.out];exact LV.out.1,lv,r1,hr,LN,(show Aside _ from LV.out.2),HG,HN⟩⟩
  case round =>
   clear LV HG HN LN;obtain ⟨ao,lc,ln,rfl,⟨rfl,HQ⟩ | ⟨l0,lv,r2,hr2,LN,LL,HG,HN⟩⟩:=hrel
   ·go_wp2_with fail
    go_end0
    exact .inl ⟨rfl,HQ.out⟩
   ·have FI':Hid (∀ W,GS W ao lv->Calls prog 116 #[.slice ao ln lc] W fun e w'=>(∃ b,e=.returned (.slice (some ⟨b,0,none⟩) lv.length lv.length)/\W.heap.size<=b/\KS w' (some ⟨b,0,none⟩) lv.length (fst8 lv))/\Gw W w'):=fun W h=>by
     have:=FI.out ao lc lv LL.out W h
     rw [LN.out] at this ⊢;exact this
    have t0:decide ((0:Int)<(ln:Int))=true:=by simp;omega
    go_wp2_with fail;refine (FI'.out _ HG.out).mono ?_
    rintro e w3 ⟨⟨b,rfl,hb,hk⟩,g3⟩;have HI3:Aside _:=HN.out b w3 g3 hk;clear hk g3 hb HN HG FI';generalize lv.length=q3 at HI3 ⊢;generalize fst8 lv=g3 at HI3;clear LN LL;go_wp2_with fail;refine (HO.out r2 _ _ _ _ _ HI3.out).mono ?_;clear HI3;rintro e w4 (⟨ao4,lc4,rfl,hq⟩ | ⟨ao4,lc4,lv4,r4,rfl,l4,l4',hG,hr4,hI⟩ | ⟨ch,rfl,hx⟩)
    ·have HQ:Aside (Q w4):=hq
     clear hq;go_wp2_with fail;go_roundg 0
     case measure=>omega
     case rel=>exact ⟨ao4,lc4,0,rfl,.inl ⟨rfl,HQ⟩⟩
    ·have LL4:Aside (lv4.length<=4000000):=l4'
     have HG4:Aside _:=hG;have HN4:Aside _:=hI;obtain ⟨ln4,hln⟩:∃ ln,lv4.length=ln:=⟨_,rfl⟩;have LN4:Aside _:=hln;rw [hln] at l4 ⊢;clear hG hI hln l4';go_wp2_with fail;go_roundg r2
     case measure=>omega
     case rel=>exact ⟨ao4,lc4,ln4,rfl,.inr ⟨l4,lv4,r4,hr4,LN4,LL4,HG4,HN4⟩⟩
    ·have HX:Aside (X ch w4):=hx
     clear hx;go_wp2_with fail;exact ⟨rfl,.inr ⟨ch,rfl,HX.out⟩⟩
 ·have HX:Aside (X ch w1):=hx
  clear hx;go_wp2_with fail;exact ⟨rfl,.inr ⟨ch,rfl,HX.out⟩⟩
theorem climb_check (p0 p1 p2:Value) (I:Nat->World->Option Addr->Nat->Nat->(Nat->Int)->Prop) (Q:World->Prop) (X:List PanicEntry->World->Prop) (O:OverC 134 (fun v=>#[v,p0,p1,p2]) I Q X) (r:Nat) (bo:Option Addr) (m c:Nat) (g:Nat->Int) (w:World) (h:I r w bo m c g) :
  Calls prog 104 #[.slice bo m c,.func (.func 134) #[] #[p0,p1,p2]] w fun e w'=>(e=.returned (.tuple #[])/\Q w')\/(∃ ch,e=.panicked ch/\X ch w'):=by
 have HI:Aside _:=h;have HO:Hid _:=O;have FI:Hid _:=fun (ao:Option Addr) (c:Nat) (l:List Sg) (hl:l.length<=4000000) (w:World) (h:GS w ao l)=>firsts_any ao c l hl w h
 clear h O;go_enter func104,ntmps104;go_wp2_with fail;refine (HO.out r _ bo m c g HI.out).mono ?_;clear HI;rintro e w1 (⟨ao,lc,rfl,hq⟩ | ⟨ao,lc,lv,r1,rfl,l0,l1,hG,hr,hI⟩ | ⟨ch,rfl,hx⟩)
 ·have HQ:Aside (Q w1):=hq
  clear hq;go_wp2_with fail;go_loopg [4] 0 (fun gg s4 wr=>s4=.slice ao 0 lc/\Aside (Q wr))
  case atStart=>exact ⟨rfl,HQ⟩
  case round =>
   obtain ⟨rfl,HQ⟩:=hrel;go_wp2_with fail;go_end0;exact .inl ⟨rfl,HQ.out⟩
 ·have LV:Aside (0<lv.length/\lv.length<=4000000):=⟨l0,l1⟩
  have HG:Aside _:=hG;have HN:Aside _:=hI;obtain ⟨ln,hln⟩:∃ ln,lv.length=ln:=⟨_,rfl⟩;have LN:Aside _:=hln;rw [hln];clear hG hI l0 l1 hln;go_wp2_with fail;go_loopg [4] r (fun gg s4 wr=>∃ (ao:Option Addr) (lc ln:Nat),s4=.slice ao ln lc/\((ln=0/\Aside (Q wr))\/(0<ln/\∃ (lv:List Sg) (r':Nat),r'<gg/\Aside (lv.length=ln)/\Aside (lv.length<=4000000)/\Aside (GS wr ao lv)/\Aside (∀ (b:Nat) (w'':World),Gw wr w''->KS w'' (some ⟨b,0,none⟩) lv.length (fst8 lv)->I r' w'' (some ⟨b,0,none⟩) lv.length lv.length (fst8 lv)))))
  case atStart=>exact ⟨ao,lc,ln,rfl,.inr ⟨by rw [<-LN.out];exact LV.out.1,lv,r1,hr,LN,(show Aside _ from LV.out.2),HG,HN⟩⟩
  case round =>
   clear LV HG HN LN;obtain ⟨ao,lc,ln,rfl,⟨rfl,HQ⟩ | ⟨l0,lv,r2,hr2,LN,LL,HG,HN⟩⟩:=hrel
   ·go_wp2_with fail
    go_end0
    exact .inl ⟨rfl,HQ.out⟩
   ·have FI':Hid (∀ W,GS W ao lv->Calls prog 116 #[.slice ao ln lc] W fun e w'=>(∃ b,e=.returned (.slice (some ⟨b,0,none⟩) lv.length lv.length)/\W.heap.size<=b/\KS w' (some ⟨b,0,none⟩) lv.length (fst8 lv))/\Gw W w'):=fun W h=>by
     have:=FI.out ao lc lv LL.out W h
     rw [LN.out] at this ⊢;exact this
    have t0:decide ((0:Int)<(ln:Int))=true:=by simp;omega
    go_wp2_with fail;refine (FI'.out _ HG.out).mono ?_
    rintro e w3 ⟨⟨b,rfl,hb,hk⟩,g3⟩;have HI3:Aside _:=HN.out b w3 g3 hk;clear hk g3 hb HN HG FI';generalize lv.length=q3 at HI3 ⊢;generalize fst8 lv=g3 at HI3;clear LN LL;go_wp2_with fail;refine (HO.out r2 _ _ _ _ _ HI3.out).mono ?_;clear HI3;rintro e w4 (⟨ao4,lc4,rfl,hq⟩ | ⟨ao4,lc4,lv4,r4,rfl,l4,l4',hG,hr4,hI⟩ | ⟨ch,rfl,hx⟩)
    ·have HQ:Aside (Q w4):=hq
     clear hq;go_wp2_with fail;go_roundg 0
     case measure=>omega
     case rel=>exact ⟨ao4,lc4,0,rfl,.inl ⟨rfl,HQ⟩⟩
    ·have LL4:Aside (lv4.length<=4000000):=l4'
     have HG4:Aside _:=hG;have HN4:Aside _:=hI;obtain ⟨ln4,hln⟩:∃ ln,lv4.length=ln:=⟨_,rfl⟩;have LN4:Aside _:=hln;rw [hln] at l4 ⊢;clear hG hI hln l4';go_wp2_with fail;go_roundg r2
     case measure=>omega
     case rel=>exact ⟨ao4,lc4,ln4,rfl,.inr ⟨l4,lv4,r4,hr4,LN4,LL4,HG4,HN4⟩⟩
    ·have HX:Aside (X ch w4):=hx
     clear hx;go_wp2_with fail;exact ⟨rfl,.inr ⟨ch,rfl,HX.out⟩⟩
 ·have HX:Aside (X ch w1):=hx
  clear hx;go_wp2_with fail;exact ⟨rfl,.inr ⟨ch,rfl,HX.out⟩⟩
theorem caught_build (bl be:Nat) (v0 v1:Value) (E:Int) (ne:¬ bl=be) (w:World) (h0:w.cell? ⟨bl,0,none⟩=some v0) (f0:w.frozen? ⟨bl,0,none⟩=false) (h1:w.cell? ⟨be,0,none⟩=some v1) (f1:w.frozen? ⟨be,0,none⟩=false) :
  CallsD prog 101 #[.pointer (some ⟨bl,0,none⟩),.pointer (some ⟨be,0,none⟩)] (.panicking (thrown E)) w fun e u' w' =>
   e=.returned (.tuple #[])/\u'=.panicking [{ v:=.iface 25 (.int .i64 E),recovered:=true }]/\w'=(w.setCell ⟨bl,0,none⟩ (.slice none 0 0)).setCell ⟨be,0,none⟩ (.int .i64 E):=by
 refine callsD_of_wpS func101 rfl fun c₀ cs hu=>?_
 apply wpS_seq
 apply wpS_region
 simp [wpOpsS,go_sem,recoverD,hu,ntmps101,Exit.thenS]
 apply wpS_seq
 apply wpS_region
 simp [wpOpsS,go_sem,recoverD,Exit.thenS]
 refine wpS_cond (t:=true) (by simp [Act.eval,Array.replicate]) ?_
 simp only [if_true];refine wpS_of_wp ?_;change Code.wp _ _ _ ⟨#[.pointer (some ⟨bl,0,none⟩),.pointer (some ⟨be,0,none⟩),.iface 25 (.int .i64 E),.iface 25 (.int .i64 E),.iface 25 (.int .i64 E),.bool true,undef,undef],[]⟩ w;go_wp2_with fail;refine (told8_any E _).mono ?_;rintro e w1 ⟨rfl,rfl⟩;go_wp2_with fail;simp [bodyPostS,results,results101,go_sem]
theorem idle_build (bl be:Nat) (w:World) :
  CallsD prog 101 #[.pointer (some ⟨bl,0,none⟩),.pointer (some ⟨be,0,none⟩)] .returning w fun e u' w'=>e=.returned (.tuple #[])/\u'=.returning/\w'=w:=by
 refine callsD_of_wpS func101 rfl fun c₀ cs hu=>?_
 apply wpS_seq
 apply wpS_region
 simp [wpOpsS,go_sem,recoverD,hu,ntmps101,Exit.thenS]
 apply wpS_seq
 apply wpS_region
 simp [wpOpsS,go_sem,recoverD,Exit.thenS]
 refine wpS_cond (t:=false) (by simp [Act.eval,Array.replicate]) ?_
 simp only [Bool.false_eq_true,if_false];refine wpS_of_wp (wp_skip ?_);cases c₀
 simp_all [bodyPostS,results,results101]
theorem caught_check (be:Nat) (v1:Value) (E:Int) (w:World) (h1:w.cell? ⟨be,0,none⟩=some v1) (f1:w.frozen? ⟨be,0,none⟩=false) :
  CallsD prog 132 #[.pointer (some ⟨be,0,none⟩)] (.panicking (thrown E)) w fun e u' w' =>
   e=.returned (.tuple #[])/\u'=.panicking [{ v:=.iface 25 (.int .i64 E),recovered:=true }]/\w'=w.setCell ⟨be,0,none⟩ (.int .i64 E):=by
 refine callsD_of_wpS func132 rfl fun c₀ cs hu=>?_
 apply wpS_seq
 apply wpS_region
 simp [wpOpsS,go_sem,recoverD,hu,ntmps132,Exit.thenS]
 apply wpS_seq
 apply wpS_region
 simp [wpOpsS,go_sem,recoverD,Exit.thenS]
 refine wpS_cond (t:=true) (by simp [Act.eval,Array.replicate]) ?_
 simp only [if_true];refine wpS_of_wp ?_;change Code.wp _ _ _ ⟨#[.pointer (some ⟨be,0,none⟩),.iface 25 (.int .i64 E),.iface 25 (.int .i64 E),.iface 25 (.int .i64 E),.bool true,undef,undef],[]⟩ w;go_wp2_with fail;refine (told8_any E _).mono ?_;rintro e w1 ⟨rfl,rfl⟩;go_wp2_with fail;simp [bodyPostS,results,results132,go_sem]
theorem idle_check (be:Nat) (w:World) :
  CallsD prog 132 #[.pointer (some ⟨be,0,none⟩)] .returning w fun e u' w'=>e=.returned (.tuple #[])/\u'=.returning/\w'=w:=by
 refine callsD_of_wpS func132 rfl fun c₀ cs hu=>?_
 apply wpS_seq
 apply wpS_region
 simp [wpOpsS,go_sem,recoverD,hu,ntmps132,Exit.thenS]
 apply wpS_seq
 apply wpS_region
 simp [wpOpsS,go_sem,recoverD,Exit.thenS]
 refine wpS_cond (t:=false) (by simp [Act.eval,Array.replicate]) ?_
 simp only [Bool.false_eq_true,if_false];refine wpS_of_wp (wp_skip ?_);cases c₀
 simp_all [bodyPostS,results,results132]
def Box (w:World) (b:Nat) (v:Value) (t:TypeId):Prop:=w.heap[b]?=some (.cells #[v] t (0,0))
theorem Box.lt {w:World} {b:Nat} {v:Value} {t:TypeId} (h:Box w b v t):b<w.heap.size:=(Array.getElem?_eq_some_iff.1 h).1
theorem Box.gw {w w':World} {b:Nat} {v:Value} {t:TypeId} (h:Box w b v t) (g:Gw w w'):Box w' b v t:=(g.below.block b h.lt).trans h
theorem Box.cell {w:World} {b:Nat} {v:Value} {t:TypeId} (h:Box w b v t):w.cell? ⟨b,0,none⟩=some v:=by unfold Box at h;simp [World.cell?,h]
theorem Box.fz {w:World} {b:Nat} {v:Value} {t:TypeId} (h:Box w b v t):w.frozen? ⟨b,0,none⟩=false:=by unfold Box at h;simp [World.frozen?,h]
theorem Box.new (w:World) (v:Value) (t:TypeId):Box (w.alloc (.cells #[v] t)) w.heap.size v t:=heap_alloc_new w _
theorem Box.set {w:World} {b:Nat} {v:Value} {t:TypeId} (h:Box w b v t) (u:Value):Box (w.setCell ⟨b,0,none⟩ u) b u t:=by
 unfold Box at *;simp [World.setCell,Array.getElem?_modify,h]
theorem Box.other {w:World} {b:Nat} {v:Value} {t:TypeId} (h:Box w b v t) (a:Addr) (u:Value) (e:b≠a.block):Box (w.setCell a u) b v t:=(Go.Deep.blk_setCell_other _ _ _ _ e).trans h
structure BI (w0:World) (bp bl be B:Nat) (eps:Int) (f:Nat->Int) (n:Nat) (W:World) (lo:Option Addr) (lc:Nat) (L:List (List Sg)) (vals:List Value):Prop where
 gw:Gw w0 W
 sz:B<=W.heap.size
 ep:Box W bp (.int .i64 eps) 3
 lx:Box W bl (.slice lo L.length lc) 134
 er:Box W be (.int .i64 0) 25
 own:OwnV W B (.slice lo L.length lc) L vals
 ok:Lok L
 le:L.length<=lc
 few:L.length<=n
theorem BI.mono {w0:World} {bp bl be B:Nat} {eps:Int} {f:Nat->Int} {n:Nat} {W W':World} {lo:Option Addr} {lc:Nat} {L:List (List Sg)} {vals:List Value} (h:BI w0 bp bl be B eps f n W lo lc L vals) (g:Gw W W'):BI w0 bp bl be B eps f n W' lo lc L vals :=
 ⟨h.gw.trans g,Nat.le_trans h.sz g.size,h.ep.gw g,h.lx.gw g,h.er.gw g,h.own.gw g,h.ok,h.le,h.few⟩
theorem BI.more {w0:World} {bp bl be B:Nat} {eps:Int} {f:Nat->Int} {n:Nat} {W w w':World} {oc:Array Value} {ot:TypeId} {lo:Option Addr} {lc:Nat} {L:List (List Sg)} {vals:List Value} {vl:Value} {lv:List Sg} {b8 cap8:Nat} (h:BI w0 bp bl be B eps f n W lo lc L vals) (g:Gw W w) (hs:SR w W.heap.size vl lv) (hok:∀ j,j<lv.length->(lv.getD j sg0).ok)
  (r1:w'.ownsRow B 163 1 (.slice (some ⟨b8,0,none⟩) (L.length+1) cap8) (L.length+1) (vals++[vl])) (r2:(w.alloc (.cells oc ot)).grownBy w' (Value.slice lo L.length lc).ownBlock) (r4:(Value.slice (some ⟨b8,0,none⟩) (L.length+1) cap8).ownBlock=(Value.slice lo L.length lc).ownBlock\/(Value.slice (some ⟨b8,0,none⟩) (L.length+1) cap8).ownBlock=some (w.heap.size+1))
  (n1:bl≠bp) (n2:bl≠be) (b1:bl<B) (b2:bp<B) (b3:be<B) (hb:w0.heap.size<=bl) (hB:w0.heap.size<=B) (hc:L.length+1<=cap8) (hf:L.length+1<=n) :
  BI w0 bp bl be B eps f n (w'.setCell ⟨bl,0,none⟩ (.slice (some ⟨b8,0,none⟩) (L.length+1) cap8)) (some ⟨b8,0,none⟩) cap8 (L++[lv]) (vals++[vl]):=by
 have ln:(L++[lv]).length=L.length+1:=by simp
 have ow:∀ q,(Value.slice lo L.length lc).ownBlock=some q->B<=q:=fun q hq=>(h.own.outer.lt q hq).1
 have keep:∀ q,q<w.heap.size->q<B->w'.heap[q]?=w.heap[q]?:=fun q hq hn=>(r2.block q (by simp;omega) (fun e=>by have:=ow q e.symm;omega)).trans (heap_alloc_old w _ hq)
 have bx:∀ {q:Nat} {v:Value} {t:TypeId},Box W q v t->q<B->Box w' q v t:=fun hx hq=>(keep _ (hx.gw g).lt hq).trans (hx.gw g)
 have gw':Gw w0 w':=((h.gw.trans g).alloc _ _).grown r2 (fun q hq=>Nat.le_trans hB (ow q hq))
 refine ⟨gw'.setCell hb _,?_,Box.other (bx h.ep b2) _ _ (fun e=>n1 e.symm),?_,Box.other (bx h.er b3) _ _ (fun e=>n2 e.symm),?_,?_,by rw [ln];exact hc,by rw [ln];exact hf⟩
 ·have:=r2.size;have:=g.size;have:=h.sz;simp at *;omega
 ·rw [ln];exact (bx h.lx b1).set _
 ·have:=OwnV.more h.own g hs h.sz r1 r2 r4
  rw [ln];exact this.keep fun q hq _=>Go.Deep.blk_setCell_other _ _ _ _ (by show q≠bl;omega)
 ·intro i hi j hj
  by_cases e:i<L.length
  ·rw [show (L++[lv]).getD i []=L.getD i [] by simp [List.getD,List.getElem?_append_left e]] at hj ⊢
   exact h.ok i e j hj
  ·have ei:i=L.length:=by omega
   subst ei;rw [show (L++[lv]).getD L.length []=lv by simp [List.getD]] at hj ⊢
   exact hok j hj
def Rest (eps:Int) (f:Nat->Int) (n:Nat) (L:List (List Sg)) (g:Nat->Int) (m:Nat):Prop:=∀ rr,(if L≠[]/\m=1 then rr=[] else BuildR eps g m rr)->BuildR eps f n (L++rr)
theorem Rest.next {eps:Int} {f:Nat->Int} {n:Nat} {L:List (List Sg)} {g:Nat->Int} {m:Nat} {lv:List Sg} (h:Rest eps f n L g m) (c:¬ (L≠[]/\m=1)) (m0:0<m) (l:LvlAt eps g m 0 lv):Rest eps f n (L++[lv]) (fst8 lv) lv.length:=fun rr hr=>by
 rw [List.append_assoc];refine h ([lv]++rr) ?_;rw [if_neg c];refine ⟨m0,l,?_⟩;by_cases e:lv.length=1
 ·rw [if_pos e];rw [if_pos ⟨by simp,e⟩] at hr;exact hr
 ·rw [if_neg e];rw [if_neg (fun q=>e q.2)] at hr;exact hr
theorem Rest.done {eps:Int} {f:Nat->Int} {n:Nat} {L:List (List Sg)} {g:Nat->Int} {m:Nat} (h:Rest eps f n L g m) (c:m=0\/(L≠[]/\m=1)):BuildR eps f n L:=by
 have:=h [] (by
  rcases c with rfl | c
  ·rw [if_neg (fun q=>by have:=q.2;omega)];exact rfl
  ·rw [if_pos c])
 rwa [List.append_nil] at this
def BIn (w0:World) (bp bl be B:Nat) (eps:Int) (f:Nat->Int) (n:Nat) (r:Nat) (W:World) (bo:Option Addr) (m c:Nat) (g:Nat->Int):Prop :=
 ∃ lo lc L vals,BI w0 bp bl be B eps f n W lo lc L vals/\KS W bo m g/\Up g m/\m<=2000000/\m<=c/\Rest eps f n L g m/\(if L=[] then m+1 else m)<=r/\L.length+r<=n+1
def BOut (w0:World) (bp bl be B:Nat) (eps:Int) (f:Nat->Int) (n:Nat) (W:World):Prop:=∃ lo lc L vals,BI w0 bp bl be B eps f n W lo lc L vals/\BuildR eps f n L
theorem over_build (C:CutC) (M:ModelC) (w0:World) (bp bl be B:Nat) (eps:Int) (f:Nat->Int) (n:Nat) (hn:n<=2000000) (k2:2<=eps) (k3:eps<=64) (n1:bl≠bp) (n2:bl≠be) (b1:bl<B) (b2:bp<B) (b3:be<B) (hb:w0.heap.size<=bl) (hB:w0.heap.size<=B) :
  OverC 105 (fun v=>#[v,.pointer (some ⟨bl,0,none⟩),.pointer (some ⟨bp,0,none⟩)]) (BIn w0 bp bl be B eps f n) (BOut w0 bp bl be B eps f n) (fun _ _=>False):=by
 rintro r W bo m c g ⟨lo,lc,L,vals,hBI,hK,hU,m1,mc,hR,hr1,hr2⟩;have HB:Aside (BI w0 bp bl be B eps f n W lo lc L vals):=hBI;have HK:Aside _:=hK;have UP:Aside _:=hU;have RS:Aside (Rest eps f n L g m):=hR;have CV:Hid _:=fun (m0:0<m) (W:World) (k:KS W bo m g)=>cover_any C M eps k2 k3 bo m c g m0 m1 mc UP.out W k
 have cl:=hBI.lx.cell;have fl:=hBI.lx.fz;have ll:=hBI.lx.lt;have cp:=hBI.ep.cell;have lp:=hBI.ep.lt;have R1:Aside ((if L=[] then m+1 else m)<=r/\L.length+r<=n+1):=⟨hr1,hr2⟩
 have NIL:Aside (L=[]↔L.length=0):=(List.length_eq_zero_iff).symm;clear hBI hK hU hR hr1 hr2 C M;obtain ⟨ln,hln⟩:∃ ln,L.length=ln:=⟨_,rfl⟩;have LN:Aside _:=hln;rw [hln] at cl;clear hln;by_cases m0:m=0
 ·have BR:Aside (BOut w0 bp bl be B eps f n W):=⟨lo,lc,L,vals,HB.out,RS.out.done (.inl m0)⟩
  subst m0;clear CV;go_enter func105,ntmps105;go_wp2_with fail;go_ret;exact .inl ⟨none,0,rfl,BR.out⟩
 ·have t0:((m:Int) == 0)=false:=by simp;omega
  have m0':0<m:=by omega
  by_cases c1:m=1/\0<ln
  ·have BR:Aside (BOut w0 bp bl be B eps f n W):=⟨lo,lc,L,vals,HB.out,RS.out.done (.inr ⟨fun q=>by have:=NIL.out.1 q;rw [LN.out] at this;omega,c1.1⟩)⟩
   have t1:((m:Int) == 1)=true:=by simp;omega
   have t2:decide ((0:Int)<(ln:Int))=true:=by simp;omega
   have t3:0<ln:=c1.2;clear CV c1 m0;go_enter func105,ntmps105;go_wp2_with fail;go_ret;exact .inl ⟨none,0,rfl,BR.out⟩
  ·have NC:Aside (¬ (L≠[]/\m=1)):=fun q=>c1 ⟨q.2,Nat.pos_of_ne_zero (fun e=>q.1 (NIL.out.2 (by rw [LN.out];exact e)))⟩
   obtain ⟨jj,hjj,jz,js,jby⟩:=info_parts info_sgs;have TT:(((m:Int) == 1)=true/\¬ 0<ln)\/((m:Int) == 1)=false:=by
    by_cases e:m=1
    ·exact .inl ⟨by simp;omega,by omega⟩
    ·exact .inr (by simp;omega)
   have wz:=HB.out.gw.size;clear c1 m0;rcases TT with ⟨t1,t2⟩ | t1
   all_goals go_enter func105,ntmps105
   all_goals go_wp2_with fail
   all_goals refine (CV.out m0' _ HK.out).mono ?_
   all_goals rintro e w2 ⟨⟨b,lv,rfl,hlv,hS,hok⟩,g2⟩
   all_goals have LVL:Aside (LvlAt eps g m 0 lv):=hlv
   all_goals have SV:Aside (SR w2 W.heap.size (.slice (some ⟨b,0,none⟩) lv.length lv.length) lv):=hS
   all_goals have OK:Aside (∀ j,j<lv.length->(lv.getD j sg0).ok):=hok
   all_goals have G2:Aside (Gw W w2):=g2
   all_goals have cl2:w2.cell? ⟨bl,0,none⟩=some (.slice lo ln lc):=(g2.cell _ _ ll).trans cl
   all_goals have ll2:bl<w2.heap.size:=Nat.lt_of_lt_of_le ll g2.size
   all_goals have OW:Aside (OwnV w2 B (.slice lo L.length lc) L vals):=HB.out.own.gw g2
   all_goals have OR:Aside (w2.ownsRow B 163 1 (.slice lo ln lc) ln vals):=by have:=OW.out.outer;rw [LN.out] at this;exact this
   all_goals have ln1:ln<=n:=by have:=HB.out.few;rw [LN.out] at this;exact this
   all_goals have sz2:B<=w2.heap.size:=Nat.le_trans HB.out.sz g2.size
   all_goals obtain ⟨vn,hvn⟩:∃ vn,lv.length=vn:=⟨_,rfl⟩
   all_goals have VN:Aside (lv.length=vn):=hvn
   all_goals rw [hvn]
   all_goals clear hlv hS hok g2 hvn cl ll cp lp fl
   all_goals go_wp2_with (at_builtin;refine wpList_append_own_at _ rfl _ _ 134 rfl B 163 jj (.slice none 0 0) 1 24 underlying134 hjj jz js jby rfl (by decide) _ ln _ rfl (OR.out.alloc _) ⟨w2.heap.size,0,none⟩ 1 1 [(.slice (some ⟨b,0,none⟩) vn vn)] rfl rfl (new_val w2 (.slice (some ⟨b,0,none⟩) vn vn) 163) (fun u hu=>by simp at hu;subst hu;rfl) (by simp only [maxLen];omega) (by omega) (by simp;omega) ?_)
   all_goals intro v' w7 r1 r2 r3 r4
   all_goals obtain ⟨b8,cap8,rfl,hb8,hc8,_⟩:=own_slice r1 r3
   all_goals have FW:=LVL.out.few k2 m0' m1 HK.out.bd UP.out
   all_goals have lvn:=LVL.out.len m1 HK.out.bd
   all_goals have lv0:0<vn:=by rw [<-VN.out];exact List.length_pos_iff.2 (LVL.out.some m0')
   all_goals have ow:∀ q,(Value.slice lo ln lc).ownBlock=some q->B<=q:=fun q hq=>(OR.out.lt q hq).1
   all_goals rw [VN.out] at FW lvn
   all_goals
    have rk:vn<r:=by
     have R2:=R1.out.1;by_cases e:L=[]
     ·rw [if_pos e] at R2;omega
     ·rw [if_neg e] at R2
      have mm:m≠1:=fun q=>NC.out ⟨e,q⟩
      by_cases x:vn=1
      ·omega
      ·have:=div_less (e:=eps.toNat) (by omega) (FW.2 x)
       have:=FW.1
       omega
   all_goals have rn:=R1.out.2
   all_goals rw [LN.out] at rn
   all_goals
    have B8:Aside (BI w0 bp bl be B eps f n (w7.setCell ⟨bl,0,none⟩ (.slice (some ⟨b8,0,none⟩) (ln+1) cap8)) (some ⟨b8,0,none⟩) cap8 (L++[lv]) (vals++[.slice (some ⟨b,0,none⟩) vn vn])):=by
     have:=BI.more (cap8:=cap8) (b8:=b8) (w':=w7) HB.out G2.out SV.out OK.out (by rw [LN.out,VN.out];exact r1) (by rw [LN.out];exact r2) (by rw [LN.out];exact r4) n1 n2 b1 b2 b3 hb hB (by rw [LN.out];exact hc8) (by rw [LN.out];omega)
     rw [LN.out,VN.out] at this;exact this
   all_goals have bW:W.heap.size<=b/\b<w2.heap.size:=sr_lt SV.out b rfl
   all_goals
    have G8:Aside (GS (w7.setCell ⟨bl,0,none⟩ (.slice (some ⟨b8,0,none⟩) (ln+1) cap8)) (some ⟨b,0,none⟩) lv):=by
     refine gs_blocks (sr_gs SV.out OK.out) ?_ ?_
     ·refine (Go.Deep.blk_setCell_other _ _ _ _ (by show b≠bl;have:=HB.out.lx.lt;omega)).trans ?_
      refine (r2.block b (by simp;omega) (fun e=>?_)).trans (heap_alloc_old w2 _ bW.2)
      have:=(HB.out.own.outer.lt b (by rw [LN.out];exact e.symm)).2
      omega
     ·have:=r2.size;simp at this ⊢;omega
   all_goals have NX:Aside (Rest eps f n (L++[lv]) (fst8 lv) lv.length):=RS.out.next NC.out m0' LVL.out
   all_goals have UN:Aside (Up (fst8 lv) lv.length):=(fst8_up UP.out (LVL.out.tiles m1 HK.out.bd) (LVL.out.keys m1 HK.out.bd)).1
   all_goals
    have cl7:w7.cell? ⟨bl,0,none⟩=some (.slice lo ln lc):=by
     have e:w7.heap[bl]?=w2.heap[bl]?:=(r2.block bl (by simp;omega) (fun e=>by have:=ow bl e.symm;omega)).trans (heap_alloc_old w2 _ ll2)
     exact (World.cell?_of_block (a:=⟨bl,0,none⟩) e).trans cl2
   all_goals
    have fl7:w7.frozen? ⟨bl,0,none⟩=false:=by
     have e:w7.heap[bl]?=w2.heap[bl]?:=(r2.block bl (by simp;omega) (fun e=>by have:=ow bl e.symm;omega)).trans (heap_alloc_old w2 _ ll2)
     exact (World.frozen?_of_block (a:=⟨bl,0,none⟩) e).trans (HB.out.lx.gw G2.out).fz
   all_goals have ll7:bl<w7.heap.size:=by have:=r2.size;simp at this;omega
   all_goals clear r1 r2 r3 r4 hb8 ow FW cl2 ll2 OW OR SV G2 OK
   all_goals go_wp2_with fail
   all_goals go_ret
   all_goals exact .inr (.inl ⟨some ⟨b,0,none⟩,vn,lv,lv.length,by rw [VN.out];rfl,by rw [VN.out];exact lv0,by rw [VN.out];omega,G8.out,by rw [VN.out];exact rk,fun b9 w9 g9 k9=>⟨_,_,_,_,B8.out.mono g9,k9,UN.out,by rw [VN.out];omega,Nat.le_refl _,NX.out,by rw [if_neg (by simp)];exact Nat.le_refl _,by rw [List.length_append,LN.out,VN.out];simp;omega⟩⟩)
theorem ownv_nil (w:World) (B:Nat):OwnV w B (.slice none 0 0) [] []:=⟨World.ownsRow_nil _ _ _ _,fun i hi=>by simp at hi,fun i hi=>by simp at hi⟩
theorem OwnV.base {w:World} {B B':Nat} {v:Value} {L:List (List Sg)} {vals:List Value} (h:OwnV w B v L vals) (hb:B'<=B):OwnV w B' v L vals:=by
 refine ⟨⟨h.outer.1,?_⟩,fun i hi=>⟨(h.rows i hi).1,?_⟩,h.apart⟩
 ·rcases h.outer.2 with q | ⟨b,cap,cur,e1,e2,e3⟩
  ·exact .inl q
  ·exact .inr ⟨b,cap,cur,e1,Nat.le_trans hb e2,e3⟩
 ·rcases (h.rows i hi).2 with q | ⟨b,cap,cur,e1,e2,e3⟩
  ·exact .inl q
  ·exact .inr ⟨b,cap,cur,e1,Nat.le_trans hb e2,e3⟩
theorem buildown_of (C:CutC) (M:ModelC):BuildOwn:=by
 intro eps ao n cp f e0 e1 hn hcp w hk;have hmf:∀ (fn:Fn) (first cap:Array Value) (w:World),(Instr.makeFunc fn first cap).run prog w=.ok (.func fn first cap) w:=fun _ _ _ _=>rfl
 have HK:Aside _:=hk;have CC:Aside (CutC/\ModelC):=⟨C,M⟩;clear hk C M;have NB:Hid (∀ W,KS W ao n f->_):=fun W h=>needbase_any eps ao n cp f (by omega) W h
 go_enter_defers func93,ntmps93
 go_wp2_with fail;have P3:Aside (Box (((w.alloc (.cells #[.int .i64 eps] 3)).alloc (.cells #[.slice none 0 0] 134)).alloc (.cells #[.int .i64 0] 25)) w.heap.size (.int .i64 eps) 3):=((Box.new w _ _).gw ((Gw.refl _).alloc _ _)).gw ((Gw.refl _).alloc _ _)
 have L3:Aside (Box (((w.alloc (.cells #[.int .i64 eps] 3)).alloc (.cells #[.slice none 0 0] 134)).alloc (.cells #[.int .i64 0] 25)) (w.heap.size+1) (.slice none 0 0) 134):=by
  have:=(Box.new (w.alloc (.cells #[.int .i64 eps] 3)) (.slice none 0 0) 134).gw ((Gw.refl _).alloc #[.int .i64 0] 25)
  simp at this;exact this
 have E3:Aside (Box (((w.alloc (.cells #[.int .i64 eps] 3)).alloc (.cells #[.slice none 0 0] 134)).alloc (.cells #[.int .i64 0] 25)) (w.heap.size+1+1) (.int .i64 0) 25):=by
  have:=Box.new ((w.alloc (.cells #[.int .i64 eps] 3)).alloc (.cells #[.slice none 0 0] 134)) (.int .i64 0) 25
  simp at this;exact this
 have G3:Aside (Gw w (((w.alloc (.cells #[.int .i64 eps] 3)).alloc (.cells #[.slice none 0 0] 134)).alloc (.cells #[.int .i64 0] 25))):=(((Gw.refl w).alloc _ _).alloc _ _).alloc _ _;have Z3:Aside (w.heap.size+3<=(((w.alloc (.cells #[.int .i64 eps] 3)).alloc (.cells #[.slice none 0 0] 134)).alloc (.cells #[.int .i64 0] 25)).heap.size):=by show _<=_;simp
 generalize (((w.alloc (.cells #[.int .i64 eps] 3)).alloc (.cells #[.slice none 0 0] 134)).alloc (.cells #[.int .i64 0] 25))=w3 at P3 L3 E3 G3 Z3 ⊢;obtain ⟨bp,hbp⟩:∃ bp,w.heap.size=bp:=⟨_,rfl⟩;obtain ⟨bl,hbl⟩:∃ bl,bp+1=bl:=⟨_,rfl⟩;obtain ⟨be,hbe⟩:∃ be,bl+1=be:=⟨_,rfl⟩;have BB:Aside (w.heap.size=bp/\bp+1=bl/\bl+1=be):=⟨hbp,hbl,hbe⟩;rw [hbp,hbl] at L3;rw [hbp,hbl,hbe] at E3;rw [hbp] at P3;rw [hbp,hbl,hbe];have ne:¬ bl=be:=by omega
 clear hbp hbl hbe;refine (NB.out _ (HK.out.gw G3.out)).mono ?_;rintro e w4 ⟨hb,g4⟩;have P4:Aside _:=P3.out.gw g4;have L4:Aside (Box w4 bl (.slice none 0 0) 134):=L3.out.gw g4;have E4:Aside (Box w4 be (.int .i64 0) 25):=E3.out.gw g4;have G4:Aside _:=G3.out.trans g4;have Z4:Aside _:=Nat.le_trans Z3.out g4.size;clear g4 P3 L3 E3 G3 Z3 NB;rcases hb with ⟨k0,rfl⟩ | ⟨k0,k1,rfl⟩ | ⟨k0,k1,rfl⟩
 rotate_left 2
 ·have HI:BIn w bp bl be (bp+3) eps f n (n+1) w4 ao n cp f:=by
   have bz:=BB.out;exact ⟨none,0,[],[],⟨G4.out,by have:=Z4.out;omega,P4.out,L4.out,E4.out,ownv_nil _ _,fun i hi=>by simp at hi,Nat.le_refl _,Nat.zero_le _⟩,HK.out.gw G4.out,k1,hn,hcp,(fun rr hr=>by rw [if_neg (fun q=>q.1 rfl)] at hr;exact hr),by rw [if_pos rfl];exact Nat.le_refl _,by simp⟩
  have CB:=climb_build (.pointer (some ⟨bl,0,none⟩)) (.pointer (some ⟨bp,0,none⟩)) _ _ _ (over_build CC.out.1 CC.out.2 w bp bl be (bp+3) eps f n hn k0.1 k0.2 (by have:=BB.out;omega) (by have:=BB.out;omega) (by have:=BB.out;omega) (by have:=BB.out;omega) (by have:=BB.out;omega) (by have:=BB.out;omega) (by have:=BB.out;omega)) (n+1) ao n cp f w4 HI
  have CB':Hid (Calls prog 104 #[.slice ao n cp,.func (.func 105) #[] #[.pointer (some ⟨bl,0,none⟩),.pointer (some ⟨bp,0,none⟩)]] w4 fun e w'=>(e=.returned (.tuple #[])/\BOut w bp bl be (bp+3) eps f n w')\/(∃ ch,e=.panicked ch/\False)):=CB
  have KE:Aside ((2<=eps/\eps<=64)/\Up f n):=⟨k0,k1⟩;clear HI CB k0 k1 CC;go_wp2_with fail;refine CB'.out.mono ?_;rintro e w5 (⟨rfl,lo,lc,L,vals,hBI,hBR⟩ | ⟨ch,_,q⟩)
  ·have HB:Aside (BI w bp bl be (bp+3) eps f n w5 lo lc L vals):=hBI
   have R:Aside (BuildE eps f n L 0):=.inr (.inr ⟨KE.out.1,KE.out.2,hBR,rfl⟩);have c0:=hBI.lx.cell;have f0:=hBI.lx.fz;have c1:=hBI.er.cell;have f1:=hBI.er.fz;obtain ⟨ln,hln⟩:∃ ln,L.length=ln:=⟨_,rfl⟩;have LN:Aside _:=hln;rw [hln] at c0;clear hBI hBR CB' hln;go_wp2_with fail;refine leaves_cons (f:=101) (args:=#[.pointer (some ⟨bl,0,none⟩),.pointer (some ⟨be,0,none⟩)]) (by simp) (by simp [go_sem]) ?_
   refine (idle_build bl be _).mono ?_;rintro e u' w6 ⟨rfl,rfl,rfl⟩;have c5:=(Box.other (HB.out.lx.set (.slice lo ln lc)) ⟨be,0,none⟩ (.int .i64 0) ne).cell;have d5:=(Box.set (Box.other HB.out.er ⟨bl,0,none⟩ (.slice lo ln lc) (fun e=>ne e.symm)) (.int .i64 0)).cell
   refine ⟨.tuple #[.slice lo ln lc,.int .i64 0],by simp [results,results93,go_sem,c5,d5],⟨lo,lc,L,0,vals,by rw [LN.out],R.out,HB.out.le,?_,HB.out.ok⟩,?_⟩
   ·refine (HB.out.own.keep fun q hq _=>?_).base (by have:=BB.out;omega)
    have bz:=BB.out;exact (Go.Deep.blk_setCell_other _ _ _ _ (by show q≠be;omega)).trans (Go.Deep.blk_setCell_other _ _ _ _ (by show q≠bl;omega))
   ·exact (HB.out.gw.setCell (by show w.heap.size<=bl;have:=BB.out;omega) _).setCell (by show w.heap.size<=be;have:=BB.out;omega) _
  ·exact q.elim
 ·have R:Aside (BuildE eps f n [] 1):=.inl ⟨k0,rfl,rfl⟩
  clear k0;go_wp2_with fail;refine leaves_cons (f:=101) (args:=#[.pointer (some ⟨bl,0,none⟩),.pointer (some ⟨be,0,none⟩)]) (by simp) (by simp [go_sem]) ?_
  refine (caught_build bl be _ _ 1 ne _ L4.out.cell L4.out.fz E4.out.cell E4.out.fz).mono ?_;rintro e u' w5 ⟨rfl,rfl,rfl⟩;have c5:=(Box.other (L4.out.set (.slice none 0 0)) ⟨be,0,none⟩ (.int .i64 1) ne).cell;have d5:=(Box.set (Box.other E4.out ⟨bl,0,none⟩ (.slice none 0 0) (fun e=>ne e.symm)) (.int .i64 1)).cell
  refine ⟨.tuple #[.slice none 0 0,.int .i64 1],by simp [results,results93,go_sem,c5,d5],⟨none,0,[],1,[],rfl,R.out,Nat.le_refl _,ownv_nil _ _,fun i hi=>by simp at hi⟩,?_⟩
  exact (G4.out.setCell (by show w.heap.size<=bl;have:=BB.out;omega) _).setCell (by show w.heap.size<=be;have:=BB.out;omega) _
 ·have R:Aside (BuildE eps f n [] 80):=.inr (.inl ⟨k0,k1,rfl,rfl⟩)
  clear k0 k1;go_wp2_with fail;refine leaves_cons (f:=101) (args:=#[.pointer (some ⟨bl,0,none⟩),.pointer (some ⟨be,0,none⟩)]) (by simp) (by simp [go_sem]) ?_
  refine (caught_build bl be _ _ 80 ne _ L4.out.cell L4.out.fz E4.out.cell E4.out.fz).mono ?_;rintro e u' w5 ⟨rfl,rfl,rfl⟩;have c5:=(Box.other (L4.out.set (.slice none 0 0)) ⟨be,0,none⟩ (.int .i64 80) ne).cell;have d5:=(Box.set (Box.other E4.out ⟨bl,0,none⟩ (.slice none 0 0) (fun e=>ne e.symm)) (.int .i64 80)).cell
  refine ⟨.tuple #[.slice none 0 0,.int .i64 80],by simp [results,results93,go_sem,c5,d5],⟨none,0,[],80,[],rfl,R.out,Nat.le_refl _,ownv_nil _ _,fun i hi=>by simp at hi⟩,?_⟩
  exact (G4.out.setCell (by show w.heap.size<=bl;have:=BB.out;omega) _).setCell (by show w.heap.size<=be;have:=BB.out;omega) _
theorem ks_far {w:World} {bo:Option Addr} {m:Nat} {g:Nat->Int} (h:KS w bo m g) {bh:Nat} {x:Int} {t:TypeId} (hx:Box w bh (.int .i64 x) t) (v:Value):KS (w.setCell ⟨bh,0,none⟩ v) bo m g:=by
 refine ⟨fun h0=>?_,h.bd⟩
 obtain ⟨b,off,e,hb,hc⟩:=h.cells h0;have ne:b≠bh:=fun q=>by
  subst q;have c:=hc 0 h0;unfold Box at hx;simp only [World.cell?,hx] at c;cases off with
  | zero=>simp at c
  | succ o=>simp at c
 have blk:(w.setCell ⟨bh,0,none⟩ v).heap[b]?=w.heap[b]?:=Go.Deep.blk_setCell_other _ _ _ _ ne;exact ⟨b,off,e,by simpa using hb,fun i hi=>(World.cell?_of_block (a:=⟨b,off+i,none⟩) blk).trans (hc i hi)⟩
structure CI (w0:World) (bp bl be bh:Nat) (eps:Int) (lo:Option Addr) (lc:Nat) (L:List (List Sg)) (W:World) (i:Nat):Prop where
 gw:Gw w0 W
 ep:Box W bp (.int .i64 eps) 3
 lx:Box W bl (.slice lo L.length lc) 134
 er:Box W be (.int .i64 0) 25
 hx:Box W bh (.int .i64 (i:Int)) 3
theorem CI.mono {w0:World} {bp bl be bh:Nat} {eps:Int} {lo:Option Addr} {lc:Nat} {L:List (List Sg)} {W W':World} {i:Nat} (h:CI w0 bp bl be bh eps lo lc L W i) (g:Gw W W'):CI w0 bp bl be bh eps lo lc L W' i:=⟨h.gw.trans g,h.ep.gw g,h.lx.gw g,h.er.gw g,h.hx.gw g⟩
theorem CI.up {w0:World} {bp bl be bh:Nat} {eps:Int} {lo:Option Addr} {lc:Nat} {L:List (List Sg)} {W:World} {i:Nat} (h:CI w0 bp bl be bh eps lo lc L W i) (n1:bp≠bh) (n2:bl≠bh) (n3:be≠bh) (hb:w0.heap.size<=bh) (j:Nat):CI w0 bp bl be bh eps lo lc L (W.setCell ⟨bh,0,none⟩ (.int .i64 (j:Int))) j :=
 ⟨h.gw.setCell hb _,h.ep.other _ _ n1,h.lx.other _ _ n2,h.er.other _ _ n3,h.hx.set _⟩
def leftE (eps:Int) (L:List (List Sg)) (i:Nat) (g:Nat->Int) (m:Nat):Int:=if i<L.length then chkE eps g m (L.drop i) else if i=0 then 0 else if (L.getD (i-1) []).length=1 then 0 else 84
def CIn (w0:World) (bp bl be bh:Nat) (eps:Int) (lo:Option Addr) (lc:Nat) (L:List (List Sg)) (E:Int) (r:Nat) (W:World) (bo:Option Addr) (m c:Nat) (g:Nat->Int):Prop :=
 ∃ i,CI w0 bp bl be bh eps lo lc L W i/\KS W bo m g/\Up g m/\m<=2000000/\m<=c/\i<=L.length/\(i<L.length->0<m)/\E=leftE eps L i g m/\L.length+1-i<=r
def COut (w0:World) (bp bl be bh:Nat) (eps:Int) (lo:Option Addr) (lc:Nat) (L:List (List Sg)) (E:Int) (W:World):Prop:=CI w0 bp bl be bh eps lo lc L W L.length/\E=if L.length=0 then 0 else if (L.getD (L.length-1) []).length=1 then 0 else 84
def CDie (w0:World) (be:Nat) (E:Int) (ch:List PanicEntry) (W:World):Prop:=ch=thrown E/\Gw w0 W/\Box W be (.int .i64 0) 25
theorem over_check (M:ModelC) (w0:World) (bp bl be bh:Nat) (eps:Int) (lo:Option Addr) (lc:Nat) (L:List (List Sg)) (E:Int) (hL:Short L) (hv:VS w0 lo L) (n1:bp≠bh) (n2:bl≠bh) (n3:be≠bh) (hb:w0.heap.size<=bh) :
  OverC 134 (fun v=>#[v,.pointer (some ⟨bh,0,none⟩),.pointer (some ⟨bl,0,none⟩),.pointer (some ⟨bp,0,none⟩)]) (CIn w0 bp bl be bh eps lo lc L E) (COut w0 bp bl be bh eps lo lc L E) (CDie w0 be E):=by
 rintro r W bo m c g ⟨i,hCI,hK,hU,m1,mc,hi,hm,hE,hr⟩;have HC:Aside _:=hCI;have HK:Aside _:=hK;have UP:Aside _:=hU;have HV:Aside _:=hv;have HL:Aside _:=hL;have HE:Aside _:=hE;have cl:=hCI.lx.cell;have ll:=hCI.lx.lt;have cp:=hCI.ep.cell;have lp:=hCI.ep.lt;have ch:=hCI.hx.cell;have fh:=hCI.hx.fz;have lh:=hCI.hx.lt;have NL:Hid _:=fun (ao:Option Addr) (cl:Nat) (l:List Sg) (hl:l.length<=4000000) (w:World) (k:KS w bo m g) (h:GS w ao l)=>needlevel_any M eps bo m c g (by omega) mc UP.out ao cl l hl w k h
 have hLn:=hL.1;obtain ⟨ln,hln⟩:∃ ln,L.length=ln:=⟨_,rfl⟩;have LN:Aside _:=hln;rw [hln] at cl hi hm hr hLn;clear hln hCI hK hU hv hE hL M;by_cases ilt:i<ln
 ·have z0:((i:Int) == (ln:Int))=false:=by simp;omega
  have z1:¬ i=ln:=by omega
  obtain ⟨lb,lf,rfl,hlb0,hc⟩:=HV.out.cells (by rw [LN.out];omega)
  obtain ⟨so,sc,q1',q2,q3,q4⟩:=hc i (by rw [LN.out];exact ilt)
  have q1:=(HC.out.gw.cell _ _ hlb0).trans q1';have hlb:=Nat.lt_of_lt_of_le hlb0 HC.out.gw.size;have lbh:¬ lb=bh:=by omega
  clear q1' hlb0;have sl:=HL.out.2 i (by rw [LN.out];exact ilt)
  have ED:Aside (E=chkE eps g m (L.getD i []::L.drop (i+1))):=by
   have:=HE.out
   unfold leftE at this;rw [if_pos (by rw [LN.out];exact ilt),dropL_at (by rw [LN.out];exact ilt)] at this
   exact this
  have EF:Aside (i+1=ln->L.drop (i+1)=[]):=fun q=>List.drop_eq_nil_of_le (by rw [LN.out];omega)
  have EG:Aside (i+1<ln->L.drop (i+1)≠[]):=fun q e=>by have:=congrArg List.length e;rw [List.length_drop,LN.out] at this;simp at this;omega
  have LAST:Aside (L.getD (i+1-1) []=L.getD i []):=rfl;clear hc HE;obtain ⟨l,hl⟩:∃ l,L.getD i []=l:=⟨_,rfl⟩;rw [hl] at q1 q2 q3 q4 sl ED LAST;have GL:Aside (GS w0 so l):=q4;have NL':=NL.out so sc l (by omega)
  obtain ⟨sn,hsn⟩:∃ sn,l.length=sn:=⟨_,rfl⟩;have SN:Aside _:=hsn;rw [hsn] at q1 q2 q3 sl NL';have NH:Hid (∀ W,KS W bo m g->GS W so l->_):=fun W k h=>NL' W k h
  clear hl hsn q4 NL NL';have wi:IntKind.i64.wrap ((i:Int)+1)=((i+1:Nat):Int):=by rw [IntKind.wrap_i64];omega
  go_enter func134,ntmps134;have C2:Aside (CI w0 bp bl be bh eps (some ⟨lb,lf,none⟩) lc L (W.setCell ⟨bh,0,none⟩ (.int .i64 ((i:Int)+1))) (i+1)):=HC.out.up n1 n2 n3 hb (i+1);have K2:Aside (KS (W.setCell ⟨bh,0,none⟩ (.int .i64 ((i:Int)+1))) bo m g):=ks_far HK.out HC.out.hx _;go_wp2_with fail;generalize W.setCell ⟨bh,0,none⟩ (.int .i64 ((i:Int)+1))=W2 at C2 K2 ⊢;refine (NH.out _ K2.out (GL.out.gw C2.out.gw)).mono ?_;rintro e w3 ⟨he,g3⟩;have C3:Aside _:=C2.out.mono g3;have m0:0<m:=hm ilt;clear g3 NH;by_cases tb:tileB m 0 l=true
  ·have ne:l.isEmpty=false:=by
    cases l with
    | nil=>have:=tileB_nil.1 tb;omega
    | cons s l=>rfl
   have EI:E=if lvlE eps g l≠0 then lvlE eps g l else restE eps l (L.drop (i+1)):=by
    rw [ED.out,chkE_cons,if_neg (by rw [tb,ne];decide)]
   unfold levE at he;rw [if_pos tb] at he;rcases he with ⟨v0,rfl⟩ | ⟨v0,rfl⟩
   ·rw [if_neg (fun q=>q v0)] at EI
    have ER:Aside _:=EI;have OKS:=lvlE_ok.1 v0;have UN:Aside _:=(fst8_up UP.out tb (fun s hs=>(segE_ok.1 (OKS s hs)).2.1)).1
    have sn0:0<sn:=by
     rw [<-SN.out];cases l with
     | nil=>cases ne
     | cons s l=>simp
    have NX:Aside (E=leftE eps L (i+1) (fst8 l) l.length):=by
     show E=_;unfold leftE;by_cases q:i+1<ln
     ·rw [if_pos (by rw [LN.out];exact q),ER.out]
      unfold restE;rw [if_neg (EG.out q)]
     ·rw [if_neg (by rw [LN.out];exact q),if_neg (by omega),LAST.out,ER.out]
      unfold restE;rw [if_pos (EF.out (by omega))]
    clear EI ER OKS tb ne ED EF EG LAST v0;go_wp2_with fail;go_ret;exact .inr (.inl ⟨so,sc,l,r-1,by rw [SN.out];rfl,by rw [SN.out];exact sn0,by rw [SN.out];omega,GL.out.gw C3.out.gw,by omega,fun b9 w9 g9 k9=>⟨i+1,C3.out.mono g9,k9,UN.out,by rw [SN.out];omega,Nat.le_refl _,by rw [LN.out];omega,fun _=>by rw [SN.out];exact sn0,NX.out,by rw [LN.out];omega⟩⟩)
   ·rw [if_pos v0] at EI
    have R:Aside (CDie w0 be E (thrown (lvlE eps g l)) w3):=⟨by rw [EI],C3.out.gw,C3.out.er⟩
    clear EI ED EF EG LAST v0 tb ne;generalize lvlE eps g l=EE at R ⊢;go_wp2_with fail;exact ⟨rfl,.inr (.inr ⟨_,rfl,R.out⟩)⟩
  ·have tf:tileB m 0 l=false:=by simpa using tb
   have EI:E=82:=by rw [ED.out,chkE_cons,if_pos (by rw [tf];rfl)]
   unfold levE at he;rw [if_neg tb] at he;obtain rfl:e=.panicked (thrown 82):=by
    rcases he with ⟨q,_⟩ | ⟨_,q⟩
    ·exact absurd q (by decide)
    ·exact q
   have R:Aside (CDie w0 be E (thrown 82) w3):=⟨by rw [EI],C3.out.gw,C3.out.er⟩
   clear EI ED EF EG LAST tb tf he;go_wp2_with fail;exact ⟨rfl,.inr (.inr ⟨_,rfl,R.out⟩)⟩
 ·have ei:i=ln:=by omega
  subst ei;have R:Aside (COut w0 bp bl be bh eps lo lc L E W):=by
   refine ⟨by rw [LN.out];exact HC.out,?_⟩
   have:=HE.out
   unfold leftE at this;rw [if_neg (by rw [LN.out];omega)] at this
   rw [LN.out];exact this
  clear HE NL;go_enter func134,ntmps134;go_wp2_with fail;go_ret;exact .inl ⟨none,0,rfl,R.out⟩
theorem xcheck8_any (M:ModelC) (eps:Int) (ao:Option Addr) (n cp:Nat) (f:Nat->Int) (lo:Option Addr) (lc:Nat) (L:List (List Sg)) (e0:-9223372036854775808<=eps) (e1:eps<9223372036854775808) (hn:n<=2000000) (hcp:n<=cp) (hS:Short L) (w:World) (hk:KS w ao n f) (hv:VS w lo L) :
  Calls prog 119 #[.slice ao n cp,.int .i64 eps,.slice lo L.length lc] w fun ex w'=>CheckOut ex eps f n L/\Gw w w':=by
 have hmf:∀ (fn:Fn) (first cap:Array Value) (w:World),(Instr.makeFunc fn first cap).run prog w=.ok (.func fn first cap) w:=fun _ _ _ _=>rfl
 have HK:Aside _:=hk;have HV:Aside _:=hv;have HS:Aside _:=hS;have MM:Aside ModelC:=M;have lns:=hS.1;clear hk hv hS M;have NB:Hid (∀ W,KS W ao n f->_):=fun W h=>needbase_any eps ao n cp f (by omega) W h
 have MX:Hid (∀ W,Calls prog 133 #[.int .i64 4294967296,.int .i64 eps] W fun ex w'=>ex=.returned (.int .i64 (mxh 4294967296 eps))/\w'=W):=fun W=>xmaxh_any 4294967296 eps (by decide) (by decide) e0 e1 W
 obtain ⟨H,hH⟩:∃ H,mxh 4294967296 eps=H:=⟨_,rfl⟩;have HH:Aside _:=hH;rw [hH] at MX;obtain ⟨ln,hln⟩:∃ ln,L.length=ln:=⟨_,rfl⟩;have LN:Aside _:=hln;rw [hln] at lns ⊢;clear hH hln;go_enter_defers func119,ntmps119;go_wp2_with fail;have P3:Aside (Box (((w.alloc (.cells #[.int .i64 eps] 3)).alloc (.cells #[.slice lo ln lc] 134)).alloc (.cells #[.int .i64 0] 25)) w.heap.size (.int .i64 eps) 3):=((Box.new w _ _).gw ((Gw.refl _).alloc _ _)).gw ((Gw.refl _).alloc _ _);have L3:Aside (Box (((w.alloc (.cells #[.int .i64 eps] 3)).alloc (.cells #[.slice lo ln lc] 134)).alloc (.cells #[.int .i64 0] 25)) (w.heap.size+1) (.slice lo ln lc) 134):=by
  have:=(Box.new (w.alloc (.cells #[.int .i64 eps] 3)) (.slice lo ln lc) 134).gw ((Gw.refl _).alloc #[.int .i64 0] 25)
  simp at this;exact this
 have E3:Aside (Box (((w.alloc (.cells #[.int .i64 eps] 3)).alloc (.cells #[.slice lo ln lc] 134)).alloc (.cells #[.int .i64 0] 25)) (w.heap.size+1+1) (.int .i64 0) 25):=by
  have:=Box.new ((w.alloc (.cells #[.int .i64 eps] 3)).alloc (.cells #[.slice lo ln lc] 134)) (.int .i64 0) 25
  simp at this;exact this
 have G3:Aside (Gw w (((w.alloc (.cells #[.int .i64 eps] 3)).alloc (.cells #[.slice lo ln lc] 134)).alloc (.cells #[.int .i64 0] 25))):=(((Gw.refl w).alloc _ _).alloc _ _).alloc _ _;have Z3:Aside (w.heap.size+3<=(((w.alloc (.cells #[.int .i64 eps] 3)).alloc (.cells #[.slice lo ln lc] 134)).alloc (.cells #[.int .i64 0] 25)).heap.size):=by show _<=_;simp
 generalize ((w.alloc (.cells #[.int .i64 eps] 3)).alloc (.cells #[.slice lo ln lc] 134)).alloc (.cells #[.int .i64 0] 25)=w3 at P3 L3 E3 G3 Z3 ⊢;obtain ⟨bp,hbp⟩:∃ bp,w.heap.size=bp:=⟨_,rfl⟩;obtain ⟨bl,hbl⟩:∃ bl,bp+1=bl:=⟨_,rfl⟩;obtain ⟨be,hbe⟩:∃ be,bl+1=be:=⟨_,rfl⟩;have BB:Aside (w.heap.size=bp/\bp+1=bl/\bl+1=be):=⟨hbp,hbl,hbe⟩;rw [hbp,hbl] at L3;rw [hbp,hbl,hbe] at E3;rw [hbp] at P3;rw [hbp,hbl,hbe];have ne:¬ bl=be:=by omega
 clear hbp hbl hbe;refine (NB.out _ (HK.out.gw G3.out)).mono ?_;rintro e w4 ⟨hb,g4⟩;have P4:Aside (Box w4 bp (.int .i64 eps) 3):=P3.out.gw g4;have L4:Aside (Box w4 bl (.slice lo ln lc) 134):=L3.out.gw g4;have E4:Aside (Box w4 be (.int .i64 0) 25):=E3.out.gw g4;have G4:Aside _:=G3.out.trans g4;have Z4:Aside _:=Nat.le_trans Z3.out g4.size;clear g4 P3 L3 E3 G3 Z3 NB;rcases hb with ⟨k0,rfl⟩ | ⟨k0,k1,rfl⟩ | ⟨k0,k1,rfl⟩
 ·have R:Aside (CheckR eps f n L 1):=.inl ⟨k0,rfl⟩
  clear k0;go_wp2_with fail;refine leaves_cons (f:=132) (args:=#[.pointer (some ⟨be,0,none⟩)]) (by simp) (by simp [go_sem]) ?_
  refine (caught_check be _ 1 _ E4.out.cell E4.out.fz).mono ?_;rintro e u' wz ⟨rfl,rfl,rfl⟩;have d5:=(Box.set E4.out (.int .i64 1)).cell;refine ⟨.int .i64 1,by simp [results,results119,go_sem,d5],⟨1,rfl,R.out⟩,?_⟩
  exact (G4.out).setCell (by show w.heap.size<=be;have:=BB.out;omega) _
 ·have R:Aside (CheckR eps f n L 80):=.inr (.inl ⟨k0,k1,rfl⟩)
  clear k0 k1;go_wp2_with fail;refine leaves_cons (f:=132) (args:=#[.pointer (some ⟨be,0,none⟩)]) (by simp) (by simp [go_sem]) ?_
  refine (caught_check be _ 80 _ E4.out.cell E4.out.fz).mono ?_;rintro e u' wz ⟨rfl,rfl,rfl⟩;have d5:=(Box.set E4.out (.int .i64 80)).cell;refine ⟨.int .i64 80,by simp [results,results119,go_sem,d5],⟨80,rfl,R.out⟩,?_⟩
  exact (G4.out).setCell (by show w.heap.size<=be;have:=BB.out;omega) _
 ·have KE:Aside ((2<=eps/\eps<=64)/\Up f n):=⟨k0,k1⟩
  have cl:=L4.out.cell;have ll:=L4.out.lt;have cp4:=P4.out.cell;have lp4:=P4.out.lt;clear k0 k1;have hd4:=MX.out w4.drew;have hcl:w4.drew.cell? ⟨bl,0,none⟩=some (.slice lo ln lc):=cl;have hcq:w4.drew.cell? ⟨bp,0,none⟩=some (.int .i64 eps):=cp4;have E5:Aside _:=E4.out;have G5:Aside _:=G4.out.drew;by_cases hi:(ln:Int)<=H
  rotate_left
  ·have R:Aside (CheckR eps f n L 81):=.inr (.inr (.inl ⟨KE.out.1,KE.out.2,fun q=>hi (by have:=q.1;rw [LN.out,HH.out] at this;exact this),rfl⟩))
   have ti:decide ((ln:Int)<=H)=false:=by simpa using hi
   clear hi;go_wp2_with fail;refine wp_region_still_tail 5 (by kernel_rfl) (by kernel_rfl) ?_
   change wpStill _ _ (World.drew w4) (fun a'=>wpList _ _ _ _ a' (World.drew w4)) _ _
   simp only [List.take_succ_cons,List.take_zero,List.drop_succ_cons,List.drop_zero]
   still_step
   still_step
   still_step
   still_call hd4
   still_step
   refine wpStill_nil ?_;go_wp2_with fail;refine (need_bad 81 _).mono ?_;rintro e w6 ⟨rfl,e6⟩;have E6:Aside (Box w6 be (.int .i64 0) 25):=by rw [e6];exact E4.out
   have G6:Aside (Gw w w6):=by rw [e6];exact G4.out.drew
   clear e6;go_wp2_with fail;refine leaves_cons (f:=132) (args:=#[.pointer (some ⟨be,0,none⟩)]) (by simp) (by simp [go_sem]) ?_
   refine (caught_check be _ 81 _ E6.out.cell E6.out.fz).mono ?_;rintro e u' wz ⟨rfl,rfl,rfl⟩;have d5:=(Box.set E6.out (.int .i64 81)).cell;refine ⟨.int .i64 81,by simp [results,results119,go_sem,d5],⟨81,rfl,R.out⟩,?_⟩
   exact (G6.out).setCell (by show w.heap.size<=be;have:=BB.out;omega) _
  ·have ti:decide ((ln:Int)<=H)=true:=by simpa using hi
   have HI:Aside _:=hi;clear hi;go_wp2_with fail;refine wp_region_still_tail 5 (by kernel_rfl) (by kernel_rfl) ?_
   change wpStill _ _ (World.drew w4) (fun a'=>wpList _ _ _ _ a' (World.drew w4)) _ _
   simp only [List.take_succ_cons,List.take_zero,List.drop_succ_cons,List.drop_zero]
   still_step
   still_step
   still_step
   still_call hd4
   still_step
   refine wpStill_nil ?_;go_wp2_with fail;refine (need_ok 81 _).mono ?_;rintro e w6 ⟨rfl,e6⟩;have L6:Aside (Box w6 bl (.slice lo ln lc) 134):=by rw [e6];exact L4.out
   have E6:Aside (Box w6 be (.int .i64 0) 25):=by rw [e6];exact E4.out
   have P6:Aside (Box w6 bp (.int .i64 eps) 3):=by rw [e6];exact P4.out
   have G6:Aside (Gw w w6):=by rw [e6];exact G4.out.drew
   have Z6:Aside (w.heap.size+3<=w6.heap.size):=by rw [e6];exact Z4.out
   have cl6:=L6.out.cell;have ll6:=L6.out.lt;clear e6 hd4 hcl hcq E5 G5 cl ll cp4 lp4 L4 E4 P4 G4 Z4 MX ti;go_wp2_with fail;obtain ⟨bb,hbb⟩:∃ bb,(((ln:Int) == 0) == ((n:Int) == 0))=bb:=⟨_,rfl⟩;have HB:Aside (bb=true↔(ln=0↔n=0)):=by
    show _↔_;rw [<-hbb];by_cases x:ln=0
    ·by_cases y:n=0
     ·simp [x,y]
     ·simp [x,y]
    ·by_cases y:n=0
     ·simp [x,y]
     ·rw [show ((ln:Int) == 0)=false by simp;omega,show ((n:Int) == 0)=false by simp;omega];simp [x,y]
   generalize ((ln:Int) == 0)=bx at hbb ⊢;generalize ((n:Int) == 0)=by_ at hbb ⊢;rw [hbb];clear hbb;cases bb with
   | false =>
    have R:Aside (CheckR eps f n L 81):=.inr (.inr (.inl ⟨KE.out.1,KE.out.2,fun q=>by have:=HB.out.2 (by have:=q.2;rw [LN.out] at this;exact this);simp at this,rfl⟩))
    refine (need_bad 81 _).mono ?_;rintro e w7 ⟨rfl,rfl⟩;go_wp2_with fail;refine leaves_cons (f:=132) (args:=#[.pointer (some ⟨be,0,none⟩)]) (by simp) (by simp [go_sem]) ?_
    refine (caught_check be _ 81 _ E6.out.cell E6.out.fz).mono ?_;rintro e u' wz ⟨rfl,rfl,rfl⟩;have d5:=(Box.set E6.out (.int .i64 81)).cell;refine ⟨.int .i64 81,by simp [results,results119,go_sem,d5],⟨81,rfl,R.out⟩,?_⟩
    exact (G6.out).setCell (by show w.heap.size<=be;have:=BB.out;omega) _
   | true =>
    have ZZ:Aside _:=HB.out.1 rfl;obtain ⟨E,hE⟩:∃ E,chkE eps f n L=E:=⟨_,rfl⟩;have RR:Aside (CheckR eps f n L E):=.inr (.inr (.inr ⟨KE.out.1,KE.out.2,⟨by rw [LN.out,HH.out];exact HI.out,by rw [LN.out];exact ZZ.out⟩,hE.symm⟩))
    have HE:Aside (E=leftE eps L 0 f n):=by
     show E=_;unfold leftE;by_cases x:0<L.length
     ·rw [if_pos x];exact hE.symm
     ·have:L=[]:=List.eq_nil_of_length_eq_zero (by omega)
      rw [if_neg x,if_pos rfl,<-hE,this];rfl
    clear hE HB;refine (need_ok 81 _).mono ?_;rintro e w7 ⟨rfl,rfl⟩;have C8:Aside (CI w bp bl be w7.heap.size eps lo lc L (w7.alloc (.cells #[.int .i64 0] 3)) 0):=⟨G6.out.alloc _ _,P6.out.gw ((Gw.refl _).alloc _ _),by rw [LN.out];exact L6.out.gw ((Gw.refl _).alloc _ _),E6.out.gw ((Gw.refl _).alloc _ _),Box.new w7 _ _⟩
    have Z8:Aside _:=Z6.out;go_wp2_with fail;generalize w7.alloc (.cells #[.int .i64 0] 3)=w8 at C8 ⊢;generalize w7.heap.size=bh at C8 Z8 ⊢;clear L6 E6 P6 G6 Z6 cl6 ll6;have HIN:CIn w bp bl be bh eps lo lc L E (ln+1) w8 ao n cp f:=⟨0,C8.out,HK.out.gw C8.out.gw,KE.out.2,hn,hcp,Nat.zero_le _,fun q=>by have:=ZZ.out;rw [LN.out] at q;omega,HE.out,by rw [LN.out];omega⟩
    have CB:=climb_check (.pointer (some ⟨bh,0,none⟩)) (.pointer (some ⟨bl,0,none⟩)) (.pointer (some ⟨bp,0,none⟩)) _ _ _ (over_check MM.out w bp bl be bh eps lo lc L E HS.out HV.out (by have:=BB.out;have:=Z8.out;omega) (by have:=BB.out;have:=Z8.out;omega) (by have:=BB.out;have:=Z8.out;omega) (by have:=BB.out;have:=Z8.out;omega)) (ln+1) ao n cp f w8 HIN
    have CB':Hid (Calls prog 104 #[.slice ao n cp,.func (.func 134) #[] #[.pointer (some ⟨bh,0,none⟩),.pointer (some ⟨bl,0,none⟩),.pointer (some ⟨bp,0,none⟩)]] w8 fun e w'=>(e=.returned (.tuple #[])/\COut w bp bl be bh eps lo lc L E w')\/(∃ ch,e=.panicked ch/\CDie w be E ch w')):=CB
    clear HIN CB;refine CB'.out.mono ?_;clear CB' MM;rintro e w9 (⟨rfl,hC,hE9⟩ | ⟨ch,rfl,rfl,g9,b9⟩)
    ·have C9:Aside (CI w bp bl be bh eps lo lc L w9 L.length):=hC
     have E9:Aside _:=hE9;rw [LN.out] at C9 E9;have cl9:=hC.lx.cell;have ll9:=hC.lx.lt;have ch9:=hC.hx.cell;have lh9:=hC.hx.lt;have ce9:=hC.er.cell;have fe9:=hC.er.fz;rw [LN.out] at cl9 ch9;clear hC hE9;by_cases l0:ln=0
     ·have E0:E=0:=by rw [E9.out,if_pos l0]
      subst E0;have z0:((ln:Int) == 0)=true:=by simp;omega
      go_wp2_with fail;refine (need_ok 84 _).mono ?_
      rintro e w10 ⟨rfl,rfl⟩;go_wp2_with fail;refine leaves_cons (f:=132) (args:=#[.pointer (some ⟨be,0,none⟩)]) (by simp) (by simp [go_sem]) ?_
      refine (idle_check be _).mono ?_;rintro e u' wz ⟨rfl,rfl,rfl⟩;have d5:=(Box.set C9.out.er (.int .i64 0)).cell;refine ⟨.int .i64 0,by simp [results,results119,go_sem,d5],⟨0,rfl,RR.out⟩,?_⟩
      exact C9.out.gw.setCell (by show w.heap.size<=be;have:=BB.out;omega) _
     ·obtain ⟨lb,lf,rfl,hlb,hc⟩:=(HV.out.gw C9.out.gw).cells (by rw [LN.out];omega)
      obtain ⟨so,sc,q1,_,_,_⟩:=hc (ln-1) (by rw [LN.out];omega)
      have sl:=HS.out.2 (ln-1) (by rw [LN.out];omega)
      have EE:=E9.out;rw [if_neg l0] at EE;clear hc;generalize (L.getD (ln-1) []).length=sn at q1 sl EE;have wi:IntKind.i64.wrap ((ln:Int)-1)=((ln-1:Nat):Int):=by rw [IntKind.wrap_i64];omega
      obtain ⟨i1,hi1⟩:∃ i1,ln-1=i1:=⟨_,rfl⟩;rw [hi1] at q1 wi;have lt1:i1<ln:=by omega
      have z0:((ln:Int) == 0)=false:=by simp;omega
      clear hi1;by_cases s1:sn=1
      ·have E0:E=0:=by rw [EE,if_pos s1]
       subst E0 s1;clear EE;go_wp2_with fail;refine (need_ok 84 _).mono ?_;rintro e w10 ⟨rfl,rfl⟩;go_wp2_with fail;refine leaves_cons (f:=132) (args:=#[.pointer (some ⟨be,0,none⟩)]) (by simp) (by simp [go_sem]) ?_
       refine (idle_check be _).mono ?_;rintro e u' wz ⟨rfl,rfl,rfl⟩;have d5:=(Box.set C9.out.er (.int .i64 0)).cell;refine ⟨.int .i64 0,by simp [results,results119,go_sem,d5],⟨0,rfl,RR.out⟩,?_⟩
       exact C9.out.gw.setCell (by show w.heap.size<=be;have:=BB.out;omega) _
      ·have E0:E=84:=by rw [EE,if_neg s1]
       subst E0;have z1:((sn:Int) == 1)=false:=by simp;omega
       clear EE;go_wp2_with fail;refine (need_bad 84 _).mono ?_;rintro e w10 ⟨rfl,rfl⟩;go_wp2_with fail;refine leaves_cons (f:=132) (args:=#[.pointer (some ⟨be,0,none⟩)]) (by simp) (by simp [go_sem]) ?_
       refine (caught_check be _ 84 _ C9.out.er.cell C9.out.er.fz).mono ?_;rintro e u' wz ⟨rfl,rfl,rfl⟩;have d5:=(Box.set C9.out.er (.int .i64 84)).cell;refine ⟨.int .i64 84,by simp [results,results119,go_sem,d5],⟨84,rfl,RR.out⟩,?_⟩
       exact (C9.out.gw).setCell (by show w.heap.size<=be;have:=BB.out;omega) _
    ·have G9:Aside (Gw w w9):=g9
     have B9:Aside (Box w9 be (.int .i64 0) 25):=b9;clear g9 b9;go_wp2_with fail;refine leaves_cons (f:=132) (args:=#[.pointer (some ⟨be,0,none⟩)]) (by simp) (by simp [go_sem]) ?_
     refine (caught_check be _ E _ B9.out.cell B9.out.fz).mono ?_;rintro e u' wz ⟨rfl,rfl,rfl⟩;have d5:=(Box.set B9.out (.int .i64 E)).cell;refine ⟨.int .i64 E,by simp [results,results119,go_sem,d5],⟨E,rfl,RR.out⟩,?_⟩
     exact (G9.out).setCell (by show w.heap.size<=be;have:=BB.out;omega) _
theorem buildown:BuildOwn:=buildown_of cutc modelc
theorem step_append_v {P:Program} (w:World) {ops:Array Oper} {o:Oper} {a:Act} {K:Act->World->Prop} {Q:Exit->Act->World->Prop} {E:Prop} (hgd:o.guard=none) (s x:Operand) (t:TypeId)
  (ho:o.op=.call { callee:=.builtin .append,args:=#[s,x],argTypes:=#[t,t] })
  (base:Nat) (e:TypeId) (i:TypeInfo) (z:Value) (size bytes:Nat) (ht:P.underlying t=some (.slice e)) (hi:P.info? e=some i) (hz:i.zero=some z)
  (hsize:i.size=size) (hby:i.bytes=bytes) (hzs:z.cells.size=size) (hsz:0<size)
  (v:Value) (n:Nat) (xs:List Value) (hs:a.eval s=v) (hown:w.ownsRow base e size v n xs)
  (ad:Addr) (m c:Nat) (news:List Value) (hx:a.eval x=.slice (some ad) m c) (hl:news.length=m*size) (hnews:∀ j u,news[j]?=some u->w.cell? (ad.add j)=some u) (h1:∀ u∈news,u.oneCell'=true)
  (h63:n+m<=maxLen) (hbytes:(n+m)*bytes<=140737488355328) (hbase:base<=w.heap.size)
  (h:∀ v' w',w'.ownsRow base e size v' (n+m) (xs++news)->w.grownBy w' v.ownBlock->(v'=.slice none 0 0↔v=.slice none 0 0/\m=0)->(v'.ownBlock=v.ownBlock\/v'.ownBlock=some w.heap.size)->K (a.put o.dst v') w') :
  if Region.wanted o (yielded ops a.tmps)=true then Oper.wp P o a w K Q else E:=by
 have hw:Region.wanted o (yielded ops a.tmps)=true:=by simp [Region.wanted,hgd]
 rw [if_pos hw];obtain ⟨v',w',hr,h2,h3,h4,h5⟩:=run_append_own_at (P:=P) w base t o.type e i z size bytes ht hi hz hsize hby hzs hsz v n xs hown ad m c news hl hnews h1 h63 hbytes hbase;unfold Oper.wp execOp;simp only [ho,resolve,invoke,builtin,Sem.run_bind,Sem.run_pure,Result.andThen_ok,List.map_toArray,List.map_cons,List.map_nil,hs,hx,hr];exact h v' w' h2 h3 h4 h5
theorem set_pl2 {w:World} {b:Nat} {x y z:Value} {t:TypeId} (h:w.heap[b]?=some (.cells #[x,y,z] t (0,0))) (u:Value):(w.setCell ⟨b,2,none⟩ u).heap[b]?=some (.cells #[x,y,u] t (0,0)):=by simp [World.setCell,Array.getElem?_modify,h]
theorem clone_k {w:World} {ao:Option Addr} {n cp:Nat} {f:Nat->Int} (h:KS w ao n f) (hn:n<=2000000) :
  Calls prog 120 #[.slice ao n cp] w fun e w'=>(∃ bo c,e=.returned (.slice bo n c)/\KS w' bo n f/\n<=c/\∀ a,bo=some a->w.heap.size<=a.block)/\Gw w w':=by
 cases ao with
 | none =>
  have n0:n=0:=by
   rcases Nat.eq_zero_or_pos n with e | e
   ·exact e
   ·obtain ⟨b,off,e',_⟩:=h.cells e;cases e'
  subst n0;have HK:Aside _:=h;clear h;have hq:∀ W:World,(binOp .eql 133 (.slice none 0 cp) (.slice none 0 0)).run prog W=.ok (.bool true) W:=fun _=>by kernel_rfl
  go_enter func120,ntmps120;go_wp2_with fail;go_ret;exact ⟨⟨none,0,rfl,HK.out,Nat.le_refl _,fun a e=>by cases e⟩,Gw.refl w⟩
 | some ad =>
  have OW:Hid (∀ x,(some ad:Option Addr)=some x->∀ j u,((List.range n).map fun j=>Value.int .u64 (f j))[j]?=some u->(w.alloc (.cells #[] 36)).cell? (x.add j)=some u):=by
   intro x e j u hu;cases e;have hj:j<n:=by
    have:=(List.getElem?_eq_some_iff.1 hu).1
    simpa using this
   obtain ⟨b,off,e',hb,hc⟩:=h.cells (by omega)
   cases e'
   rw [Addr.add_lit];refine (((Gw.refl w).alloc _ _).cell _ _ hb).trans ((hc j hj).trans ?_);simpa [hj] using hu
  have O0:Hid ((w.alloc (.cells #[] 36)).ownsRow w.heap.size 36 1 (.slice (some ⟨w.heap.size,0,none⟩) 0 0) 0 []):=World.ownsRow_made w #[] 0 (Nat.le_refl _) (Nat.zero_le _) rfl;obtain ⟨ii,hii,hz,hs,hby⟩:=info_parts info_k;have BD:Aside _:=h.bd;have NL:Aside (((List.range n).map fun j=>Value.int .u64 (f j)).length=n*1):=by show _=_;simp
  have N1:Aside (∀ u∈((List.range n).map fun j=>Value.int .u64 (f j)),u.oneCell'=true):=by
   intro u hu;obtain ⟨j,_,rfl⟩:=List.mem_map.1 hu;rfl
  clear h;have hq:∀ W:World,(binOp .eql 133 (.slice (some ad) n cp) (.slice none 0 0)).run prog W=.ok (.bool false) W:=fun _=>by kernel_rfl
  go_enter func120,ntmps120;go_wp2_with (at_builtin;refine wpList_append_src _ rfl _ _ 133 rfl w.heap.size 36 ii (.int .u64 0) 1 8 underlying133 hii hz hs hby rfl (by decide) _ 0 [] rfl O0.out (some ad) n cp ((List.range n).map fun j=>Value.int .u64 (f j)) rfl (fun q=>by cases q) NL.out OW.out N1.out (by simp only [maxLen];omega) (by omega) (by simp) ?_)
  intro v' w7 q1 q2 q3;have G7:Aside (Gw w w7):=((Gw.refl w).alloc _ _).grown q2 (fun k hk=>by cases hk;exact Nat.le_refl _)
  have FM:∃ bo c,v'=.slice bo n c/\KS w7 bo n f/\n<=c/\∀ a,bo=some a->w.heap.size<=a.block:=by
   have q1':w7.ownsRow w.heap.size 36 1 v' n ((List.range n).map fun j=>Value.int .u64 (f j)):=by simpa using q1
   rcases q1'.2 with ⟨e,z⟩ | ⟨g,cap,cur,e,hb,hh,hc,_⟩
   ·subst z
    exact ⟨none,0,e,⟨fun h0=>by omega,BD.out⟩,Nat.le_refl _,fun a q=>by cases q⟩
   ·subst e
    exact ⟨some ⟨g,0,none⟩,cap,rfl,ks_own q1' (Nat.le_refl _) (fun j hj=>by simp [hj]) BD.out,hc,fun a q=>by cases q;exact hb⟩
  obtain ⟨bo,c,rfl,r1,r2,r3⟩:=FM;have RES:Aside (KS w7 bo n f/\n<=c/\∀ a,bo=some a->w.heap.size<=a.block):=⟨r1,r2,r3⟩;clear q1 q2 q3 hii hz hs hby r1 r2 r3;go_wp2_with fail;go_ret;exact ⟨⟨bo,c,rfl,RES.out⟩,G7.out⟩
theorem clone_g {w:World} {ao:Option Addr} {cp:Nat} {l:List Sg} (h:GS w ao l) (hn:l.length<=2000000) :
  Calls prog 121 #[.slice ao l.length cp] w fun e w'=>(∃ bo c,e=.returned (.slice bo l.length c)/\SR w' w.heap.size (.slice bo l.length c) l)/\Gw w w':=by
 cases ao with
 | none =>
  have n0:l.length=0:=by
   rcases Nat.eq_zero_or_pos l.length with e | e
   ·exact e
   ·obtain ⟨b,off,e',_⟩:=h.cells e;cases e'
  have l0:l=[]:=List.eq_nil_of_length_eq_zero n0;subst l0;clear h n0;show Calls _ _ #[.slice none 0 cp] _ _;have hq:∀ W:World,(binOp .eql 163 (.slice none 0 cp) (.slice none 0 0)).run prog W=.ok (.bool true) W:=fun _=>by kernel_rfl
  go_enter func121,ntmps121;go_wp2_with fail;go_ret;exact ⟨⟨none,0,rfl,World.ownsRow_nil _ _ _ _⟩,Gw.refl w⟩
 | some ad =>
  have OW:Hid (∀ x,(some ad:Option Addr)=some x->∀ j u,(l.flatMap sgc)[j]?=some u->(w.alloc (.cells #[] 170)).cell? (x.add j)=some u):=by
   intro x e j u hu;cases e;have hj:j<l.length*5:=by
    have:=(List.getElem?_eq_some_iff.1 hu).1
    rw [flat_len] at this;exact this
   obtain ⟨b,off,e',hb,hc⟩:=gs_flat h (by omega)
   cases e'
   rw [Addr.add_lit];refine (((Gw.refl w).alloc _ _).cell _ _ hb).trans ((hc j hj).trans ?_);rw [<-flc_get l j hj];exact hu
  have O0:Hid ((w.alloc (.cells #[] 170)).ownsRow w.heap.size 170 5 (.slice (some ⟨w.heap.size,0,none⟩) 0 0) 0 []):=World.ownsRow_made w #[] 0 (Nat.le_refl _) (Nat.zero_le _) rfl;obtain ⟨ii,hii,hz,hs,hby⟩:=info_parts info_sg;have NL:Aside _:=flat_len l;have N1:Aside (∀ u∈l.flatMap sgc,u.oneCell'=true):=by
   intro u hu;obtain ⟨s,-,hs⟩:=List.mem_flatMap.1 hu;exact sgc_one s u hs
  clear h;obtain ⟨n,hln⟩:∃ n,l.length=n:=⟨_,rfl⟩;have LN:Aside _:=hln;rw [hln] at hn NL ⊢;clear hln;have hq:∀ W:World,(binOp .eql 163 (.slice (some ad) n cp) (.slice none 0 0)).run prog W=.ok (.bool false) W:=fun _=>by kernel_rfl
  go_enter func121,ntmps121;go_wp2_with (at_builtin;refine wpList_append_src _ rfl _ _ 163 rfl w.heap.size 170 ii (.agg #[.int .u64 0,.float .f64 0,.float .f64 0,.int .i64 0,.int .i64 0]) 5 40 underlying163 hii hz hs hby rfl (by decide) _ 0 [] rfl O0.out (some ad) n cp (l.flatMap sgc) rfl (fun q=>by cases q) NL.out OW.out N1.out (by simp only [maxLen];omega) (by omega) (by simp) ?_)
  intro v' w7 q1 q2 q3;have G7:Aside (Gw w w7):=((Gw.refl w).alloc _ _).grown q2 (fun k hk=>by cases hk;exact Nat.le_refl _)
  have FM:∃ bo c,v'=.slice bo n c/\SR w7 w.heap.size (.slice bo n c) l:=by
   have q1':w7.ownsRow w.heap.size 170 5 v' n (l.flatMap sgc):=by simpa using q1
   have q2':SR w7 w.heap.size v' l:=by show World.ownsRow _ _ _ _ _ _ _;rw [LN.out];exact q1'
   rcases q1'.2 with ⟨e,z⟩ | ⟨g,cap,cur,e,hb,hh,hc,_⟩
   ·subst z
    exact ⟨none,0,e,by rw [<-e];exact q2'⟩
   ·subst e
    exact ⟨some ⟨g,0,none⟩,cap,rfl,q2'⟩
  obtain ⟨bo,c,rfl,r1⟩:=FM;have RES:Aside _:=r1;clear q1 q2 q3 hii hz hs hby r1;go_wp2_with fail;go_ret;exact ⟨⟨bo,c,rfl,RES.out⟩,G7.out⟩
theorem of9 (M:ModelC) (eps:Int) (ao:Option Addr) (n cp:Nat) (f:Nat->Int) (lo:Option Addr) (lc:Nat) (L:List (List Sg)) (e0:-9223372036854775808<=eps) (e1:eps<9223372036854775808) (hn:n<=2000000) (hcp:n<=cp) (hS:Short L) (hlc:L.length<=lc) (w:World) (hk:KS w ao n f) (hv:VS w lo L) :
  Calls prog 107 #[.slice ao n cp,.int .i64 eps,.slice lo L.length lc] w fun ex w'=>PileOut HPile w w' ex eps f n L/\Gw w w':=by
 have CK:Hid _:=xcheck8_any M eps ao n cp f lo lc L e0 e1 hn hcp hS w hk hv;have HK:Aside _:=hk;have HV:Aside _:=hv;have SH:Aside _:=hS;obtain ⟨ln,hln⟩:∃ ln,L.length=ln:=⟨_,rfl⟩;have LN:Aside _:=hln;have ln1:ln<=2000000:=by have:=hS.1;omega
 rw [hln] at CK hlc ⊢;clear hk hv hS hln M;go_enter func107,ntmps107;go_wp2_with fail;refine Calls.mono CK.out ?_;rintro e w1 ⟨⟨E,rfl,hR⟩,g1⟩;have CR:Aside _:=hR;have G1:Aside _:=g1;clear hR g1 CK;by_cases E0:E=0
 ·subst E0
  have K1:Aside _:=HK.out.gw G1.out;go_wp2_with fail;refine (clone_k K1.out hn).mono ?_;rintro e w2 ⟨⟨ko,kc,rfl,hk2,hkc,hkb⟩,g2⟩;have K2:Aside (KS w2 ko n f/\n<=kc/\∀ a,ko=some a->w1.heap.size<=a.block):=⟨hk2,hkc,hkb⟩;have G2:Aside _:=g2;clear hk2 hkc hkb g2 K1;go_wp2_with fail;have B3:Aside ((w2.alloc (.cells #[.int .i64 eps,.slice ko n kc,.slice none 0 0] 136)).heap[w2.heap.size]?=some (.cells #[.int .i64 eps,.slice ko n kc,.slice none 0 0] 136 (0,0))):=heap_alloc_new w2 _;have G3:Aside (Gw w2 (w2.alloc (.cells #[.int .i64 eps,.slice ko n kc,.slice none 0 0] 136))):=(Gw.refl w2).alloc _ _;have z3:(w2.alloc (.cells #[.int .i64 eps,.slice ko n kc,.slice none 0 0] 136)).heap.size=w2.heap.size+1:=by simp
  obtain ⟨pb,hpb⟩:∃ pb,w2.heap.size=pb:=⟨_,rfl⟩;have PB:Aside _:=hpb;have Z3:Aside ((w2.alloc (.cells #[.int .i64 eps,.slice ko n kc,.slice none 0 0] 136)).heap.size=pb+1):=by rw [<-hpb];exact z3
  rw [hpb] at B3 ⊢;clear hpb z3;generalize w2.alloc (.cells #[.int .i64 eps,.slice ko n kc,.slice none 0 0] 136)=w3 at B3 G3 Z3 ⊢;obtain ⟨jj,hjj,jz,js,jby⟩:=info_parts info_sgs;have WP:Aside (w.heap.size<=pb):=by have:=G1.out.size;have:=G2.out.size;have:=PB.out;show _<=_;omega
  go_loopg [26] ln (fun gg s26 wr=>∃ (i:Nat) (vo:Option Addr) (vc:Nat) (vals:List Value),s26=.int .i64 (i:Int)/\i<=ln/\ln-i<=gg/\Aside (wr.heap[pb]?=some (.cells #[.int .i64 eps,.slice ko n kc,.slice vo i vc] 136 (0,0)))/\Aside (OwnV wr (pb+1) (.slice vo i vc) (L.take i) vals)/\Aside (Gw w2 wr))
  case atStart=>exact ⟨0,none,0,[],rfl,Nat.zero_le _,by omega,B3,(show Aside _ from ownv_nil _ _),G3⟩
  case round =>
   clear B3 G3;obtain ⟨i,vo,vc,vals,rfl,a1,a2,BK,OV,GG⟩:=hrel;obtain ⟨wS,hwS⟩:∃ wx,wx=wr:=⟨_,rfl⟩;subst hwS;by_cases hlt:i<ln
   ·obtain ⟨ab,af,rfl,hab,hac⟩:=(((HV.out.gw G1.out).gw G2.out).gw GG.out).cells (by rw [LN.out];omega)
    obtain ⟨so,sc,p1,_,_,p4⟩:=hac i (by rw [LN.out];exact hlt)
    obtain ⟨lv,hlv⟩:∃ lv,L.getD i []=lv:=⟨_,rfl⟩;have LV:Aside _:=hlv;have TK:Aside (L.take (i+1)=L.take i++[lv]):=by have:=take_next (L:=L) (i:=i) (by rw [LN.out];exact hlt);rw [hlv] at this;exact this
    have TL:Aside ((L.take i).length=i):=by show _=_;rw [List.length_take,LN.out];omega
    rw [hlv] at p1 p4;have sn1:lv.length<=2000000:=by have:=SH.out.2 i (by rw [LN.out];exact hlt);rw [hlv] at this;exact this
    have GSR:Aside _:=p4;have CG:Hid (∀ W,Gw wS W->Calls prog 121 #[.slice so lv.length sc] W fun e w'=>(∃ bo c,e=.returned (.slice bo lv.length c)/\SR w' W.heap.size (.slice bo lv.length c) lv)/\Gw W w'):=fun W gW=>clone_g (p4.gw gW) sn1
    obtain ⟨sn,hsn⟩:∃ sn,lv.length=sn:=⟨_,rfl⟩;have SN:Aside _:=hsn;rw [hsn] at p1 CG;have bl:=(Array.getElem?_eq_some_iff.1 BK.out).1;have OW:Hid (∀ W,Gw wS W->∀ o,(W.alloc o).ownsRow (pb+1) 163 1 (.slice vo i vc) i vals):=fun W gW o=>by
     have:=(OV.out.gw gW).outer
     rw [TL.out] at this;exact this.alloc o
    have FIN:Hid (∀ (W:World) (bo:Option Addr) (c:Nat) (v':Value) (w7:World),Gw wS W->SR W wS.heap.size (.slice bo sn c) lv->w7.ownsRow (pb+1) 163 1 v' (i+1) (vals++[.slice bo sn c])->(W.alloc (.cells #[.slice bo sn c] 163)).grownBy w7 (Value.slice vo i vc).ownBlock->(v'.ownBlock=(Value.slice vo i vc).ownBlock\/v'.ownBlock=some (W.heap.size+1))->w7.heap[pb]?=some (.cells #[.int .i64 eps,.slice ko n kc,.slice vo i vc] 136 (0,0))/\(w7.setCell ⟨pb,2,none⟩ v').heap[pb]?=some (.cells #[.int .i64 eps,.slice ko n kc,v'] 136 (0,0))/\OwnV (w7.setCell ⟨pb,2,none⟩ v') (pb+1) v' (L.take (i+1)) (vals++[.slice bo sn c])/\Gw w2 (w7.setCell ⟨pb,2,none⟩ v')):=fun W bo c v' w7 gW hs r1 r2 r4=>by
     have ow:∀ q,(Value.slice vo i vc).ownBlock=some q->pb+1<=q:=fun q e=>((OW.out W gW (.cells #[] 0)).lt q e).1
     have B7:w7.heap[pb]?=some (.cells #[.int .i64 eps,.slice ko n kc,.slice vo i vc] 136 (0,0)):=(r2.block pb (by have:=gW.size;simp;omega) (fun e=>by have:=ow pb e.symm;omega)).trans ((heap_alloc_old _ _ (Nat.lt_of_lt_of_le bl gW.size)).trans ((gW.below.block pb bl).trans BK.out))
     refine ⟨B7,set_pl2 B7 v',?_,?_⟩
     ·rw [TK.out]
      have:=OwnV.more (o:=.cells #[.slice bo sn c] 163) OV.out gW hs (by omega) (by rw [TL.out];exact r1) r2 r4
      exact this.keep fun q hq _=>Go.Deep.blk_setCell_other _ _ _ _ (by show q≠pb;omega)
     ·refine Gw.setCell (((GG.out.trans gW).alloc _ _).grown r2 (fun q hq=>?_)) (by show w2.heap.size<=pb;rw [PB.out];exact Nat.le_refl _) _
      have:=ow q hq
      rw [PB.out];omega
    have k2:wS.drew.cell? ⟨pb,2,none⟩=some (.slice vo i vc):=(pl_cells BK.out).2.2;clear hac hlv hsn p4;go_wp2_with fail;go_region_law (first
     | (go_simp;refine (CG.out _ ((Gw.refl wS).drew)).mono ?_;rintro e w4 ⟨⟨bo,c,rfl,hs4⟩,g4⟩;have S4:Hid (SR w4 wS.heap.size (.slice bo sn c) lv):=hs4;have G4:Hid (Gw wS w4):=((Gw.refl wS).drew.trans g4);have k4:w4.cell? ⟨pb,2,none⟩=some (.slice vo i vc):=(g4.cell _ _ bl).trans k2;have l4:pb<w4.heap.size:=Nat.lt_of_lt_of_le bl g4.size;clear hs4 g4)
     | (refine step_append_v _ rfl (.tmp 34) (.tmp 37) 134 rfl (pb+1) 163 jj (.slice none 0 0) 1 24 underlying134 hjj jz js jby rfl (by decide) (.slice vo i vc) i vals (by simp [Act.eval]) (OW.out w4 G4.out _) ⟨w4.heap.size,0,none⟩ 1 1 [.slice bo sn c] (by simp [Act.eval]) rfl (new_val w4 (.slice bo sn c) 163) (fun u hu=>by simp at hu;subst hu;rfl) (by simp only [maxLen];omega) (by omega) (Nat.le_trans (show pb+1<=w4.heap.size by omega) ((Gw.refl w4).alloc _ _).size) ?_;intro v' w7 r1 r2 r3 r4;obtain ⟨b8,cap8,ev,_,_,_⟩:=own_slice r1 (by simpa using r3);obtain ⟨B7,Q7⟩:=FIN.out w4 bo c v' w7 G4.out S4.out r1 r2 (by simpa using r4);have k7:=(pl_cells B7).2.2;have f7:w7.frozen? ⟨pb,2,none⟩=false:=(by simp [World.frozen?,B7]);have l7:pb<w7.heap.size:=(Array.getElem?_eq_some_iff.1 B7).1;have Q8:Hid _:=Q7;clear B7 Q7 r1 r2 r3 r4;subst ev))
    all_goals go_wp2_with fail
    all_goals go_roundg (ln-(i+1))
    all_goals first
     | (case measure=>omega)
     | (case rel=>exact ⟨i+1,some ⟨b8,0,none⟩,cap8,vals++[Value.slice bo sn c],by go_num,by omega,Nat.le_refl _,(show Aside _ from Q8.out.1),(show Aside _ from Q8.out.2.1),(show Aside _ from Q8.out.2.2)⟩)
   ·have ei:i=ln:=by omega
    subst ei;have e1:L.take i=L:=by rw [List.take_of_length_le (by rw [LN.out];exact Nat.le_refl _)]
    have OV':OwnV wS w.heap.size (.slice vo L.length vc) L vals:=by
     have:=OV.out
     rw [e1] at this;rw [LN.out];exact this.base (by have:=WP.out;omega)
    have GA:Aside _:=(G1.out.trans G2.out).trans GG.out;have VSF:VSf wS w.heap.size vo L:=OV'.vsf (vs_ok8 HV.out);have HPL:Aside (HPile wS pb (fun q=>w.heap.size<=q/\q<wS.heap.size) eps f n L):=by
     refine ⟨⟨wS,w.heap.size,ko,kc,vo,vc,fun q=>Iff.rfl,Nat.le_refl _,fun q _ _=>rfl,by rw [LN.out];exact BK.out,WP.out,K2.out.1.gw GG.out,fun a ea=>Nat.le_trans G1.out.size (K2.out.2.2 a ea),VSF⟩,hn,SH.out⟩
    clear OV' VSF e1;go_wp2_with fail;go_ret2;exact ⟨⟨0,CR.out,.inr ⟨rfl,pb,_,rfl,fun q hq=>hq.1,HPL.out⟩⟩,GA.out⟩
 ·have t0:(E == 0)=false:=by simpa using E0
  have HE:Aside _:=E0;clear E0;go_wp2_with fail;go_ret2;exact ⟨⟨E,CR.out,.inl ⟨HE.out,rfl⟩⟩,G1.out⟩
end Go.Proofs.YtemijdhemdhclaaGreat
