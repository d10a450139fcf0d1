/- The document's layer 16: Of. -/
import Derived.Test.YtcboobmfnmgldaaGreatBDLv
import Derived.Test.YtcboobmfnmgldaaGreatBQClone
set_option linter.unusedVariables false
set_option maxHeartbeats 8000000
set_option maxRecDepth 10000
open Go.Proofs.Tryz
namespace Go.Proofs.YtcboobmfnmgldaaGreat
open Go.RowKit
theorem ada (eps buf keys:Int) (ao bo:Option Addr) (c d:Nat) (b:List ah) (l:List (Option Rn)) (hb:b.length+tot l<=2000000) (hl:l.length<=2000000) (hc:b.length<=c) (hz:ao=none->b.length=0/\c=0) (w:World) (he:EL w ao b) (hp:PR bI w bo l) :
  Calls prog 20 #[.agg #[AI eps,AI buf,AI keys],.slice ao b.length c,.slice bo l.length d] w fun e w'=>ka w w' e eps buf keys b l/\Gw w w':=by
 have EA:ag (EL w ao b):=he;have HP:ag (PR bI w bo l):=hp;have TB:ag (b.length+tot l<=2000000):=hb;have BC:ag (b.length<=c/\(ao=none->b.length=0/\c=0)):=⟨hc,hz⟩;have b0:(w.alloc (.cells #[AI eps,AI buf,AI keys] 23)).heap[w.heap.size]?=some (.cells #[AI eps,AI buf,AI keys] 23 (0,0)):=heap_alloc_new w _;have G0:ag (Gw w (w.alloc (.cells #[AI eps,AI buf,AI keys] 23))):=(Gw.refl w).alloc _ _;have NW:ag (∀ W,_):=fun W=>ac5 eps buf keys W
 have CH:ag (∀ W,Gw w W->Calls prog 37 #[.slice ao b.length c] W fun e w'=>(∃ r:Int,e=.returned (AI r)/\dw (ek b) (ev b) (eg b) b.length r)/\Gw W w'):=fun W g=>Nj ao b.length c (ek b) (ev b) (eg b) (by omega) W (EA.o.gw g)
 have OF:ag (∀ W,Gw w W->Calls prog 41 #[AI eps,AI buf,.slice bo l.length d] W fun e w'=>(∃ E,lI eps buf l E/\((E≠0/\e=.returned (.tuple #[.pointer none,AI E]))\/(E=0/\∃ p,e=.returned (.tuple #[BY p,AI 0]))))/\Gw W w'):=fun W g=>(ach eps buf bo d l (by omega) W (HP.o.gw bI.kp g)).mono fun e w' ⟨⟨E,a,x⟩,gg⟩=>⟨⟨E,a,by
  rcases x with x | ⟨x,p,y,_⟩
  ·exact .inl x
  ·exact .inr ⟨x,p,y⟩⟩,gg⟩
 have Sw:ag (∀ (W:World) (xo:Option Addr) (xc:Nat) (L:List (List ah)),L.length<=41->aF L<=2000000->EV W xo L->Calls prog 42 #[.slice xo L.length xc] W fun e w'=>(∃ ob oc,e=.returned (.slice ob (aV L).length oc))/\Gw W w'):=fun W xo xc L h1 h2 h3=>(ac3 xo xc L (by omega) h2 W h3).mono fun e w' ⟨⟨ob,oc,a,_⟩,g⟩=>⟨⟨ob,oc,a⟩,g⟩
 obtain ⟨jj,mF,jz,js,mG⟩:=info_parts On;obtain ⟨ii,aQ,iz,is,Et⟩:=info_parts nK;obtain ⟨bq,aE⟩:∃ b,w.heap.size=b:=⟨_,rfl⟩;have BQ:ag (w.heap.size=bq):=aE;rw [aE] at b0;have CB:ag (∀ W W',W.heap[bq]?=some (.cells #[AI eps,AI buf,AI keys] 23 (0,0))->Gw W W'->W'.heap[bq]?=some (.cells #[AI eps,AI buf,AI keys] 23 (0,0))):=fun W W' h g=>(g.below.block _ (Array.getElem?_eq_some_iff.1 h).1).trans h
 obtain ⟨bn,fL⟩:∃ n,b.length=n:=⟨_,rfl⟩;have BN:ag (b.length=bn):=fL;obtain ⟨ln,au⟩:∃ n,l.length=n:=⟨_,rfl⟩;have LN:ag (l.length=ln):=au;rw [fL] at CH;rw [au] at OF;rw [fL,au];have bn1:bn<=2000000:=by omega
 have Sx:ln<=2000000:=by omega
 clear he hp hb hc hz hl aE fL au;go_enter func20,ntmps20;go_wp2_with fail;rw [BQ.o];generalize w.alloc (.cells #[AI eps,AI buf,AI keys] 23)=w0 at b0 G0 ⊢;refine Calls.mono (NW.o w0) ?_;rintro e w1 ⟨hN,g1⟩;have B1:ag (w1.heap[bq]?=some (.cells #[AI eps,AI buf,AI keys] 23 (0,0))):=CB.o _ _ b0 g1;have G1:ag (Gw w w1):=G0.o.trans g1;have S0:ag (w.heap.size<=w0.heap.size):=G0.o.size;clear b0 g1 NW;rcases hN with ⟨no,rfl⟩ | ⟨ok,pt,pb,pu,rfl,hn⟩
 ·have ak:ag (ka w w1 (.returned (.tuple #[.pointer none,AI 160])) eps buf keys b l):=⟨160,0,.inl ⟨no,rfl⟩,.inl ⟨by decide,rfl⟩⟩
  clear no;go_wp2_with fail;go_ret2;exact ⟨ak.o,G1.o⟩
 have OK:ag (eX eps buf keys):=ok;have HN:ag (Hz w0 w1 eps buf keys pt pb pu):=hn;have kb:=ok.2.2.1;clear ok hn;go_wp2_with fail;refine (CH.o w1 G1.o).mono ?_;rintro e w2 ⟨⟨r,rfl,chk⟩,g2⟩;have B2:ag (w2.heap[bq]?=some (.cells #[AI eps,AI buf,AI keys] 23 (0,0))):=CB.o _ _ B1.o g2;have G2:ag (Gw w1 w2):=g2;have CK:ag (dw (ek b) (ev b) (eg b) b.length r):=by show dw _ _ _ _ _;rw [BN.o];exact chk
 clear g2 chk CH B1;by_cases r0:r=0
 rotate_left
 ·have t1:(r != 0)=true:=by simpa using r0
  have ak:ag (ka w w2 (.returned (.tuple #[.pointer none,AI r])) eps buf keys b l):=⟨r,0,.inr ⟨OK.o,.inl ⟨r0,CK.o⟩⟩,.inl ⟨r0,rfl⟩⟩;clear r0;go_wp2_with fail;go_ret2;exact ⟨ak.o,G1.o.trans G2.o⟩
 subst r0;obtain ⟨k0,k1,k2⟩:=rX B2.o;have kl:=(Array.getElem?_eq_some_iff.1 B2.o).1;by_cases full:buf<=(bn:Int)
 ·have t1:decide (buf<=(bn:Int))=true:=by simpa using full
  have ak:ag (ka w w2 (.returned (.tuple #[.pointer none,AI 140])) eps buf keys b l):=⟨140,0,.inr ⟨OK.o,.inr ⟨CK.o,.inl ⟨by rw [BN.o];exact full,rfl⟩⟩⟩,.inl ⟨by decide,rfl⟩⟩
  clear full;go_wp2_with fail;go_ret2;exact ⟨ak.o,G1.o.trans G2.o⟩
 have t1:decide (buf<=(bn:Int))=false:=by simpa using full
 have Bc:ag ((b.length:Int)<buf):=by show _<_;rw [BN.o];omega
 clear full;go_wp2_with fail;refine (OF.o w2 (G1.o.trans G2.o)).mono ?_;rintro e w3 ⟨⟨E,hE,hX⟩,g3⟩;have G3:ag (Gw w1 w3):=G2.o.trans g3;have B3:ag (w3.heap[bq]?=some (.cells #[AI eps,AI buf,AI keys] 23 (0,0))):=CB.o _ _ B2.o g3;have OE:ag (lI eps buf l E):=hE;clear g3 hE G2 B2 OF k0 k1 k2 kl;rcases hX with ⟨e0,rfl⟩ | ⟨e0,pc,rfl⟩
 ·have t2:(E != 0)=true:=by simpa using e0
  have ak:ag (ka w w3 (.returned (.tuple #[.pointer none,AI E])) eps buf keys b l):=⟨E,0,.inr ⟨OK.o,.inr ⟨CK.o,.inr ⟨Bc.o,.inl ⟨e0,OE.o⟩⟩⟩⟩,.inl ⟨e0,rfl⟩⟩;clear e0;go_wp2_with fail;go_ret2;exact ⟨ak.o,G1.o.trans G3.o⟩
 subst e0;have Bd:ag (∀ j,lists ((aH l).drop j)=lists (l.drop j)):=fun j=>ac8 (by
  rcases OE.o with ⟨x,_⟩ | ⟨x,_⟩ | ⟨_,⟨_,x⟩,_⟩
  ·exact absurd x (by decide)
  ·exact absurd x (by decide)
  ·exact x) j
 have HU:ag (∀ r,some r∈l->aG ah.k r.l/\aW r.l):=fun r hr=>⟨(HP.o.runs r hr).ok.rise,(HP.o.runs r hr).ok⟩
 have adb:ag (∀ w',(∃ i,keys<((aV (lists (l.drop i)).reverse).length:Int))->ka w w' (.returned (.tuple #[.pointer none,AI 161])) eps buf keys b l):=fun w' ⟨i,hi⟩=>⟨161,0,.inr ⟨OK.o,.inr ⟨CK.o,.inr ⟨Bc.o,.inr ⟨OE.o,.inl ⟨rfl,.inr ⟨rfl,rfl,.inl ⟨i,_,?_,hi⟩⟩⟩⟩⟩⟩⟩,.inl ⟨by decide,rfl⟩⟩
 rotate_left
 ·rw [Sv (Bd.o i)]
  exact Ss fun r hr=>(HU.o r (List.mem_of_mem_drop hr)).1
 have xQ:ag (LE w w3.heap.size w3 (.slice none 0 0) (lists (l.drop ln)).reverse):=by
  rw [List.drop_eq_nil_of_le (by rw [LN.o];exact Nat.le_refl _)]
  exact LE.nil w _ w3
 have lz:((lists (l.drop ln)).reverse).length=0:=by rw [List.drop_eq_nil_of_le (by rw [LN.o];exact Nat.le_refl _)];rfl
 have Sy:ag (∀ j,ln<=j->((aV (lists (l.drop j)).reverse).length:Int)<=keys):=fun j hj=>by
  rw [List.drop_eq_nil_of_le (by rw [LN.o];exact hj)]
  show ((aV ([]:List (List ah))).length:Int)<=keys;show (0:Int)<=keys;omega
 have ws:IntKind.i64.wrap ((ln:Int)-1)=(ln:Int)-1:=by rw [IntKind.wrap_i64];omega
 have SZ:ag (∀ i,aF (lists (l.drop i)).reverse<=tot l/\((lists (l.drop i)).reverse).length<=40):=fun i=>by
  have a:=ac6 l i;have c:=Bb (l.drop i);rw [Sq,List.length_reverse];have e:aF (lists (l.drop i))=tot (l.drop i):=rfl;have c2:(lists (l.drop i)).length<=40:=by
   rw [<-Bd.o i];refine Nat.le_trans (Bb _) ?_;rw [List.length_drop];have:(aH l).length=40:=by unfold aH;rw [List.length_append,List.length_take,List.length_replicate];omega
   omega
  omega
 have Sz:ag (Gw w3 w3):=Gw.refl w3;go_wp2_with fail;go_loopg [11,12] ln (fun gg gV nM wr=>∃ (i m:Nat) (xo:Option Addr) (xc:Nat),gV=.slice xo m xc/\nM=AI ((i:Int)-1)/\i<=ln/\i<=gg/\ag (((lists (l.drop i)).reverse).length=m)/\ag (LE w w3.heap.size wr (.slice xo m xc) (lists (l.drop i)).reverse)/\ag (∀ j,i<=j->((aV (lists (l.drop j)).reverse).length:Int)<=keys)/\ag (Gw w3 wr))
 case atStart=>exact ⟨ln,0,none,0,rfl,rfl,Nat.le_refl _,Nat.le_refl _,lz,xQ,Sy,Sz⟩
 case round =>
  clear xQ Sy lz Sz ws;obtain ⟨i,m,xo,xc,rfl,rfl,i1,i2,LM,LX,jy,GX⟩:=hrel;obtain ⟨wS,bj⟩:∃ wx,wx=wr:=⟨_,rfl⟩;subst bj;have SD:ag (Gw w wS):=G1.o.trans (G3.o.trans GX.o);have Ia:=CB.o _ _ B3.o GX.o;obtain ⟨k0,k1,k2⟩:=rX Ia;have Ib:=(Array.getElem?_eq_some_iff.1 Ia).1;clear Ia;have m40:m<=40:=by rw [<-LM.o];exact (SZ.o i).2
  by_cases i0:0<i
  ·obtain ⟨k,rfl⟩:∃ k,i=k+1:=⟨i-1,by omega⟩
   have kc:((k+1:Nat):Int)-1=(k:Int):=by omega
   rw [kc];have kl:k<l.length:=by rw [LN.o];omega
   have kn:k<ln:=by omega
   have ws:IntKind.i64.wrap ((k:Int)-1)=(k:Int)-1:=by rw [IntKind.wrap_i64];omega
   obtain ⟨SJ,po,rfl,lP,SM⟩:=(HP.o.gw bI.kp SD.o).cells (by omega)
   have ck:=SM k kl;have DR:=rj kl;clear SM kc;rcases iW l k with e | ⟨r,e⟩
   ·rw [e] at ck DR
    have ua:wS.cell? ⟨SJ,po+k,none⟩=some (.pointer none):=ck;have LK:lists (l.drop k)=lists (l.drop (k+1)):=by rw [DR];rfl
    have LM':ag (((lists (l.drop k)).reverse).length=m):=by rw [LK];exact LM
    have Ic:ag (LE w w3.heap.size wS (.slice xo m xc) (lists (l.drop k)).reverse):=by rw [LK];exact LX
    have Ie:ag (∀ j,k<=j->((aV (lists (l.drop j)).reverse).length:Int)<=keys):=fun j hj=>by
     by_cases x:j=k
     ·subst x;rw [LK];exact jy.o _ (Nat.le_refl _)
     ·exact jy.o j (by omega)
    clear ck e DR LK LM LX jy k0 k1 k2 Ib;go_wp2_with fail;go_roundg k
    case measure=>omega
    case rel=>exact ⟨k,m,xo,xc,rfl,by go_num,by omega,Nat.le_refl _,LM',Ic,Ie,GX⟩
   ·rw [e] at ck DR
    have ua:wS.cell? ⟨SJ,po+k,none⟩=some (BY (r.p)):=ck;have LK:(lists (l.drop k)).reverse=(lists (l.drop (k+1))).reverse++[r.l]:=by rw [DR];show (r.l::lists (l.drop (k+1))).reverse=_;rw [List.reverse_cons]
    have Ig:ag ((lists (l.drop k)).reverse=(lists (l.drop (k+1))).reverse++[r.l]):=LK;have ra:=HP.o.runs r (jo kl e);obtain ⟨eo,ec,lo,lc,fT,ur,sp,wO,_⟩:=ra.h.openS;have pW:=(SD.o.below.block _ (Array.getElem?_eq_some_iff.1 fT).1).trans fT;obtain ⟨f0,_,_⟩:=zV pW;have rl:=(Array.getElem?_eq_some_iff.1 pW).1;have Be:ag (EL w eo r.l/\r.l.length<=ec/\(eo=none->r.l.length=0/\ec=0)):=⟨ur,wO.1,wO.2⟩;obtain ⟨az,ro,rp⟩:=LX.o.row;rw [LM.o] at ro;have oq:ag (wS.ownsRow w3.heap.size 24 1 (.slice xo m xc) m az):=ro;have RP:ag (∀ i,i<((lists (l.drop (k+1))).reverse).length->∃ bo c,az[i]?=some (.slice bo (((lists (l.drop (k+1))).reverse).getD i []).length c)/\(((lists (l.drop (k+1))).reverse).getD i []).length<=c/\EL w bo (((lists (l.drop (k+1))).reverse).getD i [])/\(bo=none->(((lists (l.drop (k+1))).reverse).getD i []).length=0/\c=0)):=rp;obtain ⟨rn,rq⟩:∃ n,r.l.length=n:=⟨_,rfl⟩;have RN:ag (r.l.length=rn):=rq;rw [rq] at f0;have gz:=GX.o.size;generalize r.p=rp' at ua f0 rl;clear ck e DR LK ra fT ur sp wO pW rq ro rp;go_wp2_with (at_builtin;refine wpList_append_own _ rfl _ _ 25 rfl w3.heap.size 24 jj (.slice none 0 0) 1 24 underlying25 mF jz js mG rfl (by decide) _ m _ rfl (oq.o.alloc _) ⟨wS.heap.size,0,none⟩ 1 1 [(.slice eo rn ec)] rfl rfl (Sr wS (.slice eo rn ec) 24) (fun u hu=>by simp at hu;subst hu;rfl) (by simp only [maxLen];omega) (by omega) (by simp;omega) ?_)
    intro v' w8 r1 r2 r3;obtain ⟨b8,cap8,rfl,nO,_,_⟩:=dh r1 (by simpa using r3)
    have rY:ag (Gw w3 w8):=(GX.o.alloc _ _).grown r2 (fun q hq=>(World.ownsRow.lt oq.o q hq).1)
    have lx:ag (LE w w3.heap.size w8 (.slice (some ⟨b8,0,none⟩) (m+1) cap8) (lists (l.drop k)).reverse):=by
     show LE _ _ _ _ _;rw [Ig.o];exact LE.more oq.o LM.o RN.o RP.o Be.o.2.1 Be.o.1 Be.o.2.2 r1
    have p9:ag (((lists (l.drop k)).reverse).length=m+1):=by show _=_;rw [Ig.o,List.length_append,LM.o];rfl
    have xR:ag (Gw w w8):=G1.o.trans (G3.o.trans rY.o);have rZ:=CB.o _ _ B3.o rY.o;obtain ⟨_,_,z2⟩:=rX rZ;have xS:=(Array.getElem?_eq_some_iff.1 rZ).1;obtain ⟨nl,xU⟩:∃ n,(aV (lists (l.drop k)).reverse).length=n:=⟨_,rfl⟩;have NL:ag ((aV (lists (l.drop k)).reverse).length=nl):=xU;have LV:ag (∀ W,Gw w8 W->Calls prog 42 #[.slice (some ⟨b8,0,none⟩) (m+1) cap8] W fun e w'=>(∃ ob oc,e=.returned (.slice ob nl oc))/\Gw W w'):=fun W g=>by
     have:=Sw.o W (some ⟨b8,0,none⟩) cap8 (lists (l.drop k)).reverse (by rw [p9.o];omega) (by have:=(SZ.o k).1;have:=TB.o;omega) ((lx.o.gw g).ev p9.o (xR.o.trans g))
     rw [p9.o,NL.o] at this;exact this
    have HW:ag (∀ w',Gw w8 w'->Gw w8 w'/\w'.cell? ⟨bq,2,none⟩=some (AI keys)/\bq<w'.heap.size):=fun w' g=>⟨g,(g.cell _ _ xS).trans z2,Nat.lt_of_lt_of_le xS g.size⟩
    have jr:ag (decide (keys<(nl:Int))=true->keys<(nl:Int)):=fun h=>by simpa using h
    have ou:ag (decide (keys<(nl:Int))=false->(nl:Int)<=keys):=fun h=>by simpa using h
    obtain ⟨tb,sq⟩:∃ t,decide (keys<(nl:Int))=t:=⟨_,rfl⟩;rw [sq] at jr ou;clear r1 r2 r3 Ig LX LM oq RP RN Be ua f0 rl k0 k1 k2 Ib rZ xU nO gz;go_wp2_with fail;go_region_held3 (fun w'=>Gw w8 w'/\w'.cell? ⟨bq,2,none⟩=some (AI keys)/\bq<w'.heap.size)
     ((refine HW.o _ ?_;(repeat (first | exact Gw.refl _ | exact And.left (by assumption) | exact ag.o (by assumption) | refine Gw.drew ?_ | refine Gw.drewN ?_ _));done))
     ((go_at_call 42;refine (LV.o _ (by repeat (first | exact Gw.refl _ | exact And.left (by assumption) | exact ag.o (by assumption) | refine Gw.drew ?_ | refine Gw.drewN ?_ _))).mono ?_;rintro ex u5 ⟨⟨yo,yc,rfl⟩,g5⟩;have G5:ag (Gw w8 u5):=Gw.trans (by repeat (first | exact Gw.refl _ | exact And.left (by assumption) | exact ag.o (by assumption) | refine Gw.drew ?_ | refine Gw.drewN ?_ _)) g5;clear g5))
    cases tb with
    | true =>
     have ak:ag (∀ w',ka w w' (.returned (.tuple #[.pointer none,AI 161])) eps buf keys b l):=fun w'=>adb.o w' ⟨k,by rw [NL.o];exact jr.o rfl⟩
     clear jr ou LV HW;go_wp2_with fail;go_ret2;exact ⟨ak.o _,xR.o.trans G5.o⟩
    | false =>
     have Ie:ag (∀ j,k<=j->((aV (lists (l.drop j)).reverse).length:Int)<=keys):=fun j hj=>by
      by_cases x:j=k
      ·subst x;rw [NL.o];exact ou.o rfl
      ·exact jy.o j (by omega)
     have Ic:ag (LE w w3.heap.size u5 (.slice (some ⟨b8,0,none⟩) (m+1) cap8) (lists (l.drop k)).reverse):=lx.o.gw G5.o;have xV:ag (Gw w3 u5):=rY.o.trans G5.o;clear jr ou LV HW jy lx;go_wp2_with fail;go_roundg k
     case measure=>omega
     case rel=>exact ⟨k,m+1,some ⟨b8,0,none⟩,cap8,rfl,by go_num,by omega,Nat.le_refl _,p9,Ic,Ie,xV⟩
  ·have ei:i=0:=by omega
   subst ei;obtain ⟨az,ro,rp⟩:=LX.o.row;rw [LM.o] at ro;rw [List.drop_zero] at LM;rw [List.drop_zero] at rp;have oq:ag (wS.ownsRow w3.heap.size 24 1 (.slice xo m xc) m az):=ro;have RP:ag (∀ i,i<((lists l).reverse).length->∃ bo c,az[i]?=some (.slice bo (((lists l).reverse).getD i []).length c)/\(((lists l).reverse).getD i []).length<=c/\EL w bo (((lists l).reverse).getD i [])/\(bo=none->(((lists l).reverse).getD i []).length=0/\c=0)):=rp;have gz:=GX.o.size;clear ro rp k0 k1 k2 Ib LX;go_wp2_with (at_builtin;refine wpList_append_own _ rfl _ _ 25 rfl w3.heap.size 24 jj (.slice none 0 0) 1 24 underlying25 mF jz js mG rfl (by decide) _ m _ rfl (oq.o.alloc _) ⟨wS.heap.size,0,none⟩ 1 1 [(.slice ao bn c)] rfl rfl (Sr wS (.slice ao bn c) 24) (fun u hu=>by simp at hu;subst hu;rfl) (by simp only [maxLen];omega) (by omega) (by simp;omega) ?_)
   intro v' w8 r1 r2 r3;obtain ⟨b8,cap8,rfl,nO,_,_⟩:=dh r1 (by simpa using r3)
   have rY:ag (Gw w3 w8):=(GX.o.alloc _ _).grown r2 (fun q hq=>(World.ownsRow.lt oq.o q hq).1)
   have lx:ag (LE w w3.heap.size w8 (.slice (some ⟨b8,0,none⟩) (m+1) cap8) ((lists l).reverse++[b])):=LE.more oq.o LM.o BN.o RP.o BC.o.1 EA.o BC.o.2 r1;have p9:ag (((lists l).reverse++[b]).length=m+1):=by show _=_;rw [List.length_append,LM.o];rfl
   have xR:ag (Gw w w8):=G1.o.trans (G3.o.trans rY.o);have rZ:=CB.o _ _ B3.o rY.o;obtain ⟨_,_,z2⟩:=rX rZ;have xS:=(Array.getElem?_eq_some_iff.1 rZ).1;obtain ⟨nl,xU⟩:∃ n,(aV ((lists l).reverse++[b])).length=n:=⟨_,rfl⟩;have NL:ag ((aV ((lists l).reverse++[b])).length=nl):=xU;have LV:ag (∀ W,Gw w8 W->Calls prog 42 #[.slice (some ⟨b8,0,none⟩) (m+1) cap8] W fun e w'=>(∃ ob oc,e=.returned (.slice ob nl oc))/\Gw W w'):=fun W g=>by
    have s0:aF ((lists l).reverse++[b])<=2000000:=by
     rw [nQ,Sq];have e:aF (lists l)=tot l:=rfl;have e2:aF [b]=b.length:=by rw [iF];rfl
     have:=TB.o
     omega
    have:=Sw.o W (some ⟨b8,0,none⟩) cap8 ((lists l).reverse++[b]) (by rw [p9.o];omega) s0 ((lx.o.gw g).ev p9.o (xR.o.trans g))
    rw [p9.o,NL.o] at this;exact this
   have HW:ag (∀ w',Gw w8 w'->Gw w8 w'/\w'.cell? ⟨bq,2,none⟩=some (AI keys)/\bq<w'.heap.size):=fun w' g=>⟨g,(g.cell _ _ xS).trans z2,Nat.lt_of_lt_of_le xS g.size⟩
   have jr:ag (decide (keys<(nl:Int))=true->keys<(nl:Int)):=fun h=>by simpa using h
   have ou:ag (decide (keys<(nl:Int))=false->(nl:Int)<=keys):=fun h=>by simpa using h
   obtain ⟨tb,sq⟩:∃ t,decide (keys<(nl:Int))=t:=⟨_,rfl⟩;rw [sq] at jr ou;have SP:ag (aS (bE b (aH l)) nl):=by
    have e:bE b (aH l)=bE b l:=ac9 (by have:=Bd.o 0;rwa [List.drop_zero,List.drop_zero] at this)
    show aS _ _;rw [e,<-NL.o];exact (acQ (aW.rise (l:=b) CK.o) (fun r hr=>(HU.o r hr).1)).2.2.2
   clear r1 r2 r3 LM oq RP rZ xU nO gz lx;go_wp2_with fail;go_region_held3 (fun w'=>Gw w8 w'/\w'.cell? ⟨bq,2,none⟩=some (AI keys)/\bq<w'.heap.size)
    ((refine HW.o _ ?_;(repeat (first | exact Gw.refl _ | exact And.left (by assumption) | exact ag.o (by assumption) | refine Gw.drew ?_ | refine Gw.drewN ?_ _));done))
    ((go_at_call 42;refine (LV.o _ (by repeat (first | exact Gw.refl _ | exact And.left (by assumption) | exact ag.o (by assumption) | refine Gw.drew ?_ | refine Gw.drewN ?_ _))).mono ?_;rintro ex u5 ⟨⟨yo,yc,rfl⟩,g5⟩;have G5:ag (Gw w8 u5):=Gw.trans (by repeat (first | exact Gw.refl _ | exact And.left (by assumption) | exact ag.o (by assumption) | refine Gw.drew ?_ | refine Gw.drewN ?_ _)) g5;clear g5))
   cases tb with
   | true =>
    have ak:ag (ka w u5 (.returned (.tuple #[.pointer none,AI 161])) eps buf keys b l):=⟨161,0,.inr ⟨OK.o,.inr ⟨CK.o,.inr ⟨Bc.o,.inr ⟨OE.o,.inl ⟨rfl,.inr ⟨rfl,rfl,.inr ⟨nl,SP.o,jr.o rfl⟩⟩⟩⟩⟩⟩⟩,.inl ⟨by decide,rfl⟩⟩
    clear jr ou LV HW;go_wp2_with fail;go_ret2;exact ⟨ak.o,xR.o.trans G5.o⟩
   | false =>
    have ak:ag (∀ w',ka w w' (.returned (.tuple #[BY pt,AI 0])) eps buf keys b l):=fun w'=>⟨0,nl,.inr ⟨OK.o,.inr ⟨CK.o,.inr ⟨Bc.o,.inr ⟨OE.o,.inr ⟨rfl,.inl ⟨rfl,fun j=>⟨_,by
     rw [Sv (Bd.o j)];exact Ss fun r hr=>(HU.o r (List.mem_of_mem_drop hr)).1,jy.o j (Nat.zero_le _)⟩,SP.o,ou.o rfl⟩⟩⟩⟩⟩⟩,.inr ⟨rfl,pt,rfl⟩⟩
    have xV:ag (Gw w1 u5):=G3.o.trans (rY.o.trans G5.o);obtain ⟨h1,h2,h3,h4,h5⟩:=HN.o;have t5:=(xV.o.below.block _ (Array.getElem?_eq_some_iff.1 h1).1).trans h1;have b5:=(xV.o.below.block _ (Array.getElem?_eq_some_iff.1 h2).1).trans h2;have SU:ag (w.heap.size<=pt/\w.heap.size<=pb):=⟨Nat.le_trans S0.o h3,Nat.le_trans S0.o h4⟩;have GWU:ag (Gw w u5):=G1.o.trans xV.o;clear jr ou LV HW jy h1 h2 h3 h4;have y1:u5.cell? ⟨pt,4,none⟩=some (BY pu):=aj t5 rfl;have y2:u5.frozen? ⟨pt,4,none⟩=false:=bT t5;have y3:=aC t5;obtain ⟨U,hU⟩:∃ U,u5.setCell ⟨pt,4,none⟩ (BY pc)=U:=⟨_,rfl⟩;have GU:ag (Gw w U):=by rw [<-hU];exact GWU.o.setCell SU.o.1 _
    have bU:U.heap[pb]?=some (.cells #[AI buf,.slice none 0 0] 104 (0,0)):=by rw [<-hU];exact (Go.Deep.blk_setCell_other _ _ _ _ h5).trans b5
    have tU:U.cell? ⟨pt,3,none⟩=some (BY pb):=by
     have y0:u5.cell? ⟨pt,3,none⟩=some (BY pb):=aj t5 rfl;rw [<-hU,World.cell?_setCell_other _ _ _ _ (by simp)]
     exact y0
    have tl:pt<U.heap.size:=by rw [<-hU];simpa using y3
    have PBK:ag (∀ W,Gw U W->W.cell? ⟨pb,1,none⟩=some (.slice none 0 0)/\W.frozen? ⟨pb,1,none⟩=false/\pb<W.heap.size/\W.cell? ⟨pt,3,none⟩=some (BY pb)/\pt<W.heap.size):=fun W g=>by
     have x:=(g.below.block _ (Array.getElem?_eq_some_iff.1 bU).1).trans bU;exact ⟨aj x rfl,bT x,aC x,(g.cell _ _ tl).trans tU,Nat.lt_of_lt_of_le tl g.size⟩
    have NWB:ag (∀ W,Gw w W->∀ ad,ao=some ad->∀ j u,(b.flatMap aO)[j]?=some u->W.cell? (ad.add j)=some u):=fun W g=>aa6 (EA.o.gw g)
    have FL:ag ((b.flatMap aO).length=bn*3):=by show _=_;rw [Hv,BN.o]
    have O0:ag ((U.drew.alloc (.cells #[] 75)).ownsRow U.heap.size 75 3 (.slice (some ⟨U.heap.size,0,none⟩) 0 0) 0 []):=World.ownsRow_made U.drew #[] 0 (Nat.le_refl _) (Nat.zero_le _) rfl;have GD:ag (Gw U (U.drew.alloc (.cells #[] 75))):=(Gw.refl U).drew.alloc _ _;have BZ:ag (ao=none->bn=0/\c=0):=by have:=BC.o.2;rw [BN.o] at this;exact this
    clear t5 b5 bU;go_upto_region 24 with fail
    try rw [hU]
    clear hU y1 y2 y3;go_region_law (refine ac' _ rfl (.tmp 89) (.tmp 90) 24 rfl U.heap.size 75 ii (.agg #[By 0,By 0,.bool false]) 3 24 underlying24 aQ iz is Et rfl (by decide) _ 0 [] rfl O0.o ao bn c (b.flatMap aO) rfl BZ.o FL.o (NWB.o _ (GU.o.trans GD.o)) (So b) (by simp only [maxLen];omega) (by omega) GD.o.size ?_;intro v7 w7 r1 r2;have G7:ag (Gw U w7):=GD.o.grown r2 (fun q hq=>by cases hq;exact Nat.le_refl _);obtain ⟨z1,z2,z3,z4,z5⟩:=PBK.o w7 G7.o;obtain ⟨xo7,xc7,ev7⟩:=Sn r1;subst ev7;clear r1 r2)
    all_goals go_wp2_with fail
    all_goals go_ret2
    all_goals exact ⟨ak.o _,(GU.o.trans G7.o).setCell SU.o.2 _⟩
end Go.Proofs.YtcboobmfnmgldaaGreat
