/- The document's layer 16: Of. -/
import Derived.Test.YtpoohadckhphpaaGreatBSW2
import Derived.Test.YtpoohadckhphpaaGreatBDOf
import Derived.Test.YtpoohadckhphpaaGreatBQClone
set_option linter.unusedVariables false
set_option maxHeartbeats 16000000
set_option maxRecDepth 20000
open Go.Proofs.Tryz
namespace Go.Proofs.YtpoohadckhphpaaGreat
open Go.RowKit
theorem rof16 (eps buf keys:Int) (ao bo:Option Addr) (c d:Nat) (b:List Ent) (l:List (Option Rn)) (hb:b.length+tot l<=2000000) (hl:l.length<=40) (hc:b.length<=c) (hz:ao=none->b.length=0/\c=0) (w:World) (he:EL w ao b) (hp:PR HDoc w bo l) :
  Calls prog 27 #[.agg #[.int .i64 eps,.int .i64 buf,.int .i64 keys],.slice ao b.length c,.slice bo l.length d] w fun e w'=>OfD w w' e eps buf keys b l/\Gw w w':=by
 have EA:Hid (EL w ao b):=he;have HP:Hid (PR HDoc w bo l):=hp;have TB:Hid (b.length+tot l<=2000000):=hb;have BC:Hid (b.length<=c/\(ao=none->b.length=0/\c=0)):=⟨hc,hz⟩;have L40:Hid (l.length<=40):=hl;have b0:(w.alloc (.cells #[.int .i64 eps,.int .i64 buf,.int .i64 keys] 35)).heap[w.heap.size]?=some (.cells #[.int .i64 eps,.int .i64 buf,.int .i64 keys] 35 (0,0)):=heap_alloc_new w _;have G0:Hid (Gw w (w.alloc (.cells #[.int .i64 eps,.int .i64 buf,.int .i64 keys] 35))):=(Gw.refl w).alloc _ _;have NW:Hid (∀ W,_):=fun W=>rnew16 eps buf keys W
 have CH:Hid (∀ W,Gw w W->Calls prog 53 #[.slice ao b.length c] W fun e w'=>(∃ r:Int,e=.returned (.int .i64 r)/\ChkR (ek b) (ev b) (eg b) b.length r)/\Gw W w'):=fun W g=>rcheck3_any ao b.length c (ek b) (ev b) (eg b) (by omega) W (EA.out.gw g)
 have OF:Hid (∀ W,Gw w W->Calls prog 54 #[.int .i64 eps,.int .i64 buf,.slice bo l.length d] W fun e w'=>(∃ E,OfR15 eps buf l E/\((E≠0/\e=.returned (.tuple #[.pointer none,.int .i64 E]))\/(E=0/\∃ p,e=.returned (.tuple #[.pointer (some ⟨p,0,none⟩),.int .i64 0]))))/\Gw W w'):=fun W g=>(rof15 eps buf bo d l (by omega) W (HP.out.gw HDoc.kp g)).mono fun e w' ⟨⟨E,a,x⟩,gg⟩=>⟨⟨E,a,by
  rcases x with x | ⟨x,p,y,_⟩
  ·exact .inl x
  ·exact .inr ⟨x,p,y⟩⟩,gg⟩
 have LV0:Hid (∀ (W:World) (xo:Option Addr) (xc:Nat) (L:List (List Ent)),L.length<=41->sizes L<=2000000->EV W xo L->Calls prog 55 #[.slice xo L.length xc] W fun e w'=>(∃ ob oc,e=.returned (.slice ob (lvs L).length oc))/\Gw W w'):=fun W xo xc L h1 h2 h3=>(rlive16 xo xc L (by omega) h2 W h3).mono fun e w' ⟨⟨ob,oc,a,_⟩,g⟩=>⟨⟨ob,oc,a⟩,g⟩
 obtain ⟨jj,hjj,jz,js,jby⟩:=info_parts info_es13;obtain ⟨ii,hii,iz,is,iby⟩:=info_parts info_e;obtain ⟨bq,hbq⟩:∃ b,w.heap.size=b:=⟨_,rfl⟩;have BQ:Aside (w.heap.size=bq):=hbq;rw [hbq] at b0;have CB:Hid (∀ W W',W.heap[bq]?=some (.cells #[.int .i64 eps,.int .i64 buf,.int .i64 keys] 35 (0,0))->Gw W W'->W'.heap[bq]?=some (.cells #[.int .i64 eps,.int .i64 buf,.int .i64 keys] 35 (0,0))):=fun W W' h g=>(g.below.block _ (Array.getElem?_eq_some_iff.1 h).1).trans h
 obtain ⟨bn,hbn⟩:∃ n,b.length=n:=⟨_,rfl⟩;have BN:Hid (b.length=bn):=hbn;obtain ⟨ln,hln⟩:∃ n,l.length=n:=⟨_,rfl⟩;have LN:Hid (l.length=ln):=hln;rw [hbn] at CH;rw [hln] at OF;rw [hbn,hln];have bn1:bn<=2000000:=by omega
 have ln1:ln<=40:=by omega
 clear he hp hb hc hz hl hbq hbn hln;go_enter func27,ntmps27;go_wp2_with fail;rw [BQ.out];generalize w.alloc (.cells #[.int .i64 eps,.int .i64 buf,.int .i64 keys] 35)=w0 at b0 G0 ⊢;refine Calls.mono (NW.out w0) ?_;rintro e w1 ⟨hN,g1⟩;have B1:Hid (w1.heap[bq]?=some (.cells #[.int .i64 eps,.int .i64 buf,.int .i64 keys] 35 (0,0))):=CB.out _ _ b0 g1;have G1:Hid (Gw w w1):=G0.out.trans g1;have S0:Hid (w.heap.size<=w0.heap.size):=G0.out.size;clear b0 g1 NW;rcases hN with ⟨no,rfl⟩ | ⟨ok,pt,pb,pu,rfl,hn⟩
 ·have RES:Hid (OfD w w1 (.returned (.tuple #[.pointer none,.int .i64 160])) eps buf keys b l):=⟨160,0,.inl ⟨no,rfl⟩,.inl ⟨by decide,rfl⟩⟩
  clear no;go_wp2_with fail;go_ret2;exact ⟨RES.out,G1.out⟩
 have OK:Hid (CfgOk eps buf keys):=ok;have HN:Hid (NewD w0 w1 eps buf keys pt pb pu):=hn;have kb:=ok.2.2.1;clear ok hn;go_wp2_with fail;refine (CH.out w1 G1.out).mono ?_;rintro e w2 ⟨⟨r,rfl,chk⟩,g2⟩;have B2:Hid (w2.heap[bq]?=some (.cells #[.int .i64 eps,.int .i64 buf,.int .i64 keys] 35 (0,0))):=CB.out _ _ B1.out g2;have G2:Hid (Gw w1 w2):=g2;have CK:Hid (ChkR (ek b) (ev b) (eg b) b.length r):=by show ChkR _ _ _ _ _;rw [BN.out];exact chk
 clear g2 chk CH B1;by_cases r0:r=0
 rotate_left
 ·have t1:(r != 0)=true:=by simpa using r0
  have RES:Hid (OfD w w2 (.returned (.tuple #[.pointer none,.int .i64 r])) eps buf keys b l):=⟨r,0,.inr ⟨OK.out,.inl ⟨r0,CK.out⟩⟩,.inl ⟨r0,rfl⟩⟩;clear r0;go_wp2_with fail;go_ret2;exact ⟨RES.out,G1.out.trans G2.out⟩
 subst r0;obtain ⟨k0,k1,k2⟩:=ent_cells B2.out;have kl:=(Array.getElem?_eq_some_iff.1 B2.out).1;by_cases full:buf<=(bn:Int)
 ·have t1:decide (buf<=(bn:Int))=true:=by simpa using full
  have RES:Hid (OfD w w2 (.returned (.tuple #[.pointer none,.int .i64 140])) eps buf keys b l):=⟨140,0,.inr ⟨OK.out,.inr ⟨CK.out,.inl ⟨by rw [BN.out];exact full,rfl⟩⟩⟩,.inl ⟨by decide,rfl⟩⟩
  clear full;go_wp2_with fail;go_ret2;exact ⟨RES.out,G1.out.trans G2.out⟩
 have t1:decide (buf<=(bn:Int))=false:=by simpa using full
 have NFU:Hid ((b.length:Int)<buf):=by show _<_;rw [BN.out];omega
 clear full;go_wp2_with fail;refine (OF.out w2 (G1.out.trans G2.out)).mono ?_;rintro e w3 ⟨⟨E,hE,hX⟩,g3⟩;have G3:Hid (Gw w1 w3):=G2.out.trans g3;have B3:Hid (w3.heap[bq]?=some (.cells #[.int .i64 eps,.int .i64 buf,.int .i64 keys] 35 (0,0))):=CB.out _ _ B2.out g3;have OE:Hid (OfR15 eps buf l E):=hE;clear g3 hE G2 B2 OF k0 k1 k2 kl;rcases hX with ⟨e0,rfl⟩ | ⟨e0,pc,rfl⟩
 ·have t2:(E != 0)=true:=by simpa using e0
  have RES:Hid (OfD w w3 (.returned (.tuple #[.pointer none,.int .i64 E])) eps buf keys b l):=⟨E,0,.inr ⟨OK.out,.inr ⟨CK.out,.inr ⟨NFU.out,.inl ⟨e0,OE.out⟩⟩⟩⟩,.inl ⟨e0,rfl⟩⟩;clear e0;go_wp2_with fail;go_ret2;exact ⟨RES.out,G1.out.trans G3.out⟩
 subst e0;have OKR:Hid (∀ r,some r∈l->Rise Ent.k r.l/\EOk r.l):=fun r hr=>⟨(HP.out.runs r hr).ok.rise,(HP.out.runs r hr).ok⟩
 have FULL:Hid (∀ w',(∃ i,keys<((lvs (lists (l.drop i)).reverse).length:Int))->OfD w w' (.returned (.tuple #[.pointer none,.int .i64 161])) eps buf keys b l):=fun w' ⟨i,hi⟩=>⟨161,0,.inr ⟨OK.out,.inr ⟨CK.out,.inr ⟨NFU.out,.inr ⟨OE.out,.inl ⟨rfl,.inr ⟨rfl,rfl,.inl ⟨i,_,?_,hi⟩⟩⟩⟩⟩⟩⟩,.inl ⟨by decide,rfl⟩⟩
 rotate_left
 ·rw [liveQ_lists (upR_lists L40.out i)]
  exact lvs_live fun r hr=>(OKR.out r (List.mem_of_mem_drop hr)).1
 have LE0:Hid (LE w w3.heap.size w3 (.slice none 0 0) (lists (l.drop ln)).reverse):=by
  rw [List.drop_eq_nil_of_le (by rw [LN.out];exact Nat.le_refl _)]
  exact LE.nil w _ w3
 have lz:((lists (l.drop ln)).reverse).length=0:=by rw [List.drop_eq_nil_of_le (by rw [LN.out];exact Nat.le_refl _)];rfl
 have FEW0:Hid (∀ j,ln<=j->((lvs (lists (l.drop j)).reverse).length:Int)<=keys):=fun j hj=>by
  rw [List.drop_eq_nil_of_le (by rw [LN.out];exact hj)]
  show ((lvs ([]:List (List Ent))).length:Int)<=keys;show (0:Int)<=keys;omega
 have ws:IntKind.i64.wrap ((ln:Int)-1)=(ln:Int)-1:=by rw [IntKind.wrap_i64];omega
 have SZ:Hid (∀ i,sizes (lists (l.drop i)).reverse<=tot l/\((lists (l.drop i)).reverse).length<=40):=fun i=>by
  have a:=tot_drop16 l i;have c:=lists_len16 (l.drop i);rw [sizes_rev,List.length_reverse];have e:sizes (lists (l.drop i))=tot (l.drop i):=rfl;have:=L40.out;rw [List.length_drop] at c;omega
 have G33:Hid (Gw w3 w3):=Gw.refl w3;go_wp2_with fail;go_loopg [11,12] ln (fun gg s11 s12 wr=>∃ (i m:Nat) (xo:Option Addr) (xc:Nat),s11=.slice xo m xc/\s12=.int .i64 ((i:Int)-1)/\i<=ln/\i<=gg/\Hid (((lists (l.drop i)).reverse).length=m)/\Hid (LE w w3.heap.size wr (.slice xo m xc) (lists (l.drop i)).reverse)/\Hid (∀ j,i<=j->((lvs (lists (l.drop j)).reverse).length:Int)<=keys)/\Hid (Gw w3 wr))
 case atStart=>exact ⟨ln,0,none,0,rfl,rfl,Nat.le_refl _,Nat.le_refl _,lz,LE0,FEW0,G33⟩
 case round =>
  clear LE0 FEW0 lz G33 ws;obtain ⟨i,m,xo,xc,rfl,rfl,i1,i2,LM,LX,FEW,GX⟩:=hrel;obtain ⟨wS,hwS⟩:∃ wx,wx=wr:=⟨_,rfl⟩;subst hwS;have GWS:Hid (Gw w wS):=G1.out.trans (G3.out.trans GX.out);have BS':=CB.out _ _ B3.out GX.out;obtain ⟨k0,k1,k2⟩:=ent_cells BS';have bql:=(Array.getElem?_eq_some_iff.1 BS').1;clear BS';have m40:m<=40:=by rw [<-LM.out];exact (SZ.out i).2
  by_cases i0:0<i
  ·obtain ⟨k,rfl⟩:∃ k,i=k+1:=⟨i-1,by omega⟩
   have kc:((k+1:Nat):Int)-1=(k:Int):=by omega
   rw [kc];have kl:k<l.length:=by rw [LN.out];omega
   have kn:k<ln:=by omega
   have ws:IntKind.i64.wrap ((k:Int)-1)=(k:Int)-1:=by rw [IntKind.wrap_i64];omega
   obtain ⟨pb0,po,rfl,hpb,hpc⟩:=(HP.out.gw HDoc.kp GWS.out).cells (by omega)
   have ck:=hpc k kl;have DR:=drop_rs kl;clear hpc kc;rcases cases_rs l k with e | ⟨r,e⟩
   ·rw [e] at ck DR
    have ck':wS.cell? ⟨pb0,po+k,none⟩=some (.pointer none):=ck;have LK:lists (l.drop k)=lists (l.drop (k+1)):=by rw [DR];rfl
    have LM':Hid (((lists (l.drop k)).reverse).length=m):=by rw [LK];exact LM
    have LX':Hid (LE w w3.heap.size wS (.slice xo m xc) (lists (l.drop k)).reverse):=by rw [LK];exact LX
    have FEW':Hid (∀ j,k<=j->((lvs (lists (l.drop j)).reverse).length:Int)<=keys):=fun j hj=>by
     by_cases x:j=k
     ·subst x;rw [LK];exact FEW.out _ (Nat.le_refl _)
     ·exact FEW.out j (by omega)
    clear ck e DR LK LM LX FEW k0 k1 k2 bql;go_wp2_with fail;go_roundg k
    case measure=>omega
    case rel=>exact ⟨k,m,xo,xc,rfl,by go_num,by omega,Nat.le_refl _,LM',LX',FEW',GX⟩
   ·rw [e] at ck DR
    have ck':wS.cell? ⟨pb0,po+k,none⟩=some (.pointer (some ⟨r.p,0,none⟩)):=ck;have LK:(lists (l.drop k)).reverse=(lists (l.drop (k+1))).reverse++[r.l]:=by rw [DR];show (r.l::lists (l.drop (k+1))).reverse=_;rw [List.reverse_cons]
    have LKH:Hid ((lists (l.drop k)).reverse=(lists (l.drop (k+1))).reverse++[r.l]):=LK;have ra:=HP.out.runs r (mem_rs kl e);obtain ⟨eo,ec,lo,lc,hbk,hes,sp,hcap,_⟩:=ra.h.openS;have hbS:=(GWS.out.below.block _ (Array.getElem?_eq_some_iff.1 hbk).1).trans hbk;obtain ⟨f0,_,_⟩:=dc_cells hbS;have rl:=(Array.getElem?_eq_some_iff.1 hbS).1;have ELR:Hid (EL w eo r.l/\r.l.length<=ec/\(eo=none->r.l.length=0/\ec=0)):=⟨hes,hcap.1,hcap.2⟩;obtain ⟨vals,ro,rp⟩:=LX.out.row;rw [LM.out] at ro;have RO_:Hid (wS.ownsRow w3.heap.size 47 1 (.slice xo m xc) m vals):=ro;have RP:Hid (∀ i,i<((lists (l.drop (k+1))).reverse).length->∃ bo c,vals[i]?=some (.slice bo (((lists (l.drop (k+1))).reverse).getD i []).length c)/\(((lists (l.drop (k+1))).reverse).getD i []).length<=c/\EL w bo (((lists (l.drop (k+1))).reverse).getD i [])/\(bo=none->(((lists (l.drop (k+1))).reverse).getD i []).length=0/\c=0)):=rp;obtain ⟨rn,hrn⟩:∃ n,r.l.length=n:=⟨_,rfl⟩;have RN:Hid (r.l.length=rn):=hrn;rw [hrn] at f0;have gz:=GX.out.size;generalize r.p=rp' at ck' f0 rl;clear ck e DR LK ra hbk hes sp hcap hbS hrn ro rp;go_wp2_with (at_builtin;refine wpList_append_own _ rfl _ _ 116 rfl w3.heap.size 47 jj (.slice none 0 0) 1 24 underlying116 hjj jz js jby rfl (by decide) _ m _ rfl (RO_.out.alloc _) ⟨wS.heap.size,0,none⟩ 1 1 [(.slice eo rn ec)] rfl rfl (new_v16 wS (.slice eo rn ec) 47) (fun u hu=>by simp at hu;subst hu;rfl) (by simp only [maxLen];omega) (by omega) (by simp;omega) ?_)
    intro v' w8 r1 r2 r3;obtain ⟨b8,cap8,rfl,hb8,_,_⟩:=own_slice r1 (by simpa using r3)
    have G38:Hid (Gw w3 w8):=(GX.out.alloc _ _).grown r2 (fun q hq=>(World.ownsRow.lt RO_.out q hq).1)
    have lx:Hid (LE w w3.heap.size w8 (.slice (some ⟨b8,0,none⟩) (m+1) cap8) (lists (l.drop k)).reverse):=by
     show LE _ _ _ _ _;rw [LKH.out];exact LE.more RO_.out LM.out RN.out RP.out ELR.out.2.1 ELR.out.1 ELR.out.2.2 r1
    have LM8:Hid (((lists (l.drop k)).reverse).length=m+1):=by show _=_;rw [LKH.out,List.length_append,LM.out];rfl
    have GW8:Hid (Gw w w8):=G1.out.trans (G3.out.trans G38.out);have BS8:=CB.out _ _ B3.out G38.out;obtain ⟨_,_,z2⟩:=ent_cells BS8;have bql8:=(Array.getElem?_eq_some_iff.1 BS8).1;obtain ⟨nl,hnl⟩:∃ n,(lvs (lists (l.drop k)).reverse).length=n:=⟨_,rfl⟩;have NL:Hid ((lvs (lists (l.drop k)).reverse).length=nl):=hnl;have LV:Hid (∀ W,Gw w8 W->Calls prog 55 #[.slice (some ⟨b8,0,none⟩) (m+1) cap8] W fun e w'=>(∃ ob oc,e=.returned (.slice ob nl oc))/\Gw W w'):=fun W g=>by
     have:=LV0.out W (some ⟨b8,0,none⟩) cap8 (lists (l.drop k)).reverse (by rw [LM8.out];omega) (by have:=(SZ.out k).1;have:=TB.out;omega) ((lx.out.gw g).ev LM8.out (GW8.out.trans g))
     rw [LM8.out,NL.out] at this;exact this
    have HW:Hid (∀ w',Gw w8 w'->Gw w8 w'/\w'.cell? ⟨bq,2,none⟩=some (.int .i64 keys)/\bq<w'.heap.size):=fun w' g=>⟨g,(g.cell _ _ bql8).trans z2,Nat.lt_of_lt_of_le bql8 g.size⟩
    have MORE:Hid (decide (keys<(nl:Int))=true->keys<(nl:Int)):=fun h=>by simpa using h
    have LESS:Hid (decide (keys<(nl:Int))=false->(nl:Int)<=keys):=fun h=>by simpa using h
    obtain ⟨tb,htb⟩:∃ t,decide (keys<(nl:Int))=t:=⟨_,rfl⟩;rw [htb] at MORE LESS;clear r1 r2 r3 LKH LX LM RO_ RP RN ELR ck' f0 rl k0 k1 k2 bql BS8 hnl hb8 gz;go_wp2_with fail;go_region_held3 (fun w'=>Gw w8 w'/\w'.cell? ⟨bq,2,none⟩=some (.int .i64 keys)/\bq<w'.heap.size)
     ((refine HW.out _ ?_;(repeat (first | exact Gw.refl _ | exact And.left (by assumption) | exact Hid.out (by assumption) | refine Gw.drew ?_ | refine Gw.drewN ?_ _));done))
     ((go_at_call 55;refine (LV.out _ (by repeat (first | exact Gw.refl _ | exact And.left (by assumption) | exact Hid.out (by assumption) | refine Gw.drew ?_ | refine Gw.drewN ?_ _))).mono ?_;rintro ex u5 ⟨⟨yo,yc,rfl⟩,g5⟩;have G5:Hid (Gw w8 u5):=Gw.trans (by repeat (first | exact Gw.refl _ | exact And.left (by assumption) | exact Hid.out (by assumption) | refine Gw.drew ?_ | refine Gw.drewN ?_ _)) g5;clear g5))
    cases tb with
    | true =>
     have RES:Hid (∀ w',OfD w w' (.returned (.tuple #[.pointer none,.int .i64 161])) eps buf keys b l):=fun w'=>FULL.out w' ⟨k,by rw [NL.out];exact MORE.out rfl⟩
     clear MORE LESS LV HW;go_wp2_with fail;go_ret2;exact ⟨RES.out _,GW8.out.trans G5.out⟩
    | false =>
     have FEW':Hid (∀ j,k<=j->((lvs (lists (l.drop j)).reverse).length:Int)<=keys):=fun j hj=>by
      by_cases x:j=k
      ·subst x;rw [NL.out];exact LESS.out rfl
      ·exact FEW.out j (by omega)
     have LX':Hid (LE w w3.heap.size u5 (.slice (some ⟨b8,0,none⟩) (m+1) cap8) (lists (l.drop k)).reverse):=lx.out.gw G5.out;have GX':Hid (Gw w3 u5):=G38.out.trans G5.out;clear MORE LESS LV HW FEW lx;go_wp2_with fail;go_roundg k
     case measure=>omega
     case rel=>exact ⟨k,m+1,some ⟨b8,0,none⟩,cap8,rfl,by go_num,by omega,Nat.le_refl _,LM8,LX',FEW',GX'⟩
  ·have ei:i=0:=by omega
   subst ei;obtain ⟨vals,ro,rp⟩:=LX.out.row;rw [LM.out] at ro;rw [List.drop_zero] at LM;rw [List.drop_zero] at rp;have RO_:Hid (wS.ownsRow w3.heap.size 47 1 (.slice xo m xc) m vals):=ro;have RP:Hid (∀ i,i<((lists l).reverse).length->∃ bo c,vals[i]?=some (.slice bo (((lists l).reverse).getD i []).length c)/\(((lists l).reverse).getD i []).length<=c/\EL w bo (((lists l).reverse).getD i [])/\(bo=none->(((lists l).reverse).getD i []).length=0/\c=0)):=rp;have gz:=GX.out.size;clear ro rp k0 k1 k2 bql LX;go_wp2_with (at_builtin;refine wpList_append_own _ rfl _ _ 116 rfl w3.heap.size 47 jj (.slice none 0 0) 1 24 underlying116 hjj jz js jby rfl (by decide) _ m _ rfl (RO_.out.alloc _) ⟨wS.heap.size,0,none⟩ 1 1 [(.slice ao bn c)] rfl rfl (new_v16 wS (.slice ao bn c) 47) (fun u hu=>by simp at hu;subst hu;rfl) (by simp only [maxLen];omega) (by omega) (by simp;omega) ?_)
   intro v' w8 r1 r2 r3;obtain ⟨b8,cap8,rfl,hb8,_,_⟩:=own_slice r1 (by simpa using r3)
   have G38:Hid (Gw w3 w8):=(GX.out.alloc _ _).grown r2 (fun q hq=>(World.ownsRow.lt RO_.out q hq).1)
   have lx:Hid (LE w w3.heap.size w8 (.slice (some ⟨b8,0,none⟩) (m+1) cap8) ((lists l).reverse++[b])):=LE.more RO_.out LM.out BN.out RP.out BC.out.1 EA.out BC.out.2 r1;have LM8:Hid (((lists l).reverse++[b]).length=m+1):=by show _=_;rw [List.length_append,LM.out];rfl
   have GW8:Hid (Gw w w8):=G1.out.trans (G3.out.trans G38.out);have BS8:=CB.out _ _ B3.out G38.out;obtain ⟨_,_,z2⟩:=ent_cells BS8;have bql8:=(Array.getElem?_eq_some_iff.1 BS8).1;obtain ⟨nl,hnl⟩:∃ n,(lvs ((lists l).reverse++[b])).length=n:=⟨_,rfl⟩;have NL:Hid ((lvs ((lists l).reverse++[b])).length=nl):=hnl;have LV:Hid (∀ W,Gw w8 W->Calls prog 55 #[.slice (some ⟨b8,0,none⟩) (m+1) cap8] W fun e w'=>(∃ ob oc,e=.returned (.slice ob nl oc))/\Gw W w'):=fun W g=>by
    have s0:sizes ((lists l).reverse++[b])<=2000000:=by
     rw [sizes_app,sizes_rev];have e:sizes (lists l)=tot l:=rfl;have e2:sizes [b]=b.length:=by rw [sizes_cons];rfl
     have:=TB.out
     omega
    have:=LV0.out W (some ⟨b8,0,none⟩) cap8 ((lists l).reverse++[b]) (by rw [LM8.out];omega) s0 ((lx.out.gw g).ev LM8.out (GW8.out.trans g))
    rw [LM8.out,NL.out] at this;exact this
   have HW:Hid (∀ w',Gw w8 w'->Gw w8 w'/\w'.cell? ⟨bq,2,none⟩=some (.int .i64 keys)/\bq<w'.heap.size):=fun w' g=>⟨g,(g.cell _ _ bql8).trans z2,Nat.lt_of_lt_of_le bql8 g.size⟩
   have MORE:Hid (decide (keys<(nl:Int))=true->keys<(nl:Int)):=fun h=>by simpa using h
   have LESS:Hid (decide (keys<(nl:Int))=false->(nl:Int)<=keys):=fun h=>by simpa using h
   obtain ⟨tb,htb⟩:∃ t,decide (keys<(nl:Int))=t:=⟨_,rfl⟩;rw [htb] at MORE LESS;have LE_:Hid (LvN (liveE b (upR l)) nl):=by
    have e:liveE b (upR l)=liveE b l:=liveE_lists (by have:=upR_lists L40.out 0;rwa [List.drop_zero,List.drop_zero] at this)
    show LvN _ _;rw [e,<-NL.out];exact (lvs_tower (EOk.rise (l:=b) CK.out) (fun r hr=>(OKR.out r hr).1)).2.2.2
   clear r1 r2 r3 LM RO_ RP BS8 hnl hb8 gz lx;go_wp2_with fail;go_region_held3 (fun w'=>Gw w8 w'/\w'.cell? ⟨bq,2,none⟩=some (.int .i64 keys)/\bq<w'.heap.size)
    ((refine HW.out _ ?_;(repeat (first | exact Gw.refl _ | exact And.left (by assumption) | exact Hid.out (by assumption) | refine Gw.drew ?_ | refine Gw.drewN ?_ _));done))
    ((go_at_call 55;refine (LV.out _ (by repeat (first | exact Gw.refl _ | exact And.left (by assumption) | exact Hid.out (by assumption) | refine Gw.drew ?_ | refine Gw.drewN ?_ _))).mono ?_;rintro ex u5 ⟨⟨yo,yc,rfl⟩,g5⟩;have G5:Hid (Gw w8 u5):=Gw.trans (by repeat (first | exact Gw.refl _ | exact And.left (by assumption) | exact Hid.out (by assumption) | refine Gw.drew ?_ | refine Gw.drewN ?_ _)) g5;clear g5))
   cases tb with
   | true =>
    have RES:Hid (OfD w u5 (.returned (.tuple #[.pointer none,.int .i64 161])) eps buf keys b l):=⟨161,0,.inr ⟨OK.out,.inr ⟨CK.out,.inr ⟨NFU.out,.inr ⟨OE.out,.inl ⟨rfl,.inr ⟨rfl,rfl,.inr ⟨nl,LE_.out,MORE.out rfl⟩⟩⟩⟩⟩⟩⟩,.inl ⟨by decide,rfl⟩⟩
    clear MORE LESS LV HW;go_wp2_with fail;go_ret2;exact ⟨RES.out,GW8.out.trans G5.out⟩
   | false =>
    have RES:Hid (∀ w',OfD w w' (.returned (.tuple #[.pointer (some ⟨pt,0,none⟩),.int .i64 0])) eps buf keys b l):=fun w'=>⟨0,nl,.inr ⟨OK.out,.inr ⟨CK.out,.inr ⟨NFU.out,.inr ⟨OE.out,.inr ⟨rfl,.inl ⟨rfl,fun j=>⟨_,by
     rw [liveQ_lists (upR_lists L40.out j)];exact lvs_live fun r hr=>(OKR.out r (List.mem_of_mem_drop hr)).1,FEW.out j (Nat.zero_le _)⟩,LE_.out,LESS.out rfl⟩⟩⟩⟩⟩⟩,.inr ⟨rfl,pt,rfl⟩⟩
    have GX':Hid (Gw w1 u5):=G3.out.trans (G38.out.trans G5.out);obtain ⟨h1,h2,h3,h4,h5⟩:=HN.out;have t5:=(GX'.out.below.block _ (Array.getElem?_eq_some_iff.1 h1).1).trans h1;have b5:=(GX'.out.below.block _ (Array.getElem?_eq_some_iff.1 h2).1).trans h2;have PT_:Hid (w.heap.size<=pt/\w.heap.size<=pb):=⟨Nat.le_trans S0.out h3,Nat.le_trans S0.out h4⟩;have GWU:Hid (Gw w u5):=G1.out.trans GX'.out;clear MORE LESS LV HW FEW h1 h2 h3 h4;have y1:u5.cell? ⟨pt,4,none⟩=some (.pointer (some ⟨pu,0,none⟩)):=blkc t5 rfl;have y2:u5.frozen? ⟨pt,4,none⟩=false:=blkf t5;have y3:=blkl t5;obtain ⟨U,hU⟩:∃ U,u5.setCell ⟨pt,4,none⟩ (.pointer (some ⟨pc,0,none⟩))=U:=⟨_,rfl⟩;have GU:Hid (Gw w U):=by rw [<-hU];exact GWU.out.setCell PT_.out.1 _
    have bU:U.heap[pb]?=some (.cells #[.int .i64 buf,.slice none 0 0] 124 (0,0)):=by rw [<-hU];exact (Go.Deep.blk_setCell_other _ _ _ _ h5).trans b5
    have tU:U.cell? ⟨pt,3,none⟩=some (.pointer (some ⟨pb,0,none⟩)):=by
     have y0:u5.cell? ⟨pt,3,none⟩=some (.pointer (some ⟨pb,0,none⟩)):=blkc t5 rfl;rw [<-hU,World.cell?_setCell_other _ _ _ _ (by simp)]
     exact y0
    have tl:pt<U.heap.size:=by rw [<-hU];simpa using y3
    have PBK:Hid (∀ W,Gw U W->W.cell? ⟨pb,1,none⟩=some (.slice none 0 0)/\W.frozen? ⟨pb,1,none⟩=false/\pb<W.heap.size/\W.cell? ⟨pt,3,none⟩=some (.pointer (some ⟨pb,0,none⟩))/\pt<W.heap.size):=fun W g=>by
     have x:=(g.below.block _ (Array.getElem?_eq_some_iff.1 bU).1).trans bU;exact ⟨blkc x rfl,blkf x,blkl x,(g.cell _ _ tl).trans tU,Nat.lt_of_lt_of_le tl g.size⟩
    have NWB:Hid (∀ W,Gw w W->∀ ad,ao=some ad->∀ j u,(b.flatMap ent3)[j]?=some u->W.cell? (ad.add j)=some u):=fun W g=>el_news (EA.out.gw g)
    have FL:Hid ((b.flatMap ent3).length=bn*3):=by show _=_;rw [ent3_len,BN.out]
    have O0:Hid ((U.drew.alloc (.cells #[] 81)).ownsRow U.heap.size 81 3 (.slice (some ⟨U.heap.size,0,none⟩) 0 0) 0 []):=World.ownsRow_made U.drew #[] 0 (Nat.le_refl _) (Nat.zero_le _) rfl;have GD:Hid (Gw U (U.drew.alloc (.cells #[] 81))):=(Gw.refl U).drew.alloc _ _;have BZ:Hid (ao=none->bn=0/\c=0):=by have:=BC.out.2;rw [BN.out] at this;exact this
    clear t5 b5 bU;go_upto_region 24 with fail
    try rw [hU]
    clear hU y1 y2 y3;go_region_law (refine step_app_src _ rfl (.tmp 89) (.tmp 90) 47 rfl U.heap.size 81 ii (.agg #[.int .u64 0,.int .u64 0,.bool false]) 3 24 underlying47 hii iz is iby rfl (by decide) _ 0 [] rfl O0.out ao bn c (b.flatMap ent3) rfl BZ.out FL.out (NWB.out _ (GU.out.trans GD.out)) (ent3s_one b) (by simp only [maxLen];omega) (by omega) GD.out.size ?_;intro v7 w7 r1 r2;have G7:Hid (Gw U w7):=GD.out.grown r2 (fun q hq=>by cases hq;exact Nat.le_refl _);obtain ⟨z1,z2,z3,z4,z5⟩:=PBK.out w7 G7.out;obtain ⟨xo7,xc7,ev7⟩:=own_form13 r1;subst ev7;clear r1 r2)
    all_goals go_wp2_with fail
    all_goals go_ret2
    all_goals exact ⟨RES.out _,(GU.out.trans G7.out).setCell PT_.out.2 _⟩
end Go.Proofs.YtpoohadckhphpaaGreat
namespace Go.Proofs.YtpoohadckhphpaaGreat
open Go.RowKit
attribute [local go_sem] run_store_float
theorem es_congr3 {w:World} {ao:Option Addr} {n:Nat} {k v k' v':Nat->Int} {g g':Nat->Bool} (h:ES w ao n k v g) (e:∀ i,i<n->k i=k' i/\v i=v' i/\g i=g' i):ES w ao n k' v' g':=by
 refine ⟨fun h0=>?_,fun i hi=>?_⟩
 ·obtain ⟨b,off,x,hb,hc⟩:=h.cells h0
  exact ⟨b,off,x,hb,fun i hi=>by
   have a:=e i hi;rw [<-a.1,<-a.2.1,<-a.2.2];exact hc i hi⟩
 ·rw [<-(e i hi).1,<-(e i hi).2.1]
  exact h.bd i hi
theorem HDoc.alike {w:World} {p:Nat} {S:Nat->Prop} {eps:Int} {k v k' v':Nat->Int} {g g':Nat->Bool} {n:Nat} {L:List (List Sg)} (h:HDoc w p S eps k v g n L) (e:∀ i,i<n->k i=k' i/\v i=v' i/\g i=g' i):HDoc w p S eps k' v' g' n L:=by
 obtain ⟨u,base,eo,ec,lo,lc,h1,h2,h3,h4,h5,h6,h7⟩:=h.lies;exact ⟨⟨u,base,eo,ec,lo,lc,h1,h2,h3,h4,h5,es_congr3 h6 e,h7⟩,h.n1,h.sh⟩
theorem ent_raD {w:World} {p:Nat} {S:Nat->Prop} {f:Nat->Int} {m:Nat} (bd:∀ i,i<m->0<=f i/\f i<256) (ft:Fit f m) (h:HDoc w p S (numR f 4 8) (kF f) (vF f) (gF f) (nF f) (LF f)):RA HDoc w ⟨p,S,numR f 4 8,entF f,LF f⟩:=by
 have e:∀ i,i<nF f->kF f i=ek (entF f) i/\vF f i=ev (entF f) i/\gF f i=eg (entF f) i:=fun i hi=>by
  obtain ⟨a,b,c⟩:=entF_at f hi;exact ⟨a.symm,b.symm,c.symm⟩
 obtain ⟨N,C⟩:=(ft.2.congr0 e).new0;refine ⟨?_,?_,fun x hx=>?_,?_⟩
 ·show HDoc w p S (numR f 4 8) _ _ _ (entF f).length (LF f)
  rw [entF_len];exact h.alike e
 ·unfold EOk
  show ChkR _ _ _ (entF f).length 0;rw [entF_len];exact .inl ⟨rfl,N.up.2,fun j hj=>N.gone j hj⟩
 ·have hx':x∈entF f:=hx
  obtain ⟨i,hi,e'⟩:=List.mem_iff_getElem.1 hx';rw [entF_len] at hi;have:x=⟨kF f i,vF f i,gF f i⟩:=by rw [<-e'];simp [entF]
  rw [this];exact kF_bd bd ⟨ft.1.nn,ft.1.en⟩ i hi
 ·show (entF f).length<=2000000
  rw [entF_len];exact h.n1
theorem drd_bk {w:World} {p:Nat} {S:Nat->Prop} {f:Nat->Int} {m c o:Nat}:DRd w p S f m (c+o)↔DRd w p S (bk c f) (m-c) o:=by
 unfold DRd bk;rw [show m-(c+o)=m-c-o by omega,show (fun i=>f (c+o+i))=fun i=>f (c+(o+i)) from funext fun i=>by rw [Nat.add_assoc]]
theorem dany {w:World} {p:Nat} {S:Nat->Prop} {f:Nat->Int} {m o:Nat} (most:Int) (q0:0<=most) (q1:most<9223372036854775808) (hm:m<=140737488355000) (om:o<=m) (h:DRd w p S f m o) :
  Calls prog 23 #[.pointer (some ⟨p,0,none⟩),.int .i64 most] w fun e w'=>∃ v er o',e=.returned (.tuple #[.int .i64 v,.int .i64 er])/\o'<=m/\Upd p w w'/\∃ S',DRd w' p S' f m o'/\∀ q,S' q->S q:=(dcnt most q0 q1 hm om h).mono fun e w' hh=>by
 rcases hh with ⟨a,b,c⟩ | ⟨a,er,b,_,c⟩
 ·exact ⟨_,_,o+8,b,a.1,c⟩
 ·exact ⟨_,er,o,b,om,c⟩
def LoadD (e:Ending) (f:Nat->Int) (m:Nat):Prop:=(FitT f m/\∃ p,e=.returned (.tuple #[.pointer (some ⟨p,0,none⟩),.int .i64 0]))\/(¬ FitT f m/\e=.returned (.tuple #[.pointer none,.int .i64 120]))
theorem FitT.cfg {f:Nat->Int} {m:Nat} (t:FitT f m):28<=m/\numR f 4 8<=4294967296/\numR f 12 8<=4294967296/\numR f 20 8<=4294967296:=by
 obtain ⟨n,o⟩:=t.2;rcases o with ⟨_,e⟩ | ⟨c,_⟩
 ·omega
 ·have:=c.1.2
  exact ⟨t.1.cf,by omega,c.2.1.2,c.2.2.1.2⟩
theorem dls_app {w1 w7 W w5:World} {p:Nat} {S:Nat->Prop} {g:Nat->Int} {M i xc:Nat} {eo xo:Option Addr} {rs:List (Option Rn)} {o:Option Rn} {v':Value} {x:Array Value} {tx:TypeId} {b:List Ent}
  (row:W.ownsRow w7.heap.size 62 1 (.slice xo i xc) i (rs.map ptr)) (li:rs.length=i/\Al rs (rsN g i)) (st:DStep w1 W p S g M (rO g (i+1))) (nb:∀ q,S q->q<w1.heap.size) (s7:w7.heap.size<=W.heap.size) (s1:w1.heap.size<=w7.heap.size) (el:EL W eo b) (eb:∀ a,eo=some a->a.block<w7.heap.size)
  (ra:∀ r,some r∈rs->RA HDoc W r/\∀ q,r.S q->w7.heap.size<=q/\(Value.slice xo i xc).ownBlock≠some q) (os:o.map sig=(clF g i).map sig) (oa:∀ r,o=some r->RA HDoc W r/\∀ q,r.S q->w7.heap.size<=q/\(Value.slice xo i xc).ownBlock≠some q)
  (r1:w5.ownsRow w7.heap.size 62 1 v' (i+1) (rs.map ptr++[ptr o])) (r2:(W.alloc (.cells x tx)).grownBy w5 (Value.slice xo i xc).ownBlock) (r4:v'.ownBlock=(Value.slice xo i xc).ownBlock\/v'.ownBlock=some (W.heap.size+1)) :
  ∃ xo' xc',v'=.slice xo' (i+1) xc'/\((rs++[o]).length=i+1/\Al (rs++[o]) (rsN g (i+1)))/\w5.ownsRow w7.heap.size 62 1 (.slice xo' (i+1) xc') (i+1) ((rs++[o]).map ptr)/\DStep w1 w5 p S g M (rO g (i+1))/\(w7.heap.size<=w5.heap.size/\EL w5 eo b)/\∀ r,some r∈rs++[o]->RA HDoc w5 r/\∀ q,r.S q->w7.heap.size<=q/\(Value.slice xo' (i+1) xc').ownBlock≠some q:=by
 obtain ⟨xo',xc',rfl⟩:=own_form13 r1;have ga:=(Gw.refl W).alloc x tx;have sa:(W.alloc (.cells x tx)).heap.size=W.heap.size+1:=by simp
 have kb:∀ q,q<W.heap.size->(Value.slice xo i xc).ownBlock≠some q->w5.heap[q]?=W.heap[q]?:=fun q hq hn=>(r2.block q (by omega) (fun e=>hn e.symm)).trans (ga.below.block q hq)
 have ow:∀ q,(Value.slice xo i xc).ownBlock=some q->w7.heap.size<=q:=fun q hq=>(World.ownsRow.lt row q hq).1
 refine ⟨xo',xc',rfl,⟨by rw [List.length_append,li.1];rfl,?_⟩,by rw [List.map_append];exact r1,DStep.grown (st.gw ga) r2 (fun k hk=>Nat.le_trans s1 (ow k hk)) nb,⟨?_,?_⟩,fun r hr=>?_⟩
 ·have:=li.2
  unfold Al at this ⊢;rw [rsN_succ,List.map_append,List.map_append,this];simp [os]
 ·have:=r2.size;omega
 ·exact el.keep15 fun a ha h0=>by
   have h1:=eb a ha;exact kb _ (by omega) fun e=>by have:=ow _ e;omega
 ·have h9:RA HDoc W r/\∀ q,r.S q->w7.heap.size<=q/\(Value.slice xo i xc).ownBlock≠some q:=by
   rcases List.mem_append.1 hr with y | y
   ·exact ra r y
   ·exact oa r (List.mem_singleton.1 y).symm
  refine ⟨h9.1.keep HDoc.kp fun q hq=>kb q (HDoc.kp.lt h9.1.h q hq) (h9.2 q hq).2,fun q hq=>⟨(h9.2 q hq).1,fun e=>?_⟩⟩
  rcases r4 with y | y
  ·exact (h9.2 q hq).2 (y▸e)
  ·rw [y] at e
   have e':W.heap.size+1=q:=by simpa using e
   have:=HDoc.kp.lt h9.1.h _ hq
   omega
theorem pr_own {w:World} {base n c:Nat} {xo:Option Addr} {rs:List (Option Rn)} (h:w.ownsRow base 62 1 (.slice xo n c) n (rs.map ptr)) (hn:rs.length=n) (ra:∀ r,some r∈rs->RA HDoc w r):PR HDoc w xo rs:=by
 refine ⟨fun h0=>?_,ra⟩
 rcases h.2 with ⟨e,z⟩ | ⟨b,cap,cur,e,hb,hh,x⟩
 ·omega
 ·injection e with e1 e2 e3
  subst e1;refine ⟨b,0,rfl,(Array.getElem?_eq_some_iff.1 hh).1,fun i hi=>?_⟩
  rw [Nat.zero_add,World.ownsRow.cellAt h i (by omega),List.getElem?_map,List.getElem?_eq_getElem hi,getD_rs hi]
  rfl
theorem dload (ao:Option Addr) (m cp:Nat) (f:Nat->Int) (hm:m<=16000000) (hz:ao=none->m=0/\cp=0) (w:World) (h:BS w ao m f) :
  Calls prog 6 #[.slice ao m cp] w fun e w'=>LoadD e f m/\Gw w w':=by
 have BD:Hid (∀ i,i<m->0<=f i/\f i<256):=h.bd;have C0:Hid _:=rnew10_any ao m cp f (show m<=140737488355000 by omega) hz w h
 clear h;go_enter func6,ntmps6;go_wp2_with fail;refine Calls.mono C0.out ?_;rintro e w1 ⟨⟨p,S,rfl,rd,hS⟩,g1⟩;have pl:p<w1.heap.size:=RRd.lt rd p (RRd.own rd);have pw:w.heap.size<=p:=hS p (RRd.own rd);have FZz:Hid (∀ q,S q->q<w1.heap.size):=fun q hq=>RRd.lt rd q hq
 have GU:Hid (∀ W,Upd p w1 W->Gw w W):=fun W u=>u.gw w pw g1
 have rd0:DRd w1 p S f m 0:=by
  show RRd _ _ _ _ _ _;simpa using rd
 have C1:Hid _:=docr.word ⟨#[73,78,84,49]⟩ (show m-0<=140737488355000 by omega) rd0
 have fz:(fun i=>f (0+i))=f:=funext fun i=>by rw [Nat.zero_add]
 clear rd rd0 hS g1 C0;go_wp2_with fail;refine Calls.mono C1.out ?_;rintro e w2 ⟨he,hR⟩;clear C1;unfold wordA at he hR;rw [fz] at he hR;by_cases hd:4<=m/\Lies f 0 headT
 rotate_left
 ·obtain ⟨er,rfl,e0⟩:∃ er,e=.returned (.int .i64 er)/\er≠0:=by
   by_cases c:m-0<(⟨#[73,78,84,49]⟩:ByteArray).size
   ·rw [if_pos c] at he;exact ⟨100,he,by decide⟩
   ·rw [if_neg c,if_neg (fun t=>hd ⟨by have e4:(⟨#[73,78,84,49]⟩:ByteArray).size=4:=rfl;omega,head_liesT.1 t⟩)] at he
    exact ⟨101,he,by decide⟩
  have t1:(er != 0)=true:=by simpa using e0
  have NF:Hid (¬ FitT f m):=fun t=>hd t.1.hd
  have FIN:Hid (Gw w w2):=GU.out w2 hR.1;clear hR hd he;go_wp2_with fail;go_ret2;exact ⟨.inr ⟨NF.out,rfl⟩,FIN.out⟩
 have s4:(⟨#[73,78,84,49]⟩:ByteArray).size=4:=rfl;rw [if_neg (by omega),if_pos (head_liesT.2 hd.2)] at he hR
 have HD:Hid (4<=m/\Lies f 0 headT):=hd;have R2:DStep w1 w2 p S f m 4:=by
  have h9:Rds 66 p S (fun i=>f (0+i)) (m-0) 4 w1 w2:=by rw [fz];exact hR
  exact h9.dstep
 subst he;obtain ⟨u2,S2,r2,sub2⟩:=R2;have U2:Hid (Upd p w1 w2):=u2;have SB2:Hid (∀ q,S2 q->S q):=sub2;have C2:Hid _:=dcnt 4294967296 (by decide) (by decide) (show m<=140737488355000 by omega) hd.1 r2
 clear hR hd u2 r2 sub2 fz;go_wp2_with fail;refine Calls.mono C2.out ?_;rintro e w3 hh;clear C2;rcases hh with ⟨a1,rfl,R3⟩ | ⟨a1,er,rfl,e0,u3,S3,r3,sub3⟩
 rotate_left
 ·have t1:(er != 0)=true:=by simpa using e0
  have NF:Hid (¬ FitT f m):=fun t=>a1 ⟨by have:=t.cfg.1;omega,t.cfg.2.1⟩
  have UU:Hid (Upd p w1 w3):=U2.out.trans u3;have C3:Hid _:=dany 4294967296 (by decide) (by decide) (show m<=140737488355000 by omega) HD.out.1 r3
  clear u3 r3 a1;go_wp2_with fail;refine Calls.mono C3.out ?_;rintro e w4 ⟨v4,er4,o4,rfl,om4,u4,S4,r4,_⟩;have UU4:Hid (Upd p w1 w4):=UU.out.trans u4;have C4:Hid _:=dany 4294967296 (by decide) (by decide) (show m<=140737488355000 by omega) om4 r4
  clear u4 r4 C3;go_wp2_with fail;refine Calls.mono C4.out ?_;rintro e w5 ⟨v5,er5,o5,rfl,om5,u5,S5,r5,_⟩;have FIN:Hid (Gw w w5):=GU.out w5 (UU4.out.trans u5);clear u5 r5 C4;go_wp2_with fail;go_ret2;exact ⟨.inr ⟨NF.out,rfl⟩,FIN.out⟩
 have A1:Hid (4+8<=m/\numR f 4 8<=4294967296):=a1;obtain ⟨u3,S3,r3,sub3⟩:=R3;have U3:Hid (Upd p w1 w3):=U2.out.trans u3;have SB3:Hid (∀ q,S3 q->S q):=fun q hq=>SB2.out q (sub3 q hq)
 have C3:Hid _:=dcnt 4294967296 (by decide) (by decide) (show m<=140737488355000 by omega) a1.1 r3
 obtain ⟨eps,heps⟩:∃ x,numR f 4 8=x:=⟨_,rfl⟩;have HE:Hid (numR f 4 8=eps):=heps;rw [heps];clear a1 u3 r3 sub3 heps U2;go_wp2_with fail;refine Calls.mono C3.out ?_;rintro e w4 hh;clear C3;rcases hh with ⟨a2,rfl,R4⟩ | ⟨a2,er,rfl,e0,u4,S4,r4,sub4⟩
 rotate_left
 ·have t1:(er != 0)=true:=by simpa using e0
  have NF:Hid (¬ FitT f m):=fun t=>a2 ⟨by have:=t.cfg.1;omega,t.cfg.2.2.1⟩
  have UU:Hid (Upd p w1 w4):=U3.out.trans u4;have C4:Hid _:=dany 4294967296 (by decide) (by decide) (show m<=140737488355000 by omega) A1.out.1 r4
  clear u4 r4 a2;go_wp2_with fail;refine Calls.mono C4.out ?_;rintro e w5 ⟨v5,er5,o5,rfl,om5,u5,S5,r5,_⟩;have FIN:Hid (Gw w w5):=GU.out w5 (UU.out.trans u5);clear u5 r5 C4;go_wp2_with fail;go_ret2;exact ⟨.inr ⟨NF.out,rfl⟩,FIN.out⟩
 have A2:Hid (4+8+8<=m/\numR f 12 8<=4294967296):=a2;obtain ⟨u4,S4,r4,sub4⟩:=R4;have U4:Hid (Upd p w1 w4):=U3.out.trans u4;have SB4:Hid (∀ q,S4 q->S q):=fun q hq=>SB3.out q (sub4 q hq)
 have C4:Hid _:=dcnt 4294967296 (by decide) (by decide) (show m<=140737488355000 by omega) a2.1 r4
 obtain ⟨buf,hbuf⟩:∃ x,numR f 12 8=x:=⟨_,rfl⟩;have HBu:Hid (numR f 12 8=buf):=hbuf;rw [show numR f (4+8) 8=buf from hbuf];clear a2 u4 r4 sub4 hbuf U3 SB2;go_wp2_with fail;refine Calls.mono C4.out ?_;rintro e w5 hh;clear C4;rcases hh with ⟨a3,rfl,R5⟩ | ⟨a3,er,rfl,e0,u5,S5,r5,sub5⟩
 rotate_left
 ·have t1:(er != 0)=true:=by simpa using e0
  have NF:Hid (¬ FitT f m):=fun t=>a3 ⟨by have:=t.cfg.1;omega,t.cfg.2.2.2⟩
  have FIN:Hid (Gw w w5):=GU.out w5 (U4.out.trans u5);clear u5 r5 a3;go_wp2_with fail;go_ret2;exact ⟨.inr ⟨NF.out,rfl⟩,FIN.out⟩
 have A3:Hid (4+8+8+8<=m/\numR f 20 8<=4294967296):=a3;obtain ⟨u5,S5,r5,sub5⟩:=R5;have U5:Hid (Upd p w1 w5):=U4.out.trans u5;have SB5:Hid (∀ q,S5 q->S q):=fun q hq=>SB4.out q (sub5 q hq)
 obtain ⟨keys,hkeys⟩:∃ x,numR f 20 8=x:=⟨_,rfl⟩;have HK:Hid (numR f 20 8=keys):=hkeys;rw [show numR f (4+8+8) 8=keys from hkeys];obtain ⟨g,hg⟩:∃ g,bk 16 f=g:=⟨_,rfl⟩;obtain ⟨M,hM⟩:∃ M,m-16=M:=⟨_,rfl⟩;have HG:Hid (bk 16 f=g/\m-16=M):=⟨hg,hM⟩;have hM1:M<=16000000:=by omega
 have hM2:12<=M:=by omega
 have BG:Hid (∀ i,i<M->0<=g i/\g i<256):=fun i hi=>by rw [<-hg];exact BD.out _ (by omega)
 have r5':DRd w5 p S5 g M 12:=by
  rw [<-hg,<-hM];exact drd_bk.1 r5
 have C5:Hid _:=dread (show M<=1000000000 by omega) hM2 BG.out r5'
 clear a3 u5 r5 r5' sub5 hkeys U4 SB3 SB4 hg hM;go_wp2_with fail;refine Calls.mono C5.out ?_;rintro e w6 hh;clear C5;rcases hh with ⟨a4,eo,ec,rfl,er6,R6⟩ | ⟨a4,rfl,R6⟩
 rotate_left
 ·have NF:Hid (¬ FitT f m):=fun t=>a4 (by have:=t.1.en;rw [HG.out.1,HG.out.2] at this;exact this)
  have FIN:Hid (Gw w w6):=GU.out w6 (U5.out.trans R6);clear R6 a4;go_wp2_with fail;go_ret2;exact ⟨.inr ⟨NF.out,rfl⟩,FIN.out⟩
 have EO_:Hid (EntOK g M):=a4;have oe:eOff g (nF g)<=M:=by
  cases hnn:nF g with
  | zero=>exact a4.1.1
  | succ i=>exact (a4.2 i (by omega)).2.2
 have E6:Hid (ES w6 eo (nF g) (kF g) (vF g) (gF g)/\(∀ a,eo=some a->a.block≠p)/\nF g<=ec/\(eo=none->nF g=0/\ec=0)/\∀ a,eo=some a->a.block<w6.heap.size):=by
  obtain ⟨bo,c,e1,e2,e3⟩:=er_form er6;cases e1;refine ⟨er_es er6 (kF_bd BG.out a4),fun a ha=>?_,e2,fun hn=>?_,fun a ha=>(e3 a ha).2⟩
  ·have:=(e3 a ha).1
   have:=U5.out.size
   omega
  ·rcases er6.2 with ⟨x,z⟩ | ⟨g',cap,cur,x,_⟩
   ·injection x with x1 x2 x3
    exact ⟨z,x3⟩
   ·injection x with x1 x2 x3
    rw [x1] at hn;cases hn
 obtain ⟨u6,S6,r6,sub6⟩:=R6;have U6:Hid (Upd p w1 w6):=U5.out.trans u6;have SB6:Hid (∀ q,S6 q->S q):=fun q hq=>SB5.out q (sub6 q hq)
 have C6:Hid _:=dcnt 40 (by decide) (by decide) (show M<=140737488355000 by omega) oe r6
 obtain ⟨n,hn⟩:∃ n,nF g=n:=⟨_,rfl⟩;have HN:Hid (nF g=n):=hn;rw [hn];clear u6 r6 sub6 er6 a4 hn U5 SB5 oe;go_wp2_with fail;refine Calls.mono C6.out ?_;rintro e w7 hh;clear C6;rcases hh with ⟨a5,rfl,R7⟩ | ⟨a5,er,rfl,e0,R7⟩
 rotate_left
 ·have t1:(er != 0)=true:=by simpa using e0
  have NF:Hid (¬ FitT f m):=fun t=>a5 (by have:=t.1.hh;rw [HG.out.1,HG.out.2] at this;exact this)
  have FIN:Hid (Gw w w7):=GU.out w7 (U6.out.trans R7.1);clear R7 a5;go_wp2_with fail;go_ret2;exact ⟨.inr ⟨NF.out,rfl⟩,FIN.out⟩
 have A5:Hid (NumOK g M):=a5;have hc:numR g (eOff g (nF g)) 8=(hF g:Int):=(cF_cast BG.out (show eOff g (nF g)+8<=M from a5.1)).symm;have ST7:Hid (DStep w1 w7 p S g M (rO g 0)):=DStep.after U6.out SB6.out R7;have E7:Hid (ES w7 eo (nF g) (kF g) (vF g) (gF g)):=E6.out.1.upd R7.1 E6.out.2.1;have EL7:Hid (EL w7 eo (entF g)):=entF_ES E7.out;obtain ⟨ht,hht⟩:∃ x,hF g=x:=⟨_,rfl⟩;have HH:Hid (hF g=ht):=hht;have h40:ht<=40:=by have:=a5.2;omega
 rw [hc,hht];have PS:Hid (∀ q,S q->q<w7.heap.size):=fun q hq=>Nat.lt_of_lt_of_le (FZz.out q hq) ST7.out.1.size
 have SZ7:Hid (w1.heap.size<=w7.heap.size):=ST7.out.1.size;have E67:Hid (w6.heap.size<=w7.heap.size):=R7.1.size;have pl7:Hid (p<w7.heap.size):=Nat.lt_of_lt_of_le pl ST7.out.1.size;clear R7 a5 hc hht U6;obtain ⟨jj,hjj,jz,js,jby⟩:=info_parts (show (prog.info? 62).map (fun i=>(i.zero,i.size,i.bytes))=some (some (.pointer none),1,8) by kernel_rfl)
 have RW0:Hid (w7.ownsRow w7.heap.size 62 1 (.slice none 0 0) 0 (([]:List (Option Rn)).map ptr)):=World.ownsRow_nil _ _ _ _;go_wp2_with fail;go_loopg [14,15] ht (fun gg s14 s15 wr=>∃ (i:Nat) (xo:Option Addr) (xc:Nat) (rs:List (Option Rn)),s14=.slice xo i xc/\s15=.int .i64 (i:Int)/\i<=ht/\ht-i<=gg/\Hid (rs.length=i/\Al rs (rsN g i))/\Hid (wr.ownsRow w7.heap.size 62 1 (.slice xo i xc) i (rs.map ptr))/\Hid (DStep w1 wr p S g M (rO g i))/\Hid (w7.heap.size<=wr.heap.size/\EL wr eo (entF g))/\Hid (∀ r,some r∈rs->RA HDoc wr r/\∀ q,r.S q->w7.heap.size<=q/\(Value.slice xo i xc).ownBlock≠some q)/\Hid (rO g i<=M)/\Hid (∀ j,j<i->ClOK g M j))
 case atStart=>exact ⟨0,none,0,[],rfl,rfl,Nat.zero_le _,by omega,⟨rfl,rfl⟩,RW0,ST7,⟨Nat.le_refl _,EL7.out⟩,(show Hid _ from fun r hr=>by cases hr),A5.out.1,(show Hid _ from fun j hj=>by omega)⟩
 case round =>
  clear RW0 ST7 EL7 E7;obtain ⟨i,xo,xc,rs,rfl,rfl,h1,h2,LI,RI,SI,EI,AI,MI,CI⟩:=hrel;obtain ⟨wS,hwS⟩:∃ wx,wx=wr:=⟨_,rfl⟩;subst hwS;by_cases hlt:i<ht
  ·obtain ⟨o,ho⟩:∃ o,rO g i=o:=⟨_,rfl⟩
   have HO:Hid (rO g i=o):=ho;rw [ho] at SI MI;have oM:o<=M:=MI.out;have UW:Hid (Upd p w1 wS):=SI.out.1;obtain ⟨_,SJ,rJ,subJ⟩:=SI.out;have SBJ:Hid (∀ q,SJ q->S q):=subJ;have LF_:Hid (Calls prog 25 #[.pointer (some ⟨p,0,none⟩)] wS fun e w'=>e=.returned (.int .i64 ((M-o:Nat):Int))/\w'=wS):=docr.left rJ
   have C7:Hid _:=dcnt ((M-o:Nat):Int) (by omega) (by omega) (show M<=140737488355000 by omega) oM rJ
   have NFc:Hid (∀ t:FitT f m,ClOK g M i):=fun t=>by
    have:=t.1.cl i (by rw [HG.out.1,HH.out];exact hlt)
    rw [HG.out.1,HG.out.2] at this;exact this
   obtain ⟨lf,hlf⟩:∃ x,M-o=x:=⟨_,rfl⟩;have HLF:Hid (M-o=lf):=hlf;rw [hlf] at LF_ C7;clear rJ subJ ho hlf;go_wp2_with fail;refine LF_.out.mono ?_;rintro e wT ⟨rfl,hw⟩;have hw':wS=wT:=hw.symm;subst hw';clear hw LF_;go_wp2_with fail;refine Calls.mono C7.out ?_;rintro e w8 hh;clear C7;rcases hh with ⟨b1,rfl,u8,S8,r8,sub8⟩ | ⟨b1,er,rfl,e0,R8⟩
   rotate_left
   ·have t1:(er != 0)=true:=by simpa using e0
    have NF:Hid (¬ FitT f m):=fun t=>b1 (by
     have c:=NFc.out t;have c8:=c.c8;have nx:=c.nx;rw [rO_succ] at nx;unfold rZ at nx;rw [HO.out] at c8 nx;refine ⟨c8,?_⟩;have:=cF_cast BG.out c8;have:=HLF.out;omega)
    have FIN:Hid (Gw w w8):=GU.out w8 (UW.out.trans R8.1);clear R8 b1;go_wp2_with fail;go_ret2;exact ⟨.inr ⟨NF.out,rfl⟩,FIN.out⟩
   have o8:o+8<=M:=b1.1;have hc:numR g o 8=(cF g o:Int):=(cF_cast BG.out o8).symm;rw [hc] at b1 ⊢;have LF2:Hid (Calls prog 25 #[.pointer (some ⟨p,0,none⟩)] w8 fun e w'=>e=.returned (.int .i64 ((M-(o+8):Nat):Int))/\w'=w8):=docr.left r8
   have U8:Hid (Upd p wS w8):=u8;have R8H:Hid (DRd w8 p S8 g M (o+8)):=r8;have SB8:Hid (∀ q,S8 q->S q):=fun q hq=>SBJ.out q (sub8 q hq)
   have RI8:Hid (w8.ownsRow w7.heap.size 62 1 (.slice xo i xc) i (rs.map ptr)):=own_kept RI.out fun q hq=>by
    have:=World.ownsRow.lt RI.out q hq
    exact u8.blk q (by have:=pl7.out;omega) this.2
   have AI8:Hid (∀ r,some r∈rs->RA HDoc w8 r/\∀ q,r.S q->w7.heap.size<=q/\(Value.slice xo i xc).ownBlock≠some q):=fun r hr=>⟨(AI.out r hr).1.keep HDoc.kp fun q hq=>u8.blk q (by have:=((AI.out r hr).2 q hq).1;have:=pl7.out;omega) (HDoc.kp.lt (AI.out r hr).1.h q hq),(AI.out r hr).2⟩
   have EI8:Hid (w7.heap.size<=w8.heap.size/\EL w8 eo (entF g)):=⟨Nat.le_trans EI.out.1 u8.size,ES.upd EI.out.2 u8 E6.out.2.1⟩;obtain ⟨N,hN⟩:∃ x,cF g o=x:=⟨_,rfl⟩;have HNN:Hid (cF g o=N):=hN;have NM:N<=16000000:=by have:=HLF.out;omega
   obtain ⟨l2,hl2⟩:∃ x,M-(o+8)=x:=⟨_,rfl⟩;have HL2:Hid (M-(o+8)=l2):=hl2;rw [hl2] at LF2;rw [hN];clear b1 u8 r8 sub8 hc RI AI EI hN hl2;by_cases big:N<=l2
   rotate_left
   ·have t1:decide (l2<N)=true:=by simp;omega
    have NF:Hid (¬ FitT f m):=fun t=>big (by
     have c:=NFc.out t;have nx:=c.nx;rw [rO_succ] at nx;unfold rZ at nx;rw [HO.out,HNN.out] at nx;have:=HL2.out;omega)
    have FIN:Hid (Gw w w8):=GU.out w8 (UW.out.trans U8.out);clear big;go_wp2_with fail;refine LF2.out.mono ?_;rintro e wT ⟨rfl,hw⟩;have hw':w8=wT:=hw.symm;subst hw';clear hw LF2;go_wp2_with fail;go_ret2;exact ⟨.inr ⟨NF.out,rfl⟩,FIN.out⟩
   have t1:decide (l2<N)=false:=by simp;omega
   have BY:Hid (o+8+N<=M):=by show _<=_;have:=HL2.out;omega
   go_wp2_with fail;refine LF2.out.mono ?_
   rintro e wT ⟨rfl,hw⟩;have hw':w8=wT:=hw.symm;subst hw';clear hw LF2;have EBH:Hid (∀ a,eo=some a->a.block<w7.heap.size):=fun a ha=>Nat.lt_of_lt_of_le (E6.out.2.2.2.2 a ha) E67.out
   by_cases z:N=0
   ·subst z
    have CLN:Hid (ClOK g M i):=⟨by rw [HO.out];have:=BY.out;omega,by rw [rO_succ];unfold rZ;rw [HO.out,HNN.out];exact BY.out,fun t=>absurd (by unfold rZ;rw [HO.out];exact HNN.out) t⟩
    have CIN:Hid (∀ j,j<i+1->ClOK g M j):=fun j hj=>by
     by_cases c:j=i
     ·subst c;exact CLN.out
     ·exact CI.out j (by omega)
    have STW:Hid (DStep w1 w8 p S g M (rO g (i+1))):=by
     show DStep _ _ _ _ _ _ _;rw [rO_succ];unfold rZ;rw [HO.out,HNN.out];exact ⟨UW.out.trans U8.out,S8,R8H.out,SB8.out⟩
    have OSIG:Hid ((none:Option Rn).map sig=(clF g i).map sig):=by show _=_;unfold clF;rw [if_pos (show rZ g i=0 by unfold rZ;rw [HO.out];exact HNN.out)]
    have OAW:Hid (∀ r,(none:Option Rn)=some r->RA HDoc w8 r/\∀ q,r.S q->w7.heap.size<=q/\(Value.slice xo i xc).ownBlock≠some q):=fun r hr=>by cases hr
    have RIW:Hid (w8.ownsRow w7.heap.size 62 1 (.slice xo i xc) i (rs.map ptr)):=RI8.out;have RAW:Hid (∀ r,some r∈rs->RA HDoc w8 r/\∀ q,r.S q->w7.heap.size<=q/\(Value.slice xo i xc).ownBlock≠some q):=AI8.out;have SW7:Hid (w7.heap.size<=w8.heap.size/\EL w8 eo (entF g)):=EI8.out;have zz:=SW7.out.1;clear RI8 AI8 EI8 R8H;have CNW:Hid (∀ j u,([.pointer none]:List Value)[j]?=some u->(w8.alloc (.cells #[.pointer none] 62)).cell? ((⟨w8.heap.size,0,none⟩:Addr).add j)=some u):=cell_one_new w8 _ _;go_wp2_with (at_builtin;refine wpList_append_own_at _ rfl _ _ 61 rfl w7.heap.size 62 jj (.pointer none) 1 8 underlying61 hjj jz js jby rfl (by decide) _ i _ rfl (RIW.out.alloc _) ⟨w8.heap.size,0,none⟩ 1 1 [.pointer none] rfl rfl CNW.out (fun u hu=>by simp at hu;subst hu;rfl) (by simp only [maxLen];omega) (by omega) (by simp;omega) ?_)
    intro v' w5 r1 r2 r3 r4;obtain ⟨xo',xc',rfl,F1,F2,F3,F4,F5⟩:=dls_app (o:=(none:Option Rn)) RIW.out LI.out STW.out FZz.out SW7.out.1 SZ7.out SW7.out.2 EBH.out RAW.out OSIG.out OAW.out r1 r2 (by simpa using r4)
    have L5:Hid ((rs++[(none:Option Rn)]).length=i+1/\Al (rs++[(none:Option Rn)]) (rsN g (i+1))):=F1;have R5:Hid (w5.ownsRow w7.heap.size 62 1 (.slice xo' (i+1) xc') (i+1) ((rs++[(none:Option Rn)]).map ptr)):=F2;have D5:Hid (DStep w1 w5 p S g M (rO g (i+1))):=F3;have E5:Hid (w7.heap.size<=w5.heap.size/\EL w5 eo (entF g)):=F4;have A5':Hid (∀ r,some r∈rs++[(none:Option Rn)]->RA HDoc w5 r/\∀ q,r.S q->w7.heap.size<=q/\(Value.slice xo' (i+1) xc').ownBlock≠some q):=F5;clear r1 r2 r3 r4 F1 F2 F3 F4 F5 RIW STW RAW;go_wp2_with fail;go_roundg (ht-(i+1))
    case measure=>omega
    case rel=>exact ⟨i+1,xo',xc',rs++[(none:Option Rn)],rfl,by go_num,by omega,Nat.le_refl _,L5,R5,D5,E5,A5',CLN.out.nx,CIN⟩
   ·have t0:((N:Int) == 0)=false:=by simpa using z
    have l0:0<l2:=by omega
    obtain ⟨bo,cc,k1,kb,kc,kp,kS⟩:=R8H.out.blk;rw [HL2.out] at k1 kb kc kp kS;obtain ⟨rb,off,rfl,hrb,_⟩:=kb.cells l0;have K1:Hid (w8.heap[p]?=some (.cells #[.slice (some ⟨rb,off,none⟩) l2 cc] 66 (0,0))):=k1;have KB:Hid (BS w8 (some ⟨rb,off,none⟩) l2 (fun i=>g (o+8+i))):=kb
    have KP:Hid ((∀ a,(some ⟨rb,off,none⟩:Option Addr)=some a->a.block≠p\/l2=0)/\∀ q,S8 q↔q=p\/∃ a,(some ⟨rb,off,none⟩:Option Addr)=some a/\q=a.block/\0<l2):=⟨kp,kS⟩;have GT_:Hid _:=dget (some ⟨rb,off,none⟩) N cc (bk (o+8) g) (by omega) (fun h=>by cases h) (.few NM) w8 (kb.ltn big)
    obtain ⟨x0,xf0⟩:=rd_cell k1;have pl8:p<w8.heap.size:=(Array.getElem?_eq_some_iff.1 k1).1;have nc:N<=cc:=by omega
    have nc1:(N:Int)<=(cc:Int):=by omega
    have CLI:Hid (Fit (bk (o+8) g) N->ClOK g M i):=fun ft=>⟨by rw [HO.out];have:=BY.out;omega,by rw [rO_succ];unfold rZ;rw [HO.out,HNN.out];exact BY.out,fun _=>by unfold rF rZ;rw [HO.out,HNN.out];exact ft⟩
    clear k1 kb kp kS hrb R8H;go_wp2_with fail;refine Calls.mono GT_.out ?_;rintro e w9 ⟨hG,g9⟩;clear GT_;have G9:Hid (Gw w8 w9):=g9;rcases hG with ⟨ft,px,Sx,rfl,hSx,hrx⟩ | ⟨nf,rfl⟩
    rotate_left
    ·have NF:Hid (¬ FitT f m):=fun t=>nf (by
      have c:=(NFc.out t).fit;unfold rF rZ at c;rw [HO.out,HNN.out] at c;exact c z)
     have FIN:Hid (Gw w w9):=(GU.out w8 (UW.out.trans U8.out)).trans G9.out;clear nf g9 z;go_wp2_with fail;go_ret2;exact ⟨.inr ⟨NF.out,rfl⟩,FIN.out⟩
    have CLN:Hid (ClOK g M i):=CLI.out ft;have CIN:Hid (∀ j,j<i+1->ClOK g M j):=fun j hj=>by
     by_cases c:j=i
     ·subst c;exact CLN.out
     ·exact CI.out j (by omega)
    have bdN:∀ t,t<N->0<=bk (o+8) g t/\bk (o+8) g t<256:=fun t ht=>BG.out _ (by have:=BY.out;omega)
    have ra:=ent_raD bdN ft hrx;have OSIG:Hid ((some ⟨px,Sx,numR (bk (o+8) g) 4 8,entF (bk (o+8) g),LF (bk (o+8) g)⟩:Option Rn).map sig=(clF g i).map sig):=by
     show _=_;unfold clF;rw [if_neg (show ¬ rZ g i=0 by unfold rZ;rw [HO.out,HNN.out];exact z)]
     unfold rF rnF;rw [HO.out];rfl
    have k9:w9.heap[p]?=some (.cells #[.slice (some ⟨rb,off,none⟩) l2 cc] 66 (0,0)):=(g9.below.block p pl8).trans K1.out;obtain ⟨y0,yf0⟩:=rd_cell k9;have pl9:p<w9.heap.size:=(Array.getElem?_eq_some_iff.1 k9).1;have SX:Hid (∀ q,Sx q->w8.heap.size<=q):=hSx;have p7:p<w7.heap.size:=pl7.out;have ST:Hid (∀ bo' c',(∃ S',RRd 66 (w9.setCell ⟨p,0,none⟩ (.slice bo' (l2-N) c')) p S' (fun i=>g (o+8+(N+i))) (l2-N)/\∀ q,S' q->S8 q)->(w9.setCell ⟨p,0,none⟩ (.slice bo' (l2-N) c')).ownsRow w7.heap.size 62 1 (.slice xo i xc) i (rs.map ptr)/\DStep w1 (w9.setCell ⟨p,0,none⟩ (.slice bo' (l2-N) c')) p S g M (rO g (i+1))/\(w7.heap.size<=(w9.setCell ⟨p,0,none⟩ (.slice bo' (l2-N) c')).heap.size/\EL (w9.setCell ⟨p,0,none⟩ (.slice bo' (l2-N) c')) eo (entF g))/\(∀ r,some r∈rs->RA HDoc (w9.setCell ⟨p,0,none⟩ (.slice bo' (l2-N) c')) r/\∀ q,r.S q->w7.heap.size<=q/\(Value.slice xo i xc).ownBlock≠some q)/\∀ r,(some ⟨px,Sx,numR (bk (o+8) g) 4 8,entF (bk (o+8) g),LF (bk (o+8) g)⟩:Option Rn)=some r->RA HDoc (w9.setCell ⟨p,0,none⟩ (.slice bo' (l2-N) c')) r/\∀ q,r.S q->w7.heap.size<=q/\(Value.slice xo i xc).ownBlock≠some q):=fun bo' c' ⟨S',rd',sub'⟩=>by
     have u9:Upd p w8 (w9.setCell ⟨p,0,none⟩ (.slice bo' (l2-N) c')):=(Upd.of_gw G9.out).trans (Upd.set p w9 _);have kp:∀ q,w7.heap.size<=q->q<w8.heap.size->(w9.setCell ⟨p,0,none⟩ (.slice bo' (l2-N) c')).heap[q]?=w8.heap[q]?:=fun q h1 h2=>u9.blk q (by omega) h2
     refine ⟨own_kept RI8.out fun q hq=>kp q (World.ownsRow.lt RI8.out q hq).1 (World.ownsRow.lt RI8.out q hq).2,⟨UW.out.trans (U8.out.trans u9),S',?_,fun q hq=>SB8.out q (sub' q hq)⟩,⟨Nat.le_trans EI8.out.1 u9.size,ES.upd EI8.out.2 u9 E6.out.2.1⟩,fun r hr=>⟨(AI8.out r hr).1.keep HDoc.kp fun q hq=>kp q ((AI8.out r hr).2 q hq).1 (HDoc.kp.lt (AI8.out r hr).1.h q hq),(AI8.out r hr).2⟩,fun r hr=>?_⟩
     ·rw [rO_succ]
      unfold rZ DRd;rw [HO.out,HNN.out,show M-(o+8+N)=l2-N by have:=HL2.out;omega,show (fun i=>g (o+8+N+i))=fun i=>g (o+8+(N+i)) from funext fun i=>by rw [Nat.add_assoc (o+8)]]
      exact rd'
     ·cases hr
      refine ⟨ra.keep HDoc.kp fun q hq=>Go.Deep.blk_setCell_other _ _ _ _ ?_,fun q hq=>⟨?_,fun e=>?_⟩⟩
      ·have:=SX.out q hq
       have:=EI8.out.1
       show q≠p;omega
      ·have:=SX.out q hq
       have:=EI8.out.1
       omega
      ·have:=SX.out q hq
       have:=(World.ownsRow.lt RI8.out q e).2
       omega
    have K9:Hid (w9.heap[p]?=some (.cells #[.slice (some ⟨rb,off,none⟩) l2 cc] 66 (0,0))):=k9;have KB9:Hid (BS w9 (some ⟨rb,off,none⟩) l2 (fun i=>g (o+8+i))):=KB.out.gw G9.out
    have LE9:Hid (N<=l2/\l2<=cc):=⟨big,kc⟩;have S79:Hid (w7.heap.size<=w9.heap.size):=Nat.le_trans EI8.out.1 G9.out.size;clear k9 ra bdN hSx hrx ft g9 x0 xf0 pl8 KB K1 AI8 EI8 RI8;by_cases cN:cc=N
    ·have lN:l2=N:=by omega
     have cN':N=cc:=cN.symm;obtain ⟨S',rd',sub'⟩:=RRd.cut (k:=N) (bo':=some ⟨rb,off,none⟩) (c':=0) K9.out KB9.out KP.out.1 KP.out.2 LE9.out.1 (by omega) (fun h=>by omega) (fun a e=>by cases e;exact ⟨_,rfl,rfl⟩)
     obtain ⟨f1,f2,f3,f4,f5⟩:=ST.out (some ⟨rb,off,none⟩) 0 ⟨S',rd',sub'⟩;subst lN;subst cN;rw [Nat.sub_self] at f1 f2 f3 f4 f5;have RIW:Hid ((w9.setCell ⟨p,0,none⟩ (.slice (some ⟨rb,off,none⟩) 0 0)).ownsRow w7.heap.size 62 1 (.slice xo i xc) i (rs.map ptr)):=f1;have STW:Hid (DStep w1 (w9.setCell ⟨p,0,none⟩ (.slice (some ⟨rb,off,none⟩) 0 0)) p S g M (rO g (i+1))):=f2;have SW7:Hid (w7.heap.size<=(w9.setCell ⟨p,0,none⟩ (.slice (some ⟨rb,off,none⟩) 0 0)).heap.size/\EL (w9.setCell ⟨p,0,none⟩ (.slice (some ⟨rb,off,none⟩) 0 0)) eo (entF g)):=f3;have RAW:Hid (∀ r,some r∈rs->RA HDoc (w9.setCell ⟨p,0,none⟩ (.slice (some ⟨rb,off,none⟩) 0 0)) r/\∀ q,r.S q->w7.heap.size<=q/\(Value.slice xo i xc).ownBlock≠some q):=f4;have OAW:Hid (∀ r,(some ⟨px,Sx,numR (bk (o+8) g) 4 8,entF (bk (o+8) g),LF (bk (o+8) g)⟩:Option Rn)=some r->RA HDoc (w9.setCell ⟨p,0,none⟩ (.slice (some ⟨rb,off,none⟩) 0 0)) r/\∀ q,r.S q->w7.heap.size<=q/\(Value.slice xo i xc).ownBlock≠some q):=f5;have zz:=S79.out;clear f1 f2 f3 f4 f5 rd' sub' ST;have CNW:Hid (∀ j u,([.pointer (some ⟨px,0,none⟩)]:List Value)[j]?=some u->((w9.setCell ⟨p,0,none⟩ (.slice (some ⟨rb,off,none⟩) 0 0)).alloc (.cells #[.pointer (some ⟨px,0,none⟩)] 62)).cell? ((⟨w9.heap.size,0,none⟩:Addr).add j)=some u):=by have h9:=cell_one_new (w9.setCell ⟨p,0,none⟩ (.slice (some ⟨rb,off,none⟩) 0 0)) (.pointer (some ⟨px,0,none⟩)) 62;have e9:(w9.setCell ⟨p,0,none⟩ (.slice (some ⟨rb,off,none⟩) 0 0)).heap.size=w9.heap.size:=(by simp);rw [e9] at h9;exact h9
     go_wp2_with (at_builtin;refine wpList_append_own_at _ rfl _ _ 61 rfl w7.heap.size 62 jj (.pointer none) 1 8 underlying61 hjj jz js jby rfl (by decide) _ i _ rfl (RIW.out.alloc _) ⟨w9.heap.size,0,none⟩ 1 1 [.pointer (some ⟨px,0,none⟩)] rfl rfl CNW.out (fun u hu=>by simp at hu;subst hu;rfl) (by simp only [maxLen];omega) (by omega) (by simp;omega) ?_)
     intro v' w5 r1 r2 r3 r4;obtain ⟨xo',xc',rfl,F1,F2,F3,F4,F5⟩:=dls_app (o:=(some ⟨px,Sx,numR (bk (o+8) g) 4 8,entF (bk (o+8) g),LF (bk (o+8) g)⟩:Option Rn)) RIW.out LI.out STW.out FZz.out SW7.out.1 SZ7.out SW7.out.2 EBH.out RAW.out OSIG.out OAW.out r1 r2 (by simpa using r4)
     have L5:Hid ((rs++[(some ⟨px,Sx,numR (bk (o+8) g) 4 8,entF (bk (o+8) g),LF (bk (o+8) g)⟩:Option Rn)]).length=i+1/\Al (rs++[(some ⟨px,Sx,numR (bk (o+8) g) 4 8,entF (bk (o+8) g),LF (bk (o+8) g)⟩:Option Rn)]) (rsN g (i+1))):=F1;have R5:Hid (w5.ownsRow w7.heap.size 62 1 (.slice xo' (i+1) xc') (i+1) ((rs++[(some ⟨px,Sx,numR (bk (o+8) g) 4 8,entF (bk (o+8) g),LF (bk (o+8) g)⟩:Option Rn)]).map ptr)):=F2;have D5:Hid (DStep w1 w5 p S g M (rO g (i+1))):=F3;have E5:Hid (w7.heap.size<=w5.heap.size/\EL w5 eo (entF g)):=F4;have A5':Hid (∀ r,some r∈rs++[(some ⟨px,Sx,numR (bk (o+8) g) 4 8,entF (bk (o+8) g),LF (bk (o+8) g)⟩:Option Rn)]->RA HDoc w5 r/\∀ q,r.S q->w7.heap.size<=q/\(Value.slice xo' (i+1) xc').ownBlock≠some q):=F5;clear r1 r2 r3 r4 F1 F2 F3 F4 F5 RIW STW RAW;go_wp2_with fail;go_roundg (ht-(i+1))
     case measure=>omega
     case rel=>exact ⟨i+1,xo',xc',rs++[(some ⟨px,Sx,numR (bk (o+8) g) 4 8,entF (bk (o+8) g),LF (bk (o+8) g)⟩:Option Rn)],rfl,by go_num,by omega,Nat.le_refl _,L5,R5,D5,E5,A5',CLN.out.nx,CIN⟩
    ·obtain ⟨S',rd',sub'⟩:=RRd.cut (k:=N) (bo':=some ⟨rb,off+N,none⟩) (c':=cc-N) K9.out KB9.out KP.out.1 KP.out.2 LE9.out.1 (by omega) (fun _=>⟨rb,off,rfl,rfl⟩) (fun a e=>by cases e;exact ⟨_,rfl,rfl⟩)
     obtain ⟨f1,f2,f3,f4,f5⟩:=ST.out (some ⟨rb,off+N,none⟩) (cc-N) ⟨S',rd',sub'⟩;have RIW:Hid ((w9.setCell ⟨p,0,none⟩ (.slice (some ⟨rb,off+N,none⟩) (l2-N) (cc-N))).ownsRow w7.heap.size 62 1 (.slice xo i xc) i (rs.map ptr)):=f1;have STW:Hid (DStep w1 (w9.setCell ⟨p,0,none⟩ (.slice (some ⟨rb,off+N,none⟩) (l2-N) (cc-N))) p S g M (rO g (i+1))):=f2;have SW7:Hid (w7.heap.size<=(w9.setCell ⟨p,0,none⟩ (.slice (some ⟨rb,off+N,none⟩) (l2-N) (cc-N))).heap.size/\EL (w9.setCell ⟨p,0,none⟩ (.slice (some ⟨rb,off+N,none⟩) (l2-N) (cc-N))) eo (entF g)):=f3;have RAW:Hid (∀ r,some r∈rs->RA HDoc (w9.setCell ⟨p,0,none⟩ (.slice (some ⟨rb,off+N,none⟩) (l2-N) (cc-N))) r/\∀ q,r.S q->w7.heap.size<=q/\(Value.slice xo i xc).ownBlock≠some q):=f4;have OAW:Hid (∀ r,(some ⟨px,Sx,numR (bk (o+8) g) 4 8,entF (bk (o+8) g),LF (bk (o+8) g)⟩:Option Rn)=some r->RA HDoc (w9.setCell ⟨p,0,none⟩ (.slice (some ⟨rb,off+N,none⟩) (l2-N) (cc-N))) r/\∀ q,r.S q->w7.heap.size<=q/\(Value.slice xo i xc).ownBlock≠some q):=f5;have zz:=S79.out;clear f1 f2 f3 f4 f5 rd' sub' ST;have CNW:Hid (∀ j u,([.pointer (some ⟨px,0,none⟩)]:List Value)[j]?=some u->((w9.setCell ⟨p,0,none⟩ (.slice (some ⟨rb,off+N,none⟩) (l2-N) (cc-N))).alloc (.cells #[.pointer (some ⟨px,0,none⟩)] 62)).cell? ((⟨w9.heap.size,0,none⟩:Addr).add j)=some u):=by have h9:=cell_one_new (w9.setCell ⟨p,0,none⟩ (.slice (some ⟨rb,off+N,none⟩) (l2-N) (cc-N))) (.pointer (some ⟨px,0,none⟩)) 62;have e9:(w9.setCell ⟨p,0,none⟩ (.slice (some ⟨rb,off+N,none⟩) (l2-N) (cc-N))).heap.size=w9.heap.size:=(by simp);rw [e9] at h9;exact h9
     go_wp2_with (at_builtin;refine wpList_append_own_at _ rfl _ _ 61 rfl w7.heap.size 62 jj (.pointer none) 1 8 underlying61 hjj jz js jby rfl (by decide) _ i _ rfl (RIW.out.alloc _) ⟨w9.heap.size,0,none⟩ 1 1 [.pointer (some ⟨px,0,none⟩)] rfl rfl CNW.out (fun u hu=>by simp at hu;subst hu;rfl) (by simp only [maxLen];omega) (by omega) (by simp;omega) ?_)
     intro v' w5 r1 r2 r3 r4;obtain ⟨xo',xc',rfl,F1,F2,F3,F4,F5⟩:=dls_app (o:=(some ⟨px,Sx,numR (bk (o+8) g) 4 8,entF (bk (o+8) g),LF (bk (o+8) g)⟩:Option Rn)) RIW.out LI.out STW.out FZz.out SW7.out.1 SZ7.out SW7.out.2 EBH.out RAW.out OSIG.out OAW.out r1 r2 (by simpa using r4)
     have L5:Hid ((rs++[(some ⟨px,Sx,numR (bk (o+8) g) 4 8,entF (bk (o+8) g),LF (bk (o+8) g)⟩:Option Rn)]).length=i+1/\Al (rs++[(some ⟨px,Sx,numR (bk (o+8) g) 4 8,entF (bk (o+8) g),LF (bk (o+8) g)⟩:Option Rn)]) (rsN g (i+1))):=F1;have R5:Hid (w5.ownsRow w7.heap.size 62 1 (.slice xo' (i+1) xc') (i+1) ((rs++[(some ⟨px,Sx,numR (bk (o+8) g) 4 8,entF (bk (o+8) g),LF (bk (o+8) g)⟩:Option Rn)]).map ptr)):=F2;have D5:Hid (DStep w1 w5 p S g M (rO g (i+1))):=F3;have E5:Hid (w7.heap.size<=w5.heap.size/\EL w5 eo (entF g)):=F4;have A5':Hid (∀ r,some r∈rs++[(some ⟨px,Sx,numR (bk (o+8) g) 4 8,entF (bk (o+8) g),LF (bk (o+8) g)⟩:Option Rn)]->RA HDoc w5 r/\∀ q,r.S q->w7.heap.size<=q/\(Value.slice xo' (i+1) xc').ownBlock≠some q):=F5;clear r1 r2 r3 r4 F1 F2 F3 F4 F5 RIW STW RAW;go_wp2_with fail;go_roundg (ht-(i+1))
     case measure=>omega
     case rel=>exact ⟨i+1,xo',xc',rs++[(some ⟨px,Sx,numR (bk (o+8) g) 4 8,entF (bk (o+8) g),LF (bk (o+8) g)⟩:Option Rn)],rfl,by go_num,by omega,Nat.le_refl _,L5,R5,D5,E5,A5',CLN.out.nx,CIN⟩
  ·have ei:i=ht:=by omega
   subst ei;obtain ⟨_,S9,r9,_⟩:=SI.out;have UO:Hid (Upd p w1 wS):=SI.out.1;have LEF:Hid (Calls prog 25 #[.pointer (some ⟨p,0,none⟩)] wS fun e w'=>e=.returned (.int .i64 ((M-rO g i:Nat):Int))/\w'=wS):=docr.left r9
   have up:=MI.out;have ALS:Hid (Al rs (rsF g)):=by show Al _ _;unfold rsF;rw [HH.out];exact LI.out.2
   have PRH:Hid (PR HDoc wS xo rs):=pr_own RI.out LI.out.1 (fun r hr=>(AI.out r hr).1)
   have CLH:∀ j,j<hF g->ClOK g M j:=fun j hj=>CI.out j (by rw [HH.out] at hj;exact hj)
   have TOT:(entF g).length+tot rs<=2000000:=by
    have a:=cls_many (hF g) CLH;have b:=ents_many EO_.out;have e1:lO g=eOff g (nF g)+8:=rfl;have e2:tot rs=tot (rsN g (hF g)):=ALS.out.tot;rw [entF_len,e2];rw [<-HH.out] at up;omega
   have OFH:Hid (Calls prog 27 #[.agg #[.int .i64 eps,.int .i64 buf,.int .i64 keys],.slice eo n ec,.slice xo i xc] wS fun e w'=>OfD wS w' e eps buf keys (entF g) rs/\Gw wS w'):=by
    have:=rof16 eps buf keys eo xo ec xc (entF g) rs TOT (by rw [LI.out.1];exact h40) (by rw [entF_len];exact E6.out.2.2.1) (fun h=>by rw [entF_len];exact E6.out.2.2.2.1 h) wS EI.out.2 PRH.out
    rw [entF_len,HN.out,LI.out.1] at this;exact this
   have NUM:Hid (NumOK g M):=A5.out;have CLS:Hid (∀ j,j<hF g->ClOK g M j):=CLH;clear r9 TOT CLH;by_cases al:rO g i=M
   rotate_left
   ·obtain ⟨mm,hmm⟩:∃ mm,M-rO g i=mm:=⟨_,rfl⟩
    have t0:((mm:Int) != 0)=true:=by simp;omega
    have t1:¬ mm=0:=by omega
    rw [hmm] at LEF;have NF:Hid (¬ FitT f m):=fun t=>al (by have:=t.1.all;rw [HG.out.1,HG.out.2,HH.out] at this;exact this)
    have FIN:Hid (Gw w wS):=GU.out _ UO.out;clear OFH al up hmm;go_wp2_with fail;refine LEF.out.mono ?_;rintro e wP ⟨rfl,hw⟩;have hw':wS=wP:=hw.symm;subst hw';clear hw LEF;go_wp2_with fail;go_ret2;exact ⟨.inr ⟨NF.out,rfl⟩,FIN.out⟩
   have t1:M-rO g i=0:=by omega
   rw [t1] at LEF;have LAYX:Hid ((hF g=0\/rZ g (hF g-1)≠0)->LayT f m):=fun x=>by
    refine ⟨HD.out,A3.out.1,?_,?_,?_,?_,?_⟩
    ·rw [HG.out.1,HG.out.2];exact EO_.out
    ·rw [HG.out.1,HG.out.2];exact NUM.out
    ·rw [HG.out.1,HG.out.2];exact CLS.out
    ·rw [HG.out.1];exact x
    ·rw [HG.out.1,HG.out.2,HH.out];exact al
   clear al up t1;by_cases i0:i=0
   ·have LAY:Hid (LayT f m):=LAYX.out (.inl (by rw [HH.out];exact i0))
    subst i0;clear LAYX;go_wp2_with fail;refine LEF.out.mono ?_;rintro e wP ⟨rfl,hw⟩;have hw':wS=wP:=hw.symm;subst hw';clear hw LEF;go_wp2_with fail;refine OFH.out.mono ?_;rintro e wQ ⟨⟨E,nl,hE,hX⟩,gQ⟩;have GQ:Hid (Gw w wQ):=(GU.out _ UO.out).trans gQ;have OE:Hid (OfR16 eps buf keys (entF g) rs E nl):=hE;clear gQ hE OFH;rcases hX with ⟨e0,rfl⟩ | ⟨e0,pp,rfl⟩
    ·have t3:(E != 0)=true:=by simpa using e0
     have NF:Hid (¬ FitT f m):=fun t=>e0 (by
      obtain ⟨n',o⟩:=t.2;rw [HE.out,HBu.out,HK.out,HG.out.1] at o;exact OE.out.one (o.al ALS.out.symm))
     clear e0;go_wp2_with fail;go_ret2;exact ⟨.inr ⟨NF.out,rfl⟩,GQ.out⟩
    ·subst e0
     have FT:Hid (FitT f m):=⟨LAY.out,nl,by rw [HE.out,HBu.out,HK.out,HG.out.1];exact OE.out.al ALS.out⟩
     go_wp2_with fail;go_ret2
     exact ⟨.inl ⟨FT.out,pp,rfl⟩,GQ.out⟩
   ·have p0:decide ((0:Int)<(i:Int))=true:=by simp;omega
    have p0':(0:Int)<(i:Int):=by omega
    have w0':IntKind.i64.wrap ((i:Int)-1)=((i-1:Nat):Int):=by rw [IntKind.wrap_i64];omega
    have w2':(i:Int)-1=((i-1:Nat):Int):=by omega
    have kr:i-1<rs.length:=by rw [LI.out.1];omega
    obtain ⟨xb,xf,rfl,hxb,hxc⟩:=PRH.out.cells (by omega)
    have cx:=hxc (i-1) kr;have LS:Hid ((rs.getD (i-1) none).map sig=(clF g (i-1)).map sig):=by
     have:=ALS.out.get (i-1)
     unfold rsF at this;rw [rsN_at g (by rw [HH.out];omega)] at this
     exact this
    obtain ⟨k,hk⟩:∃ k,i-1=k:=⟨_,rfl⟩;have HKK:Hid (i-1=k):=hk;have ki:k<i:=by omega
    rw [hk] at w0' w2' cx LS;clear hxc kr hk;cases ho:rs.getD k none with
    | none =>
     rw [ho] at cx LS;have cx':wS.cell? ⟨xb,xf+k,none⟩=some (.pointer none):=cx;have NF:Hid (¬ FitT f m):=fun t=>by
      rcases t.1.last with x | x
      ·rw [HG.out.1,HH.out] at x;exact i0 x
      ·rw [HG.out.1,HH.out,HKK.out] at x
       have:=LS.out
       unfold clF at this;rw [if_neg x] at this;cases this
     have FIN:Hid (Gw w wS):=GU.out _ UO.out;clear OFH LAYX cx ho LS i0;go_wp2_with fail;refine LEF.out.mono ?_;rintro e wP ⟨rfl,hw⟩;have hw':wS=wP:=hw.symm;subst hw';clear hw LEF;go_wp2_with fail;go_ret2;exact ⟨.inr ⟨NF.out,rfl⟩,FIN.out⟩
    | some r =>
     rw [ho] at cx LS;have cx':wS.cell? ⟨xb,xf+k,none⟩=some (.pointer (some ⟨r.p,0,none⟩)):=cx;have LAY:Hid (LayT f m):=LAYX.out (.inr fun x=>by
      rw [HH.out,HKK.out] at x;have:=LS.out;unfold clF at this;rw [if_pos x] at this;cases this)
     generalize r.p=rp at cx';clear LAYX cx ho LS i0;go_wp2_with fail;refine LEF.out.mono ?_;rintro e wP ⟨rfl,hw⟩;have hw':wS=wP:=hw.symm;subst hw';clear hw LEF;go_wp2_with fail;refine OFH.out.mono ?_;rintro e wQ ⟨⟨E,nl,hE,hX⟩,gQ⟩;have GQ:Hid (Gw w wQ):=(GU.out _ UO.out).trans gQ;have OE:Hid (OfR16 eps buf keys (entF g) rs E nl):=hE;clear gQ hE OFH;rcases hX with ⟨e0,rfl⟩ | ⟨e0,pp,rfl⟩
     ·have t3:(E != 0)=true:=by simpa using e0
      have NF:Hid (¬ FitT f m):=fun t=>e0 (by
       obtain ⟨n',o⟩:=t.2;rw [HE.out,HBu.out,HK.out,HG.out.1] at o;exact OE.out.one (o.al ALS.out.symm))
      clear e0;go_wp2_with fail;go_ret2;exact ⟨.inr ⟨NF.out,rfl⟩,GQ.out⟩
     ·subst e0
      have FT:Hid (FitT f m):=⟨LAY.out,nl,by rw [HE.out,HBu.out,HK.out,HG.out.1];exact OE.out.al ALS.out⟩
      go_wp2_with fail;go_ret2
      exact ⟨.inl ⟨FT.out,pp,rfl⟩,GQ.out⟩
end Go.Proofs.YtpoohadckhphpaaGreat
namespace Go.Proofs.YtpoohadckhphpaaGreat
open Go.RowKit
theorem te_ready {eps:Int} {f:Nat->Int} {n:Nat} {L:List (List Sg)} (h:Ready eps f n L):∀ l∈L,∀ s∈l,0<=s.te:=fun l hl s hs=>by
 obtain ⟨i,hi,e⟩:=mem_getD (d:=[]) hl;have K:=h.lv.lvl i hi;rw [e] at K;obtain ⟨a,_,_⟩:=segE_ok.1 (K.ok s hs);have:=errM_ok.1 a;omega
theorem HT.te {HR:HRt} (H:RunC HR) {w:World} {p:Nat} {F:Nat->Prop} {eps buf keys:Int} {l:List Ent} {rs:List (Option Rn)} {B W:Int} {live:Nat} (h:HT HR w p F eps buf keys l rs B W live):∀ r,some r∈rs->∀ lv∈r.L,∀ s∈lv,0<=s.te:=fun r hr=>te_ready (H.ready (h.pr r hr).h)
theorem HT.lok {HR:HRt} {w:World} {p:Nat} {F:Nat->Prop} {eps buf keys:Int} {l:List Ent} {rs:List (Option Rn)} {B W:Int} {live:Nat} (h:HT HR w p F eps buf keys l rs B W live):∀ e∈l,e.ok:=by
 obtain ⟨pb,Sb,pc,_,h2,_⟩:=h.lies;exact h2.hb.ok
theorem TInv.ofr {eps buf keys:Int} {l:List Ent} {rs:List (Option Rn)} {live t:Nat} (inv:TInv eps buf keys l rs live) (cf:CfgOk eps buf keys) (tp:TopR rs t):OfR16 eps buf keys l (rs.take t) 0 live:=by
 have t40:t<=40:=by have:=tp.le;rw [inv.len] at this;exact this
 have up:upR (rs.take t)=rs:=upR_top inv.len tp;refine .inr ⟨cf,.inr ⟨inv.ok,.inr ⟨inv.room,.inr ⟨.inr (.inr ⟨rfl,⟨⟨cf.1,cf.2.1⟩,fun ⟨r,hr⟩=>?_⟩,?_⟩),.inr ⟨rfl,.inl ⟨rfl,?_,?_,inv.most⟩⟩⟩⟩⟩⟩
 ·rw [List.drop_eq_nil_of_le (by rw [List.length_take];omega)] at hr
  cases hr
 ·rw [up];exact inv.fits
 ·rw [up];exact inv.lv
 ·rw [up];exact inv.all
theorem FitT.one {f f':Nat->Int} {m m':Nat} (h:FitT f m) (h':FitT f' m') (e:∀ i,i<m->f i=f' i):m=m':=h.1.one h'.1 e
def e57:Ent:=⟨5,7,false⟩
abbrev sB:List Int:=towB 2 4 100 [e57] []
theorem sB_len:sB.length=61:=by decide
theorem top_rep:TopR (List.replicate 40 (none:Option Rn)) 0:=⟨Nat.zero_le _,fun i _=>by
 rw [List.getD_eq_getElem?_getD,List.getElem?_replicate];split<;>rfl,.inl rfl⟩
theorem sB_lay:LayT (lf sB) 61:=by
 have bn:nF (bk 16 (lf sB))=1:=by decide
 have bh:hF (bk 16 (lf sB))=0:=by decide
 refine ⟨⟨by decide,by unfold Lies;decide⟩,by decide,⟨⟨by decide,by decide⟩,fun i hi=>?_⟩,⟨by decide,by decide⟩,fun j hj=>?_,.inl bh,?_⟩
 ·rw [bn] at hi
  obtain rfl:i=0:=by omega
  exact ⟨by decide,by decide,by decide⟩
 ·rw [bh] at hj;omega
 ·rw [bh];decide
theorem sB_ent:entF (bk 16 (lf sB))=[e57]:=by rfl
theorem sB_runs:rsF (bk 16 (lf sB))=[]:=by rfl
theorem sB_fit (inv:TInv 2 4 100 [e57] (List.replicate 40 none) 1):FitT (lf sB) 61:=by
 have a:numR (lf sB) 4 8=2:=by decide
 have b:numR (lf sB) 12 8=4:=by decide
 have c:numR (lf sB) 20 8=100:=by decide
 have:=inv.ofr (t:=0) (by decide) top_rep
 exact ⟨sB_lay,1,by rw [a,b,c,sB_ent,sB_runs];exact this⟩
theorem nw_no20 (n:Nat) (q:Int):nw q (List.replicate n none)=none:=by
 have:=nw_rep q n []
 rw [List.append_nil] at this;rw [this];rfl
theorem shown20 {HR:HRt} (H:RunC HR) (A:AlikeR HR) (w:World):Calls prog 4 #[] w fun e w'=>e=.returned (.bool true)/\Gw w w':=by
 have HH:Hid (RunC HR):=H;have AA:Hid (AlikeR HR):=A;have CF:Hid (CfgOk 2 4 100):=by show CfgOk _ _ _;decide
 clear H A;go_enter func4,ntmps4;go_wp2_with fail;refine Calls.mono (new16 HH.out 2 4 100 w) ?_;rintro e w1 ⟨hN,g1⟩;have G1:Hid (Gw w w1):=g1;clear g1;rcases hN with ⟨no,_⟩ | ⟨_,pt,F,rfl,ht,hF⟩
 ·exact absurd CF.out no
 have v0:valE [] (List.replicate 40 (none:Option Rn)) 5=none:=by unfold valE newE;rw [nw_no20];rfl
 have PU:Hid _:=tput0 HH.out ht (by rw [show tot (List.replicate 40 (none:Option Rn))=0 from rfl];decide) 5 7 (by decide) (by decide) v0 (by decide) (by decide)
 have HF:Hid (∀ q,F q->w.heap.size<=q):=hF;clear ht hF v0;go_wp2_with fail;refine Calls.mono PU.out ?_;rintro e w2 ⟨rfl,⟨F',ht2,sF⟩,gx⟩;have G2:Hid (Gw w w2):=Gx.gw G1.out gx (fun q hq=>HF.out q hq)
 have HT2:Hid (HT HR w2 pt F' 2 4 100 [e57] (List.replicate 40 none) 0 0 1):=ht2;have FT:Hid (FitT (lf sB) 61):=sB_fit HT2.out.inv;clear ht2 sF gx PU HF G1;have SV:Hid (Calls prog 7 #[.pointer (some ⟨pt,0,none⟩)] w2 fun e w'=>(∃ bo c,e=.returned (.slice bo 61 c)/\BS w' bo 61 (lf sB))/\Gw w2 w'):=(tsave HH.out HT2.out HT2.out.lok (HT2.out.te HH.out) (by decide) 0 top_rep (by decide)).mono fun e w' ⟨⟨bo,c,a,b⟩,d⟩=>by
  have a':e=.returned (.slice bo sB.length c):=a;have b':BL w' w2.heap.size (.slice bo sB.length c) sB:=b;have:=bl_bs b' (by decide)
  rw [sB_len] at a' this;exact ⟨⟨bo,c,a',this⟩,d⟩
 clear HT2;go_wp2_with fail;refine SV.out.mono ?_;rintro e w3 ⟨⟨bo,bc,rfl,bs⟩,g3⟩;have G3:Hid (Gw w w3):=G2.out.trans g3;have L1:Hid _:=tload HH.out AA.out bo 61 bc (lf sB) (by decide) w3 bs
 clear bs g3 SV G2;go_wp2_with fail;refine Calls.mono L1.out ?_;rintro e w4 ⟨hL,g4⟩;have G4:Hid (Gw w w4):=G3.out.trans g4;clear g4 L1 G3;rcases hL with ⟨_,px,Fx,rs,n,rfl,hx,al,_⟩ | ⟨nf,_⟩
 rotate_left
 ·exact absurd FT.out nf
 have er:rs=[]:=by
  have:=al
  rw [sB_runs] at this;exact List.map_eq_nil_iff.1 this
 subst er;rw [sB_ent] at hx;have HX:Hid (HT HR w4 px Fx (numR (lf sB) 4 8) (numR (lf sB) 12 8) (numR (lf sB) 20 8) [e57] (upR []) 0 0 n):=hx;have L2:Hid _:=tload HH.out AA.out none 0 0 (fun _=>0) (by decide) w4 (bs_nil _ _ _)
 clear hx al FT;go_wp2_with fail;refine Calls.mono L2.out ?_;rintro e w5 ⟨hL,g5⟩;rcases hL with ⟨ft,_⟩ | ⟨_,rfl⟩
 ·exact absurd ft.1.hd.1 (by decide)
 have v7:valE [e57] (upR []) 5=some 7:=by rfl
 have GE:Hid (Calls prog 10 #[.pointer (some ⟨px,0,none⟩),.int .u64 5] w5 fun e w'=>e=.returned (.tuple #[.int .u64 7,.bool true])/\Gw w5 w'):=(tget16 HH.out (HX.out.gw HH.out.kp g5) (by decide) 5 (by decide) (by decide)).mono fun e w' ⟨a,b⟩=>by
  rw [v7] at a;exact ⟨a,b⟩
 have G5:Hid (Gw w w5):=G4.out.trans g5;clear g5 v7 L2 HX G4;go_wp2_with fail;refine GE.out.mono ?_;rintro e w6 ⟨rfl,g6⟩;have G6:Hid (Gw w w6):=G5.out.trans g6;clear g6 GE G5;go_wp2_with fail;go_ret;exact ⟨rfl,G6.out⟩
theorem once20 {HR:HRt} (H:RunC HR) (A:AlikeR HR) (ao:Option Addr) (m cp:Nat) (f:Nat->Int) (hm:m<=2000000) (hcp:m<=cp) (hz:ao=none->m=0/\cp=0) (w:World) (h:BS w ao m f) :
  Calls prog 3 #[.slice ao m cp] w fun e w'=>e=.returned (.bool true)/\Gw w w':=by
 have HH:Hid (RunC HR):=H;have AA:Hid (AlikeR HR):=A;have HB:Hid (BS w ao m f):=h;have HZ:Hid (ao=none->m=0/\cp=0):=hz;obtain ⟨ii,hii,iz,is,iby⟩:=info_parts info_b;clear H A h hz;go_enter func3,ntmps3;go_wp2_with fail;refine (shown20 HH.out AA.out w).mono ?_;rintro e w1 ⟨rfl,g1⟩;have G1:Hid (Gw w w1):=g1;clear g1;go_wp2_with fail;refine (tload HH.out AA.out ao m cp f (by omega) w1 (HB.out.gw G1.out)).mono ?_
 rintro e w2 ⟨hG,g2⟩;have G2:Hid (Gw w w2):=G1.out.trans g2;clear g2;by_cases ft:FitT f m
 ·rcases hG with ⟨_,px,Fx,rs,nl,rfl,hx,al,rl⟩ | ⟨nf,_⟩
  rotate_left
  ·exact absurd ft nf
  have H2:Hid (HT HR w2 px Fx (numR f 4 8) (numR f 12 8) (numR f 20 8) (entF (bk 16 f)) (upR rs) 0 0 nl):=hx;have AL:Hid (Al rs (rsF (bk 16 f))/\rs.length=hF (bk 16 f)):=⟨al,rl⟩;have FT:Hid (FitT f m):=ft;clear hx al rl ft G1;go_wp2_with fail;refine (dload ao m cp f (by omega) HZ.out w2 (HB.out.gw G2.out)).mono ?_
  rintro e w3 ⟨hD,g3⟩;rcases hD with ⟨_,py,rfl⟩ | ⟨nf,_⟩
  rotate_left
  ·exact absurd FT.out nf
  have H3:Hid (HT HR w3 px Fx (numR f 4 8) (numR f 12 8) (numR f 20 8) (entF (bk 16 f)) (upR rs) 0 0 nl):=H2.out.gw HH.out.kp g3;have G3:Hid (Gw w w3):=G2.out.trans g3;clear g3 G2 H2;go_wp2_with fail;obtain ⟨li,le⟩:=FT.out.1.once HB.out.bd;have h40:rs.length<=40:=by
   have e:(hF (bk 16 f):Int)=numR (bk 16 f) (eOff (bk 16 f) (nF (bk 16 f))) 8:=cF_cast (FT.out.1.bd HB.out.bd) FT.out.1.hh.1;have:=FT.out.1.hh.2;rw [AL.out.2];omega
  have tk:(upR rs).take rs.length=rs:=by
   unfold upR;rw [List.take_of_length_le h40];exact List.take_left
  have tp:TopR (upR rs) rs.length:=by
   refine ⟨by rw [upR_len];exact h40,fun i hi=>?_,?_⟩
   ·unfold upR
    rw [List.take_of_length_le h40,List.getD_eq_getElem?_getD,List.getElem?_append_right hi,List.getElem?_replicate];split<;>rfl
   ·by_cases z:hF (bk 16 f)=0
    ·exact .inl (by rw [AL.out.2];exact z)
    ·right
     have x:rZ (bk 16 f) (hF (bk 16 f)-1)≠0:=FT.out.1.last.resolve_left z;have lt:rs.length-1<rs.length:=by rw [AL.out.2];omega
     have g:=AL.out.1.get (rs.length-1);unfold rsF at g;rw [rsN_at _ (by rw [<-AL.out.2];exact lt),AL.out.2] at g
     unfold clF at g;rw [if_neg x] at g;have e:(upR rs).getD (rs.length-1) none=rs.getD (rs.length-1) none:=by
      unfold upR;rw [List.take_of_length_le h40,List.getD_eq_getElem?_getD,List.getElem?_append_left lt,<-List.getD_eq_getElem?_getD]
     rw [e,AL.out.2];cases hc:rs.getD (hF (bk 16 f)-1) none with
     | none=>rw [hc] at g;cases g
     | some r=>exact ⟨r,rfl⟩
  have TB:Hid (Lies f 0 (towB (numR f 4 8) (numR f 12 8) (numR f 20 8) (entF (bk 16 f)) rs)/\(towB (numR f 4 8) (numR f 12 8) (numR f 20 8) (entF (bk 16 f)) rs).length=m):=by
   have e:=towB_al (eps:=numR f 4 8) (buf:=numR f 12 8) (keys:=numR f 20 8) (b:=entF (bk 16 f)) AL.out.1;show _/\_;rw [e];exact ⟨li,le⟩
  have cl:(clsB rs).length<=m:=by
   have:=TB.out.2
   unfold towB at this;simp only [List.length_append] at this;omega
  have nf2:(entF (bk 16 f)).length<=2000000:=by
   have:=FT.out.1.many
   rw [entF_len];omega
  have PU:Hid (Calls prog 7 #[.pointer (some ⟨px,0,none⟩)] w3 fun e w'=>(∃ bo c,e=.returned (.slice bo m c)/\BS w' bo m f)/\Gw w3 w'):=(tsave HH.out H3.out H3.out.lok (H3.out.te HH.out) nf2 rs.length tp (by rw [tk];omega)).mono fun e w' ⟨⟨bo,c,a,b⟩,d⟩=>by
   rw [tk] at a b;refine ⟨⟨bo,c,by rw [<-TB.out.2];exact a,?_⟩,d⟩
   have bdl:∀ y∈towB (numR f 4 8) (numR f 12 8) (numR f 20 8) (entF (bk 16 f)) rs,0<=y/\y<256:=fun y hy=>by
    obtain ⟨i,hi,e⟩:=List.mem_iff_getElem.1 hy;have h1:=TB.out.1 i hi;rw [List.getElem?_eq_getElem hi,Nat.zero_add] at h1;have h2:=Option.some.inj h1;rw [<-e,h2];exact HB.out.bd i (by rw [<-TB.out.2];exact hi)
   have:=bl_bs b bdl
   rw [TB.out.2] at this;exact this.congr fun i hi=>(lies_lf TB.out.1 i (by rw [TB.out.2];exact hi)).symm
  clear li le tk tp cl nf2 h40;refine PU.out.mono ?_;rintro e w4 ⟨⟨bo,bc,rfl,bs4⟩,g4⟩;have B4:Hid (BS w4 bo m f):=bs4;have G4:Hid (Gw w w4):=G3.out.trans g4;have m1:28<=m:=FT.out.1.cf;have O4:Hid ((w4.alloc (.cells #[] 5)).ownsRow w4.heap.size 5 1 (.slice (some ⟨w4.heap.size,0,none⟩) 0 0) 0 []):=World.ownsRow_made w4 #[] 0 (Nat.le_refl _) (Nat.zero_le _) rfl;have NS:Hid (∀ y,ao=some y->∀ j u,(bts f m)[j]?=some u->(w4.alloc (.cells #[] 5)).cell? (y.add j)=some u):=bs_news ((HB.out.gw G4.out).gw ((Gw.refl _).alloc _ _));clear bs4 g4 G3 H3 PU;go_wp2_with (at_builtin;refine wpList_append_src _ rfl _ _ 22 rfl w4.heap.size 5 ii (.int .u8 0) 1 1 underlying22 hii iz is iby rfl (by decide) _ 0 [] rfl O4.out ao m cp (bts f m) rfl HZ.out (by rw [bts_len,Nat.mul_one]) NS.out (bts_one f m) (by simp only [maxLen];omega) (by omega) (by simp) ?_)
  intro v5 w5 r1 r2 r3;obtain ⟨mo,mc,rfl⟩:=own_form r1;have O5:Hid (w5.ownsRow w4.heap.size 5 1 (.slice mo m mc) m (bts f m)):=r1;have G45:Hid (Gw w4 w5):=((Gw.refl w4).alloc _ _).grown r2 (fun q hq=>by cases hq;exact Nat.le_refl _)
  have z45:=G45.out.size;clear r1 r2 r3 O4 NS;go_wp2_with (at_builtin;refine wpList_append_own _ rfl _ _ 22 rfl w4.heap.size 5 ii (.int .u8 0) 1 1 underlying22 hii iz is iby rfl (by decide) _ m _ rfl (O5.out.alloc _) ⟨w5.heap.size,0,none⟩ 1 1 [.int .u8 0] rfl rfl (cell_one_new w5 _ _) (ints_oneCell .u8 [0]) (by simp only [maxLen];omega) (by omega) (by simp;omega) ?_)
  intro v6 w6 r1 r2 r3;obtain ⟨no,nc,rfl⟩:=own_form r1;have G46:Hid (Gw w4 w6):=(G45.out.alloc _ _).grown r2 (fun q hq=>(World.ownsRow.lt O5.out q hq).1)
  have B6:Hid (BS w6 no (m+1) (cat f m (fun _=>0))):=by
   have e:bts f m++[Value.int .u8 0]=bts (cat f m (fun _=>0)) (m+1):=by
    rw [bts_cat];rfl
   rw [e] at r1;have h9:BR w6 w4.heap.size (.slice no (m+1) nc) (cat f m (fun _=>0)) (m+1):=r1
   exact br_bs h9 (cat_bd HB.out.bd (fun i _=>⟨by decide,by decide⟩))
  clear r1 r2 r3 O5 G45;go_wp2_with fail;refine (tload HH.out AA.out no (m+1) nc (cat f m (fun _=>0)) (by omega) w6 B6.out).mono ?_
  rintro e w7 ⟨hG,g7⟩;rcases hG with ⟨nf,_⟩ | ⟨_,rfl⟩
  ·have:=FT.out.one nf (fun i hi=>by unfold cat;rw [if_pos hi])
   omega
  have G47:Hid (Gw w4 w7):=G46.out.trans g7;clear g7 G46 B6;have sb:IntKind.i64.wrap ((m:Int)-1)=((m-1:Nat):Int):=by rw [IntKind.wrap_i64];omega
  have sb2:(m:Int)-1=((m-1:Nat):Int):=by omega
  obtain ⟨m',hm'⟩:∃ m',m-1=m':=⟨_,rfl⟩;have HM:Hid (m-1=m'):=hm';rw [hm'] at sb sb2;have mc':m'<=cp:=by omega
  have mc2:(m':Int)<=(cp:Int):=by omega
  go_wp2_with fail;refine (tload HH.out AA.out ao m' cp f (by omega) w7 (((HB.out.gw G4.out).gw G47.out).ltn (by omega))).mono ?_
  rintro e w8 ⟨hG,g8⟩;rcases hG with ⟨nf,_⟩ | ⟨_,rfl⟩
  ·have:=nf.one FT.out (fun i _=>rfl)
   omega
  have G48:Hid (Gw w4 w8):=G47.out.trans g8;have cv1:=conv_b (B4.out.gw G48.out) bc;have cv2:=conv_b ((HB.out.gw G4.out).gw G48.out) cp;clear g8 G47 hm';generalize txt f m=tx at cv1 cv2;go_wp2_with fail;go_ret;exact ⟨rfl,G4.out.trans G48.out⟩
 ·rcases hG with ⟨nf,_⟩ | ⟨_,rfl⟩
  ·exact absurd nf ft
  have NF:Hid (¬ FitT f m):=ft;clear ft G1;go_wp2_with fail;refine (dload ao m cp f (by omega) HZ.out w2 (HB.out.gw G2.out)).mono ?_
  rintro e w3 ⟨hD,g3⟩;rcases hD with ⟨nf,_⟩ | ⟨_,rfl⟩
  ·exact absurd nf NF.out
  have G3:Hid (Gw w w3):=G2.out.trans g3;clear g3 G2;go_wp2_with fail;go_ret;exact ⟨rfl,G3.out⟩
theorem ks_congr3 {w:World} {ao:Option Addr} {n:Nat} {f f':Nat->Int} (h:KS w ao n f) (e:∀ i,i<n->f i=f' i):KS w ao n f' :=
 ⟨fun h0=>by
  obtain ⟨b,off,x,hb,hc⟩:=h.cells h0;exact ⟨b,off,x,hb,fun i hi=>by rw [<-e i hi];exact hc i hi⟩,fun i hi=>by rw [<-e i hi];exact h.bd i hi⟩
theorem hpile_alike {w:World} {p:Nat} {S:Nat->Prop} {eps:Int} {f f':Nat->Int} {n:Nat} {L:List (List Sg)} (h:HPile w p S eps f n L) (e:∀ i,i<n->f i=f' i):HPile w p S eps f' n L:=by
 obtain ⟨u,base,ko,kc,lo,lc,h1,h2,h3,h4,h5,h6,h7⟩:=h.lies;exact ⟨⟨u,base,ko,kc,lo,lc,h1,h2,h3,h4,h5,ks_congr3 h6 e,h7⟩,h.n1,h.sh⟩
theorem alikeR:AlikeR HRun:=⟨fun {w p S eps k v k' v' g g' n L} h rd e=>by
 obtain ⟨u,base,pp,Sp,eo,ec,h1,h2,h3,h4,h5,h6,h7,h8,h9⟩:=h.lies;exact ⟨⟨u,base,pp,Sp,eo,ec,h1,h2,h3,h4,h5,hpile_alike h6 fun i hi=>(e i hi).1,h7,es_congr3 h8 e,h9⟩,rd⟩⟩
end Go.Proofs.YtpoohadckhphpaaGreat
