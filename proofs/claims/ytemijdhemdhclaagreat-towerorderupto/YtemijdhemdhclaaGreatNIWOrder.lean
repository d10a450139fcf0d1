/- Layer 16: changes of unlike keys, in whatever order. -/
import Derived.Test.YtemijdhemdhclaaGreatNIOf
set_option linter.unusedVariables false
set_option maxHeartbeats 32000000
set_option maxRecDepth 20000
open Go.Proofs.Tryz
namespace Go.Proofs.YtemijdhemdhclaaGreat
open Go.RowKit
theorem take_snocO {o:List (Int×Int×Int)} {k:Nat} {x:Int×Int×Int} (h:o[k]?=some x):o.take (k+1)=o.take k++[x]:=by rw [List.take_add_one,h];rfl
def bdO (x:Int×Int×Int):Prop:=(-9223372036854775808<=x.1/\x.1<9223372036854775808)/\(0<=x.2.1/\x.2.1<18446744073709551616)/\0<=x.2.2/\x.2.2<18446744073709551616
structure NLo (w:World) (ao:Option Addr) (l:List Int):Prop where
 cells:0<l.length->∃ b off,ao=some ⟨b,off,none⟩/\b<w.heap.size/\∀ i x,l[i]?=some x->w.cell? ⟨b,off+i,none⟩=some (.int .i64 x)
 bd:∀ x∈l,-9223372036854775808<=x/\x<9223372036854775808
theorem NLo.gw {w w':World} {ao:Option Addr} {l:List Int} (h:NLo w ao l) (g:Gw w w'):NLo w' ao l :=
 ⟨fun h0=>by
  obtain ⟨b,off,e,hb,hc⟩:=h.cells h0;exact ⟨b,off,e,Nat.lt_of_lt_of_le hb g.size,fun i x hx=>(g.cell _ _ hb).trans (hc i x hx)⟩,h.bd⟩
theorem or_one16 {HR:HRt} (K:Kp HR) {w u u':World} {p q:Nat} {F G:Nat->Prop} {eps buf keys:Int} {l l':List Ent} {rs rs':List (Option Rn)} {B W B' W':Int} {n n' i:Nat} {os:List (Int×Int×Int)} {x:Int×Int×Int} (t2:T2 HR w u p F eps buf keys l rs B W n q G l' rs' B' W' n') (bw:BW l rs B W i) (hi:i+1<=2000000) (uq:UqO os) (hx:os[i]?=some x) (il:(i:Int)<keys) (eq:∀ k,valE l rs k=opV (os.take i) k) (hc:(chB x keys l rs n=false/\Gw u u')\/(chB x keys l rs n=true/\∃ m,ChOut HR u u' p F eps buf keys l rs B W (opE x) m)):∃ F1 l1 rs1 B1 W1 n1,T2 HR w u' p F1 eps buf keys l1 rs1 B1 W1 n1 q G l' rs' B' W' n'/\BW l1 rs1 B1 W1 (i+1)/\∀ k,valE l1 rs1 k=opV (os.take (i+1)) k:=by
 have il':i<os.length:=(List.getElem?_eq_some_iff.1 hx).1;have nk:∀ y∈os.take i,y.2.1≠x.2.1:=fun y hy=>by
  have e:os.take (i+1)=os.take i++[x]:=take_snocO hx;have:=List.pairwise_append.1 (by rw [<-e];exact List.Pairwise.sublist (List.take_sublist _ _) uq:((os.take i++[x]).Pairwise fun a b=>a.2.1≠b.2.1))
  exact this.2.2 y hy x (List.mem_singleton.2 rfl)
 have vn:valE l rs x.2.1=none:=by rw [eq];exact opV_none nk
 have lf:=opV_few t2.x.ht.inv.all eq;rw [List.length_take] at lf;have sn:=fun k=>opV_snoc nk k
 rw [<-take_snocO hx] at sn;by_cases hk:kindV x.1<4
 ·have cb:chB x keys l rs n=true:=by unfold chB;rw [if_pos hk];simp;omega
  have ee:opE x=⟨x.2.1,x.2.2,false⟩:=if_pos hk;rcases hc with ⟨y,_⟩ | ⟨_,k,ch⟩
  ·rw [cb] at y;cases y
  ·obtain ⟨F1,l1,rs1,B1,W1,t,ly⟩:=t2.first K ch
   refine ⟨F1,l1,rs1,B1,W1,k,t,bw.step hi t2.x.ht.inv.ok ly,fun z=>?_⟩
   rw [ly.val t2.x.ht.inv.ok t2.x.ht.okr (opE_ok x) z,sn z,ee,if_pos hk,eq z];rfl
 ·have cb:chB x keys l rs n=false:=by unfold chB;rw [if_neg hk,vn];rfl
  rcases hc with ⟨_,g⟩ | ⟨y,_⟩
  ·refine ⟨F,l,rs,B,W,n,t2.to K g,bw.mono (Nat.le_succ _),fun z=>?_⟩
   rw [sn z,if_neg hk];by_cases e:x.2.1=z
   ·rw [if_pos e,<-e];exact vn
   ·rw [if_neg e];exact eq z
  ·rw [cb] at y;cases y
def OrI (HR:HRt) (w u:World) (p q:Nat) (eps buf keys:Int) (o t:List (Int×Int×Int)) (i:Nat):Prop:=∃ F l rs B W n G l' rs' B' W' n',T2 HR w u p F eps buf keys l rs B W n q G l' rs' B' W' n'/\BW l rs B W i/\BW l' rs' B' W' i/\(∀ k,valE l rs k=opV (o.take i) k)/\∀ k,valE l' rs' k=opV (t.take i) k
theorem order_walk {HR:HRt} (H:RunC HR) (eps buf keys:Int) (ao:Option Addr) (c:Nat) (sl:List (Int×Int×Int)) (tq:Option Addr) (tc:Nat) (tl:List Int) (hnm:sl.length+tl.length<=1048576) (w:World) (h:OTL w ao sl) (ht:NLo w tq tl) :
  Calls prog 7 #[.agg #[.int .i64 eps,.int .i64 buf,.int .i64 keys],.slice ao sl.length c,.slice tq tl.length tc] w fun e w'=>e=.returned (.bool true)/\Gw w w':=by
 have HH:Aside (RunC HR):=H;have SC0:Aside (OTL w ao sl):=h;have TC0:Aside (NLo w tq tl):=ht;obtain ⟨n,hln⟩:∃ n,sl.length=n:=⟨_,rfl⟩;have LN:Aside (sl.length=n):=hln;obtain ⟨tn,htl⟩:∃ n,tl.length=n:=⟨_,rfl⟩;have TN:Aside (tl.length=tn):=htl;rw [hln,htl] at hnm;rw [hln,htl];obtain ⟨bq,hbq⟩:∃ b,w.heap.size=b:=⟨_,rfl⟩;have BQ:Aside (w.heap.size=bq):=hbq;have G0:Aside (Gw w (w.alloc (.cells #[.int .i64 eps,.int .i64 buf,.int .i64 keys] 23))):=(Gw.refl w).alloc _ _;have B1:Aside ((w.alloc (.cells #[.int .i64 eps,.int .i64 buf,.int .i64 keys] 23)).heap[bq]?=some (.cells #[.int .i64 eps,.int .i64 buf,.int .i64 keys] 23 (0,0))):=by rw [<-hbq];exact heap_alloc_new _ _
 have qn:∀ (p:Nat) (W:World),(binOp .eql 27 (.pointer (some ⟨p,0,none⟩)) (.pointer none)).run prog W=.ok (.bool false) W:=fun _ _=>by kernel_rfl
 obtain ⟨ii,hii,hz,hs,hby⟩:=info_parts info_o16;clear h ht hln htl hbq H;go_enter func7,ntmps7;go_wp2_with fail;rw [BQ.out];generalize w.alloc (.cells #[.int .i64 eps,.int .i64 buf,.int .i64 keys] 23)=w1 at G0 B1 ⊢;have SC:Aside (OTL w1 ao sl):=SC0.out.gw G0.out;have TC:Aside (NLo w1 tq tl):=TC0.out.gw G0.out;have CF1:Aside (∀ W,Gw w1 W->W.cell? ⟨bq,0,none⟩=some (.int .i64 eps)/\W.cell? ⟨bq,1,none⟩=some (.int .i64 buf)/\W.cell? ⟨bq,2,none⟩=some (.int .i64 keys)/\bq<W.heap.size):=fun W g=>by
  have x:=(g.below.block bq (blkl B1.out)).trans B1.out;exact ⟨blkc x rfl,blkc x rfl,blkc x rfl,blkl x⟩
 have CELL:Hid (∀ (W:World) (i:Nat),i<n->Gw w1 W->∃ (b off:Nat) (y:Int×Int×Int),ao=some ⟨b,off,none⟩/\sl[i]?=some y/\W.cell? ⟨b,off+i*3,none⟩=some (.int .i64 y.1)/\W.cell? ⟨b,off+i*3+1,none⟩=some (.int .u64 y.2.1)/\W.cell? ⟨b,off+i*3+2,none⟩=some (.int .u64 y.2.2)/\b<W.heap.size):=fun W i hi g=>by
  have hi':i<sl.length:=by rw [LN.out];exact hi
  obtain ⟨b,off,e,hb,hc⟩:=(SC.out.gw g).cells (by omega)
  have gi:sl[i]?=some (sl.getD i (0,0,0)):=by rw [List.getElem?_eq_getElem hi',List.getD_eq_getElem?_getD,List.getElem?_eq_getElem hi'];rfl
  obtain ⟨c0,c1,c2⟩:=hc i _ gi;exact ⟨b,off,_,e,gi,c0,c1,c2,hb⟩
 clear B1 BQ SC0 TC0;refine (shown16 HH.out w1).mono ?_;rintro ex w2 ⟨rfl,g2⟩;have G2:Aside (Gw w1 w2):=g2;have E2:Aside (OO (w2.alloc (.cells #[] 38)) w1.heap.size (.slice (some ⟨w2.heap.size,0,none⟩) 0 0) []):=oo_new w2 _ g2.size;have G3:Aside (Gw w1 (w2.alloc (.cells #[] 38))):=G2.out.alloc _ _;have wn:IntKind.i64.wrap ((n:Int)-1)=(n:Int)-1:=by rw [IntKind.wrap_i64];omega
 clear g2;go_wp2_with fail;generalize w2.alloc (.cells #[] 38)=w3 at E2 G3 ⊢;go_loopg [8,9] (n+1) (fun gg s8 s9 wr=>∃ (u m ob oc:Nat) (o:List (Int×Int×Int)),s8=.slice (some ⟨ob,0,none⟩) m oc/\s9=.int .i64 ((u:Int)-1)/\u<=n/\u<gg+1/\m<=n-u/\Aside (o.length=m)/\Aside (OO wr w1.heap.size (.slice (some ⟨ob,0,none⟩) m oc) o)/\Aside (UqO o/\∀ x∈o,bdO x)/\Aside (Gw w1 wr))
 case atStart=>exact ⟨n,0,w2.heap.size,0,[],rfl,rfl,Nat.le_refl _,by omega,by omega,(show Aside _ from rfl),E2,(show Aside _ from ⟨List.Pairwise.nil,fun x hx=>by cases hx⟩),G3⟩
 case round =>
  clear E2 G3 G2;obtain ⟨u,m,ob,oc,o,rfl,rfl,a1,a2,a3,ML,OOo,UO,G⟩:=hrel;obtain ⟨wo,hwo⟩:∃ wx,wx=wr:=⟨_,rfl⟩;subst hwo;by_cases u0:u=0
  ·subst u0
   have ez:((0:Nat):Int)-1=-1:=rfl;rw [ez];have OBL:Aside (w1.heap.size<=ob/\ob<wo.heap.size):=World.ownsRow.lt OOo.out ob rfl;have OROW:Aside (wo.ownsRow w1.heap.size 38 3 (.slice (some ⟨ob,0,none⟩) m oc) m (o.flatMap op3)):=oo_row OOo.out ML.out;have O0:Hid ((wo.alloc (.cells #[] 38)).ownsRow w1.heap.size 38 3 (.slice (some ⟨wo.heap.size,0,none⟩) 0 0) 0 []):=World.ownsRow_made wo #[] 0 G.out.size (Nat.zero_le _) rfl;have FL:Aside ((o.flatMap op3).length=m*3):=by show _=_;rw [flat_leno,ML.out]
   have NW:Hid (∀ j u,(o.flatMap op3)[j]?=some u->(wo.alloc (.cells #[] 38)).cell? ((⟨ob,0,none⟩:Addr).add j)=some u):=fun j u hu=>by
    have hj:j<m*3:=by have:=(List.getElem?_eq_some_iff.1 hu).1;rw [FL.out] at this;exact this
    have c:=World.ownsRow.cellAt OROW.out j (by omega)
    rw [Addr.add_lit,Nat.zero_add];exact (((Gw.refl wo).alloc _ _).cell _ _ OBL.out.2).trans (c.trans hu)
   have wz:=G.out.size;go_wp2_with (at_builtin;refine wpList_append_own_at _ rfl _ _ 31 rfl w1.heap.size 38 ii (.agg #[.int .i64 0,.int .u64 0,.int .u64 0]) 3 24 underlying31 hii hz hs hby rfl (by decide) _ 0 [] rfl O0.out ⟨ob,0,none⟩ m oc (o.flatMap op3) rfl FL.out NW.out (flat_oneso o) (by simp only [maxLen];omega) (by omega) (by simp;omega) ?_)
   intro v' w4 r1 r2 r3 r4;obtain ⟨tb,tcap,rfl,htb,htcap,_⟩:=own_slice r1 (by simpa using r3)
   have TBL:Aside (wo.heap.size<=tb):=by
    show _<=_;rcases r4 with q | q
    ·have q':tb=wo.heap.size:=by simpa [Value.ownBlock] using q
     omega
    ·have q':tb=wo.heap.size+1:=by simpa [Value.ownBlock] using q
     omega
   have ET:Aside (OO w4 w1.heap.size (.slice (some ⟨tb,0,none⟩) m tcap) o):=by show World.ownsRow _ _ _ _ _ _ _;rw [ML.out];exact r1
   have G4:Aside (Gw wo w4):=((Gw.refl wo).alloc _ _).grown r2 (fun q hq=>by cases hq;exact Nat.le_refl _)
   have GW4:Aside (Gw w1 w4):=G.out.trans G4.out;clear r1 r2 r3 r4 O0 NW FL;go_upto_block 4 with fail;go_cut [] (fun wc=>∃ t:List (Int×Int×Int),Aside (t.Perm o/\t.length=m)/\Aside (OO wc w1.heap.size (.slice (some ⟨tb,0,none⟩) m tcap) t)/\Aside (Gx (fun q=>q=tb) w4 wc))
   case first=>as_aux_lemma =>
    go_wp2_with fail;go_loopg [13] tn (fun gg s13 wr=>∃ (i:Nat) (t:List (Int×Int×Int)),s13=.int .i64 (i:Int)/\i<=tn/\tn-i<=gg/\Aside (t.Perm o/\t.length=m)/\Aside (OO wr w1.heap.size (.slice (some ⟨tb,0,none⟩) m tcap) t)/\Aside (Gx (fun q=>q=tb) w4 wr))
    case atStart=>exact ⟨0,o,rfl,Nat.zero_le _,by omega,(show Aside _ from ⟨List.Perm.refl _,ML.out⟩),ET,(show Aside _ from Gx.refl _ w4)⟩
    case round=>as_aux_lemma =>
     clear ET;obtain ⟨i,t,rfl,b1,b2,TP,ET,GT⟩:=hrel;have GWR:Aside (Gw w1 wr):=Gx.gw GW4.out GT.out (fun q hq=>by rw [show q=tb from hq];exact Nat.le_trans wz TBL.out)
     by_cases ilt:i<tn/\0<m
     ·obtain ⟨ilt,m0⟩:=ilt
      have ilt':(i:Int)<(tn:Int):=by omega
      have m0':decide ((0:Int)<(m:Int))=true:=by simp;omega
      have mz:((m:Int) == 0)=false:=by simp;omega
      obtain ⟨nb,noff,rfl,hnb,hnc⟩:=(TC.out.gw GWR.out).cells (by rw [TN.out];omega)
      obtain ⟨x,hx⟩:∃ x,tl[i]?=some x:=⟨_,List.getElem?_eq_getElem (by rw [TN.out];exact ilt)⟩
      have xc:=hnc i x hx;have xb:=TC.out.bd x (List.mem_of_getElem? hx);clear hnc hx;by_cases xn:x<0
      ·obtain ⟨rn,hrn⟩:∃ rn:Nat,-(x+1)=(rn:Int):=⟨(-(x+1)).toNat,by omega⟩
       have wa:IntKind.i64.wrap (x+1)=x+1:=by rw [IntKind.wrap_i64];omega
       have wb:IntKind.i64.wrap (-(x+1))=(rn:Int):=by rw [hrn,IntKind.wrap_i64];omega
       clear hrn xb;have kw:Int.tmod (rn:Int) (m:Int)=((rn%m:Nat):Int):=rfl;have jw:Int.tmod (i:Int) (m:Int)=((i%m:Nat):Int):=rfl;go_wp2_with fail;obtain ⟨k,hk⟩:∃ k:Nat,k=rn%m:=⟨_,rfl⟩;obtain ⟨j,hj⟩:∃ j:Nat,j=i%m:=⟨_,rfl⟩;have km:k<m:=by rw [hk];exact Nat.mod_lt _ m0
       have jm:j<m:=by rw [hj];exact Nat.mod_lt _ m0
       rw [show ((rn:Int)%(m:Int))=((k:Nat):Int) by rw [hk];rfl,show ((i:Int)%(m:Int))=((j:Nat):Int) by rw [hj];rfl]
       have km':(k:Int)<(m:Int):=by omega
       have jm':(j:Int)<(m:Int):=by omega
       obtain ⟨tb',etb,_,tbl,fz,cc⟩:=oo_form ET.out TP.out.2 m0;cases etb;obtain ⟨k0,k1,k2⟩:=cc k km;obtain ⟨j0,j1,j2⟩:=cc j jm;have PM:Aside ((swpO t j k).Perm o/\(swpO t j k).length=m):=⟨(swpO_perm t (by rw [TP.out.2];exact jm) (by rw [TP.out.2];exact km)).trans TP.out.1,by rw [swpO_len];exact TP.out.2⟩
       have EW1:=oo_put (k:=j) (w:=wr) ET.out TP.out.2 (by rw [TP.out.2];exact jm) (t.getD k op0)
       have EW2:=oo_put (k:=k) EW1 (by rw [List.length_set];exact TP.out.2) (by rw [List.length_set,TP.out.2];exact km) (t.getD j op0)
       obtain ⟨tb',etb,_,tbl1,fz1,cc1⟩:=oo_form EW1 (by rw [List.length_set];exact TP.out.2) m0
       cases etb
       obtain ⟨l0,l1,l2⟩:=cc1 k km;have GS:Aside (Gx (fun q=>q=tb) w4 (put3o16 (put3o16 wr tb (j*3) (t.getD k op0)) tb (k*3) (t.getD j op0))):=(((((GT.out.set (.inl rfl) _ _).set (.inl rfl) _ _).set (.inl rfl) _ _).set (.inl rfl) _ _).set (.inl rfl) _ _).set (.inl rfl) _ _
       have EW3:Aside (OO (put3o16 (put3o16 wr tb (j*3) (t.getD k op0)) tb (k*3) (t.getD j op0)) w1.heap.size (.slice (some ⟨tb,0,none⟩) m tcap) (swpO t j k)):=EW2;generalize (t.set j (t.getD k op0)).getD k op0=zz at l0 l1 l2;clear cc cc1 EW1 EW2;generalize t.getD k op0=tk at k0 k1 k2 l0 l1 l2 fz1 tbl1 GS EW3;generalize t.getD j op0=tj at j0 j1 j2 GS EW3;obtain ⟨ak,av,ag⟩:=tk;obtain ⟨dk,dv,dg⟩:=tj;obtain ⟨zk,zv,zg⟩:=zz;unfold put3o16 at GS EW3 l0 l1 l2 fz1 tbl1;simp only at GS EW3 l0 l1 l2 fz1 tbl1 k0 k1 k2 j0 j1 j2;obtain ⟨W1,hW1⟩:∃ W,((wr.setCell ⟨tb,j*3,none⟩ (.int .i64 ak)).setCell ⟨tb,j*3+1,none⟩ (.int .u64 av)).setCell ⟨tb,j*3+2,none⟩ (.int .u64 ag)=W:=⟨_,rfl⟩;rw [hW1] at GS EW3 l0 l1 l2 fz1 tbl1;obtain ⟨W2,hW2⟩:∃ W,((W1.setCell ⟨tb,k*3,none⟩ (.int .i64 dk)).setCell ⟨tb,k*3+1,none⟩ (.int .u64 dv)).setCell ⟨tb,k*3+2,none⟩ (.int .u64 dg)=W:=⟨_,rfl⟩;rw [hW2] at GS EW3;have y0:=fz (j*3);have y1:=fz (j*3+1);have y2:=fz (j*3+2);have y3:=fz1 (k*3);have y4:=fz1 (k*3+1);have y5:=fz1 (k*3+2);clear fz fz1 hk hj ET GT GWR TP;go_big_region;go_wp2_with fail;go_roundg (tn-(i+1))
       case measure=>omega
       case rel=>exact ⟨i+1,swpO t j k,by go_num,by omega,Nat.le_refl _,PM,(show Aside _ from oo_keep EW3.out (fun _ _=>rfl)),(show Aside _ from GS.out.drew)⟩
      ·obtain ⟨rn,hrn⟩:∃ rn:Nat,x=(rn:Int):=⟨x.toNat,by omega⟩
       subst hrn;have xn':¬ (rn:Int)<0:=by omega
       clear xn xb;have kw:Int.tmod (rn:Int) (m:Int)=((rn%m:Nat):Int):=rfl;have jw:Int.tmod (i:Int) (m:Int)=((i%m:Nat):Int):=rfl;go_wp2_with fail;obtain ⟨k,hk⟩:∃ k:Nat,k=rn%m:=⟨_,rfl⟩;obtain ⟨j,hj⟩:∃ j:Nat,j=i%m:=⟨_,rfl⟩;have km:k<m:=by rw [hk];exact Nat.mod_lt _ m0
       have jm:j<m:=by rw [hj];exact Nat.mod_lt _ m0
       rw [show ((rn:Int)%(m:Int))=((k:Nat):Int) by rw [hk];rfl,show ((i:Int)%(m:Int))=((j:Nat):Int) by rw [hj];rfl]
       have km':(k:Int)<(m:Int):=by omega
       have jm':(j:Int)<(m:Int):=by omega
       obtain ⟨tb',etb,_,tbl,fz,cc⟩:=oo_form ET.out TP.out.2 m0;cases etb;obtain ⟨k0,k1,k2⟩:=cc k km;obtain ⟨j0,j1,j2⟩:=cc j jm;have PM:Aside ((swpO t j k).Perm o/\(swpO t j k).length=m):=⟨(swpO_perm t (by rw [TP.out.2];exact jm) (by rw [TP.out.2];exact km)).trans TP.out.1,by rw [swpO_len];exact TP.out.2⟩
       have EW1:=oo_put (k:=j) (w:=wr) ET.out TP.out.2 (by rw [TP.out.2];exact jm) (t.getD k op0)
       have EW2:=oo_put (k:=k) EW1 (by rw [List.length_set];exact TP.out.2) (by rw [List.length_set,TP.out.2];exact km) (t.getD j op0)
       obtain ⟨tb',etb,_,tbl1,fz1,cc1⟩:=oo_form EW1 (by rw [List.length_set];exact TP.out.2) m0
       cases etb
       obtain ⟨l0,l1,l2⟩:=cc1 k km;have GS:Aside (Gx (fun q=>q=tb) w4 (put3o16 (put3o16 wr tb (j*3) (t.getD k op0)) tb (k*3) (t.getD j op0))):=(((((GT.out.set (.inl rfl) _ _).set (.inl rfl) _ _).set (.inl rfl) _ _).set (.inl rfl) _ _).set (.inl rfl) _ _).set (.inl rfl) _ _
       have EW3:Aside (OO (put3o16 (put3o16 wr tb (j*3) (t.getD k op0)) tb (k*3) (t.getD j op0)) w1.heap.size (.slice (some ⟨tb,0,none⟩) m tcap) (swpO t j k)):=EW2;generalize (t.set j (t.getD k op0)).getD k op0=zz at l0 l1 l2;clear cc cc1 EW1 EW2;generalize t.getD k op0=tk at k0 k1 k2 l0 l1 l2 fz1 tbl1 GS EW3;generalize t.getD j op0=tj at j0 j1 j2 GS EW3;obtain ⟨ak,av,ag⟩:=tk;obtain ⟨dk,dv,dg⟩:=tj;obtain ⟨zk,zv,zg⟩:=zz;unfold put3o16 at GS EW3 l0 l1 l2 fz1 tbl1;simp only at GS EW3 l0 l1 l2 fz1 tbl1 k0 k1 k2 j0 j1 j2;obtain ⟨W1,hW1⟩:∃ W,((wr.setCell ⟨tb,j*3,none⟩ (.int .i64 ak)).setCell ⟨tb,j*3+1,none⟩ (.int .u64 av)).setCell ⟨tb,j*3+2,none⟩ (.int .u64 ag)=W:=⟨_,rfl⟩;rw [hW1] at GS EW3 l0 l1 l2 fz1 tbl1;obtain ⟨W2,hW2⟩:∃ W,((W1.setCell ⟨tb,k*3,none⟩ (.int .i64 dk)).setCell ⟨tb,k*3+1,none⟩ (.int .u64 dv)).setCell ⟨tb,k*3+2,none⟩ (.int .u64 dg)=W:=⟨_,rfl⟩;rw [hW2] at GS EW3;have y0:=fz (j*3);have y1:=fz (j*3+1);have y2:=fz (j*3+2);have y3:=fz1 (k*3);have y4:=fz1 (k*3+1);have y5:=fz1 (k*3+2);clear fz fz1 hk hj ET GT GWR TP;go_big_region;go_wp2_with fail;go_roundg (tn-(i+1))
       case measure=>omega
       case rel=>exact ⟨i+1,swpO t j k,by go_num,by omega,Nat.le_refl _,PM,(show Aside _ from oo_keep EW3.out (fun _ _=>rfl)),(show Aside _ from GS.out.drew)⟩
     ·by_cases it:i<tn
      ·have mz0:¬ 0<m:=fun q=>ilt ⟨it,q⟩
       have mz1:decide ((0:Int)<(m:Int))=false:=by simp;omega
       have it':(i:Int)<(tn:Int):=by omega
       clear ilt;go_wp2_with fail;go_meet
       case rel=>exact ⟨t,TP,ET,GT⟩
      ·have it':¬ (i:Int)<(tn:Int):=by omega
       clear ilt;go_wp2_with fail;go_meet
       case rel=>exact ⟨t,TP,ET,GT⟩
   case rest=>as_aux_lemma =>
    obtain ⟨t,TP,ETT,GTT⟩:=hcut;obtain ⟨w7,hw7⟩:∃ x,x=wc:=⟨_,rfl⟩;subst hw7;have G7:Aside (Gw w1 w7):=Gx.gw GW4.out GTT.out (fun q hq=>by rw [show q=tb from hq];exact Nat.le_trans wz TBL.out)
    have OO7:Aside (OO w7 w1.heap.size (.slice (some ⟨ob,0,none⟩) m oc) o):=oo_keep (oo_gw OOo.out G4.out) (fun q hq=>GTT.out.block q (by
      have:=(World.ownsRow.lt (oo_gw OOo.out G4.out) q hq).2
      exact this) (fun e=>by
      have e':q=tb:=e;have e2:q=ob:=by injection hq with hq;exact hq.symm
      have:=TBL.out
      have:=OBL.out.2
      omega))
    have BDT:Aside (UqO t/\∀ x∈t,bdO x):=⟨UO.out.1.perm TP.out.1,fun x hx=>UO.out.2 x (TP.out.1.mem_iff.1 hx)⟩
    have NW1:Hid (∀ W,Calls prog 11 #[.agg #[.int .i64 eps,.int .i64 buf,.int .i64 keys]] W fun e w'=>NewT HR W w' e eps buf keys/\Gw W w'):=fun W=>new16 HH.out eps buf keys W
    have RC:Hid (∀ W,Calls prog 10 #[.agg #[.int .i64 eps,.int .i64 buf,.int .i64 keys]] W fun e w'=>e=.returned (.int .i64 (cfgE eps buf keys))/\Gw W w'):=fun W=>rcheck16 eps buf keys W
    obtain ⟨c0,c1,c2,cl⟩:=CF1.out w7 G7.out;clear ET GTT GW4 G4 TBL OBL OROW;go_wp2_with fail;refine Calls.mono (NW1.out w7) ?_;rintro e w8 ⟨h8,g8⟩;have G8:Aside (Gw w7 w8):=g8;clear c0 c1 c2 cl g8;obtain ⟨c0,c1,c2,cl⟩:=CF1.out w8 (G7.out.trans G8.out);rcases h8 with ⟨cf,rfl⟩ | ⟨cf,p,F,rfl,htx,hF⟩
    ·have ce:cfgE eps buf keys=160:=if_neg cf
     rw [ce] at RC;have NW2:Hid (Calls prog 11 #[.agg #[.int .i64 eps,.int .i64 buf,.int .i64 keys]] w8 fun e w'=>e=.returned (.tuple #[.pointer none,.int .i64 160])/\Gw w8 w'):=(NW1.out w8).mono fun e w' ⟨h,g⟩=>by
      rcases h with ⟨_,x⟩ | ⟨x,_⟩
      ·exact ⟨x,g⟩
      ·exact absurd x cf
     clear ce cf NW1;go_wp2_with fail;refine Calls.mono NW2.out ?_;rintro e w9 ⟨rfl,g9⟩;have G9:Aside (Gw w7 w9):=G8.out.trans g9;clear c0 c1 c2 cl g9 NW2 G8;obtain ⟨c0,c1,c2,cl⟩:=CF1.out w9 (G7.out.trans G9.out);go_wp2_with fail;refine Calls.mono (RC.out w9) ?_;rintro e wA ⟨rfl,gA⟩;have GA:Aside (Gw w wA):=G0.out.trans ((G7.out.trans G9.out).trans gA);clear c0 c1 c2 cl gA RC;go_wp2_with fail;go_ret;exact ⟨rfl,GA.out⟩
    ·have ce:cfgE eps buf keys=0:=if_pos cf
     rw [ce] at RC;have NW2:Hid (Calls prog 11 #[.agg #[.int .i64 eps,.int .i64 buf,.int .i64 keys]] w8 fun e w'=>(∃ q G,e=.returned (.tuple #[.pointer (some ⟨q,0,none⟩),.int .i64 0])/\T2 HR w7 w' p F eps buf keys [] (List.replicate 40 none) 0 0 0 q G [] (List.replicate 40 none) 0 0 0)/\Gw w8 w'):=(NW1.out w8).mono fun e w' ⟨h,g⟩=>by
      rcases h with ⟨x,_⟩ | ⟨_,q,G,x1,x2,x3⟩
      ·exact absurd cf x
      ·refine ⟨⟨q,G,x1,⟨htx.gw HH.out.kp g,fun z hz=>hF z hz,G8.out.trans g⟩,⟨x2,fun z hz=>Nat.le_trans G8.out.size (x3 z hz),G8.out.trans g⟩,fun z hf hg=>?_,fun r hr=>by simp at hr,fun r hr=>by simp at hr⟩,g⟩
       have:=htx.lt HH.out.kp z (.inl hf)
       have:=x3 z hg
       omega
     clear ce NW1;go_wp2_with fail;refine Calls.mono NW2.out ?_;rintro e w9 ⟨⟨q,G,rfl,t9⟩,g9⟩;have T9:Aside (T2 HR w7 w9 p F eps buf keys [] (List.replicate 40 none) 0 0 0 q G [] (List.replicate 40 none) 0 0 0):=t9;have G9:Aside (Gw w7 w9):=G8.out.trans g9;clear c0 c1 c2 cl g9 t9 NW2 htx hF;obtain ⟨c0,c1,c2,cl⟩:=CF1.out w9 (G7.out.trans G9.out);go_wp2_with fail;refine Calls.mono (RC.out w9) ?_;rintro e wA ⟨rfl,gA⟩;have TA:Aside (OrI HR w7 wA p q eps buf keys o t 0):=⟨F,[],List.replicate 40 none,0,0,0,G,[],List.replicate 40 none,0,0,0,T9.out.to HH.out.kp gA,BW.new,BW.new,fun q=>by unfold valE newE;rw [nw_no];rfl,fun q=>by unfold valE newE;rw [nw_no];rfl⟩
     have GA:Aside (Gw w7 wA):=G9.out.trans gA;clear c0 c1 c2 cl gA RC T9 G9 G8;obtain ⟨c0,c1,c2,cl⟩:=CF1.out wA (G7.out.trans GA.out);by_cases mk:keys<(m:Int)
     ·have RES:Aside (Gw w wA):=G0.out.trans (G7.out.trans GA.out)
      go_wp2_with fail;go_ret
      exact ⟨rfl,RES.out⟩
     ·have mk':¬ keys<(m:Int):=mk
      have MK:Aside ((m:Int)<=keys):=by show _<=_;omega
      go_wp2_with fail;go_loopg [21] m (fun gg s21 wr=>∃ i:Nat,s21=.int .i64 (i:Int)/\i<=m/\m-i<=gg/\Aside (OrI HR w7 wr p q eps buf keys o t i))
      case atStart=>exact ⟨0,rfl,Nat.zero_le _,by omega,TA⟩
      case round=>as_aux_lemma =>
       clear TA;obtain ⟨i,rfl,d1,d2,M⟩:=hrel;obtain ⟨wS,hwS⟩:∃ wx,wx=wr:=⟨_,rfl⟩;subst hwS;by_cases hlt:i<m
       ·have hlt':(i:Int)<(m:Int):=by omega
        obtain ⟨F,l,rs,B,W,nx,G,l',rs',B',W',ny,t0,bx,by_,ex,ey⟩:=M.out;have T0:Aside (T2 HR w7 wS p F eps buf keys l rs B W nx q G l' rs' B' W' ny):=t0;have ox:o[i]?=some (o.getD i op0):=by simp [List.getD,show i<o.length by rw [ML.out];exact hlt]
        have tx:t[i]?=some (t.getD i op0):=by simp [List.getD,show i<t.length by rw [TP.out.2];exact hlt]
        have bo_:=UO.out.2 _ (List.mem_of_getElem? ox);have bt_:=BDT.out.2 _ (List.mem_of_getElem? tx);have bdx:=bx.in (by omega)
        have bdy:=by_.in (by omega)
        have mk9:=MK.out;have OC:Aside (∀ W,Gw w7 W->(W.cell? ⟨ob,i*3,none⟩=some (.int .i64 (o.getD i op0).1)/\W.cell? ⟨ob,i*3+1,none⟩=some (.int .u64 (o.getD i op0).2.1)/\W.cell? ⟨ob,i*3+2,none⟩=some (.int .u64 (o.getD i op0).2.2)/\ob<W.heap.size)/\(W.cell? ⟨tb,i*3,none⟩=some (.int .i64 (t.getD i op0).1)/\W.cell? ⟨tb,i*3+1,none⟩=some (.int .u64 (t.getD i op0).2.1)/\W.cell? ⟨tb,i*3+2,none⟩=some (.int .u64 (t.getD i op0).2.2)/\tb<W.heap.size)):=fun W g=>by
         obtain ⟨b,eb,_,bl,_,cc⟩:=oo_form (oo_gw OO7.out g) ML.out (by omega)
         cases eb
         obtain ⟨b,eb,_,bl',_,cc'⟩:=oo_form (oo_gw ETT.out g) TP.out.2 (by omega)
         cases eb
         exact ⟨⟨(cc i hlt).1,(cc i hlt).2.1,(cc i hlt).2.2,bl⟩,(cc' i hlt).1,(cc' i hlt).2.1,(cc' i hlt).2.2,bl'⟩
        have CX:Hid (Calls prog 22 #[.pointer (some ⟨p,0,none⟩),.agg #[.int .i64 (o.getD i op0).1,.int .u64 (o.getD i op0).2.1,.int .u64 (o.getD i op0).2.2]] wS fun ex w'=>(∃ b:Bool,ex=.returned (.bool b))/\(∃ F1 l1 rs1 B1 W1 n1,T2 HR w7 w' p F1 eps buf keys l1 rs1 B1 W1 n1 q G l' rs' B' W' ny/\BW l1 rs1 B1 W1 (i+1)/\∀ k,valE l1 rs1 k=opV (o.take (i+1)) k)):=(change16 HH.out t0.x.ht bdx.1 bdx.2.1 bdx.2.2 (o.getD i op0) bo_.1 bo_.2.1 bo_.2.2).mono fun ex' w' ⟨e1,hc⟩=>⟨⟨_,e1⟩,or_one16 HH.out.kp t0 bx (by omega) UO.out.1 ox (by omega) ex hc⟩
        have CY:Hid (∀ u1,(∃ F1 l1 rs1 B1 W1 n1,T2 HR w7 u1 p F1 eps buf keys l1 rs1 B1 W1 n1 q G l' rs' B' W' ny/\BW l1 rs1 B1 W1 (i+1)/\∀ k,valE l1 rs1 k=opV (o.take (i+1)) k)->Calls prog 22 #[.pointer (some ⟨q,0,none⟩),.agg #[.int .i64 (t.getD i op0).1,.int .u64 (t.getD i op0).2.1,.int .u64 (t.getD i op0).2.2]] u1 fun ex w'=>(∃ b:Bool,ex=.returned (.bool b))/\OrI HR w7 w' p q eps buf keys o t (i+1)):=fun u1 ⟨F1,l1,rs1,B1,W1,n1,t1,bw1,v1⟩=>(change16 HH.out t1.y.ht bdy.1 bdy.2.1 bdy.2.2 (t.getD i op0) bt_.1 bt_.2.1 bt_.2.2).mono fun ex' w' ⟨e1,hc⟩=>by
         refine ⟨⟨_,e1⟩,?_⟩;obtain ⟨G2,l2,rs2,B2,W2,n2,t2,bw2,v2⟩:=or_one16 HH.out.kp t1.swap by_ (by omega) BDT.out.1 tx (by omega) ey hc
         exact ⟨F1,l1,rs1,B1,W1,n1,G2,l2,rs2,B2,W2,n2,t2.swap,bw1,bw2,v1,v2⟩
        obtain ⟨⟨f0,f1,f2,f3⟩,_⟩:=OC.out wS t0.x.gw;generalize o.getD i op0=xo at OC CX f0 f1 f2;generalize t.getD i op0=xt at OC CY;obtain ⟨kn,ky,vl⟩:=xo;obtain ⟨kn',ky',vl'⟩:=xt;simp only at OC CX CY f0 f1 f2;clear ox tx bo_ bt_ bdx bdy t0 bx by_ ex ey M mk9;go_wp2_with fail;refine Calls.mono CX.out ?_;rintro e u1 ⟨⟨b1,rfl⟩,ph⟩;have CY1:=CY.out u1 ph;have gu1:Gw w7 u1:=by
         obtain ⟨F1,l1,rs1,B1,W1,n1,t1,_⟩:=ph;exact t1.x.gw
        obtain ⟨_,g0,g1,g2,g3⟩:=OC.out u1 gu1;clear f0 f1 f2 f3 CX CY ph;go_wp2_with fail;refine Calls.mono CY1 ?_;rintro e u2 ⟨⟨b2,rfl⟩,orr⟩;have OR2:Aside (OrI HR w7 u2 p q eps buf keys o t (i+1)):=orr;clear orr CY1 g0 g1 g2 g3 gu1;go_wp2_with fail;go_roundg (m-(i+1))
        case measure=>omega
        case rel=>exact ⟨i+1,by go_num,by omega,Nat.le_refl _,OR2⟩
       ·have ei:i=m:=by omega
        subst ei;have nlt:¬ (i:Int)<(i:Int):=by omega
        obtain ⟨F,l,rs,B,W,nx,G,l',rs',B',W',ny,t0,bx,by_,ex,ey⟩:=M.out;have vo:∀ k,valE l rs k=opV o k:=fun k=>by rw [ex k,List.take_of_length_le (by rw [ML.out];exact Nat.le_refl _)]
        have vt:∀ k,valE l' rs' k=opV o k:=fun k=>by rw [ey k,List.take_of_length_le (by rw [TP.out.2];exact Nat.le_refl _),opV_perm UO.out.1 TP.out.1]
        have NE:Aside (nx=ny):=t0.x.ht.inv.all.one (t0.y.ht.inv.all.same fun k=>by rw [<-valE_live,<-valE_live,vo k,vt k])
        have T0:Aside (T2 HR w7 wS p F eps buf keys l rs B W nx q G l' rs' B' W' ny):=t0;have VV:Aside ((∀ k,valE l rs k=opV o k)/\(∀ k,valE l' rs' k=opV o k)/\l.length<=2000000/\l'.length<=2000000):=⟨vo,vt,by have:=bx.few;omega,by have:=by_.few;omega⟩
        clear t0 bx by_ ex ey vo vt M hlt;go_wp2_with fail;go_loopg [22] i (fun gg s22 wr=>∃ j:Nat,s22=.int .i64 (j:Int)/\j<=i/\i-j<=gg/\Aside (Gw wS wr))
        case atStart=>exact ⟨0,rfl,Nat.zero_le _,by omega,(show Aside _ from Gw.refl wS)⟩
        case round=>as_aux_lemma =>
         obtain ⟨j,rfl,e1,e2,GJ⟩:=hrel;obtain ⟨wT,hwT⟩:∃ wx,wx=wr:=⟨_,rfl⟩;subst hwT;by_cases jl:j<i
         ·have jl':(j:Int)<(i:Int):=by omega
          have ox:o[j]?=some (o.getD j op0):=by simp [List.getD,show j<o.length by rw [ML.out];exact jl]
          have bo_:=UO.out.2 _ (List.mem_of_getElem? ox);have fv:opV o (o.getD j op0).2.1=if kindV (o.getD j op0).1<4 then some (o.getD j op0).2.2 else none:=by unfold opV;rw [find_uq UO.out.1 (List.mem_of_getElem? ox)]
          have OC:Aside (∀ W,Gw w7 W->W.cell? ⟨ob,j*3,none⟩=some (.int .i64 (o.getD j op0).1)/\W.cell? ⟨ob,j*3+1,none⟩=some (.int .u64 (o.getD j op0).2.1)/\W.cell? ⟨ob,j*3+2,none⟩=some (.int .u64 (o.getD j op0).2.2)/\ob<W.heap.size):=fun W g=>by
           obtain ⟨b,eb,_,bl,_,cc⟩:=oo_form (oo_gw OO7.out g) ML.out (by omega)
           cases eb
           exact ⟨(cc j jl).1,(cc j jl).2.1,(cc j jl).2.2,bl⟩
          have GX:Hid (∀ u,Gw wS u->Calls prog 13 #[.pointer (some ⟨p,0,none⟩),.int .u64 (o.getD j op0).2.1] u fun e w'=>e=.returned (valV (if kindV (o.getD j op0).1<4 then some (o.getD j op0).2.2 else none))/\Gw u w'):=fun u g=>by
           have:=tget16 HH.out (T0.out.to HH.out.kp g).x.ht (by have:=VV.out.2.2.1;omega) _ bo_.2.1.1 bo_.2.1.2
           rw [VV.out.1,fv] at this;exact this
          have GY:Hid (∀ u,Gw wS u->Calls prog 13 #[.pointer (some ⟨q,0,none⟩),.int .u64 (o.getD j op0).2.1] u fun e w'=>e=.returned (valV (if kindV (o.getD j op0).1<4 then some (o.getD j op0).2.2 else none))/\Gw u w'):=fun u g=>by
           have:=tget16 HH.out (T0.out.to HH.out.kp g).y.ht (by have:=VV.out.2.2.2;omega) _ bo_.2.1.1 bo_.2.1.2
           rw [VV.out.2.1,fv] at this;exact this
          have KN:Hid (∀ W,Calls prog 14 #[.int .i64 (o.getD j op0).1] W fun e w'=>e=.returned (.int .i64 (kindV (o.getD j op0).1))/\w'=W):=fun W=>kind16 _ bo_.1.1 bo_.1.2 W
          generalize o.getD j op0=x at OC GX GY KN;obtain ⟨kn,ky,vl⟩:=x;simp only at OC GX GY KN;have g7:Gw w7 wT:=T0.out.x.gw.trans GJ.out;obtain ⟨f0,f1,f2,f3⟩:=OC.out wT g7;clear ox bo_ fv;by_cases hk:kindV kn<4
          ·have kd:decide (kindV kn<4)=true:=by simpa using hk
           have GX1:Hid (Calls prog 13 #[.pointer (some ⟨p,0,none⟩),.int .u64 ky] wT fun e w'=>e=.returned (.tuple #[.int .u64 vl,.bool true])/\Gw wT w'):=by
            have:=GX.out wT GJ.out
            rw [if_pos hk] at this;exact this
           have GY1:Hid (∀ u,Gw wT u->Calls prog 13 #[.pointer (some ⟨q,0,none⟩),.int .u64 ky] u fun e w'=>e=.returned (.tuple #[.int .u64 vl,.bool true])/\Gw u w'):=fun u g=>by
            have:=GY.out u (GJ.out.trans g)
            rw [if_pos hk] at this;exact this
           clear GX GY;go_wp2_with fail;refine Calls.mono GX1.out ?_;rintro e u1 ⟨rfl,g1⟩;have GY2:=GY1.out u1 g1;have G1:Aside (Gw wT u1):=g1;clear f0 f1 f2 f3 GX1 GY1;obtain ⟨f0,f1,f2,f3⟩:=OC.out u1 (g7.trans g1);clear g1;go_wp2_with fail;refine Calls.mono GY2 ?_;rintro e u2 ⟨rfl,g2⟩;have G2_:Aside (Gw wS u2):=GJ.out.trans (G1.out.trans g2);clear f0 f1 f2 f3 GY2;obtain ⟨f0,f1,f2,f3⟩:=OC.out u2 (g7.trans (G1.out.trans g2));clear g2;go_wp2_with fail;refine Calls.mono (KN.out u2) ?_;rintro e ux ⟨rfl,hux⟩;have hux2:=hux.symm;subst hux2;clear hux;go_wp2_with fail;go_roundg (i-(j+1))
           case measure=>omega
           case rel=>exact ⟨j+1,by go_num,by omega,Nat.le_refl _,G2_⟩
          ·have kd:decide (kindV kn<4)=false:=by simpa using hk
           have GX1:Hid (Calls prog 13 #[.pointer (some ⟨p,0,none⟩),.int .u64 ky] wT fun e w'=>e=.returned (.tuple #[.int .u64 0,.bool false])/\Gw wT w'):=by
            have:=GX.out wT GJ.out
            rw [if_neg hk] at this;exact this
           have GY1:Hid (∀ u,Gw wT u->Calls prog 13 #[.pointer (some ⟨q,0,none⟩),.int .u64 ky] u fun e w'=>e=.returned (.tuple #[.int .u64 0,.bool false])/\Gw u w'):=fun u g=>by
            have:=GY.out u (GJ.out.trans g)
            rw [if_neg hk] at this;exact this
           have hk4:4<=kindV kn:=by omega
           clear GX GY;go_wp2_with fail;refine Calls.mono GX1.out ?_;rintro e u1 ⟨rfl,g1⟩;have GY2:=GY1.out u1 g1;have G1:Aside (Gw wT u1):=g1;clear f0 f1 f2 f3 GX1 GY1;obtain ⟨f0,f1,f2,f3⟩:=OC.out u1 (g7.trans g1);clear g1;go_wp2_with fail;refine Calls.mono GY2 ?_;rintro e u2 ⟨rfl,g2⟩;have G2_:Aside (Gw wS u2):=GJ.out.trans (G1.out.trans g2);clear f0 f1 f2 f3 GY2;obtain ⟨f0,f1,f2,f3⟩:=OC.out u2 (g7.trans (G1.out.trans g2));clear g2;go_wp2_with fail;refine Calls.mono (KN.out u2) ?_;rintro e ux ⟨rfl,hux⟩;have hux2:=hux.symm;subst hux2;clear hux;go_wp2_with fail;go_roundg (i-(j+1))
           case measure=>omega
           case rel=>exact ⟨j+1,by go_num,by omega,Nat.le_refl _,G2_⟩
         ·have RES:Aside (Gw w wT):=G0.out.trans (G7.out.trans (T0.out.x.gw.trans GJ.out))
          have jn:¬ (j:Int)<(i:Int):=by omega
          have SX:Hid (Calls prog 19 #[.pointer (some ⟨p,0,none⟩)] wT fun e w'=>(∃ b t,e=.returned (.agg #[.int .i64 (nx:Int),.int .i64 (l.length:Int),.int .i64 B,.int .i64 W,.slice (some ⟨b,0,none⟩) t t]))/\Gw wT w'):=(tstats16 HH.out (T0.out.to HH.out.kp GJ.out).x.ht).mono fun e w' ⟨⟨b,t,e1,_⟩,g⟩=>⟨⟨b,t,e1⟩,g⟩
          have SY:Hid (∀ u,Gw wT u->Calls prog 19 #[.pointer (some ⟨q,0,none⟩)] u fun e w'=>(∃ b t,e=.returned (.agg #[.int .i64 (nx:Int),.int .i64 (l'.length:Int),.int .i64 B',.int .i64 W',.slice (some ⟨b,0,none⟩) t t]))/\Gw u w'):=fun u g=>(tstats16 HH.out (T0.out.to HH.out.kp (GJ.out.trans g)).y.ht).mono fun e w' ⟨⟨b,t,e1,_⟩,g⟩=>⟨⟨b,t,by rw [NE.out];exact e1⟩,g⟩
          have fk:∀ (b t:Nat) (u:World),(Instr.field 52 (.agg #[.int .i64 (nx:Int),.int .i64 (l.length:Int),.int .i64 B,.int .i64 W,.slice (some ⟨b,0,none⟩) t t]) 0).run prog u=.ok (.int .i64 (nx:Int)) u:=fun _ _ _=>by kernel_rfl
          have fk':∀ (b t:Nat) (u:World),(Instr.field 52 (.agg #[.int .i64 (nx:Int),.int .i64 (l'.length:Int),.int .i64 B',.int .i64 W',.slice (some ⟨b,0,none⟩) t t]) 0).run prog u=.ok (.int .i64 (nx:Int)) u:=fun _ _ _=>by kernel_rfl
          clear T0 VV jl;go_wp2_with fail;refine Calls.mono SX.out ?_;rintro e u1 ⟨⟨b1,t1,rfl⟩,g1⟩;have SY1:=SY.out u1 g1;have R1:Aside (Gw w u1):=RES.out.trans g1;clear g1 SX SY;go_wp2_with fail;refine Calls.mono SY1 ?_;rintro e u2 ⟨⟨b2,t2,rfl⟩,g2⟩;have R2:Aside (Gw w u2):=R1.out.trans g2;clear g2 SY1;go_wp2_with fail;go_ret;exact ⟨by simp,R2.out⟩
  ·as_aux_lemma =>
   obtain ⟨i,rfl⟩:∃ i,u=i+1:=⟨u-1,by omega⟩
   have ei:((i+1:Nat):Int)-1=(i:Int):=by omega
   rw [ei];have i0:(0:Int)<=(i:Int):=by omega
   have il:(i:Int)<(n:Int):=by omega
   have wi:IntKind.i64.wrap ((i:Int)-1)=(i:Int)-1:=by rw [IntKind.wrap_i64];omega
   obtain ⟨sb,soff,y,eao,hy,c0,c1,c2,sl_⟩:=CELL.out wo i (by omega) G.out
   subst eao;have bdy:bdO y:=SC.out.bd y (List.mem_of_getElem? hy);have CL2:Hid (∀ W,Gw w1 W->W.cell? ⟨sb,soff+i*3,none⟩=some (.int .i64 y.1)/\W.cell? ⟨sb,soff+i*3+1,none⟩=some (.int .u64 y.2.1)/\W.cell? ⟨sb,soff+i*3+2,none⟩=some (.int .u64 y.2.2)/\sb<W.heap.size):=fun W g=>by
    obtain ⟨b',off',y',e1,e2,e3,e4,e5,e6⟩:=CELL.out W i (by omega) g
    cases e1
    rw [hy] at e2;cases e2;exact ⟨e3,e4,e5,e6⟩
   have OC:Hid (∀ (W:World) (k:Nat),k<m->Gw wo W->∃ x:Int×Int×Int,o[k]?=some x/\W.cell? ⟨ob,k*3+1,none⟩=some (.int .u64 x.2.1)/\ob<W.heap.size):=fun W k hk g=>by
    obtain ⟨b,eb,_,bl,_,cc⟩:=oo_form (oo_gw OOo.out g) ML.out (by omega)
    cases eb
    exact ⟨o.getD k op0,by simp [List.getD,show k<o.length by rw [ML.out];exact hk],(cc k hk).2.1,bl⟩
   have BDY:Aside (bdO y):=bdy;clear hy bdy c0 c1 c2;obtain ⟨kn,ky,vl⟩:=y;simp only at CL2;go_wp2_with fail;go_loopg [10,11] m (fun gg s10 s11 wr=>∃ (k:Nat),s10=.bool (hasO ky (o.take k))/\s11=.int .i64 (k:Int)/\k<=m/\m-k<=gg/\Aside (Gw wo wr))
   case atStart=>exact ⟨0,rfl,rfl,Nat.zero_le _,by omega,(show Aside _ from Gw.refl wo)⟩
   case round =>
    obtain ⟨k,rfl,rfl,d1,d2,GK⟩:=hrel;obtain ⟨x0,x1,x2,x3⟩:=CL2.out wr (G.out.trans GK.out);by_cases klt:k<m
    ·have klt':(k:Int)<(m:Int):=by omega
     obtain ⟨x,hx,e0,el⟩:=OC.out wr k klt GK.out;have HKC:hasO ky (o.take (k+1))=(hasO ky (o.take k)||x.2.1 == ky):=by rw [take_snocO hx,hasO_snoc]
     generalize hasO ky (o.take k)=b at HKC ⊢;generalize x.2.1=xk at HKC e0;clear hx;cases b with
     | true =>
      have HK1:Aside (hasO ky (o.take (k+1))=true):=by show _=_;rw [HKC];rfl
      clear HKC;go_wp2_with fail;go_quiet (fail);go_wp2_with fail;go_roundg (m-(k+1))
      case measure=>omega
      case rel=>exact ⟨k+1,by rw [HK1.out],by go_num,by omega,Nat.le_refl _,(show Aside _ from GK.out.drewN _)⟩
     | false =>
      obtain ⟨b',hb'⟩:∃ b,(xk == ky)=b:=⟨_,rfl⟩;have HK1:Aside (hasO ky (o.take (k+1))=b'):=by show _=_;rw [HKC,hb'];rfl
      clear HKC;go_wp2_with fail;go_quiet (fail);go_wp2_with fail;go_roundg (m-(k+1))
      case measure=>omega
      case rel=>exact ⟨k+1,by rw [HK1.out],by go_num,by omega,Nat.le_refl _,(show Aside _ from GK.out.drewN _)⟩
    ·have ek:m=k:=by omega
     subst ek;have TK:o.take m=o:=List.take_of_length_le (by rw [ML.out];exact Nat.le_refl _)
     rw [TK];clear TK OC;cases hb:hasO ky o with
     | true =>
      clear hb;go_wp2_with fail;go_roundg i
      case measure=>omega
      case rel=>exact ⟨i,m,ob,oc,o,rfl,by go_num,by omega,by omega,by omega,ML,(show Aside _ from oo_gw OOo.out GK.out),UO,(show Aside _ from G.out.trans GK.out)⟩
     | false =>
      have UO1:Aside (UqO (o++[(kn,ky,vl)])/\∀ x∈o++[(kn,ky,vl)],bdO x):=⟨UO.out.1.snoc (hasO_not hb),fun e he=>by
       rcases List.mem_append.1 he with q | q
       ·exact UO.out.2 e q
       ·rw [List.mem_singleton.1 q];exact BDY.out⟩
      have EOW:Aside (wr.ownsRow w1.heap.size 38 3 (.slice (some ⟨ob,0,none⟩) m oc) m (o.flatMap op3)):=oo_row (oo_gw OOo.out GK.out) ML.out;have GWR:Aside (Gw w1 wr):=G.out.trans GK.out;have wz:=GWR.out.size;clear hb;go_wp2_with (at_builtin;refine wpList_append_own _ rfl _ _ 31 rfl w1.heap.size 38 ii (.agg #[.int .i64 0,.int .u64 0,.int .u64 0]) 3 24 underlying31 hii hz hs hby rfl (by decide) _ m _ rfl (EOW.out.alloc _) ⟨wr.heap.size,0,none⟩ 1 1 (op3 (kn,ky,vl)) rfl rfl (new_op16 wr (kn,ky,vl)) (op3_one _) (by simp only [maxLen];omega) (by omega) (by simp;omega) ?_)
      intro v' w5 r1 r2 r3;obtain ⟨b5,cap5,rfl,hb5,_,_⟩:=own_slice r1 (by simpa using r3)
      have E5:Aside (OO w5 w1.heap.size (.slice (some ⟨b5,0,none⟩) (m+1) cap5) (o++[(kn,ky,vl)])):=oo_more (by rw [ML.out];exact r1)
      have M5:Aside ((o++[(kn,ky,vl)]).length=m+1):=by show _=_;rw [List.length_append,ML.out];rfl
      have G5:Aside (Gw w1 w5):=(GWR.out.alloc _ _).grown r2 (fun q hq=>(World.ownsRow.lt EOW.out q hq).1)
      clear r1 r2 r3 EOW;go_wp2_with fail;go_roundg i
      case measure=>omega
      case rel=>exact ⟨i,m+1,b5,cap5,_,rfl,by go_num,by omega,by omega,by omega,M5,E5,UO1,G5⟩
end Go.Proofs.YtemijdhemdhclaaGreat
