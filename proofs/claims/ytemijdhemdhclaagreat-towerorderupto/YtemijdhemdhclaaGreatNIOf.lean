/- Package tower: stocked, Of, New. -/
import Derived.Test.YtemijdhemdhclaaGreatNITow
import Derived.Test.YtemijdhemdhclaaGreatNICount
set_option linter.unusedVariables false
set_option maxHeartbeats 8000000
set_option maxRecDepth 20000
open Go.Proofs.Tryz
namespace Go.Proofs.YtemijdhemdhclaaGreat
open Go.RowKit
theorem ins_last {l:List Ent} {x:Ent} (h:∀ y∈l,y.k<x.k):ins Ent.k x l=l++[x]:=by
 induction l with
 | nil=>rfl
 | cons y l ih =>
  unfold ins;rw [if_pos (h y (List.mem_cons_self ..)),ih fun z hz=>h z (List.mem_cons_of_mem _ hz)]
  rfl
theorem ins_take {l:List Ent} (r:Rise Ent.k l) {i:Nat} (hi:i<l.length):ins Ent.k (l.getD i ent0) (l.take i)=l.take (i+1):=by
 have e:l.take (i+1)=l.take i++[l.getD i ent0]:=by
  rw [List.take_add_one,List.getElem?_eq_getElem hi,getD_lt hi];rfl
 rw [e];refine ins_last fun y hy=>?_
 have:=List.pairwise_append.1 (by rw [<-e];exact r.sublist (List.take_sublist _ _):((l.take i++[l.getD i ent0]).Pairwise fun a b=>a.k<b.k))
 exact this.2.2 y hy _ (List.mem_singleton.2 rfl)
theorem stocked16 (most:Int) (m0:1<=most) (m1:most<=4294967296) (ao:Option Addr) (c:Nat) (l:List Ent) (hl:l.length<=2000000) (ok:EOk l) (room:(l.length:Int)<most) (pc:Nat) (w:World) (he:EL w ao l) :
  Calls prog 39 #[.int .i64 most,.slice ao l.length c,.pointer (some ⟨pc,0,none⟩)] w fun e w'=>(∃ pb Sb,e=.returned (.agg #[.pointer (some ⟨pb,0,none⟩),.pointer (some ⟨pc,0,none⟩)])/\HB 92 w' pb Sb most l/\∀ q,Sb q->w.heap.size<=q)/\Gw w w':=by
 have EA:Aside (EL w ao l):=he;have OK:Aside (EOk l):=ok;obtain ⟨n,hn⟩:∃ n,l.length=n:=⟨_,rfl⟩;have LN:Aside (l.length=n):=hn;have RM:Aside ((n:Int)<most):=by rw [<-hn];exact room
 have NW:Hid (∀ W,Calls prog 60 #[.int .i64 most] W fun e w'=>(e=.returned (.tuple #[.pointer (some ⟨W.heap.size,0,none⟩),.int .i64 0])/\HB 92 w' W.heap.size (fun q=>q=W.heap.size) most [])/\Gw W w'):=fun W=>new14_ok most m0 m1 W
 rw [hn] at hl ⊢;clear he ok room hn;obtain ⟨bq,hbq⟩:∃ b,w.heap.size=b:=⟨_,rfl⟩;have BQ:Aside (w.heap.size=bq):=hbq;have B0:Aside (Bxs w [(bq,#[.pointer none,.pointer none],74)] (w.alloc (.cells #[.pointer none,.pointer none] 74))):=by
  have a:=(Bxs.nil (Gw.refl w)).add #[.pointer none,.pointer none] 74;rw [hbq] at a;exact a
 clear hbq;go_enter func39,ntmps39;go_wp2_with fail;rw [BQ.out];generalize w.alloc (.cells #[.pointer none,.pointer none] 74)=w1 at B0 ⊢;refine Calls.mono (NW.out w1) ?_;rintro e w2 ⟨⟨rfl,hb2⟩,g2⟩;have B2:Aside (Bxs w [(bq,#[.pointer none,.pointer none],74)] w2):=B0.out.gw g2;have bl1:=blkl (B0.out.lie (bq,#[.pointer none,.pointer none],74) (by simp))
 dsimp only at bl1;obtain ⟨pb,hpb⟩:∃ p,w1.heap.size=p:=⟨_,rfl⟩;rw [hpb] at hb2 bl1 ⊢;have H2:Aside (HB 92 w2 pb (fun q=>q=pb) most (l.take 0)):=hb2
 have S2:Aside (∀ q,(fun q=>q=pb) q->bq<q):=fun q (hq:q=pb)=>by omega
 clear hb2 g2 B0 hpb NW bl1;go_wp2_with fail;go_loopg [18] n (fun gg s18 wr=>∃ (i:Nat) (S:Nat->Prop),s18=.int .i64 (i:Int)/\i<=n/\n-i<=gg/\Aside (HB 92 wr pb S most (l.take i))/\Aside (∀ q,S q->bq<q)/\Aside (Bxs w [(bq,#[.pointer none,.pointer none],74)] wr))
 case atStart=>exact ⟨0,_,rfl,Nat.zero_le _,by omega,H2,S2,B2⟩
 case round =>
  clear H2 S2 B2;obtain ⟨i,S,rfl,a1,a2,HB_,SS,BX⟩:=hrel;obtain ⟨wS,hwS⟩:∃ wx,wx=wr:=⟨_,rfl⟩;subst hwS;by_cases hlt:i<n
  ·have hlt':(i:Int)<(n:Int):=by omega
   have il:i<l.length:=by rw [LN.out];exact hlt
   obtain ⟨ab,af,rfl,hab,hac⟩:=(EA.out.gw BX.out.gw0).cells (by rw [LN.out];omega)
   obtain ⟨c0,c1,c2⟩:=hac i il;have okb:=EA.out.ok il;have PU:Hid (Calls prog 43 #[.pointer (some ⟨pb,0,none⟩),.agg #[.int .u64 (l.getD i ent0).k,.int .u64 (l.getD i ent0).v,.bool (l.getD i ent0).g]] (wS.alloc (.cells #[.int .u64 (l.getD i ent0).k,.int .u64 (l.getD i ent0).v,.bool (l.getD i ent0).g] 69)) fun ex w'=>ex=.returned (.int .i64 0)/\PutOut 92 (wS.alloc (.cells #[.int .u64 (l.getD i ent0).k,.int .u64 (l.getD i ent0).v,.bool (l.getD i ent0).g] 69)) w' pb S most (l.take (i+1))):=by
    have lt:(l.take i).length=i:=by rw [List.length_take];omega
    have:=put14 pb S most (l.take i) (l.getD i ent0) (by omega) okb (wS.alloc (.cells #[.int .u64 (l.getD i ent0).k,.int .u64 (l.getD i ent0).v,.bool (l.getD i ent0).g] 69)) (HB_.out.gw ((Gw.refl wS).alloc _ _))
    rw [putR_in (by rw [getD_lt il];exact (EOk.iff.1 OK.out).2 _ (List.getElem_mem il)) (by have:=RM.out;omega),ins_take OK.out.rise il] at this
    exact this
   generalize (l.getD i ent0).k=ki at c0 PU;generalize (l.getD i ent0).v=vi at c1 PU;generalize (l.getD i ent0).g=gi at c2 PU;have B1:Aside (Bxs w [(bq,#[.pointer none,.pointer none],74)] (wS.alloc (.cells #[.int .u64 ki,.int .u64 vi,.bool gi] 69))):=BX.out.gw ((Gw.refl wS).alloc _ _);clear hac okb;go_wp2_with fail;refine Calls.mono PU.out ?_;rintro e u1 ⟨rfl,S',hb',gx',ss'⟩;have H9:Aside (HB 92 u1 pb S' most (l.take (i+1))):=hb';have bl:=blkl (B1.out.lie (bq,#[.pointer none,.pointer none],74) (by simp))
   dsimp only at bl;have S9:Aside (∀ q,S' q->bq<q):=fun q hq=>by
    rcases ss' q hq with x | x
    ·exact SS.out q x
    ·omega
   have B9:Aside (Bxs w [(bq,#[.pointer none,.pointer none],74)] u1):=⟨Gx.gw B1.out.gw0 gx' (fun q hq=>by have:=SS.out q hq;have:=BQ.out;omega),fun x hx=>by
    have:=B1.out.lie x hx
    rw [List.mem_singleton.1 hx] at this ⊢;exact (gx'.block bq bl (fun y=>by have:=SS.out bq y;omega)).trans this⟩
   clear hb' gx' ss' bl PU B1 BX HB_ SS;go_wp2_with fail;go_roundg (n-(i+1))
   case measure=>omega
   case rel=>exact ⟨i+1,S',by go_num,by omega,Nat.le_refl _,H9,S9,B9⟩
  ·have ei:i=n:=by omega
   subst ei;have bb:wS.heap[bq]?=some (.cells #[.pointer none,.pointer none] 74 (0,0)):=BX.out.lie (bq,#[.pointer none,.pointer none],74) (by simp)
   have T:=blk_set16 (o:=1) (u:=.pointer (some ⟨pc,0,none⟩)) (blk_set16 (o:=0) (u:=.pointer (some ⟨pb,0,none⟩)) bb);have T0:((wS.setCell ⟨bq,0,none⟩ (.pointer (some ⟨pb,0,none⟩))).setCell ⟨bq,1,none⟩ (.pointer (some ⟨pc,0,none⟩))).cell? ⟨bq,0,none⟩=some (.pointer (some ⟨pb,0,none⟩)):=blkc T rfl;have T1:((wS.setCell ⟨bq,0,none⟩ (.pointer (some ⟨pb,0,none⟩))).setCell ⟨bq,1,none⟩ (.pointer (some ⟨pc,0,none⟩))).cell? ⟨bq,1,none⟩=some (.pointer (some ⟨pc,0,none⟩)):=blkc T rfl;have z0:wS.cell? ⟨bq,0,none⟩=some (.pointer none):=blkc bb rfl;have z1:wS.cell? ⟨bq,1,none⟩=some (.pointer none):=blkc bb rfl;have z2:=blkf (o:=0) bb;have z3:=blkf (o:=1) bb;have z4:=blkl bb;have RES:Hid ((HB 92 ((wS.setCell ⟨bq,0,none⟩ (.pointer (some ⟨pb,0,none⟩))).setCell ⟨bq,1,none⟩ (.pointer (some ⟨pc,0,none⟩))) pb S most l/\∀ q,S q->w.heap.size<=q)/\Gw w ((wS.setCell ⟨bq,0,none⟩ (.pointer (some ⟨pb,0,none⟩))).setCell ⟨bq,1,none⟩ (.pointer (some ⟨pc,0,none⟩)))):=by
    have gz:Gx (fun q=>q=bq) wS ((wS.setCell ⟨bq,0,none⟩ (.pointer (some ⟨pb,0,none⟩))).setCell ⟨bq,1,none⟩ (.pointer (some ⟨pc,0,none⟩))):=((Gx.refl (fun q=>q=bq) wS).set (.inl rfl) _ _).set (.inl rfl) _ _
    have h9:=HB_.out;rw [List.take_of_length_le (by rw [LN.out];exact Nat.le_refl _)] at h9
    refine ⟨⟨h9.gx gz (fun q hq hx=>?_),fun q hq=>?_⟩,Gx.gw BX.out.gw0 gz (fun q hq=>by have:=BQ.out;omega)⟩
    ·have:=SS.out q hq;omega
    ·have:=SS.out q hq;have:=BQ.out;omega
   clear T bb BX HB_ SS;go_wp2_with fail;exact bodyPost_ret (v:=.agg #[.pointer (some ⟨pb,0,none⟩),.pointer (some ⟨pc,0,none⟩)]) (by simp [results,results39,go_sem,T0,T1]) rfl ⟨⟨pb,S,rfl,RES.out.1.1,RES.out.1.2⟩,RES.out.2⟩
theorem nw_top {rs:List (Option Rn)} {t:Nat} (h:TopR rs t) (i:Nat) (q:Int):nw q ((rs.take t).drop i)=nw q (rs.drop i):=by
 have e:rs.drop i=(rs.take t).drop i++List.replicate ((rs.drop i).length-((rs.take t).drop i).length) none:=by
  refine List.ext_getElem? fun j=>?_
  have hj:rs[i+j]?=(rs.drop i)[j]?:=by rw [List.getElem?_drop]
  rw [<-hj];have l1:((rs.take t).drop i).length=t-i:=by rw [List.length_drop,List.length_take,Nat.min_eq_left h.le]
  have l2:(rs.drop i).length=rs.length-i:=List.length_drop;rw [l1,l2];by_cases a:i+j<t
  ·rw [List.getElem?_append_left (by rw [l1];omega),List.getElem?_drop,List.getElem?_take,if_pos a]
  ·rw [List.getElem?_append_right (by rw [l1];omega),List.getElem?_replicate]
   by_cases b:i+j<rs.length
   ·have:=h.no (i+j) (by omega)
    rw [List.getD_eq_getElem?_getD,List.getElem?_eq_getElem b] at this;have hle:=h.le;rw [List.getElem?_eq_getElem b,if_pos (by rw [l1];omega)]
    exact congrArg some this
   ·have hle:=h.le
    rw [List.getElem?_eq_none (by omega),if_neg (by rw [l1];omega)]
 rw [e,nw_app];have:=nw_rep q ((rs.drop i).length-((rs.take t).drop i).length) [];rw [List.append_nil] at this;rw [this];cases nw q ((rs.take t).drop i)<;>rfl
theorem CountT.top {l:List Ent} {rs:List (Option Rn)} {t n:Nat} {most:Int} {ok:Bool} (h:TopR rs t) (c:CountT l (rs.take t) most n ok):CountT l rs most n ok:=by
 have e1:∀ i q,liveQ (rs.drop i) q=liveQ ((rs.take t).drop i) q:=fun i q=>by unfold liveQ;rw [nw_top h]
 have e2:∀ q,liveE l rs q=liveE l (rs.take t) q:=fun q=>by
  have:=nw_top h 0 q
  rw [List.drop_zero,List.drop_zero] at this;unfold liveE newE;rw [this]
 rcases c with ⟨a,b,c,d⟩ | ⟨a,b,c⟩
 ·refine .inl ⟨a,fun i=>?_,c.same e2,d⟩
  obtain ⟨m,m1,m2⟩:=b i;exact ⟨m,m1.same (e1 i),m2⟩
 ·refine .inr ⟨a,b,?_⟩
  rcases c with ⟨i,m,m1,m2⟩ | ⟨m,m1,m2⟩
  ·exact .inl ⟨i,m,m1.same (e1 i),m2⟩
  ·exact .inr ⟨m,m1.same e2,m2⟩
theorem tot_up (l:List (Option Rn)):tot (upR l)<=tot l:=by
 unfold upR;have r:∀ n,tot (List.replicate n (none:Option Rn))=0:=fun n=>by
  induction n with
  | zero=>rfl
  | succ n ih=>rw [List.replicate_succ,tot_none];exact ih
 rw [tot_app,r];have:=tot_take l 40;omega
theorem ro_base {w:World} {base base':Nat} {v:Value} {rs:List (Option Rn)} (h:RO w base v rs) (hb:base'<=base):RO w base' v rs:=by
 refine ⟨h.1,?_⟩;rcases h.2 with q | ⟨b,cap,cur,rfl,hg,r⟩
 ·exact .inl q
 ·exact .inr ⟨b,cap,cur,rfl,Nat.le_trans hb hg,r⟩
def OfR16 (eps buf keys:Int) (b:List Ent) (l:List (Option Rn)) (E:Int) (n:Nat):Prop :=
 (¬ CfgOk eps buf keys/\E=160)\/(CfgOk eps buf keys/\((E≠0/\ChkR (ek b) (ev b) (eg b) b.length E)\/(EOk b/\((buf<=b.length/\E=140)\/((b.length:Int)<buf/\((E≠0/\OfR15 eps buf l E)\/(OfR15 eps buf l 0/\((E=161/\CountT b (upR l) keys n false)\/(E=0/\CountT b (upR l) keys n true)))))))))
def OfT (HR:HRt) (w w':World) (ex:Ending) (eps buf keys:Int) (b:List Ent) (l:List (Option Rn)):Prop :=
 ∃ E n,OfR16 eps buf keys b l E n/\((E≠0/\ex=.returned (.tuple #[.pointer none,.int .i64 E]))\/(E=0/\∃ p F,ex=.returned (.tuple #[.pointer (some ⟨p,0,none⟩),.int .i64 0])/\HT HR w' p F eps buf keys b (upR l) 0 0 n/\∀ q,F q->w.heap.size<=q))
theorem of16 {HR:HRt} (H:RunC HR) (eps buf keys:Int) (ao bo:Option Addr) (c d:Nat) (b:List Ent) (l:List (Option Rn)) (hb:b.length+tot l<=2000000) (hl:l.length<=2000000) (hc:b.length<=c) (hd:l.length<=d) (hz:bo=none->l.length=0/\d=0) (w:World) (he:EL w ao b) (hp:PR HR w bo l) :
  Calls prog 23 #[.agg #[.int .i64 eps,.int .i64 buf,.int .i64 keys],.slice ao b.length c,.slice bo l.length d] w fun e w'=>OfT HR w w' e eps buf keys b l/\Gw w w':=by
 have HH:Aside (RunC HR):=H;have CK:Hid (∀ W,Calls prog 9 #[.agg #[.int .i64 eps,.int .i64 buf,.int .i64 keys]] W fun e w'=>e=.returned (.int .i64 (cfgE eps buf keys))/\Gw W w'):=fun W=>check16 eps buf keys W
 have KC:Hid (∀ W,Gw w W->Calls prog 35 #[.slice ao b.length c] W fun e w'=>(∃ r:Int,e=.returned (.int .i64 r)/\ChkR (ek b) (ev b) (eg b) b.length r)/\Gw W w'):=fun W gg=>check3_any ao b.length c (ek b) (ev b) (eg b) (by omega) hc W (he.gw gg)
 have CO:Hid (∀ W,Gw w W->Calls prog 36 #[.int .i64 eps,.int .i64 buf,.slice bo l.length d] W fun e w'=>OfOut15 (fun w' p rs=>HCl HR w' p rs eps buf 0 0) W w' e eps buf l/\Gw W w'):=fun W gg=>of15 H eps buf bo d l hl hd hz W (hp.gw H.kp gg)
 have EA:Aside (EL w ao b):=he;have TB:Aside (b.length+tot (upR l)<=2000000):=by have:=tot_up l;show _<=_;omega
 obtain ⟨bq,hbq⟩:∃ b,w.heap.size=b:=⟨_,rfl⟩;have BQ:Aside (w.heap.size=bq):=hbq;have B0:Aside (Bxs w [(bq,#[.int .i64 eps,.int .i64 buf,.int .i64 keys],23)] (w.alloc (.cells #[.int .i64 eps,.int .i64 buf,.int .i64 keys] 23))):=by
  have a:=(Bxs.nil (Gw.refl w)).add #[.int .i64 eps,.int .i64 buf,.int .i64 keys] 23;rw [hbq] at a;exact a
 have FC:Aside (∀ W,Bxs w [(bq,#[.int .i64 eps,.int .i64 buf,.int .i64 keys],23)] W->W.heap[bq]?=some (.cells #[.int .i64 eps,.int .i64 buf,.int .i64 keys] 23 (0,0))):=fun W h=>h.lie (bq,#[.int .i64 eps,.int .i64 buf,.int .i64 keys],23) (by simp)
 obtain ⟨bn,hbn⟩:∃ n,b.length=n:=⟨_,rfl⟩;have BN:Aside (b.length=bn):=hbn;obtain ⟨ln,hln⟩:∃ n,l.length=n:=⟨_,rfl⟩;rw [hbn] at KC hc hb ⊢;rw [hln] at CO hl hd ⊢;clear H he hp hz hbq hbn hln;go_enter func23,ntmps23;go_wp2_with fail;rw [BQ.out];generalize w.alloc (.cells #[.int .i64 eps,.int .i64 buf,.int .i64 keys] 23)=w1 at B0 ⊢;refine Calls.mono (CK.out w1) ?_;rintro e w2 ⟨rfl,g2⟩;have B2:Aside (Bxs w [(bq,#[.int .i64 eps,.int .i64 buf,.int .i64 keys],23)] w2):=B0.out.gw g2;clear g2 B0 CK;by_cases cf:CfgOk eps buf keys
 ·have ce:cfgE eps buf keys=0:=if_pos cf
  rw [ce];have CF:Aside (CfgOk eps buf keys):=cf;have cfb:=cf.2.1;clear ce cf;go_wp2_with fail;refine Calls.mono (KC.out w2 B2.out.gw0) ?_;rintro e w3 ⟨⟨r,rfl,cr⟩,g3⟩;have B3:Aside (Bxs w [(bq,#[.int .i64 eps,.int .i64 buf,.int .i64 keys],23)] w3):=B2.out.gw g3;have CR:Aside (ChkR (ek b) (ev b) (eg b) b.length r):=by have:=cr;rw [<-BN.out] at this;exact this
  clear g3 cr B2 KC;by_cases r0:r=0
  ·subst r0
   have OKB:Aside (EOk b):=CR.out;have bb:=FC.out w3 B3.out;have k0:w3.cell? ⟨bq,0,none⟩=some (.int .i64 eps):=blkc bb rfl;have k1:w3.cell? ⟨bq,1,none⟩=some (.int .i64 buf):=blkc bb rfl;have kl:=blkl bb;clear bb CR;by_cases rm:(bn:Int)<buf
   ·have t1:decide (buf<=(bn:Int))=false:=by simp;omega
    have RM:Aside ((b.length:Int)<buf):=by rw [BN.out];exact rm
    clear rm;go_wp2_with fail;refine Calls.mono (CO.out w3 B3.out.gw0) ?_;rintro e w4 ⟨⟨E,ofr,hE⟩,g4⟩;have B4:Aside (Bxs w [(bq,#[.int .i64 eps,.int .i64 buf,.int .i64 keys],23)] w4):=B3.out.gw g4;rcases hE with ⟨e0,rfl⟩ | ⟨rfl,p4,rfl,n4,hc4⟩
    ·have e0':(E != 0)=true:=by simpa using e0
     have RES:Hid (∀ W,Gw w W->OfT HR w W (.returned (.tuple #[.pointer none,.int .i64 E])) eps buf keys b l/\Gw w W):=fun W g=>⟨⟨E,0,.inr ⟨CF.out,.inr ⟨OKB.out,.inr ⟨RM.out,.inl ⟨e0,ofr⟩⟩⟩⟩,.inl ⟨e0,rfl⟩⟩,g⟩
     clear e0 ofr g4 CO t1 k0 k1 kl;go_wp2_with fail;go_ret2;exact RES.out _ B4.out.gw0
    ·have OF0:Aside (OfR15 eps buf l 0):=ofr
     have HC4:Aside (HCl HR w4 p4 (upR l) eps buf 0 0/\w3.heap.size<=p4):=⟨hc4,n4⟩;have RN:Hid (∀ W,Gw w4 W->Calls prog 38 #[.pointer (some ⟨p4,0,none⟩)] W fun e w'=>(∃ (t b c:Nat),e=.returned (.slice (some ⟨b,0,none⟩) t c)/\TopR (upR l) t/\RO w' w4.heap.size (.slice (some ⟨b,0,none⟩) t c) ((upR l).take t))/\Gw W w'):=fun W gg=>(runs15 (hc4.gw HH.out.kp gg)).mono fun e w' ⟨⟨t,b,c,x1,x2,x3⟩,x4⟩=>⟨⟨t,b,c,x1,x2,ro_base x3 gg.size⟩,x4⟩
     have pcl:=hc4.lt;have bb:=FC.out w4 B4.out;have k0:w4.cell? ⟨bq,0,none⟩=some (.int .i64 eps):=blkc bb rfl;have k2:w4.cell? ⟨bq,2,none⟩=some (.int .i64 keys):=blkc bb rfl;have kl:=blkl bb;have CN:Hid (∀ (wA W:World) (t bR cR:Nat),Gw w4 wA->Gw wA W->TopR (upR l) t->RO wA w4.heap.size (.slice (some ⟨bR,0,none⟩) t cR) ((upR l).take t)->Calls prog 37 #[.slice ao bn c,.slice (some ⟨bR,0,none⟩) t cR,.int .i64 keys] W fun e w'=>(∃ (n:Nat) (ok:Bool),e=.returned (.tuple #[.int .i64 (n:Int),.bool ok])/\CountT b (upR l) keys n ok)/\Gw W w'):=fun wA W t bR cR g1 g2 tp ro=>by
      have tl:t<=40:=by have:=tp.le;rw [upR_len] at this;exact this
      have lt:((upR l).take t).length=t:=by rw [List.length_take,upR_len];omega
      have hro:RO wA w4.heap.size (.slice (some ⟨bR,0,none⟩) ((upR l).take t).length cR) ((upR l).take t):=by rw [lt];exact ro
      have prA:PR HR W (some ⟨bR,0,none⟩) ((upR l).take t):=(hro.pr (HR:=HR) fun r hr=>(HC4.out.1.runs r (List.mem_of_mem_take hr)).1.gw HH.out.kp g1).gw HH.out.kp g2
      have cap:t<=cR:=by
       rcases ro.2 with ⟨x,_⟩ | ⟨b',cap,cur,x,_,_,hc,_⟩
       ·cases x
       ·injection x with _ _ x3;rw [x3,<-lt];exact hc
      have tt:tot ((upR l).take t)<=tot (upR l):=by have:=tot_take (upR l) t;omega
      have:=count16 HH.out ao c bR 0 cR b ((upR l).take t) keys (by have:=CF.out.2.2.1;omega) (by have:=TB.out;omega) (by rw [lt];exact tl) (by rw [lt];exact cap) OKB.out.rise W ((EA.out.gw B4.out.gw0).gw (g1.trans g2)) prA
      rw [lt,BN.out] at this;exact this.mono fun e w' ⟨⟨n,ok,e1,e2⟩,g⟩=>⟨⟨n,ok,e1,e2.top tp⟩,g⟩
     have HW:Hid (∀ w':World,Gw w4 w'->Gw w4 w'/\w'.cell? ⟨bq,2,none⟩=some (.int .i64 keys)/\bq<w'.heap.size):=fun w' gg=>⟨gg,(gg.cell _ _ kl).trans k2,Nat.lt_of_lt_of_le kl gg.size⟩
     have I4:Hid (Gw w4 w4):=Gw.refl w4;clear ofr g4 CO n4 hc4 t1 k1 bb;go_wp2_with fail;go_region_held3 (fun w'=>Gw w4 w'/\w'.cell? ⟨bq,2,none⟩=some (.int .i64 keys)/\bq<w'.heap.size)
      (((refine HW.out _ ?_;repeat (first | exact And.left (by assumption) | exact Hid.out (by assumption) | refine Gw.drew ?_));done))
      ((
       first
       | (go_at_call 38;refine (RN.out _ (by repeat (first | exact Gw.refl _ | exact And.left (by assumption) | exact Hid.out (by assumption) | refine Gw.drew ?_ | refine Gw.drewN ?_ _))).mono ?_;rintro ex wA ⟨⟨tA,bA,cA,rfl,tpA,roA⟩,gA⟩;have FA:Hid (Gw w4 wA):=(Gw.trans (by repeat (first | exact Gw.refl _ | exact And.left (by assumption) | exact Hid.out (by assumption) | refine Gw.drew ?_ | refine Gw.drewN ?_ _)) gA);have RA_:Aside (TopR (upR l) tA/\RO wA w4.heap.size (.slice (some ⟨bA,0,none⟩) tA cA) ((upR l).take tA)):=⟨tpA,roA⟩;clear gA tpA roA)
       | (go_at_call 37;refine (CN.out wA _ tA bA cA FA.out (by first | exact Gw.refl _ | exact (Gw.refl _).drew) RA_.out.1 RA_.out.2).mono ?_;rintro ex wB ⟨⟨m,okc,rfl,cnt⟩,gB⟩;have FB:Hid (Gw w4 wB):=(Gw.trans (by repeat (first | exact Gw.refl _ | exact And.left (by assumption) | exact Hid.out (by assumption) | refine Gw.drew ?_ | refine Gw.drewN ?_ _)) gB);have CNT:Aside (CountT b (upR l) keys m okc):=cnt;clear gB cnt)))
     all_goals
      have B5:Aside (Bxs w [(bq,#[.int .i64 eps,.int .i64 buf,.int .i64 keys],23)] wB):=B4.out.gw FB.out;have HC5:Aside (HCl HR wB p4 (upR l) eps buf 0 0/\w3.heap.size<=p4):=⟨HC4.out.1.gw HH.out.kp FB.out,HC4.out.2⟩;clear FB RN CN HW;cases okc with
      | false =>
       have RES:Hid (∀ W,Gw w W->OfT HR w W (.returned (.tuple #[.pointer none,.int .i64 161])) eps buf keys b l/\Gw w W):=fun W g=>⟨⟨161,m,.inr ⟨CF.out,.inr ⟨OKB.out,.inr ⟨RM.out,.inr ⟨OF0.out,.inl ⟨rfl,CNT.out⟩⟩⟩⟩⟩,.inl ⟨by decide,rfl⟩⟩,g⟩
       go_wp2_with fail;go_ret2
       exact RES.out _ B5.out.gw0
      | true =>
       obtain ⟨w5,hw5⟩:∃ wx,wx=wB:=⟨_,rfl⟩;subst hw5;have bb:=FC.out w5 B5.out;have HW:Hid (∀ w':World,Gw w5 w'->Gw w5 w'/\w'.cell? ⟨bq,0,none⟩=some (.int .i64 eps)/\w'.cell? ⟨bq,1,none⟩=some (.int .i64 buf)/\w'.cell? ⟨bq,2,none⟩=some (.int .i64 keys)/\bq<w'.heap.size):=fun w' gg=>by
        have hh:=(gg.below.block bq (blkl bb)).trans bb;exact ⟨gg,blkc hh rfl,blkc hh rfl,blkc hh rfl,blkl hh⟩
       have I5:Hid (Gw w5 w5):=Gw.refl w5;have SK:Hid (∀ W,Gw w5 W->Calls prog 39 #[.int .i64 buf,.slice ao bn c,.pointer (some ⟨p4,0,none⟩)] W fun e w'=>(∃ pb Sb,e=.returned (.agg #[.pointer (some ⟨pb,0,none⟩),.pointer (some ⟨p4,0,none⟩)])/\HB 92 w' pb Sb buf b/\∀ q,Sb q->W.heap.size<=q)/\Gw W w'):=fun W gg=>by
        have:=stocked16 buf cfb.1 cfb.2 ao c b (by have:=TB.out;omega) OKB.out RM.out p4 W (EA.out.gw (B5.out.gw0.trans gg))
        rw [BN.out] at this;exact this
       have FIN:Aside (∀ (wS:World) (pbS:Nat) (SbS:Nat->Prop),Gw w5 wS->HB 92 wS pbS SbS buf b->(∀ q,SbS q->w5.heap.size<=q)->OfT HR w (wS.alloc (.cells #[.int .i64 eps,.int .i64 buf,.int .i64 keys,.pointer (some ⟨pbS,0,none⟩),.pointer (some ⟨p4,0,none⟩),.int .i64 (m:Int)] 76)) (.returned (.tuple #[.pointer (some ⟨wS.heap.size,0,none⟩),.int .i64 0])) eps buf keys b l/\Gw w (wS.alloc (.cells #[.int .i64 eps,.int .i64 buf,.int .i64 keys,.pointer (some ⟨pbS,0,none⟩),.pointer (some ⟨p4,0,none⟩),.int .i64 (m:Int)] 76))):=fun wS pbS SbS g hbS nS=>by
        have hs:HS HR wS pbS SbS p4 eps buf b (upR l) 0 0:=⟨hbS,HC5.out.1.gw HH.out.kp g,fun x=>by have:=nS p4 x;have:=HC5.out.1.lt;omega,fun r hr q hq hx=>by have:=nS q hq;have:=HH.out.lt (HC5.out.1.runs r hr).1.h q hx;omega⟩
        have inv:TInv eps buf keys b (upR l) m:=by
         rcases CNT.out with ⟨_,x1,x2,x3⟩ | ⟨x,_⟩
         ·refine TInv.of (upR_len l) ?_ (fun r hr=>(HC5.out.1.runs r hr).1.ok) x1 OKB.out RM.out x2 x3
          rcases OF0.out with ⟨x,_⟩ | ⟨x,_⟩ | ⟨_,_,x⟩
          ·cases x
          ·cases x
          ·exact x
         ·cases x
        refine ⟨⟨0,m,.inr ⟨CF.out,.inr ⟨OKB.out,.inr ⟨RM.out,.inr ⟨OF0.out,.inr ⟨rfl,CNT.out⟩⟩⟩⟩⟩,.inr ⟨rfl,_,_,rfl,HT.made HH.out.kp hs inv CF.out,fun q hq=>?_⟩⟩,(B5.out.gw0.trans g).alloc _ _⟩
        have z:=B5.out.gw0.size;have z2:=g.size;rcases hq with x | x | x
        ·omega
        ·have:=HC5.out.2;have:=B3.out.gw0.size;omega
        ·have:=nS q x;omega
       clear bb;go_wp2_with fail;go_region_held3 (fun w'=>Gw w5 w'/\w'.cell? ⟨bq,0,none⟩=some (.int .i64 eps)/\w'.cell? ⟨bq,1,none⟩=some (.int .i64 buf)/\w'.cell? ⟨bq,2,none⟩=some (.int .i64 keys)/\bq<w'.heap.size)
        (((refine HW.out _ ?_;repeat (first | exact And.left (by assumption) | exact Hid.out (by assumption) | refine Gw.drew ?_ | refine Gw.alloc ?_ _ _));done))
        ((
         first
         | (go_at_call 39;refine (SK.out _ (by repeat (first | exact Gw.refl _ | exact And.left (by assumption) | exact Hid.out (by assumption) | refine Gw.drew ?_ | refine Gw.drewN ?_ _))).mono ?_;rintro ex wS ⟨⟨pbS,SbS,rfl,hbS,nS⟩,gS⟩;have FS_:Hid (Gw w5 wS):=(Gw.trans (by repeat (first | exact Gw.refl _ | exact And.left (by assumption) | exact Hid.out (by assumption) | refine Gw.drew ?_ | refine Gw.drewN ?_ _)) gS);have HS_:Aside (HB 92 wS pbS SbS buf b/\∀ q,SbS q->w5.heap.size<=q):=⟨hbS,fun q hq=>Nat.le_trans (Gw.size (show Gw w5 _ from (by repeat (first | exact Gw.refl _ | exact And.left (by assumption) | exact Hid.out (by assumption) | refine Gw.drew ?_ | refine Gw.drewN ?_ _)))) (nS q hq)⟩;clear gS hbS nS)))
       all_goals
        have RES:Hid (OfT HR w (wS.alloc (.cells #[.int .i64 eps,.int .i64 buf,.int .i64 keys,.pointer (some ⟨pbS,0,none⟩),.pointer (some ⟨p4,0,none⟩),.int .i64 (m:Int)] 76)) (.returned (.tuple #[.pointer (some ⟨wS.heap.size,0,none⟩),.int .i64 0])) eps buf keys b l/\Gw w (wS.alloc (.cells #[.int .i64 eps,.int .i64 buf,.int .i64 keys,.pointer (some ⟨pbS,0,none⟩),.pointer (some ⟨p4,0,none⟩),.int .i64 (m:Int)] 76))):=FIN.out wS pbS SbS FS_.out HS_.out.1 HS_.out.2;generalize wS.heap.size=pN at RES ⊢;generalize (wS.alloc (.cells #[.int .i64 eps,.int .i64 buf,.int .i64 keys,.pointer (some ⟨pbS,0,none⟩),.pointer (some ⟨p4,0,none⟩),.int .i64 (m:Int)] 76))=wN at RES ⊢;go_wp2_with fail;go_ret2;exact RES.out
   ·have t1:decide (buf<=(bn:Int))=true:=by simp;omega
    have RES:Hid (∀ W,Gw w W->OfT HR w W (.returned (.tuple #[.pointer none,.int .i64 140])) eps buf keys b l/\Gw w W):=fun W g=>⟨⟨140,0,.inr ⟨CF.out,.inr ⟨OKB.out,.inl ⟨by rw [BN.out];omega,rfl⟩⟩⟩,.inl ⟨by decide,rfl⟩⟩,g⟩
    clear rm;go_wp2_with fail;go_ret2;exact RES.out _ B3.out.gw0
  ·have r0':(r != 0)=true:=by simpa using r0
   have RES:Hid (∀ W,Gw w W->OfT HR w W (.returned (.tuple #[.pointer none,.int .i64 r])) eps buf keys b l/\Gw w W):=fun W g=>⟨⟨r,0,.inr ⟨CF.out,.inl ⟨r0,CR.out⟩⟩,.inl ⟨r0,rfl⟩⟩,g⟩
   clear r0 CR;go_wp2_with fail;go_ret2;exact RES.out _ B3.out.gw0
 ·have ce:cfgE eps buf keys=160:=if_neg cf
  rw [ce];have RES:Hid (∀ W,Gw w W->OfT HR w W (.returned (.tuple #[.pointer none,.int .i64 160])) eps buf keys b l/\Gw w W):=fun W g=>⟨⟨160,0,.inl ⟨cf,rfl⟩,.inl ⟨by decide,rfl⟩⟩,g⟩
  clear ce cf;go_wp2_with fail;go_ret2;exact RES.out _ B2.out.gw0
theorem ofR_new {eps buf keys E:Int} {n:Nat} (h:OfR16 eps buf keys [] [] E n) (cf:CfgOk eps buf keys):E=0/\n=0:=by
 have up:upR []=List.replicate 40 none:=rfl;have lv:∀ i q,liveQ ((List.replicate 40 (none:Option Rn)).drop i) q=false:=fun i q=>by
  rw [List.drop_replicate];have:=nw_rep q (40-i) [];rw [List.append_nil] at this;unfold liveQ;rw [this];rfl
 have ft:fitAll eps buf (upR []) 40:=fun j hj=>by
  rw [up,List.getD_eq_getElem?_getD,List.getElem?_replicate,if_pos hj];rfl
 have nok:NewOk eps buf:=⟨cf.1,cf.2.1⟩;rcases h with ⟨a,_⟩ | ⟨_,h⟩
 ·exact absurd cf a
 ·rcases h with ⟨a,b⟩ | ⟨_,h⟩
  ·exact absurd (b.one (EOk.iff.2 ⟨List.Pairwise.nil,by simp⟩:EOk [])) a
  ·rcases h with ⟨a,_⟩ | ⟨_,h⟩
   ·have:=cf.2.1.1
    simp at a;omega
   ·rcases h with ⟨a,b⟩ | ⟨_,h⟩
    ·rcases b with ⟨_,x | ⟨r,x⟩⟩ | ⟨_,_,x⟩ | ⟨x,_⟩
     ·exact absurd nok x
     ·simp at x
     ·exact absurd ft x
     ·exact absurd x a
    ·rcases h with ⟨_,b⟩ | ⟨e,b⟩
     ·rcases b with ⟨x,_⟩ | ⟨_,_,x⟩
      ·cases x
      ·rw [up] at x
       have k0:=cf.2.2.1.1;rcases x with ⟨i,m,m1,m2⟩ | ⟨m,m1,m2⟩
       ·have:m=0:=m1.one (LvN.nil (lv i))
        omega
       ·have:m=0:=m1.one (LvN.nil (lv 0))
        omega
     ·rcases b with ⟨_,_,x,_⟩ | ⟨x,_⟩
      ·rw [up] at x
       exact ⟨e,x.one (LvN.nil (lv 0))⟩
      ·cases x
def NewT (HR:HRt) (w w':World) (ex:Ending) (eps buf keys:Int):Prop :=
 (¬ CfgOk eps buf keys/\ex=.returned (.tuple #[.pointer none,.int .i64 160]))\/(CfgOk eps buf keys/\∃ p F,ex=.returned (.tuple #[.pointer (some ⟨p,0,none⟩),.int .i64 0])/\HT HR w' p F eps buf keys [] (List.replicate 40 none) 0 0 0/\∀ q,F q->w.heap.size<=q)
theorem new16 {HR:HRt} (H:RunC HR) (eps buf keys:Int) (w:World) :
  Calls prog 11 #[.agg #[.int .i64 eps,.int .i64 buf,.int .i64 keys]] w fun e w'=>NewT HR w w' e eps buf keys/\Gw w w':=by
 have OF:Hid (∀ W,Gw w W->Calls prog 23 #[.agg #[.int .i64 eps,.int .i64 buf,.int .i64 keys],.slice none 0 0,.slice none 0 0] W fun e w'=>((¬ CfgOk eps buf keys/\e=.returned (.tuple #[.pointer none,.int .i64 160]))\/(CfgOk eps buf keys/\∃ p F,e=.returned (.tuple #[.pointer (some ⟨p,0,none⟩),.int .i64 0])/\HT HR w' p F eps buf keys [] (List.replicate 40 none) 0 0 0/\∀ q,F q->w.heap.size<=q))/\Gw W w'):=fun W gg=>(of16 H eps buf keys none none 0 0 [] [] (by decide) (by decide) (by decide) (by decide) (fun _=>⟨rfl,rfl⟩) W ⟨fun h=>by simp at h,fun i hi=>by simp at hi⟩ ⟨fun h=>by simp at h,fun r hr=>by cases hr⟩).mono fun e w' ⟨⟨E,n,h1,h2⟩,g⟩=>by
  refine ⟨?_,g⟩;by_cases cf:CfgOk eps buf keys
  ·obtain ⟨rfl,rfl⟩:=ofR_new h1 cf
   rcases h2 with ⟨x,_⟩ | ⟨_,p,F,x1,x2,x3⟩
   ·exact absurd rfl x
   ·exact .inr ⟨cf,p,F,x1,x2,fun q hq=>Nat.le_trans gg.size (x3 q hq)⟩
  ·have eE:E=160:=by
    rcases h1 with ⟨_,x⟩ | ⟨x,_⟩
    ·exact x
    ·exact absurd x cf
   subst eE;rcases h2 with ⟨_,x⟩ | ⟨x,_⟩
   ·exact .inl ⟨cf,x⟩
   ·exact absurd x (by decide)
 clear H;go_enter func11,ntmps11;go_wp2_with fail;refine Calls.mono (OF.out _ ((Gw.refl w).alloc _ _)) ?_;rintro e w1 ⟨h,gg⟩;have GG:Aside (Gw w w1):=((Gw.refl w).alloc _ _).trans gg;clear gg OF;rcases h with ⟨cf,rfl⟩ | ⟨cf,p,F,rfl,ht,hF⟩
 ·have RES:Hid (NewT HR w w1 (.returned (.tuple #[.pointer none,.int .i64 160])) eps buf keys):=.inl ⟨cf,rfl⟩
  clear cf;go_wp2_with fail;go_ret2;exact ⟨RES.out,GG.out⟩
 ·have RES:Hid (NewT HR w w1 (.returned (.tuple #[.pointer (some ⟨p,0,none⟩),.int .i64 0])) eps buf keys):=.inr ⟨cf,p,F,rfl,ht,hF⟩
  clear cf ht hF;go_wp2_with fail;go_ret2;exact ⟨RES.out,GG.out⟩
structure Tw (HR:HRt) (w0 w:World) (p:Nat) (F:Nat->Prop) (eps buf keys:Int) (l:List Ent) (rs:List (Option Rn)) (B W:Int) (live:Nat):Prop where
 ht:HT HR w p F eps buf keys l rs B W live
 new:∀ q,F q->w0.heap.size<=q
 gw:Gw w0 w
section
variable {HR:HRt} {w0 w w':World} {p:Nat} {F:Nat->Prop} {eps buf keys:Int} {l l':List Ent} {rs rs':List (Option Rn)} {B W B' W':Int} {live n:Nat} {e:Ent}
theorem Tw.to (K:Kp HR) (h:Tw HR w0 w p F eps buf keys l rs B W live) (g:Gw w w'):Tw HR w0 w' p F eps buf keys l rs B W live:=⟨h.ht.gw K g,h.new,h.gw.trans g⟩
theorem Tw.step (h:Tw HR w0 w p F eps buf keys l rs B W live) (c:ChOut HR w w' p F eps buf keys l rs B W e n):∃ F' l' rs' B' W',Tw HR w0 w' p F' eps buf keys l' rs' B' W' n/\LayR HR w w' eps buf l rs B W l' rs' B' W' e/\NewF w F F' rs rs'/\Gx F w w':=by
 obtain ⟨F',l',rs',B',W',a,b,c,d⟩:=c;refine ⟨F',l',rs',B',W',⟨a,fun q hq=>?_,Gx.gw h.gw d h.new⟩,b,c,d⟩
 rcases c.1 q hq with x | x
 ·exact h.new q x
 ·exact Nat.le_trans h.gw.size x
theorem LayR.val (ok:EOk l) (hr:∀ r,some r∈rs->EOk r.l) (oke:¬ (e.g=true/\e.v≠0)) (h:LayR HR w w' eps buf l rs B W l' rs' B' W' e) (q:Int):valE l' rs' q=if e.k=q then valO (some e) else valE l rs q:=by
 have a:valE (ins Ent.k e l) rs q=if e.k=q then valO (some e) else valE l rs q:=by
  unfold valE;rw [newE_ins ok.rise];split<;>rfl
 rcases h with ⟨_,rfl,rfl,_,_⟩ | ⟨_,rfl,o,kept,rn,tr,ld,rfl,_⟩
 ·exact a
 ·rw [laid_val (ok_ins ok oke) hr tr ld q]
  exact a
theorem LayR.tot (ok:EOk l) (h:LayR HR w w' eps buf l rs B W l' rs' B' W' e):l'.length+Go.Proofs.YtemijdhemdhclaaGreat.tot rs'<=l.length+Go.Proofs.YtemijdhemdhclaaGreat.tot rs+1:=by
 have a:=ins_len (x:=e) ok.rise;rcases h with ⟨_,rfl,rfl,_,_⟩ | ⟨_,rfl,o,kept,rn,tr,ld,rfl,_⟩
 ·omega
 ·have:=laid_tot tr ld
  simp only [List.length_nil];omega
theorem LayR.bw (ok:EOk l) (h:LayR HR w w' eps buf l rs B W l' rs' B' W' e):B<=B'/\B'<=B+1/\W<=W'/\W'<=W+(l.length+Go.Proofs.YtemijdhemdhclaaGreat.tot rs+1:Nat):=by
 have a:=ins_len (x:=e) ok.rise;rcases h with ⟨_,rfl,rfl,rfl,rfl⟩ | ⟨_,rfl,o,kept,rn,tr,ld,rfl,rfl,rfl⟩
 ·omega
 ·have k:=tr.few.1
  have t:=tot_take rs (freeC rs+1);have o1:0<=one15 kept/\one15 kept<=1:=by unfold one15;split<;>decide
  unfold took at k;omega
end
structure BW (l:List Ent) (rs:List (Option Rn)) (B W:Int) (t:Nat):Prop where
 few:l.length+tot rs<=t
 b:0<=B/\B<=t
 w:0<=W/\W<=(t:Int)*2000000
theorem BW.step {HR:HRt} {w w':World} {eps buf:Int} {l l':List Ent} {rs rs':List (Option Rn)} {B W B' W':Int} {e:Ent} {t:Nat} (h:BW l rs B W t) (ht:t+1<=2000000) (ok:EOk l) (c:LayR HR w w' eps buf l rs B W l' rs' B' W' e):BW l' rs' B' W' (t+1):=by
 have a:=c.tot ok;obtain ⟨b1,b2,b3,b4⟩:=c.bw ok;obtain ⟨c1,c2⟩:=h.b;obtain ⟨d1,d2⟩:=h.w;have f:=h.few;exact ⟨by omega,⟨by omega,by omega⟩,⟨by omega,by push_cast;omega⟩⟩
theorem BW.new:BW [] (List.replicate 40 none) 0 0 0:=⟨by decide,by decide,by decide⟩
theorem BW.in {l:List Ent} {rs:List (Option Rn)} {B W:Int} {t:Nat} (h:BW l rs B W t) (ht:t<=1048576):(l.length+1+tot rs<=2000000)/\(0<=B/\B<4611686018427387904)/\0<=W/\W<4611686018427387904:=by
 obtain ⟨a,b,c⟩:=h;omega
theorem BW.mono {l:List Ent} {rs:List (Option Rn)} {B W:Int} {t t':Nat} (h:BW l rs B W t) (ht:t<=t'):BW l rs B W t':=by
 obtain ⟨a,b,c⟩:=h;exact ⟨by omega,⟨b.1,by omega⟩,c.1,by omega⟩
def opE (x:Int×Int×Int):Ent:=if kindV x.1<4 then ⟨x.2.1,x.2.2,false⟩ else ⟨x.2.1,0,true⟩
def chB (x:Int×Int×Int) (keys:Int) (l:List Ent) (rs:List (Option Rn)) (live:Nat):Bool:=if kindV x.1<4 then decide (¬ (valE l rs x.2.1=none/\(live:Int)=keys)) else (valE l rs x.2.1).isSome
theorem opE_ok (x:Int×Int×Int):¬ ((opE x).g=true/\(opE x).v≠0):=by unfold opE;split<;>simp
theorem change16 {HR:HRt} (H:RunC HR) {w:World} {p:Nat} {F:Nat->Prop} {eps buf keys:Int} {l:List Ent} {rs:List (Option Rn)} {B W_:Int} {live:Nat} (h:HT HR w p F eps buf keys l rs B W_ live) (few:l.length+1+tot rs<=2000000) (hB:0<=B/\B<4611686018427387904) (hW:0<=W_/\W_<4611686018427387904) (x:Int×Int×Int) (x0:-9223372036854775808<=x.1/\x.1<9223372036854775808) (x1:0<=x.2.1/\x.2.1<18446744073709551616) (x2:0<=x.2.2/\x.2.2<18446744073709551616) :
  Calls prog 22 #[.pointer (some ⟨p,0,none⟩),.agg #[.int .i64 x.1,.int .u64 x.2.1,.int .u64 x.2.2]] w fun ex w'=>ex=.returned (.bool (chB x keys l rs live))/\((chB x keys l rs live=false/\Gw w w')\/(chB x keys l rs live=true/\∃ n,ChOut HR w w' p F eps buf keys l rs B W_ (opE x) n)):=by
 obtain ⟨kn,ky,vl⟩:=x;simp only at x0 x1 x2 ⊢;have KD:Hid (∀ W,Calls prog 14 #[.int .i64 kn] W fun e w'=>e=.returned (.int .i64 (kindV kn))/\w'=W):=fun W=>kind16 kn x0.1 x0.2 W
 obtain ⟨ob,hob⟩:∃ b,w.heap.size=b:=⟨_,rfl⟩;have OBQ:Aside (w.heap.size=ob):=hob;have G0:Aside (Gw w (w.alloc (.cells #[.int .i64 kn,.int .u64 ky,.int .u64 vl] 38))):=(Gw.refl w).alloc _ _;have OB:Aside ((w.alloc (.cells #[.int .i64 kn,.int .u64 ky,.int .u64 vl] 38)).heap[ob]?=some (.cells #[.int .i64 kn,.int .u64 ky,.int .u64 vl] 38 (0,0))):=by rw [<-hob];exact heap_alloc_new _ _
 have CHO:Aside (∀ w1 w' e n,Gw w w1->ChOut HR w1 w' p F eps buf keys l rs B W_ e n->ChOut HR w w' p F eps buf keys l rs B W_ e n):=fun w1 w' e n g c=>by
  obtain ⟨F',l',rs',B',W',a,b,c,d⟩:=c;refine ⟨F',l',rs',B',W',a,?_,⟨fun q hq=>(c.1 q hq).imp id (fun y=>Nat.le_trans g.size y),fun r hr=>(c.2 r hr).imp id (fun y q hq=>Nat.le_trans g.size (y q hq))⟩,(g.gx F).trans d (fun q hq=>.inl hq)⟩
  rcases b with y | ⟨y1,y2,o,kept,rn,z1,z2,z3⟩
  ·exact .inl y
  ·refine .inr ⟨y1,y2,o,kept,rn,z1,?_,z3⟩
   rcases z2 with z | ⟨a,r,b1,b2,b3,b4,b5,b6⟩
   ·exact .inl z
   ·exact .inr ⟨a,r,b1,b2,b3,b4,fun q hq=>Nat.le_trans g.size (b5 q hq),b6⟩
 by_cases hk:kindV kn<4
 ·have kd:decide (kindV kn<4)=true:=by simpa using hk
  have EE:opE (kn,ky,vl)=⟨ky,vl,false⟩:=if_pos hk;have CC:chB (kn,ky,vl) keys l rs live=decide (¬ (valE l rs ky=none/\(live:Int)=keys)):=if_pos hk;rw [EE,CC];have PC:Hid (∀ W,Gw w W->Calls prog 15 #[.pointer (some ⟨p,0,none⟩),.int .u64 ky,.int .u64 vl] W fun e w'=>PutT HR W w' e p F eps buf keys l rs B W_ live ky vl):=fun W g=>tput16 H (h.gw H.kp g) few hB hW ky vl x1 x2
  clear EE CC hk h H;go_enter func22,ntmps22;go_upto_region 1 with fail
  try rw [OBQ.out]
  generalize w.alloc (.cells #[.int .i64 kn,.int .u64 ky,.int .u64 vl] 38)=w1 at G0 OB ⊢;have z0:w1.cell? ⟨ob,0,none⟩=some (.int .i64 kn):=blkc OB.out rfl;have z1:w1.cell? ⟨ob,1,none⟩=some (.int .u64 ky):=blkc OB.out rfl;have z2:w1.cell? ⟨ob,2,none⟩=some (.int .u64 vl):=blkc OB.out rfl;have zl:=blkl OB.out;clear hob;go_wp2_with fail;refine Calls.mono (KD.out w1) ?_;rintro e ux ⟨rfl,hux⟩;have hux2:=hux.symm;subst hux2;clear hux;go_wp2_with fail;refine Calls.mono (PC.out w1 G0.out) ?_;intro e w2 hp;rcases hp with ⟨y,rfl,g⟩ | ⟨y,rfl,ch⟩
  ·have R:Hid (Ending.returned (.bool false)=.returned (.bool (decide (¬ (valE l rs ky=none/\(live:Int)=keys))))/\((decide (¬ (valE l rs ky=none/\(live:Int)=keys))=false/\Gw w w2)\/(decide (¬ (valE l rs ky=none/\(live:Int)=keys))=true/\∃ n,ChOut HR w w2 p F eps buf keys l rs B W_ ⟨ky,vl,false⟩ n))):=by
    have d:decide (¬ (valE l rs ky=none/\(live:Int)=keys))=false:=by simpa using y
    rw [d];exact ⟨rfl,.inl ⟨rfl,G0.out.trans g⟩⟩
   clear y g;go_wp2_with fail;go_ret;exact R.out
  ·have R:Hid (Ending.returned (.bool true)=.returned (.bool (decide (¬ (valE l rs ky=none/\(live:Int)=keys))))/\((decide (¬ (valE l rs ky=none/\(live:Int)=keys))=false/\Gw w w2)\/(decide (¬ (valE l rs ky=none/\(live:Int)=keys))=true/\∃ n,ChOut HR w w2 p F eps buf keys l rs B W_ ⟨ky,vl,false⟩ n))):=by
    have d:decide (¬ (valE l rs ky=none/\(live:Int)=keys))=true:=decide_eq_true y;rw [d];exact ⟨rfl,.inr ⟨rfl,_,CHO.out w1 w2 _ _ G0.out ch⟩⟩
   clear y ch;go_wp2_with fail;go_ret;exact R.out
 ·have kd:decide (kindV kn<4)=false:=by simpa using hk
  have EE:opE (kn,ky,vl)=⟨ky,0,true⟩:=if_neg hk;have CC:chB (kn,ky,vl) keys l rs live=(valE l rs ky).isSome:=if_neg hk;rw [EE,CC];have PC:Hid (∀ W,Gw w W->Calls prog 17 #[.pointer (some ⟨p,0,none⟩),.int .u64 ky] W fun e w'=>DelT HR W w' e p F eps buf keys l rs B W_ live ky):=fun W g=>tdel16 H (h.gw H.kp g) few hB hW ky x1
  clear EE CC hk h H;go_enter func22,ntmps22;go_upto_region 1 with fail
  try rw [OBQ.out]
  generalize w.alloc (.cells #[.int .i64 kn,.int .u64 ky,.int .u64 vl] 38)=w1 at G0 OB ⊢;have z0:w1.cell? ⟨ob,0,none⟩=some (.int .i64 kn):=blkc OB.out rfl;have z1:w1.cell? ⟨ob,1,none⟩=some (.int .u64 ky):=blkc OB.out rfl;have zl:=blkl OB.out;clear hob;go_wp2_with fail;refine Calls.mono (KD.out w1) ?_;rintro e ux ⟨rfl,hux⟩;have hux2:=hux.symm;subst hux2;clear hux;go_wp2_with fail;refine Calls.mono (PC.out w1 G0.out) ?_;intro e w2 hp;rcases hp with ⟨y,rfl,g⟩ | ⟨y,rfl,_,ch⟩
  ·have R:Hid (Ending.returned (.bool false)=.returned (.bool (valE l rs ky).isSome)/\(((valE l rs ky).isSome=false/\Gw w w2)\/((valE l rs ky).isSome=true/\∃ n,ChOut HR w w2 p F eps buf keys l rs B W_ ⟨ky,0,true⟩ n))):=by
    rw [y];exact ⟨rfl,.inl ⟨rfl,G0.out.trans g⟩⟩
   clear y g;go_wp2_with fail;go_ret;exact R.out
  ·have R:Hid (Ending.returned (.bool true)=.returned (.bool (valE l rs ky).isSome)/\(((valE l rs ky).isSome=false/\Gw w w2)\/((valE l rs ky).isSome=true/\∃ n,ChOut HR w w2 p F eps buf keys l rs B W_ ⟨ky,0,true⟩ n))):=by
    have d:(valE l rs ky).isSome=true:=Option.isSome_iff_ne_none.2 y;rw [d];exact ⟨rfl,.inr ⟨rfl,_,CHO.out w1 w2 _ _ G0.out ch⟩⟩
   clear y ch;go_wp2_with fail;go_ret;exact R.out
structure T2 (HR:HRt) (w u:World) (p:Nat) (F:Nat->Prop) (eps buf keys:Int) (l:List Ent) (rs:List (Option Rn)) (B W:Int) (live:Nat) (q:Nat) (G:Nat->Prop) (l':List Ent) (rs':List (Option Rn)) (B' W':Int) (live':Nat):Prop where
 x:Tw HR w u p F eps buf keys l rs B W live
 y:Tw HR w u q G eps buf keys l' rs' B' W' live'
 fg:∀ b,F b->¬ G b
 xg:∀ r,some r∈rs->∀ b,G b->¬ r.S b
 yf:∀ r,some r∈rs'->∀ b,F b->¬ r.S b
section
variable {HR:HRt} {w u u':World} {p q:Nat} {F G:Nat->Prop} {eps buf keys:Int} {l l':List Ent} {rs rs':List (Option Rn)} {B W B' W':Int} {live live' n:Nat} {e:Ent}
theorem T2.swap (h:T2 HR w u p F eps buf keys l rs B W live q G l' rs' B' W' live'):T2 HR w u q G eps buf keys l' rs' B' W' live' p F l rs B W live:=⟨h.y,h.x,fun b a c=>h.fg b c a,h.yf,h.xg⟩
theorem T2.to (K:Kp HR) (h:T2 HR w u p F eps buf keys l rs B W live q G l' rs' B' W' live') (g:Gw u u'):T2 HR w u' p F eps buf keys l rs B W live q G l' rs' B' W' live':=⟨h.x.to K g,h.y.to K g,h.fg,h.xg,h.yf⟩
theorem T2.first (K:Kp HR) (h:T2 HR w u p F eps buf keys l rs B W live q G l' rs' B' W' live') (c:ChOut HR u u' p F eps buf keys l rs B W e n):∃ F1 l1 rs1 B1 W1,T2 HR w u' p F1 eps buf keys l1 rs1 B1 W1 n q G l' rs' B' W' live'/\LayR HR u u' eps buf l rs B W l1 rs1 B1 W1 e:=by
 obtain ⟨F1,l1,rs1,B1,W1,a,b,c,d⟩:=h.x.step c;refine ⟨F1,l1,rs1,B1,W1,⟨a,⟨h.y.ht.gx K d (fun z hf hg=>h.fg z hf hg) (fun z hf r hr hx=>h.yf r hr z hf hx),h.y.new,a.gw⟩,fun z hf hg=>?_,fun r hr z hg hx=>?_,fun r hr z hf hx=>?_⟩,b⟩
 ·rcases c.1 z hf with y | y
  ·exact h.fg z y hg
  ·have:=h.y.ht.lt K z (.inl hg);omega
 ·rcases c.2 r hr with y | y
  ·exact h.xg r y z hg hx
  ·have:=y z hx;have:=h.y.ht.lt K z (.inl hg);omega
 ·rcases c.1 z hf with y | y
  ·exact h.yf r hr z y hx
  ·have:=h.y.ht.lt K z (.inr ⟨r,hr,hx⟩);omega
end
def op0:Int×Int×Int:=(0,0,0)
def op3 (e:Int×Int×Int):List Value:=[.int .i64 e.1,.int .u64 e.2.1,.int .u64 e.2.2]
theorem info_o16:(prog.info? 38).map (fun i=>(i.zero,i.size,i.bytes))=some (some (.agg #[.int .i64 0,.int .u64 0,.int .u64 0]),3,24):=by kernel_rfl
theorem flat_leno (l:List (Int×Int×Int)):(l.flatMap op3).length=l.length*3:=by
 induction l with
 | nil=>rfl
 | cons s l ih=>rw [List.flatMap_cons,List.length_append,ih];simp [op3];omega
theorem op3_one (e:(Int×Int×Int)):∀ u∈op3 e,u.oneCell'=true:=by
 intro u hu;simp only [op3,List.mem_cons,List.not_mem_nil,or_false] at hu;rcases hu with rfl | rfl | rfl<;>rfl
def OO (w:World) (base:Nat) (v:Value) (l:List (Int×Int×Int)):Prop:=w.ownsRow base 38 3 v l.length (l.flatMap op3)
theorem oo_keep {w w':World} {base:Nat} {v:Value} {l:List (Int×Int×Int)} (h:OO w base v l) (k:∀ q,v.ownBlock=some q->w'.heap[q]?=w.heap[q]?):OO w' base v l:=by
 refine ⟨h.1,?_⟩;rcases h.2 with q | ⟨b,cap,cur,rfl,hb,hh,r⟩
 ·exact .inl q
 ·exact .inr ⟨b,cap,cur,rfl,hb,(k b rfl).trans hh,r⟩
theorem oo_gw {w w':World} {base:Nat} {v:Value} {l:List (Int×Int×Int)} (h:OO w base v l) (g:Gw w w'):OO w' base v l:=oo_keep h fun q hq=>g.below.block q (World.ownsRow.lt h q hq).2
theorem flat_o16:∀ (l:List (Int×Int×Int)) (i:Nat),i<l.length->∀ j,j<3->(l.flatMap op3)[i*3+j]?=(op3 (l.getD i op0))[j]?:=by
 intro l;induction l with
 | nil=>intro i hi;simp at hi
 | cons s l ih =>
  intro i hi j hj;rw [List.flatMap_cons];cases i with
  | zero =>
   rw [Nat.zero_mul,Nat.zero_add,List.getElem?_append_left (by show j<3;exact hj)]
   rfl
  | succ i =>
   have e:(i+1)*3+j=i*3+j+3:=by omega
   rw [e,List.getElem?_append_right (by show 3<=_;omega),show i*3+j+3-(op3 s).length=i*3+j by show i*3+j+3-3=_;omega]
   exact ih i (by simpa using hi) j hj
theorem new_op16 (w:World) (e:(Int×Int×Int)):∀ j u,(op3 e)[j]?=some u->(w.alloc (.cells #[.int .i64 e.1,.int .u64 e.2.1,.int .u64 e.2.2] 38)).cell? ((⟨w.heap.size,0,none⟩:Addr).add j)=some u:=by
 intro j u hu
 match j,hu with
 | 0,hu=>simp [op3] at hu;subst hu;simp [Addr.add,go_sem]
 | 1,hu=>simp [op3] at hu;subst hu;simp [Addr.add,go_sem]
 | 2,hu=>simp [op3] at hu;subst hu;simp [Addr.add,go_sem]
 | j+3,hu=>simp [op3] at hu
theorem oo_new (w:World) (base:Nat) (hb:base<=w.heap.size):OO (w.alloc (.cells #[] 38)) base (.slice (some ⟨w.heap.size,0,none⟩) 0 0) []:=World.ownsRow_made w #[] 0 hb (Nat.zero_le _) rfl
theorem oo_more {w:World} {base:Nat} {v:Value} {l:List (Int×Int×Int)} {e:(Int×Int×Int)} (h:w.ownsRow base 38 3 v (l.length+1) (l.flatMap op3++op3 e)):OO w base v (l++[e]):=by
 show World.ownsRow _ _ _ _ _ _ _;rw [List.length_append,List.flatMap_append];simpa using h
theorem flat_seto:∀ (l:List (Int×Int×Int)) (k:Nat) (s:(Int×Int×Int)),k<l.length->(((l.flatMap op3).set (k*3) (.int .i64 s.1)).set (k*3+1) (.int .u64 s.2.1)).set (k*3+2) (.int .u64 s.2.2)=(l.set k s).flatMap op3:=by
 intro l;induction l with
 | nil=>intro k s hk;simp at hk
 | cons t l ih =>
  intro k s hk;cases k with
  | zero=>simp [op3]
  | succ k =>
   have:=ih k s (by simpa using hk)
   rw [List.set_cons_succ,List.flatMap_cons,List.flatMap_cons,<-this];have e:∀ r,(k+1)*3+r=k*3+r+3:=fun r=>by omega
   have e0:(k+1)*3=k*3+3:=by omega
   rw [e 1,e 2,e0];simp [op3]
def put3o16 (w:World) (g o:Nat) (s:(Int×Int×Int)):World:=((w.setCell ⟨g,o,none⟩ (.int .i64 s.1)).setCell ⟨g,o+1,none⟩ (.int .u64 s.2.1)).setCell ⟨g,o+2,none⟩ (.int .u64 s.2.2)
theorem oo_put {w:World} {base g cap k n:Nat} {l:List (Int×Int×Int)} (h:OO w base (.slice (some ⟨g,0,none⟩) n cap) l) (hn:l.length=n) (hk:k<l.length) (s:(Int×Int×Int)):OO (put3o16 w g (k*3) s) base (.slice (some ⟨g,0,none⟩) n cap) (l.set k s):=by
 subst hn;have h':w.ownsRow base 38 3 (.slice (some ⟨g,0,none⟩) l.length cap) l.length (l.flatMap op3):=h;have r:=(((h'.stored (k*3) (.int .i64 s.1)).1.stored (k*3+1) (.int .u64 s.2.1)).1.stored (k*3+2) (.int .u64 s.2.2)).1;rw [flat_seto l k s hk] at r;show World.ownsRow _ _ _ _ _ _ _;rw [List.length_set];exact r
theorem oo_form {w:World} {base:Nat} {bo:Option Addr} {n c:Nat} {l:List (Int×Int×Int)} (h:OO w base (.slice bo n c) l) (hn:l.length=n) (h0:0<n):∃ b,bo=some ⟨b,0,none⟩/\base<=b/\b<w.heap.size/\(∀ i,w.frozen? ⟨b,i,none⟩=false)/\∀ i,i<n->w.cell? ⟨b,i*3,none⟩=some (.int .i64 (l.getD i op0).1)/\w.cell? ⟨b,i*3+1,none⟩=some (.int .u64 (l.getD i op0).2.1)/\w.cell? ⟨b,i*3+2,none⟩=some (.int .u64 (l.getD i op0).2.2):=by
 subst hn;rcases h.2 with ⟨_,z⟩ | ⟨b,cap,cur,e,hb,hh,r⟩
 ·omega
 ·injection e with e1 e2 e3
  subst e1 e3;have c':∀ i,i<l.length->∀ j,j<3->w.cell? ⟨b,i*3+j,none⟩=(op3 (l.getD i op0))[j]?:=fun i hi j hj=>by
   have:=World.ownsRow.cellAt h (i*3+j) (by omega)
   rw [this];exact flat_o16 l i hi j hj
  exact ⟨b,rfl,hb,(Array.getElem?_eq_some_iff.1 hh).1,fun i=>by simp [World.frozen?,hh],fun i hi=>⟨c' i hi 0 (by decide),c' i hi 1 (by decide),c' i hi 2 (by decide)⟩⟩
theorem oo_row {w:World} {base:Nat} {v:Value} {l:List (Int×Int×Int)} {n:Nat} (h:OO w base v l) (hn:l.length=n):w.ownsRow base 38 3 v n (l.flatMap op3):=by
 have:=h
 unfold OO at this;rw [hn] at this;exact this
def swpO (t:List (Int×Int×Int)) (i j:Nat):List (Int×Int×Int):=(t.set i (t.getD j op0)).set j (t.getD i op0)
theorem swpO_len (t:List (Int×Int×Int)) (i j:Nat):(swpO t i j).length=t.length:=by simp [swpO]
theorem swpO_perm (t:List (Int×Int×Int)) {i j:Nat} (hi:i<t.length) (hj:j<t.length):(swpO t i j).Perm t:=by
 unfold swpO;have e1:t.getD i op0=t[i]:=by simp [List.getD,hi]
 have e2:t.getD j op0=t[j]:=by simp [List.getD,hj]
 rw [e1,e2];exact List.set_set_perm hi hj
theorem flat_oneso (l:List (Int×Int×Int)):∀ u∈l.flatMap op3,u.oneCell'=true:=fun u hu=>by
 obtain ⟨e,_,he⟩:=List.mem_flatMap.1 hu;exact op3_one e u he
def UqO (l:List (Int×Int×Int)):Prop:=l.Pairwise fun a b=>a.2.1≠b.2.1
def hasO (k:Int) (l:List (Int×Int×Int)):Bool:=l.any fun e=>e.2.1 == k
theorem hasO_snoc (k:Int) (l:List (Int×Int×Int)) (e:Int×Int×Int):hasO k (l++[e])=(hasO k l||e.2.1 == k):=by simp [hasO]
theorem hasO_not {k:Int} {l:List (Int×Int×Int)} (h:hasO k l=false):∀ y∈l,y.2.1≠k:=by
 intro y hy e;unfold hasO at h;rw [List.any_eq_false] at h;exact h y hy (by simpa using e)
theorem UqO.snoc {l:List (Int×Int×Int)} {x:Int×Int×Int} (h:UqO l) (n:∀ y∈l,y.2.1≠x.2.1):UqO (l++[x]):=by
 unfold UqO at h ⊢;rw [List.pairwise_append];exact ⟨h,List.pairwise_singleton _ _,fun a ha b hb=>by rw [List.mem_singleton.1 hb];exact n a ha⟩
theorem UqO.perm {l l':List (Int×Int×Int)} (h:UqO l) (p:l'.Perm l):UqO l':=(p.pairwise_iff (fun {a b} q=>q.symm)).2 h
def opV (l:List (Int×Int×Int)) (q:Int):Option Int:=match l.find? (fun e=>e.2.1 == q) with
 | some x=>if kindV x.1<4 then some x.2.2 else none
 | none=>none
theorem find_uq {l:List (Int×Int×Int)} (h:UqO l) {x:Int×Int×Int} (hx:x∈l):l.find? (fun e=>e.2.1 == x.2.1)=some x:=by
 induction l with
 | nil=>cases hx
 | cons y l ih =>
  obtain ⟨h1,h2⟩:=List.pairwise_cons.1 h;rw [List.find?_cons];rcases List.mem_cons.1 hx with rfl | q
  ·simp
  ·have:=h1 x q
   rw [show (y.2.1 == x.2.1)=false by simpa using this]
   exact ih h2 q
theorem find_perm {l l':List (Int×Int×Int)} (h:UqO l) (p:l'.Perm l) (q:Int):l'.find? (fun e=>e.2.1 == q)=l.find? (fun e=>e.2.1 == q):=by
 cases c:l.find? (fun e=>e.2.1 == q) with
 | some x =>
  have hx:=List.mem_of_find?_eq_some c;have hk:x.2.1=q:=by have:=List.find?_some c;simpa using this
  rw [<-hk];exact find_uq (h.perm p) (p.mem_iff.2 hx)
 | none =>
  rw [List.find?_eq_none] at c ⊢;exact fun x hx=>c x (p.mem_iff.1 hx)
theorem opV_perm {l l':List (Int×Int×Int)} (h:UqO l) (p:l'.Perm l) (q:Int):opV l' q=opV l q:=by unfold opV;rw [find_perm h p]
theorem opV_snoc {l:List (Int×Int×Int)} {x:Int×Int×Int} (n:∀ y∈l,y.2.1≠x.2.1) (q:Int):opV (l++[x]) q=if x.2.1=q then (if kindV x.1<4 then some x.2.2 else none) else opV l q:=by
 unfold opV;rw [List.find?_append];by_cases e:x.2.1=q
 ·have:l.find? (fun e=>e.2.1 == q)=none:=by
   rw [List.find?_eq_none];intro y hy;have:=n y hy;simp;omega
  rw [this,if_pos e];simp [e]
 ·rw [if_neg e]
  simp [e]
theorem opV_none {l:List (Int×Int×Int)} {k:Int} (n:∀ y∈l,y.2.1≠k):opV l k=none:=by
 unfold opV;have:l.find? (fun e=>e.2.1 == k)=none:=by
  rw [List.find?_eq_none];intro y hy;have:=n y hy;simp;omega
 rw [this]
theorem opV_few {l:List Ent} {rs:List (Option Rn)} {live:Nat} {os:List (Int×Int×Int)} (h:LvN (liveE l rs) live) (eq:∀ q,valE l rs q=opV os q):live<=os.length:=by
 obtain ⟨ks,k1,k2,k3⟩:=h;have:=len_sub (b:=os.map fun x=>x.2.1) k1 fun x hx=>by
  have a:=(k2 x).1 hx;rw [<-valE_live,eq] at a;unfold opV at a;cases c:os.find? (fun e=>e.2.1 == x) with
  | none=>rw [c] at a;cases a
  | some y =>
   have hy:y.2.1=x:=by have:=List.find?_some c;simpa using this
   exact List.mem_map.2 ⟨y,List.mem_of_find?_eq_some c,hy⟩
 rw [List.length_map] at this;omega
def sh1:Ent:=⟨1,10,false⟩
def sh2:Ent:=⟨2,20,false⟩
def sh3:Ent:=⟨3,30,false⟩
def sh4:Ent:=⟨4,40,false⟩
def shL:Nat->List Ent
 | 0=>[]
 | 1=>[sh1]
 | 2=>[sh1,sh2]
 | _=>[sh1,sh2,sh3]
def ShT (m:Nat) (l:List Ent) (rs:List (Option Rn)) (B W:Int):Prop :=
 (m<=3/\l=shL m/\rs=List.replicate 40 none/\B=0/\W=0)\/(m=4/\l=[]/\(∃ r,rs=some r::List.replicate 39 none/\r.l=[sh1,sh2,sh3,sh4])/\B=1/\W=4)
theorem nw_no (n:Nat) (q:Int):nw q (List.replicate n none)=none:=by
 have:=nw_rep q n []
 rw [List.append_nil] at this;rw [this];rfl
theorem shT_no {m:Nat} {l:List Ent} {rs:List (Option Rn)} {B W:Int} (hm:m<4) (h:ShT m l rs B W):valE l rs ((m:Int)+1)=none:=by
 rcases h with ⟨_,rfl,rfl,_,_⟩ | ⟨x,_⟩
 ·unfold valE newE
  rw [nw_no]
  match m,hm with
  | 0,_=>rfl
  | 1,_=>rfl
  | 2,_=>rfl
  | 3,_=>rfl
 ·omega
theorem shT_step {HR:HRt} {w w':World} {m:Nat} {l l':List Ent} {rs rs':List (Option Rn)} {B W B' W':Int} (hm:m<4) (h:ShT m l rs B W) (c:LayR HR w w' 2 4 l rs B W l' rs' B' W' ⟨(m:Int)+1,10*((m:Int)+1),false⟩):ShT (m+1) l' rs' B' W':=by
 rcases h with ⟨_,rfl,rfl,rfl,rfl⟩ | ⟨x,_⟩
 ·match m,hm with
  | 0,_ =>
   rcases c with ⟨_,rfl,rfl,rfl,rfl⟩ | ⟨x,_⟩
   ·exact .inl ⟨by decide,rfl,rfl,rfl,rfl⟩
   ·exact absurd x (by decide)
  | 1,_ =>
   rcases c with ⟨_,rfl,rfl,rfl,rfl⟩ | ⟨x,_⟩
   ·exact .inl ⟨by decide,rfl,rfl,rfl,rfl⟩
   ·exact absurd x (by decide)
  | 2,_ =>
   rcases c with ⟨_,rfl,rfl,rfl,rfl⟩ | ⟨x,_⟩
   ·exact .inl ⟨by decide,rfl,rfl,rfl,rfl⟩
   ·exact absurd x (by decide)
  | 3,_ =>
   rcases c with ⟨x,_⟩ | ⟨_,rfl,o,kept,rn,tr,ld,rfl,rfl,rfl⟩
   ·exact absurd x (by decide)
   ·have il:ins Ent.k ⟨((3:Nat):Int)+1,10*(((3:Nat):Int)+1),false⟩ (shL 3)=[sh1,sh2,sh3,sh4]:=rfl
    have f0:freeC (List.replicate 40 none)=0:=rfl;have eo:o=[sh1,sh2,sh3,sh4]:=by
     have mg:=tr.mg;rw [il] at mg;refine mg.one (b:=[sh1,sh2,sh3,sh4]) ?_;rw [show lists ((List.replicate 40 (none:Option Rn)).take (freeC (List.replicate 40 none)+1))=[] from rfl];exact ⟨rfl,rfl,rfl,rfl,rfl⟩
    have ek:kept=[sh1,sh2,sh3,sh4]:=by rw [tr.kp,eo];rfl
    rcases ld with ⟨x,_⟩ | ⟨_,r,rfl,_,rl,_⟩
    ·rw [ek] at x;cases x
    ·refine .inr ⟨rfl,rfl,⟨r,rfl,by rw [rl,ek]⟩,?_,?_⟩
     ·rw [ek];rfl
     ·rw [ek];rfl
 ·omega
theorem config16 (w:World):Calls prog 27 #[] w fun e w'=>e=.returned (.agg #[.int .i64 2,.int .i64 4,.int .i64 100])/\Gw w w':=by
 go_enter func27,ntmps27;go_wp2_with fail;exact bodyPost_ret (v:=.agg #[.int .i64 2,.int .i64 4,.int .i64 100]) (by simp [results,results27,go_sem]) rfl ⟨rfl,(Gw.refl w).alloc _ _⟩
theorem shown16 {HR:HRt} (H:RunC HR) (w:World):Calls prog 8 #[] w fun e w'=>e=.returned (.bool true)/\Gw w w':=by
 have HH:Aside (RunC HR):=H;have NW:Hid (∀ W,Gw w W->Calls prog 11 #[.agg #[.int .i64 2,.int .i64 4,.int .i64 100]] W fun e w'=>(∃ p F,e=.returned (.tuple #[.pointer (some ⟨p,0,none⟩),.int .i64 0])/\Tw HR w w' p F 2 4 100 [] (List.replicate 40 none) 0 0 0)/\Gw W w'):=fun W gg=>(new16 H 2 4 100 W).mono fun e w' ⟨h,g⟩=>by
  rcases h with ⟨x,_⟩ | ⟨_,p,F,x1,x2,x3⟩
  ·exact absurd (by unfold CfgOk;decide) x
  ·exact ⟨⟨p,F,x1,x2,fun q hq=>Nat.le_trans gg.size (x3 q hq),gg.trans g⟩,g⟩
 have PU:Hid (∀ (W:World) (p:Nat) (F:Nat->Prop) (l:List Ent) (rs:List (Option Rn)) (B W_:Int) (m:Nat),m<4->Tw HR w W p F 2 4 100 l rs B W_ m->ShT m l rs B W_->Calls prog 15 #[.pointer (some ⟨p,0,none⟩),.int .u64 ((m:Int)+1),.int .u64 (10*((m:Int)+1))] W fun e w'=>e=.returned (.int .i64 0)/\∃ F' l' rs' B' W',Tw HR w w' p F' 2 4 100 l' rs' B' W' (m+1)/\ShT (m+1) l' rs' B' W'):=fun W p F l rs B W_ m hm ht hs=>by
  have bd:(l.length+1+tot rs<=2000000)/\(0<=B/\B<4611686018427387904)/\0<=W_/\W_<4611686018427387904:=by
   rcases hs with ⟨a,rfl,rfl,rfl,rfl⟩ | ⟨a,_⟩
   ·match m,hm with
    | 0,_=>exact ⟨by decide,by decide,by decide⟩
    | 1,_=>exact ⟨by decide,by decide,by decide⟩
    | 2,_=>exact ⟨by decide,by decide,by decide⟩
    | 3,_=>exact ⟨by decide,by decide,by decide⟩
   ·omega
  refine (tput16 HH.out ht.ht bd.1 bd.2.1 bd.2.2 ((m:Int)+1) (10*((m:Int)+1)) (by omega) (by omega)).mono fun e w' h=>?_
  have vn:=shT_no hm hs;rcases h with ⟨⟨_,x⟩,_⟩ | ⟨_,x,y⟩
  ·omega
  ·rw [vn,if_pos rfl] at y
   obtain ⟨F',l',rs',B',W',a,b,_⟩:=ht.step y;exact ⟨x,F',l',rs',B',W',a,shT_step hm hs b⟩
 clear H;go_enter func8,ntmps8;go_wp2_with fail;refine (config16 w).mono ?_;rintro e w1 ⟨rfl,g1⟩;have G1:Aside (Gw w w1):=g1;clear g1;go_wp2_with fail;refine Calls.mono (NW.out w1 G1.out) ?_;rintro e w2 ⟨⟨p,F,rfl,ht⟩,g2⟩;have T2:Aside (∃ F l rs B W,Tw HR w w2 p F 2 4 100 l rs B W 0/\ShT 0 l rs B W):=⟨F,_,_,_,_,ht,.inl ⟨by decide,rfl,rfl,rfl,rfl⟩⟩
 have qn:∀ (W:World),(binOp .eql 27 (.pointer (some ⟨p,0,none⟩)) (.pointer none)).run prog W=.ok (.bool false) W:=fun _=>by kernel_rfl
 clear ht g2 NW G1;go_wp2_with fail;go_loopg [3] 5 (fun gg s3 wr=>∃ m:Nat,s3=.int .u64 ((m:Int)+1)/\m<=4/\4-m<gg/\Aside (∃ F l rs B W,Tw HR w wr p F 2 4 100 l rs B W m/\ShT m l rs B W))
 case atStart=>exact ⟨0,rfl,by omega,by omega,T2⟩
 case round =>
  clear T2;obtain ⟨m,rfl,a1,a2,T⟩:=hrel;by_cases hlt:m<4
  ·have t1:decide ((m:Int)+1<=4)=true:=by simp;omega
   have w1:IntKind.u64.wrap (10*((m:Int)+1))=10*((m:Int)+1):=by rw [IntKind.wrap_u64];omega
   have w2:IntKind.u64.wrap ((m:Int)+1+1)=((m+1:Nat):Int)+1:=by rw [IntKind.wrap_u64];omega
   obtain ⟨F,l,rs,B,W,x1,x2⟩:=T.out;have PC:=PU.out wr p F l rs B W m hlt x1 x2;clear x1 x2 T;go_wp2_with fail;refine Calls.mono PC ?_;rintro e u1 ⟨rfl,hT⟩;have T':Aside (∃ F l rs B W,Tw HR w u1 p F 2 4 100 l rs B W (m+1)/\ShT (m+1) l rs B W):=hT;clear hT PC;go_wp2_with fail;go_roundg (4-m)
   case measure=>omega
   case rel=>exact ⟨m+1,by first | rfl | (rw [w2]) | (congr 1;omega),by omega,by omega,T'⟩
  ·have em:m=4:=by omega
   subst em;obtain ⟨F,l,rs,B,W,x1,x2⟩:=T.out;rcases x2 with ⟨x,_⟩ | ⟨_,rfl,⟨r,rfl,rl⟩,rfl,rfl⟩
   ·exact absurd x (by decide)
   have TW:Aside (Tw HR w wr p F 2 4 100 [] (some r::List.replicate 39 none) 1 4 4):=x1;have RL:Aside (r.l=[sh1,sh2,sh3,sh4]):=rl;have ST:Hid (Calls prog 19 #[.pointer (some ⟨p,0,none⟩)] wr fun e w'=>(∃ b,e=.returned (.agg #[.int .i64 4,.int .i64 0,.int .i64 1,.int .i64 4,.slice (some ⟨b,0,none⟩) 1 1])/\wr.heap.size<=b/\w'.cell? ⟨b,0,none⟩=some (.int .i64 4)/\b<w'.heap.size)/\Gw wr w'):=(tstats16 HH.out x1.ht).mono fun e w' ⟨⟨b,t,e1,sz⟩,g⟩=>by
    have t1:t=1:=sz.top.one ⟨by simp,fun i hi=>by
     rw [List.getD_eq_getElem?_getD];obtain ⟨j,rfl⟩:∃ j,i=j+1:=⟨i-1,by omega⟩
     rw [List.getElem?_cons_succ,List.getElem?_replicate];split<;>rfl,.inr ⟨r,rfl⟩⟩
    subst t1;refine ⟨⟨b,e1,sz.new,?_⟩,g⟩;have c:=sz.row.cell (i:=0) (by decide)
    rw [show ((some r::List.replicate 39 none:List (Option Rn)).getD 0 none)=some r from rfl,show sizeO (some r)=4 by show r.l.length=4;rw [rl];rfl] at c
    exact ⟨c,sz.row.lt⟩
   clear x1 rl T;go_wp2_with fail;refine Calls.mono ST.out ?_;rintro e u1 ⟨⟨b,rfl,nb,hb,hbl⟩,gg⟩;obtain ⟨bs,hbs⟩:∃ x,u1.heap.size=x:=⟨_,rfl⟩;have BS:Aside (u1.heap.size=bs):=hbs;have T1:Aside (Tw HR w (u1.alloc (.cells #[.int .i64 4,.int .i64 0,.int .i64 1,.int .i64 4,.slice (some ⟨b,0,none⟩) 1 1] 52)) p F 2 4 100 [] (some r::List.replicate 39 none) 1 4 4):=TW.out.to HH.out.kp (gg.alloc _ _);have K1:Aside (Bxs wr [(bs,#[.int .i64 4,.int .i64 0,.int .i64 1,.int .i64 4,.slice (some ⟨b,0,none⟩) 1 1],52)] (u1.alloc (.cells #[.int .i64 4,.int .i64 0,.int .i64 1,.int .i64 4,.slice (some ⟨b,0,none⟩) 1 1] 52))/\(u1.alloc (.cells #[.int .i64 4,.int .i64 0,.int .i64 1,.int .i64 4,.slice (some ⟨b,0,none⟩) 1 1] 52)).cell? ⟨b,0,none⟩=some (.int .i64 4)/\wr.heap.size<=b/\b<u1.heap.size):=by
    refine ⟨by rw [<-hbs];exact (Bxs.nil gg).add _ _,?_,nb,hbl⟩
    exact (((Gw.refl u1).alloc _ _).cell _ _ hbl).trans hb
   clear hb nb gg ST hbs;go_upto_region 11 with fail;rw [BS.out];have SZ1:Aside (u1.heap.size<(u1.alloc (.cells #[.int .i64 4,.int .i64 0,.int .i64 1,.int .i64 4,.slice (some ⟨b,0,none⟩) 1 1] 52)).heap.size):=by show _<_;simp
   generalize u1.alloc (.cells #[.int .i64 4,.int .i64 0,.int .i64 1,.int .i64 4,.slice (some ⟨b,0,none⟩) 1 1] 52)=v1 at T1 K1 SZ1 ⊢;have FW:Aside (∀ q,F q->q<wr.heap.size):=fun q hq=>TW.out.ht.lt HH.out.kp q (.inl hq)
   have KK:Aside (∀ v2,Gx F v1 v2->v2.heap[bs]?=some (.cells #[.int .i64 4,.int .i64 0,.int .i64 1,.int .i64 4,.slice (some ⟨b,0,none⟩) 1 1] 52 (0,0))/\v2.cell? ⟨b,0,none⟩=some (.int .i64 4)/\b<v2.heap.size):=fun v2 g=>by
    have k:=K1.out.1.lie (bs,#[.int .i64 4,.int .i64 0,.int .i64 1,.int .i64 4,.slice (some ⟨b,0,none⟩) 1 1],52) (by simp)
    have z:=K1.out.1.gw0.size;have bw:wr.heap.size<=bs:=by rw [<-BS.out];have:=K1.out.2.2;omega
    refine ⟨(g.block bs (blkl k) (fun x=>by have:=FW.out bs x;omega)).trans k,?_,Nat.lt_of_lt_of_le (by have:=SZ1.out;have:=K1.out.2.2.2;omega) g.size⟩
    have e:=g.block b (by have:=SZ1.out;have:=K1.out.2.2.2;omega) (fun x=>by have:=FW.out b x;have:=K1.out.2.2.1;omega)
    have c:=K1.out.2.1;unfold World.cell? at c ⊢;simp only at c ⊢;rw [e];exact c
   have V2:valE [] (some r::List.replicate 39 none) 2=some 20:=by
    unfold valE newE;rw [nw_some,RL.out];rfl
   have DL:Hid (Calls prog 17 #[.pointer (some ⟨p,0,none⟩),.int .u64 2] v1 fun e w'=>e=.returned (.bool true)/\(∃ F',Tw HR w w' p F' 2 4 100 [⟨2,0,true⟩] (some r::List.replicate 39 none) 1 4 3)/\Gx F v1 w'):=(tdel16 HH.out T1.out.ht (by rw [tot_some,RL.out];decide) (by decide) (by decide) 2 (by decide)).mono fun e w' h=>by
    rcases h with ⟨x,_⟩ | ⟨_,x,_,y⟩
    ·rw [V2] at x;cases x
    ·obtain ⟨F',l',rs',B',W',a,b,_,d⟩:=T1.out.step y
     rcases b with ⟨_,rfl,rfl,rfl,rfl⟩ | ⟨z,_⟩
     ·exact ⟨x,⟨F',a⟩,d⟩
     ·exact absurd z (by decide)
   clear V2 K1 T1 TW;go_wp2_with fail;refine Calls.mono DL.out ?_;rintro e v2 ⟨rfl,⟨F2,t2⟩,g2⟩;have T2:Aside (Tw HR w v2 p F2 2 4 100 [⟨2,0,true⟩] (some r::List.replicate 39 none) 1 4 3):=t2;have K2:Aside (v2.heap[bs]?=some (.cells #[.int .i64 4,.int .i64 0,.int .i64 1,.int .i64 4,.slice (some ⟨b,0,none⟩) 1 1] 52 (0,0))/\v2.cell? ⟨b,0,none⟩=some (.int .i64 4)/\b<v2.heap.size):=KK.out v2 g2;have V2:valE [⟨2,0,true⟩] (some r::List.replicate 39 none) 2=none:=by
    unfold valE newE;rw [nw_some,RL.out];rfl
   have V3:valE [⟨2,0,true⟩] (some r::List.replicate 39 none) 3=some 30:=by
    unfold valE newE;rw [nw_some,RL.out];rfl
   have DL2:Hid (Calls prog 17 #[.pointer (some ⟨p,0,none⟩),.int .u64 2] v2 fun e w'=>e=.returned (.bool false)/\Gw v2 w'):=(tdel16 HH.out t2.ht (by rw [tot_some,RL.out];decide) (by decide) (by decide) 2 (by decide)).mono fun e w' h=>by
    rcases h with ⟨_,x,g⟩ | ⟨x,_⟩
    ·exact ⟨x,g⟩
    ·exact absurd V2 x
   have G3:Hid (∀ W,Gw v2 W->Calls prog 13 #[.pointer (some ⟨p,0,none⟩),.int .u64 3] W fun e w'=>e=.returned (.tuple #[.int .u64 30,.bool true])/\Gw W w'):=fun W g=>by
    have:=tget16 HH.out (t2.ht.gw HH.out.kp g) (by decide) 3 (by decide) (by decide)
    rw [V3] at this;exact this
   have G2:Hid (∀ W,Gw v2 W->Calls prog 13 #[.pointer (some ⟨p,0,none⟩),.int .u64 2] W fun e w'=>e=.returned (.tuple #[.int .u64 0,.bool false])/\Gw W w'):=fun W g=>by
    have:=tget16 HH.out (t2.ht.gw HH.out.kp g) (by decide) 2 (by decide) (by decide)
    rw [V2] at this;exact this
   clear V2 V3 t2 g2 DL KK;go_wp2_with fail;refine Calls.mono DL2.out ?_;rintro e v3 ⟨rfl,g3⟩;have GA:Aside (Gw v2 v3):=g3;clear g3 DL2;go_wp2_with fail;refine Calls.mono (G3.out v3 GA.out) ?_;rintro e v4 ⟨rfl,g4⟩;have GB:Aside (Gw v2 v4):=GA.out.trans g4;clear g4 GA G3;go_wp2_with fail;refine Calls.mono (G2.out v4 GB.out) ?_;rintro e v5 ⟨rfl,g5⟩;have GC:Aside (Gw v2 v5):=GB.out.trans g5;have b5:=(GC.out.below.block bs (blkl K2.out.1)).trans K2.out.1;have s0:v5.cell? ⟨bs,0,none⟩=some (.int .i64 4):=blkc b5 rfl;have s1:v5.cell? ⟨bs,1,none⟩=some (.int .i64 0):=blkc b5 rfl;have s2:v5.cell? ⟨bs,2,none⟩=some (.int .i64 1):=blkc b5 rfl;have s3:v5.cell? ⟨bs,3,none⟩=some (.int .i64 4):=blkc b5 rfl;have s4:v5.cell? ⟨bs,4,none⟩=some (.slice (some ⟨b,0,none⟩) 1 1):=blkc b5 rfl;have sl:=blkl b5;have sb:v5.cell? ⟨b,0,none⟩=some (.int .i64 4):=(GC.out.cell _ _ K2.out.2.2).trans K2.out.2.1;have sbl:b<v5.heap.size:=Nat.lt_of_lt_of_le K2.out.2.2 GC.out.size;have RES:Aside (Gw w v5):=T2.out.gw.trans GC.out;clear g5 b5 GB GC G2 K2 T2;go_wp2_with fail;go_ret;exact ⟨rfl,RES.out⟩
end Go.Proofs.YtemijdhemdhclaaGreat
