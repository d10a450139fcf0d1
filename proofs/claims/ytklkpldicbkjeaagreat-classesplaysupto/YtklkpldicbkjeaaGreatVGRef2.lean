/- The document's layer 13: Entries. -/
import Derived.Test.YtklkpldicbkjeaaGreatVZPile
import Derived.Test.YtklkpldicbkjeaaGreatVGEnt
import Derived.Test.YtklkpldicbkjeaaGreatVGRef
set_option linter.unusedVariables false
set_option maxHeartbeats 8000000
set_option maxRecDepth 10000
open Go.Proofs.Tryz
namespace Go.Proofs.YtklkpldicbkjeaaGreat
open Go.RowKit
theorem KS.keep {w w':World} {rb n:Nat} {f:Nat->Int} (h:KS w (some ⟨rb,0,none⟩) n f) (hb:rb<w'.heap.size) (k:w'.heap[rb]?=w.heap[rb]?):KS w' (some ⟨rb,0,none⟩) n f :=
 ⟨fun h0=>by
  obtain ⟨b,off,e,_,hc⟩:=h.cells h0;cases e;refine ⟨rb,0,rfl,hb,fun i hi=>?_⟩
  have:=hc i hi
  simp only [World.cell?] at this ⊢;rw [k];exact this,h.bd⟩
structure KI (w:World) (ob:Nat) (aj:List Value) (K:List (List Int)):Prop where
 len:aj.length=K.length
 row:∀ i,i<K.length->∃ rb rc,aj[i]?=some (.slice (some ⟨rb,0,none⟩) (K.getD i []).length rc)/\rb≠ob/\rb<w.heap.size/\KS w (some ⟨rb,0,none⟩) (K.getD i []).length (fun j=>(K.getD i []).getD j 0)
theorem KI.gw {w w':World} {ob:Nat} {aj:List Value} {K:List (List Int)} (h:KI w ob aj K) (g:Gw w w'):KI w' ob aj K :=
 ⟨h.len,fun i hi=>by
  obtain ⟨rb,rc,h1,h2,h3,h4⟩:=h.row i hi;exact ⟨rb,rc,h1,h2,Nat.lt_of_lt_of_le h3 g.size,h4.gw g⟩⟩
theorem KI.more {w w8:World} {o:Obj} {ob iZ:Nat} {aj:List Value} {K:List (List Int)} {row:List Int} {rb rc:Nat} (h:KI w ob aj K) (r2:(w.alloc o).grownBy w8 (some ob)) (o8:iZ=ob\/w.heap.size<=iZ) (rn:rb≠ob) (rl:rb<w.heap.size) (ks:KS w (some ⟨rb,0,none⟩) row.length (fun j=>row.getD j 0)):KI w8 iZ (aj++[.slice (some ⟨rb,0,none⟩) row.length rc]) (K++[row]):=by
 have kp:∀ q,q<w.heap.size->q≠ob->w8.heap[q]?=w.heap[q]?:=fun q hq hn=>(r2.block q (by simp;omega) (fun e=>hn (by cases e;rfl))).trans (heap_alloc_old w _ hq)
 have lC:∀ q,q<w.heap.size->q≠ob->q<w8.heap.size:=fun q hq hn=>by
  have e:=kp q hq hn;rw [Array.getElem?_eq_getElem hq] at e;exact (Array.getElem?_eq_some_iff.1 e).1
 refine ⟨by rw [List.length_append,List.length_append,h.len];rfl,fun i hi=>?_⟩
 by_cases e:i<K.length
 ·obtain ⟨b,c,h1,h2,h3,h4⟩:=h.row i e
  have eg:(K++[row]).getD i []=K.getD i []:=by
   rw [List.getD_eq_getElem?_getD,List.getElem?_append_left e,<-List.getD_eq_getElem?_getD]
  rw [eg];refine ⟨b,c,by rw [List.getElem?_append_left (by rw [h.len];exact e)];exact h1,?_,lC b h3 h2,h4.keep (lC b h3 h2) (kp b h3 h2)⟩
  rcases o8 with q | q
  ·rw [q];exact h2
  ·omega
 ·have ei:i=K.length:=by
   rw [List.length_append] at hi;simp at hi;omega
  subst ei;have eg:(K++[row]).getD K.length []=row:=by simp [List.getD]
  rw [eg];refine ⟨rb,rc,by rw [<-h.len];simp,?_,lC rb rl rn,ks.keep (lC rb rl rn) (kp rb rl rn)⟩
  rcases o8 with q | q
  ·rw [q];exact rn
  ·omega
theorem KI.kv {w:World} {base ob n oc:Nat} {aj:List Value} {K:List (List Int)} (h:KI w ob aj K) (o:w.ownsRow base 90 1 (.slice (some ⟨ob,0,none⟩) n oc) n aj) (hn:K.length=n):KV w (some ⟨ob,0,none⟩) K :=
 ⟨fun h0=>⟨ob,0,rfl,(o.lt ob rfl).2,fun i hi=>by
  obtain ⟨rb,rc,h1,_,_,h4⟩:=h.row i hi;refine ⟨some ⟨rb,0,none⟩,rc,?_,h4⟩;rw [Nat.zero_add,World.ownsRow.cellAt o i (by omega)]
  exact h1⟩⟩
theorem NJ {α β:Type} (f:α->β) (L:List (List α)):aN (L.map (List.map f))=aN L:=by
 unfold aN;rw [List.map_map];congr 1;exact List.map_congr_left fun l _=>by simp
theorem aa1 {α:Type} (L:List (List α)) (d:α):aN (dX L.length (fun i=>(L.getD i []).length) (fun _=>0))=aN L:=by
 have:=congrArg aN (Nk L d)
 rwa [NJ] at this
theorem aa2:(prog.info? 90).map (fun i=>(i.zero,i.size,i.bytes))=some (some (.slice none 0 0),1,24):=by kernel_rfl
theorem aa3 {w w':World} {base e size n:Nat} {v:Value} {xs:List Value} (h:w.ownsRow base e size v n xs) (g:Gw w w'):w'.ownsRow base e size v n xs:=by
 refine ⟨h.1,?_⟩;rcases h.2 with q | ⟨b,cap,cur,rfl,hb,hh,r⟩
 ·exact .inl q
 ·exact .inr ⟨b,cap,cur,rfl,hb,(g.below.block b (Array.getElem?_eq_some_iff.1 hh).1).trans hh,r⟩
theorem aa4 (w:World) (x:Value) (t:TypeId):∀ j u,[x][j]?=some u->(w.alloc (.cells #[x] t)).cell? ((⟨w.heap.size,0,none⟩:Addr).add j)=some u:=by
 intro j u hu;cases j with
 | zero =>
  simp only [List.getElem?_cons_zero,Option.some.injEq] at hu;subst hu;simp [Addr.add,go_sem]
 | succ j=>simp at hu
def df (L:List (List ah)):List (List Int):=L.map (List.map ah.k)
theorem vQ (L:List (List ah)):(df L).length=L.length:=by simp [df]
theorem DQ (L:List (List ah)) {i:Nat} (hi:i<L.length):(df L).getD i []=(L.getD i []).map ah.k:=by simp [df,List.getD,hi]
theorem DT (L:List (List ah)):∀ i,i<L.length->cg (df L) i=(L.getD i []).length:=fun i hi=>by unfold cg;rw [DQ L hi];simp
theorem aa5 {L:List (List ah)} {P:List (Nat×Nat)} (h:Mg (c9 (df L)) (dX (df L).length (cg (df L)) fun _=>0) P):Mg ah.k L (P.map fun p=>(L.getD p.1 []).getD p.2 aF):=by
 have e1:dX (df L).length (cg (df L)) (fun _=>0)=dX L.length (fun i=>(L.getD i []).length) (fun _=>0):=by
  unfold dX;rw [vQ];refine List.map_congr_left fun i hi=>?_
  unfold jd;rw [DT L i (List.mem_range.1 hi)]
 rw [e1] at h;have hk:∀ p:Nat×Nat,p.1<L.length/\p.2<(L.getD p.1 []).length->((L.getD p.1 []).getD p.2 aF).k=c9 (df L) p:=fun p hp=>by
  unfold c9;rw [DQ L hp.1];have h2:=hp.2;generalize L.getD p.1 []=l at h2 ⊢;simp [List.getD,h2]
 have:=h.map' (fun p=>(L.getD p.1 []).getD p.2 aF) ah.k (S:=fun p=>p.1<L.length/\p.2<(L.getD p.1 []).length) hk (fun l hl p hp=>by
  obtain ⟨i,hi,rfl⟩:=List.mem_map.1 hl;have bV:=List.mem_range.1 hi;obtain ⟨j,hj,rfl⟩:=List.mem_map.1 hp;rw [List.mem_range'_1] at hj;have h9:j<0+((L.getD i []).length-0):=hj.2;exact ⟨bV,by show j<(L.getD i []).length;omega⟩)
 rwa [Nk] at this
theorem aa6 (ao:Option Addr) (c:Nat) (L:List (List ah)) (hl:L.length<=2000000) (hs:∀ i,i<L.length->(L.getD i []).length<=2000000) (hN:aN L<=2000000) (w:World) (h:EV w ao L) :
  Calls prog 36 #[.slice ao L.length c] w fun e w'=>(∃ ob oc o,e=.returned (.slice (some ⟨ob,0,none⟩) o.length oc)/\EO w' w.heap.size (.slice (some ⟨ob,0,none⟩) o.length oc) o/\Mg ah.k L o)/\Gw w w':=by
 have HE:ag (EV w ao L):=h;have HS:ag (∀ i,i<L.length->(L.getD i []).length<=2000000):=hs;have RM:ag (∀ (W:World) (ko:Option Addr) (kc:Nat),KV W ko (df L)->Calls prog 68 #[.slice ko L.length kc] W fun e w'=>(∃ ob oc P,e=.returned (.slice (some ⟨ob,0,none⟩) P.length oc)/\ik w' (W.heap.size+1) (.slice (some ⟨ob,0,none⟩) P.length oc) P/\Mg ah.k L (P.map fun p=>(L.getD p.1 []).getD p.2 aF)/\(∀ p∈P,p.1<L.length/\p.2<(L.getD p.1 []).length)/\P.length<=2000000)/\Gw W w'):=fun W ko kc hk=>by
  have e:=vQ L;have e1:aN (dX (df L).length (cg (df L)) fun _=>0)<=2000000:=by
   have:=aa1 (df L) 0
   have q:aN (df L)=aN L:=NJ ah.k L;have:aN (dX (df L).length (cg (df L)) fun _=>0)=aN (df L):=this
   omega
  have:=aaW ko kc (df L) (by omega) (fun i hi=>by rw [DT L i (by omega)];exact hs i (by omega)) e1 W hk
  rw [e] at this;refine this.mono fun e' w' ⟨⟨ob,oc,P,a1,a2,a3,a4⟩,g⟩=>⟨⟨ob,oc,P,a1,a2,?_,fun p hp=>?_,?_⟩,g⟩
  ·rw [<-e] at a3
   exact aa5 a3
  ·obtain ⟨x,y⟩:=a4 p hp
   exact ⟨x,by rw [DT L _ x] at y;exact y⟩
  ·have:=a3.few
   rw [e] at e1;omega
 obtain ⟨ln,aA⟩:∃ ln,L.length=ln:=⟨_,rfl⟩;have LN:ag (L.length=ln):=aA;rw [aA] at hl RM HS ⊢;clear h hs aA hN;obtain ⟨jj,kX,jz,js,kY⟩:=info_parts aa2;obtain ⟨kk,hkk,kz,ks',kby⟩:=info_parts oF;obtain ⟨ii,aM,hz,dT,aL⟩:=info_parts qN;have R1:ag ((w.alloc (.cells #[] 90)).ownsRow w.heap.size 90 1 (.slice (some ⟨w.heap.size,0,none⟩) 0 0) 0 []):=World.ownsRow_made w #[] 0 (Nat.le_refl _) (Nat.zero_le _) rfl;have K1:ag (KI (w.alloc (.cells #[] 90)) w.heap.size [] ((df L).take 0)):=⟨by simp,fun i hi=>by simp at hi⟩
 have G1:ag (Gw w (w.alloc (.cells #[] 90))):=(Gw.refl w).alloc _ _;go_enter func36,ntmps36;go_wp2_with fail;generalize w.alloc (.cells #[] 90)=w1 at R1 K1 G1 ⊢;go_loopg [3,4] ln (fun gg s3 s4 wr=>∃ (i ob oc:Nat) (aj:List Value),s3=.slice (some ⟨ob,0,none⟩) i oc/\s4=.int .i64 (i:Int)/\i<=ln/\ln-i<=gg/\ag (wr.ownsRow w.heap.size 90 1 (.slice (some ⟨ob,0,none⟩) i oc) i aj)/\ag (KI wr ob aj ((df L).take i))/\ag (Gw w wr))
 case atStart=>exact ⟨0,w.heap.size,0,[],rfl,rfl,Nat.zero_le _,by omega,R1,K1,G1⟩
 case round =>
  clear R1 K1 G1;obtain ⟨i,ob,oc,aj,rfl,rfl,a1,a2,R,KK,G⟩:=hrel;by_cases dJ:i<ln
  ·have aaX:(i:Int)<(ln:Int):=by omega
   obtain ⟨wS,aZ⟩:∃ wx,wx=wr:=⟨_,rfl⟩;subst aZ;have TK:ag ((df L).take (i+1)=(df L).take i++[(L.getD i []).map ah.k]):=by
    show _=_;have hi:i<(df L).length:=by rw [vQ,LN.o];exact dJ
    rw [<-DQ L (by rw [LN.o];exact dJ),List.take_add_one,List.getElem?_eq_getElem hi,List.getD_eq_getElem?_getD,List.getElem?_eq_getElem hi]
    rfl
   have NK:=HS.o i dJ;obtain ⟨l,ig⟩:∃ l,L.getD i []=l:=⟨_,rfl⟩;have HL:ag (L.getD i []=l):=ig;rw [ig] at TK NK;obtain ⟨n,hn⟩:∃ n,l.length=n:=⟨_,rfl⟩;have LL:ag (l.length=n):=hn;rw [hn] at NK;clear ig hn;have Q2:ag ((wS.alloc (.cells #[] 34)).ownsRow wS.heap.size 34 1 (.slice (some ⟨wS.heap.size,0,none⟩) 0 0) 0 ((List.range 0).map fun j=>Value.int .u64 (l.getD j aF).k)):=World.ownsRow_made wS #[] 0 (Nat.le_refl _) (Nat.zero_le _) rfl
   have G2:ag (Gw wS (wS.alloc (.cells #[] 34))):=(Gw.refl wS).alloc _ _;go_wp2_with fail;generalize wS.alloc (.cells #[] 34)=w2 at Q2 G2 ⊢;obtain ⟨rf,ly⟩:∃ x,wS.heap.size=x:=⟨_,rfl⟩;have RB:ag (wS.heap.size=rf):=ly;rw [ly] at Q2 ⊢;clear ly;go_loopg [5,6] n (fun gg s5 s6 wr=>∃ (j rb rc:Nat),s5=.slice (some ⟨rb,0,none⟩) j rc/\s6=.int .i64 (j:Int)/\j<=n/\n-j<=gg/\ag (rf<=rb)/\ag (wr.ownsRow rf 34 1 (.slice (some ⟨rb,0,none⟩) j rc) j ((List.range j).map fun t=>Value.int .u64 (l.getD t aF).k))/\ag (Gw wS wr))
   case atStart=>exact ⟨0,rf,0,rfl,rfl,Nat.zero_le _,by omega,(show ag _ from Nat.le_refl _),Q2,G2⟩
   case round =>
    clear Q2 G2;obtain ⟨j,rb,rc,rfl,rfl,b1,b2,DU,Q,GG⟩:=hrel;obtain ⟨lb,ku,rfl,fs,bP⟩:=((HE.o.gw G.o).gw GG.o).cells (by rw [LN.o];omega)
    obtain ⟨eo,ec,p1,p2,p3,_⟩:=bP i (by rw [LN.o];exact dJ)
    rw [HL.o,LL.o] at p1 p2;rw [HL.o] at p3;have E3:ag (EL wr eo l):=p3;clear bP p3;by_cases dB:j<n
    ·have qZ:(j:Int)<(n:Int):=by omega
     obtain ⟨eb,jJ,rfl,jF,kZ⟩:=E3.o.cells (by rw [LL.o];omega)
     have kc:=(kZ j (by rw [LL.o];exact dB)).1
     obtain ⟨xk,pA⟩:∃ x,(l.getD j aF).k=x:=⟨_,rfl⟩;have XK:ag ((l.getD j aF).k=xk):=pA;have kc':wr.cell? ⟨eb,jJ+j*3,none⟩=some (.int .u64 xk):=by rw [<-pA];exact kc
     have wz:=GG.o.size;have rbe:=RB.o;clear kZ pA kc;go_wp2_with (at_builtin;refine wpList_append_own _ rfl _ _ 90 rfl rf 34 kk (.int .u64 0) 1 8 underlying90 hkk kz ks' kby rfl (by decide) _ j _ rfl (Q.o.alloc _) ⟨wr.heap.size,0,none⟩ 1 1 [.int .u64 xk] rfl rfl (sK wr xk) (ints_oneCell .u64 [xk]) (by simp only [maxLen];omega) (by omega) (by simp;omega) ?_)
     intro v' w5 r1 r2 r3;obtain ⟨b5,dw,rfl,dH,_,_⟩:=cS r1 (by simpa using r3)
     have Q5:ag (w5.ownsRow rf 34 1 (.slice (some ⟨b5,0,none⟩) (j+1) dw) (j+1) ((List.range (j+1)).map fun t=>Value.int .u64 (l.getD t aF).k)):=by
      have:=r1
      rw [<-XK.o] at this;rw [List.range_succ,List.map_append];exact this
     have G5:ag (Gw wS w5):=(GG.o.alloc _ _).grown r2 (fun q hq=>by have:=(World.ownsRow.lt Q.o q hq).1;have:=RB.o;omega)
     have B5:ag (rf<=b5):=dH;clear r1 r2 r3 Q GG DU kc' jF dH XK E3 p1 fs;go_wp2_with fail;go_roundg (n-(j+1))
     case measure=>omega
     case rel=>exact ⟨j+1,b5,dw,rfl,by go_num,by omega,Nat.le_refl _,B5,Q5,G5⟩
    ·have ej:j=n:=by omega
     subst ej;have KR:ag (KS wr (some ⟨rb,0,none⟩) (l.map ah.k).length (fun t=>(l.map ah.k).getD t 0)):=by
      have e:(l.map ah.k).length=j:=by rw [List.length_map,LL.o]
      rw [e];refine uB Q.o (Nat.le_refl _) (fun t ht=>?_) (fun t ht=>?_)
      ·have:(l.map ah.k).getD t 0=(l.getD t aF).k:=by
        have pB:t<l.length:=by rw [LL.o];exact ht
        simp [List.getD,pB]
       rw [this];simp [ht]
      ·have pB:t<l.length:=by rw [LL.o];exact ht
       have:(l.map ah.k).getD t 0=(l.getD t aF).k:=by simp [List.getD,pB]
       rw [this];exact (E3.o.ok pB).1
     have kA:=(R.o.lt ob rfl).2;have rbl:=(World.ownsRow.lt Q.o rb rfl).2;have rbo:rb≠ob:=by have:=DU.o;have:=RB.o;omega
     have R4:ag (wr.ownsRow w.heap.size 90 1 (.slice (some ⟨ob,0,none⟩) i oc) i aj):=aa3 R.o GG.o;have K4:ag (KI wr ob aj ((df L).take i)):=KK.o.gw GG.o;have G4:ag (Gw w wr):=G.o.trans GG.o;have wz:=G4.o.size;clear Q E3 R KK DU p2;go_wp2_with (at_builtin;refine wpList_append_own_at _ rfl _ _ 115 rfl w.heap.size 90 jj (.slice none 0 0) 1 24 underlying115 kX jz js kY rfl (by decide) _ i _ rfl (R4.o.alloc _) ⟨wr.heap.size,0,none⟩ 1 1 [(.slice (some ⟨rb,0,none⟩) j rc)] rfl rfl (aa4 wr (.slice (some ⟨rb,0,none⟩) j rc) 90) (fun u hu=>by simp at hu;subst hu;rfl) (by simp only [maxLen];omega) (by omega) (by simp;omega) ?_)
     intro v' w8 r1 r2 r3 r4;obtain ⟨b8,cap8,rfl,nT,_,_⟩:=cS r1 (by simpa using r3)
     have nU:b8=ob\/wr.heap.size<=b8:=by
      rcases r4 with q | q
      ·have q':b8=ob:=by simpa [Value.ownBlock] using q
       exact .inl q'
      ·have q':b8=wr.heap.size+1:=by simpa [Value.ownBlock] using q
       exact .inr (by omega)
     have gD:(wr.alloc (.cells #[(.slice (some ⟨rb,0,none⟩) j rc)] 90)).grownBy w8 (some ob):=r2;have K8:ag (KI w8 b8 (aj++[(.slice (some ⟨rb,0,none⟩) j rc)]) ((df L).take (i+1))):=by
      rw [TK.o];have:=K4.o.more (rc:=rc) gD nU rbo rbl KR.o;rw [List.length_map,LL.o] at this;exact this
     have G8:ag (Gw w w8):=(G4.o.alloc _ _).grown r2 (fun q hq=>(World.ownsRow.lt R4.o q hq).1)
     have R8:ag (w8.ownsRow w.heap.size 90 1 (.slice (some ⟨b8,0,none⟩) (i+1) cap8) (i+1) (aj++[(.slice (some ⟨rb,0,none⟩) j rc)])):=r1;clear r1 r2 r3 r4 gD nT R4 K4 G4 KR;go_wp2_with fail;go_roundg (ln-(i+1))
     case measure=>omega
     case rel=>exact ⟨i+1,b8,cap8,_,rfl,by go_num,by omega,Nat.le_refl _,R8,K8,G8⟩
  ·have ei:i=ln:=by omega
   subst ei;have NM:ag (KV wr (some ⟨ob,0,none⟩) (df L)):=by
    have t:(df L).take i=df L:=List.take_of_length_le (by rw [vQ,LN.o];exact Nat.le_refl _)
    have:=KK.o
    rw [t] at this;exact this.kv R.o (by rw [vQ,LN.o])
   clear R KK;go_wp2_with fail;refine Calls.mono (RM.o _ _ _ NM.o) ?_;rintro e w3 ⟨⟨tb,tc,P,rfl,pl,mg,pb,pn⟩,g3⟩;have MGG:ag (Mg ah.k L (P.map fun p=>(L.getD p.1 []).getD p.2 aF)):=mg
   have PB:ag (∀ p∈P,p.1<i/\p.2<(L.getD p.1 []).length):=pb;have P3:ag (ik w3 (wr.heap.size+1) (.slice (some ⟨tb,0,none⟩) P.length tc) P):=pl;have G3:ag (Gw w w3):=G.o.trans g3;obtain ⟨pm,tL⟩:∃ pm,P.length=pm:=⟨_,rfl⟩;have PM:ag (P.length=pm):=tL;rw [tL] at pn ⊢;clear tL pl mg pb g3 G NM RM;have E4:ag (EO (w3.alloc (.cells #[] 40)) w3.heap.size (.slice (some ⟨w3.heap.size,0,none⟩) 0 0) ((P.take 0).map fun p=>(L.getD p.1 []).getD p.2 aF)):=Np w3 _ (Nat.le_refl _)
   have G4:ag (Gw w3 (w3.alloc (.cells #[] 40))):=(Gw.refl w3).alloc _ _;go_wp2_with fail;generalize w3.alloc (.cells #[] 40)=w4 at E4 G4 ⊢;go_loopg [8,9] pm (fun gg s8 s9 wr=>∃ (j ob oc:Nat),s8=.slice (some ⟨ob,0,none⟩) j oc/\s9=.int .i64 (j:Int)/\j<=pm/\pm-j<=gg/\ag (EO wr w3.heap.size (.slice (some ⟨ob,0,none⟩) j oc) ((P.take j).map fun p=>(L.getD p.1 []).getD p.2 aF))/\ag (Gw w3 wr))
   case atStart=>exact ⟨0,w3.heap.size,0,rfl,rfl,Nat.zero_le _,by omega,E4,G4⟩
   case round =>
    clear E4 G4;obtain ⟨j,ob,oc,rfl,rfl,b1,b2,E,GG⟩:=hrel;by_cases dB:j<pm
    ·have qZ:(j:Int)<(pm:Int):=by omega
     have tbl:tb<w3.heap.size:=(World.ownsRow.lt P3.o tb rfl).2;obtain ⟨t0,t1⟩:=aaO (qT P3.o GG.o) (i:=j) (by rw [PM.o];exact dB)
     have NU:tb<wr.heap.size:=Nat.lt_of_lt_of_le tbl GG.o.size;obtain ⟨q1,q2⟩:=PB.o (P.getD j (0,0)) (by rw [List.getD_eq_getElem?_getD,List.getElem?_eq_getElem (by rw [PM.o];exact dB)];exact List.getElem_mem _)
     have TK:ag ((P.take (j+1)).map (fun p=>(L.getD p.1 []).getD p.2 aF)=(P.take j).map (fun p=>(L.getD p.1 []).getD p.2 aF)++[(L.getD (P.getD j (0,0)).1 []).getD (P.getD j (0,0)).2 aF]):=by
      show _=_;have hj:j<P.length:=by rw [PM.o];exact dB
      have e:P.getD j (0,0)=P[j]:=by simp [List.getD,hj]
      rw [e,List.take_add_one,List.getElem?_eq_getElem hj,List.map_append];rfl
     obtain ⟨⟨u,x⟩,NV⟩:∃ p,P.getD j (0,0)=p:=⟨_,rfl⟩;rw [NV] at t0 t1 q1 q2 TK;have zJ:wr.cell? ⟨tb,j*2,none⟩=some (.int .i64 (u:Int)):=t0;have mC:wr.cell? ⟨tb,j*2+1,none⟩=some (.int .i64 (x:Int)):=t1;have eP:u<i:=q1;have iI:x<(L.getD u []).length:=q2;have ul':(u:Int)<(i:Int):=by omega
     clear t0 t1 q1 q2 NV;have HSu:=HS.o u eP;obtain ⟨lb,ku,rfl,fs,bP⟩:=((HE.o.gw G3.o).gw GG.o).cells (by rw [LN.o];omega)
     obtain ⟨eo,ec,p1,p2,p3,_⟩:=bP u (by rw [LN.o];exact eP)
     obtain ⟨n,hn⟩:∃ n,(L.getD u []).length=n:=⟨_,rfl⟩;obtain ⟨eb,jJ,rfl,jF,kZ⟩:=p3.cells (by omega)
     obtain ⟨c0,c1,c2⟩:=kZ x iI;have N6:ag ((P.take (j+1)).map (fun p=>(L.getD p.1 []).getD p.2 aF)=(P.take j).map (fun p=>(L.getD p.1 []).getD p.2 aF)++[(L.getD u []).getD x aF]):=TK
     rw [hn] at p1 p2 iI HSu;obtain ⟨y,hy⟩:∃ y,(L.getD u []).getD x aF=y:=⟨_,rfl⟩;rw [hy] at c0 c1 c2 N6;obtain ⟨xk,xv,xg⟩:=y;have d0:wr.cell? ⟨eb,jJ+x*3,none⟩=some (.int .u64 xk):=c0;have d1:wr.cell? ⟨eb,jJ+x*3+1,none⟩=some (.int .u64 xv):=c1;have d2:wr.cell? ⟨eb,jJ+x*3+2,none⟩=some (.bool xg):=c2;have xl':(x:Int)<(n:Int):=by omega
     have aa7:lb<w3.heap.size:=by
      obtain ⟨_,_,e,h3,_⟩:=(HE.o.gw G3.o).cells (by rw [LN.o];omega)
      cases e
      exact h3
     have af2:eb<w3.heap.size:=by
      obtain ⟨_,_,e,_,h3⟩:=(HE.o.gw G3.o).cells (by rw [LN.o];omega)
      cases e
      obtain ⟨eo',ec',p1',_,p3',_⟩:=h3 u (by rw [LN.o];exact eP)
      have Oa:=(GG.o.cell _ _ aa7).trans p1';rw [p1] at Oa;cases Oa;obtain ⟨_,_,e,h4,_⟩:=p3'.cells (by omega)
      cases e
      exact h4
     clear bP kZ c0 c1 c2 hy TK p3 hn p2;obtain ⟨w5,hw5⟩:∃ wx,wx=wr:=⟨_,rfl⟩;subst hw5;have obg:w3.heap.size<=ob:=(World.ownsRow.lt E.o ob rfl).1;have HX:ag (∀ w':World,(∀ q,q<w5.heap.size->q≠ob->w'.heap[q]?=w5.heap[q]?)->(∀ q,q<w5.heap.size->q≠ob->w'.heap[q]?=w5.heap[q]?)/\w'.cell? ⟨tb,j*2,none⟩=some (.int .i64 (u:Int))/\w'.cell? ⟨tb,j*2+1,none⟩=some (.int .i64 (x:Int))/\w'.cell? ⟨lb,ku+u,none⟩=some (.slice (some ⟨eb,jJ,none⟩) n ec)/\w'.cell? ⟨eb,jJ+x*3,none⟩=some (.int .u64 xk)/\w'.cell? ⟨eb,jJ+x*3+1,none⟩=some (.int .u64 xv)/\w'.cell? ⟨eb,jJ+x*3+2,none⟩=some (.bool xg)):=fun w' h=>by
      have ce:∀ b o,b<w5.heap.size->b≠ob->w'.cell? ⟨b,o,none⟩=w5.cell? ⟨b,o,none⟩:=fun b o hb hn=>by simp [World.cell?,h b hb hn]
      exact ⟨h,(ce _ _ NU (by omega)).trans zJ,(ce _ _ NU (by omega)).trans mC,(ce _ _ fs (by omega)).trans p1,(ce _ _ jF (by omega)).trans d0,(ce _ _ jF (by omega)).trans d1,(ce _ _ jF (by omega)).trans d2⟩
     have H0:ag (∀ q,q<w5.heap.size->q≠ob->w5.heap[q]?=w5.heap[q]?):=fun _ _ _=>rfl
     have py:ag ((w5.alloc (.cells #[.int .u64 xk,.int .u64 xv,.bool xg] 40)).drew.ownsRow w3.heap.size 40 3 (.slice (some ⟨ob,0,none⟩) j oc) j (((P.take j).map fun p=>(L.getD p.1 []).getD p.2 aF).flatMap bB)):=by
      have:=E.o
      unfold EO at this;rw [List.length_map,List.length_take,PM.o,Nat.min_eq_left (by omega)] at this
      exact World.ownsRow.alloc this _
     have NS:ag (∀ j u,(bB ⟨xk,xv,xg⟩)[j]?=some u->(w5.alloc (.cells #[.int .u64 xk,.int .u64 xv,.bool xg] 40)).drew.cell? ((⟨w5.heap.size,0,none⟩:Addr).add j)=some u):=tI w5 ⟨xk,xv,xg⟩;have gsz:=GG.o.size;have GV:ag (Gw w3 w5):=GG;have LJ:ag (((P.take j).map fun p=>(L.getD p.1 []).getD p.2 aF).length=j):=by show _=_;rw [List.length_map,List.length_take,PM.o,Nat.min_eq_left (by omega)]
     clear zJ mC p1 d0 d1 d2;go_wp2_with fail;go_region_held3 (fun w'=>(∀ q,q<w5.heap.size->q≠ob->w'.heap[q]?=w5.heap[q]?)/\w'.cell? ⟨tb,j*2,none⟩=some (.int .i64 (u:Int))/\w'.cell? ⟨tb,j*2+1,none⟩=some (.int .i64 (x:Int))/\w'.cell? ⟨lb,ku+u,none⟩=some (.slice (some ⟨eb,jJ,none⟩) n ec)/\w'.cell? ⟨eb,jJ+x*3,none⟩=some (.int .u64 xk)/\w'.cell? ⟨eb,jJ+x*3+1,none⟩=some (.int .u64 xv)/\w'.cell? ⟨eb,jJ+x*3+2,none⟩=some (.bool xg))
      ((refine HX.o _ ?_;(first | exact And.left (by assumption) | exact ag.o (by assumption) | (intro q hq hn;rfl) | (intro q hq hn;exact heap_alloc_old _ _ hq));done))
      (first | (refine Nq _ rfl (.tmp 51) (.tmp 67) 35 rfl w3.heap.size 40 ii _ 3 24 underlying35 aM hz dT aL rfl (by decide) ob j oc (((P.take j).map fun p=>(L.getD p.1 []).getD p.2 aF).flatMap bB) (by simp [Act.eval]) py.o (some ⟨w5.heap.size,0,none⟩) 1 1 (bB ⟨xk,xv,xg⟩) (by simp [Act.eval]) (fun q=>by cases q) rfl (fun ad e'=>(by cases e';exact NS.o)) (qU _) (by simp only [maxLen];omega) (by omega) (by simp<;>omega) ?_;intro b7 vC w7 r1 r2 r3 r4;have X7:ag (∀ q,q<w5.heap.size->q≠ob->w7.heap[q]?=w5.heap[q]?):=(fun q hq hn=>(r2.block q (by simp;omega) (fun e=>hn (by cases e;rfl))).trans (heap_alloc_old _ _ hq));have Q7:ag (Gw w3 w7/\EO w7 w3.heap.size (.slice (some ⟨b7,0,none⟩) (j+1) vC) ((P.take (j+1)).map fun p=>(L.getD p.1 []).getD p.2 aF)):=⟨(GV.o.alloc _ _).drew.grown r2 (fun k' hk=>by have e:ob=k':=(by simpa using hk);omega),(by rw [N6.o];exact zF (by rw [LJ.o];exact r1))⟩;clear r1 r2 r3))
     all_goals go_wp2_with fail
     all_goals go_roundg (pm-(j+1))
     all_goals first
      | (case measure=>omega)
      | (case rel=>exact ⟨j+1,b7,vC,rfl,by go_num,by omega,Nat.le_refl _,(show ag _ from Q7.o.2),(show ag _ from Q7.o.1)⟩)
    ·have ej:j=pm:=by omega
     subst ej;have TT:P.take j=P:=List.take_of_length_le (by rw [PM.o];exact Nat.le_refl _)
     rw [TT] at E;have DW:((P.map fun p=>(L.getD p.1 []).getD p.2 aF)).length=j:=by rw [List.length_map,PM.o]
     have E5:ag (EO wr w.heap.size (.slice (some ⟨ob,0,none⟩) (P.map fun p=>(L.getD p.1 []).getD p.2 aF).length oc) (P.map fun p=>(L.getD p.1 []).getD p.2 aF)):=by
      rw [DW];exact Nn E.o G3.o.size
     have EL6:ag ((P.map fun p=>(L.getD p.1 []).getD p.2 aF).length=j):=DW
     clear E TT DW;go_wp2_with fail;refine bodyPost_ret (v:=.slice (some ⟨ob,0,none⟩) j oc) (by simp [results,results36,go_sem]) rfl ⟨⟨ob,oc,_,by rw [EL6.o],E5.o,MGG.o⟩,G3.o.trans GG.o⟩
theorem aa8:∀ (l:List ah) (k:Nat) (s:ah),k<l.length->(((l.flatMap bB).set (k*3) (.int .u64 s.k)).set (k*3+1) (.int .u64 s.v)).set (k*3+2) (.bool s.g)=(l.set k s).flatMap bB:=by
 intro l;induction l with
 | nil=>intro k s hk;simp at hk
 | cons t l ih =>
  intro k s hk;cases k with
  | zero=>simp [bB]
  | succ k =>
   have:=ih k s (by simpa using hk)
   rw [List.set_cons_succ,List.flatMap_cons,List.flatMap_cons,<-this];have e:∀ r,(k+1)*3+r=k*3+r+3:=fun r=>by omega
   have e0:(k+1)*3=k*3+3:=by omega
   rw [e 1,e 2,e0];simp [bB]
def put3 (w:World) (g o:Nat) (s:ah):World:=((w.setCell ⟨g,o,none⟩ (.int .u64 s.k)).setCell ⟨g,o+1,none⟩ (.int .u64 s.v)).setCell ⟨g,o+2,none⟩ (.bool s.g)
theorem aa9 {w:World} {base g cap k n:Nat} {l:List ah} (h:EO w base (.slice (some ⟨g,0,none⟩) n cap) l) (hn:l.length=n) (hk:k<l.length) (s:ah):EO (put3 w g (k*3) s) base (.slice (some ⟨g,0,none⟩) n cap) (l.set k s):=by
 subst hn;have h':w.ownsRow base 40 3 (.slice (some ⟨g,0,none⟩) l.length cap) l.length (l.flatMap bB):=h;have r:=(((h'.stored (k*3) (.int .u64 s.k)).1.stored (k*3+1) (.int .u64 s.v)).1.stored (k*3+2) (.bool s.g)).1;rw [aa8 l k s hk] at r;show World.ownsRow _ _ _ _ _ _ _;rw [List.length_set];exact r
theorem aa' {w:World} {base:Nat} {bo:Option Addr} {n c:Nat} {l:List ah} (h:EO w base (.slice bo n c) l) (hn:l.length=n) (h0:0<n):∃ b,bo=some ⟨b,0,none⟩/\base<=b/\b<w.heap.size/\(∀ i,w.frozen? ⟨b,i,none⟩=false)/\∀ i,i<n->w.cell? ⟨b,i*3,none⟩=some (.int .u64 (l.getD i aF).k)/\w.cell? ⟨b,i*3+1,none⟩=some (.int .u64 (l.getD i aF).v)/\w.cell? ⟨b,i*3+2,none⟩=some (.bool (l.getD i aF).g):=by
 subst hn;rcases h.2 with ⟨_,z⟩ | ⟨b,cap,cur,e,hb,hh,r⟩
 ·omega
 ·injection e with e1 e2 e3
  subst e1 e3;have c':∀ i,i<l.length->∀ j,j<3->w.cell? ⟨b,i*3+j,none⟩=(bB (l.getD i aF))[j]?:=fun i hi j hj=>by
   have:=World.ownsRow.cellAt h (i*3+j) (by omega)
   rw [this];exact zE l i hi j hj
  exact ⟨b,rfl,hb,(Array.getElem?_eq_some_iff.1 hh).1,fun i=>by simp [World.frozen?,hh],fun i hi=>⟨c' i hi 0 (by decide),c' i hi 1 (by decide),c' i hi 2 (by decide)⟩⟩
def aS (p:Int->Bool) (e:ah):Bool:=!e.g||p e.k
theorem Mg.oks {L:List (List ah)} {o:List ah} (h:Mg ah.k L o) (ok:∀ l∈L,∀ e∈l,e.ok):∀ e∈o,e.ok:=by
 induction h using Mg.ind with
 | done _=>intro e he;cases he
 | @step ls x out e r ih =>
  obtain ⟨a,l,b,el,_,_⟩:=vG e;intro y hy;rcases List.mem_cons.1 hy with rfl | q
  ·exact ok (y::l) (by rw [el];simp) y (List.mem_cons_self ..)
  ·refine ih (fun l' ig z hz=>?_) y q
   obtain ⟨l0,Ob,rfl⟩:=List.mem_map.1 ig;exact ok l0 Ob z (Nh hz)
theorem EV.oks {w:World} {ao:Option Addr} {L:List (List ah)} (h:EV w ao L):∀ l∈L,∀ e∈l,e.ok:=by
 intro l hl;obtain ⟨i,hi,rfl⟩:=List.mem_iff_getElem.1 hl;obtain ⟨_,_,_,_,hc⟩:=h.cells (by omega)
 obtain ⟨bo,c,_,_,h3,_⟩:=hc i hi;have e:L.getD i []=L[i]:=by simp [List.getD,hi]
 rw [e] at h3;exact h3.all
theorem Oc {L:List (List ah)} {i:Nat} (hi:i<L.length):(L.getD i []).length<=aN L:=by
 have e:L.getD i []=L[i]:=by simp [List.getD,hi]
 rw [e];have:∀ (L:List (List ah)) (l:List ah),l∈L->l.length<=aN L:=by
  intro L;induction L with
  | nil=>intro l hl;cases hl
  | cons a L ih =>
   intro l hl;rw [nV];rcases List.mem_cons.1 hl with rfl | q
   ·omega
   ·have:=ih l q;omega
 exact this _ _ (List.getElem_mem hi)
structure Rn where
 p:Nat
 S:Nat->Prop
 eps:Int
 l:List ah
 L:List (List Sg)
def ek (l:List ah) (i:Nat):Int:=(l.getD i aF).k
def ev (l:List ah) (i:Nat):Int:=(l.getD i aF).v
def eg (l:List ah) (i:Nat):Bool:=(l.getD i aF).g
def cK (l:List ah):Prop:=dS (ek l) (ev l) (eg l) l.length 0
theorem mD {l:List ah} {i:Nat} (hi:i<l.length):l.getD i aF=l[i]:=by simp [List.getD,hi]
theorem cK.iff {l:List ah}:cK l↔dA ah.k l/\∀ e∈l,¬ (e.g=true/\e.v≠0):=by
 unfold cK;rw [show dS (ek l) (ev l) (eg l) l.length 0↔_ from ⟨fun h=>(dS.zero h).1 rfl,fun h=>dS.ok h.1 h.2⟩]
 refine and_congr DL.symm ⟨fun h e he=>?_,fun h j hj=>?_⟩
 ·obtain ⟨i,hi,rfl⟩:=List.mem_iff_getElem.1 he
  have:=h i hi
  unfold eg ev at this;rwa [mD hi] at this
 ·unfold eg ev
  rw [mD hj];exact h _ (List.getElem_mem hj)
theorem cK.rise {l:List ah} (h:cK l):dA ah.k l:=(cK.iff.1 h).1
theorem cK.up {l:List ah} (h:cK l):Up (ek l) l.length:=DL.1 h.rise
theorem Od {l:List ah} (h:dA ah.k l) {e:ah} (he:e∈l):look ah.k e.k l=some e:=by
 induction l with
 | nil=>cases he
 | cons z o ih =>
  obtain ⟨z1,z2⟩:=List.pairwise_cons.1 h;rw [iH];rcases List.mem_cons.1 he with rfl | q
  ·rw [if_pos rfl]
  ·have:=z1 e q
   rw [if_neg (by omega)]
   exact ih z2 q
theorem Oe {l:List ah} {q:Int} {e:ah} (h:look ah.k q l=some e):e∈l/\e.k=q:=⟨List.mem_of_find?_eq_some h,Nc h⟩
def dC (o:Option ah):Value×Bool:=match o with
 | some e=>(mx e.k e.v e.g,true)
 | none=>(mx 0 0 false,false)
theorem Of {l:List ah} (h:dA ah.k l) (q:Int):iX (ek l) (ev l) (eg l) l.length q=dC (look ah.k q l):=by
 have u:Up (ek l) l.length:=DL.1 h;unfold iX;cases hl:look ah.k q l with
 | some e =>
  obtain ⟨he,hk⟩:=Oe hl;obtain ⟨i,hi,ei⟩:=List.mem_iff_getElem.1 he;have k1:ek l i=q:=by unfold ek;rw [mD hi,ei,hk]
  have c:ax (ek l) q l.length=i:=by rw [<-k1];exact aaf u hi
  rw [c,if_pos ⟨hi,k1⟩];unfold ek ev eg dC;rw [mD hi,ei]
 | none =>
  rw [if_neg]
  ·rfl
  ·rintro ⟨a,b⟩
   have hm:=List.getElem_mem a;have:=Od h hm;rw [show (l[ax (ek l) q l.length]).k=q from by rw [<-mD a];exact b] at this
   rw [this] at hl;cases hl
def ptr (o:Option Rn):Value:=match o with
 | some r=>.pointer (some ⟨r.p,0,none⟩)
 | none=>.pointer none
def lists (rs:List (Option Rn)):List (List ah):=rs.filterMap (Option.map Rn.l)
theorem Og (r:Rn) (rs:List (Option Rn)):lists (some r::rs)=r.l::lists rs:=rfl
theorem vR (a b:List (Option Rn)):lists (a++b)=lists a++lists b:=List.filterMap_append
def tot (rs:List (Option Rn)):Nat:=aN (lists rs)
theorem DX (rs:List (Option Rn)):tot (none::rs)=tot rs:=rfl
theorem nY (r:Rn) (rs:List (Option Rn)):tot (some r::rs)=r.l.length+tot rs:=by unfold tot;rw [Og,nV]
theorem DY (a b:List (Option Rn)):tot (a++b)=tot a+tot b:=by unfold tot;rw [vR,vH]
theorem zK (rs:List (Option Rn)) (j:Nat):tot (rs.take j)+tot (rs.drop j)=tot rs:=by rw [<-DY,List.take_append_drop]
theorem aba {rs:List (Option Rn)} {l:List ah} (h:l∈lists rs):∃ r,some r∈rs/\r.l=l:=by
 obtain ⟨o,ho,e⟩:=List.mem_filterMap.1 h;cases o with
 | none=>cases e
 | some r=>exact ⟨r,ho,Option.some.inj e⟩
def nw (q:Int) (rs:List (Option Rn)):Option ah:=gG ah.k q (lists rs)
theorem Oh (q:Int) (rs:List (Option Rn)):nw q (none::rs)=nw q rs:=rfl
theorem vS (q:Int) (r:Rn) (rs:List (Option Rn)):nw q (some r::rs)=(look ah.k q r.l).or (nw q rs):=by
 unfold nw;rw [Og];simp only [gG];cases look ah.k q r.l<;>rfl
def DZ (o:Option ah):Bool:=match o with
 | some e=>!e.g
 | none=>false
def bX (rs:List (Option Rn)) (q:Int):Bool:=DZ (nw q rs)
def free:List (Option Rn)->Nat
 | []=>0
 | none::_=>0
 | some _::rs=>free rs+1
theorem D6 {rs:List (Option Rn)} {i:Nat} (h:∀ j,j<i->∃ r,rs[j]?=some (some r)) (hn:rs[i]?=some none\/rs.length=i):free rs=i:=by
 induction rs generalizing i with
 | nil =>
  rcases hn with q | q
  ·simp at q
  ·simpa [free] using q
 | cons o rs ih =>
  cases i with
  | zero =>
   rcases hn with q | q
   ·simp at q;subst q;rfl
   ·simp at q
  | succ i =>
   obtain ⟨r,hr⟩:=h 0 (by omega)
   simp at hr;subst hr;simp only [free];rw [ih (i:=i) (fun j hj=>by simpa using h (j+1) (by omega)) (by simpa using hn)]
theorem abb {rs:List (Option Rn)} (h:free rs<rs.length):rs[free rs]?=some none:=by
 induction rs with
 | nil=>simp at h
 | cons o rs ih =>
  cases o with
  | none=>rfl
  | some x=>simp only [free,List.length_cons] at h ⊢;simpa using ih (by omega)
def freeC (rs:List (Option Rn)):Nat:=min (free rs) 39
structure jK (rs:List (Option Rn)) (l:List ah) (o kept:List ah):Prop where
 mg:Mg ah.k (l::lists (rs.take (freeC rs+1))) o
 kp:kept=o.filter (aS (bX (rs.drop (freeC rs+1))))
theorem jK.one {rs:List (Option Rn)} {l o o' k k':List ah} (h:jK rs l o k) (h':jK rs l o' k'):k=k':=by
 rw [h.kp,h'.kp,h.mg.one h'.mg]
def took (rs:List (Option Rn)) (l:List ah):Nat:=l.length+tot (rs.take (freeC rs+1))
def laid (rs:List (Option Rn)) (r:Option Rn):List (Option Rn):=List.replicate (freeC rs) none++r::rs.drop (freeC rs+1)
section
variable {rs:List (Option Rn)} {l o kept:List ah}
theorem jK.facts (h:jK rs l o kept) (hl:cK l) (hr:∀ r,some r∈rs->cK r.l):cK o/\cK kept:=by
 have ha:∀ m∈l::lists (rs.take (freeC rs+1)),cK m:=fun m hm=>by
  rcases List.mem_cons.1 hm with rfl | q
  ·exact hl
  ·obtain ⟨r,h1,rfl⟩:=aba q
   exact hr r (List.mem_of_mem_take h1)
 obtain ⟨r1,r2⟩:=h.mg.once (fun m hm=>(ha m hm).rise)
 have ho:cK o:=cK.iff.2 ⟨r1,fun e he=>by
  have q:=Od r1 he;rw [r2] at q;have:∀ ls:List (List ah),(∀ m∈ls,cK m)->gG ah.k e.k ls=some e->¬ (e.g=true/\e.v≠0):=by
   intro ls;induction ls with
   | nil=>intro _ h;cases h
   | cons m ls ih =>
    intro hm hf;simp only [gG] at hf;cases hk:look ah.k e.k m with
    | some x =>
     rw [hk] at hf;cases hf;exact (cK.iff.1 (hm m (List.mem_cons_self ..))).2 e (Oe hk).1
    | none =>
     rw [hk] at hf;exact ih (fun m h=>hm m (List.mem_cons_of_mem _ h)) hf
  exact this _ ha q⟩
 refine ⟨ho,?_⟩;rw [h.kp];exact cK.iff.2 ⟨ho.rise.filter _,fun e he=>(cK.iff.1 ho).2 e (List.mem_filter.1 he).1⟩
theorem jK.few (h:jK rs l o kept):kept.length<=took rs l/\o.length<=took rs l:=by
 have a:=h.mg.few;rw [nV] at a;have b:kept.length<=o.length:=by rw [h.kp];exact List.length_filter_le ..
 unfold took tot;omega
end
end Go.Proofs.YtklkpldicbkjeaaGreat
