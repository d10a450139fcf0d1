import Derived.Test.YtaemofgeciklkaaGreatEGMem
import Derived.Test.YtaemofgeciklkaaGreatEHStep
set_option linter.unusedVariables false
set_option maxHeartbeats 8000000
set_option maxRecDepth 10000
open Go.Proofs.Tryz
namespace Go.Proofs.YtaemofgeciklkaaGreat
open Go.RowKit
variable {w w':World} {n:Nat}
theorem KS.keep {rb:Nat} {f:Nat->Int} (h:KS w (some (φ rb 0)) n f) (hb:rb<w'.heap.size) (k:w'.heap[rb]?=w.heap[rb]?):KS w' (some (φ rb 0)) n f :=
 ⟨fun h0=>by
  obtain ⟨b,off,e,_,hc⟩:=h.cells h0;cases e;refine ⟨rb,0,rfl,hb,fun i hi=>?_⟩
  have:=hc i hi
  simp only [World.cell?] at this ⊢;rw [k];exact this,h.bd⟩
structure KI (w:World) (ob:Nat) (au:List Value) (K:List (List Int)):Prop where
 len:au.length=K.length
 row:∀ i,i<K.length->∃ rb rc,au[i]?=some (ψ rb 0 (K.getD i []).length rc)/\rb≠ob/\rb<w.heap.size/\KS w (some (φ rb 0)) (K.getD i []).length (fun j=>(K.getD i []).getD j 0)
variable {ob:Nat} {au:List Value} {K:List (List Int)}
theorem KI.gw (h:KI w ob au K) (g:Gw w w'):KI w' ob au K :=
 ⟨h.len,fun i hi=>by
  obtain ⟨rb,rc,h1,h2,h3,h4⟩:=h.row i hi;exact ⟨rb,rc,h1,h2,Θ h3 g.size,h4.gw g⟩⟩
theorem KI.more {w8:World} {o:Obj} {j9:Nat} {row:List Int} {rb rc:Nat} (h:KI w ob au K) (r2:(w.alloc o).grownBy w8 (some ob)) (o8:j9=ob\/w.heap.size<=j9) (rn:rb≠ob) (rl:rb<w.heap.size) (ks:KS w (some (φ rb 0)) row.length (fun j=>row.getD j 0)):KI w8 j9 (au++[ψ rb 0 row.length rc]) (K++[row]):=by
 have kp:∀ q,q<w.heap.size->q≠ob->w8.heap[q]?=w.heap[q]?:=fun q hq hn=>(r2.block q ζ (fun e=>hn (by cases e;rfl))).trans (qap w _ hq)
 have nD:∀ q,q<w.heap.size->q≠ob->q<w8.heap.size:=fun q hq hn=>by have e:=kp q hq hn;rw [Array.getElem?_eq_getElem hq] at e;exact (qab.1 e).1
 refine ⟨by rw [Ψ,Ψ,h.len];rfl,fun i hi=>?_⟩
 by_cases e:i<K.length
 ·obtain ⟨b,c,h1,h2,h3,h4⟩:=h.row i e
  have eg:(K++[row]).getD i []=K.getD i []:=by rw [qag,qau e,<-List.getD_eq_getElem?_getD]
  rw [eg];refine ⟨b,c,by rw [qau (by rw [h.len];exact e)];exact h1,?_,nD b h3 h2,h4.keep (nD b h3 h2) (kp b h3 h2)⟩
  rcases o8 with q | q
  ·rw [q];exact h2
  ·omega
 ·have ei:i=K.length:=by rw [Ψ] at hi;simp at hi;omega
  subst ei;have eg:(K++[row]).getD K.length []=row:=by simp [List.getD]
  rw [eg];refine ⟨rb,rc,by rw [<-h.len];simp,?_,nD rb rl rn,ks.keep (nD rb rl rn) (kp rb rl rn)⟩
  rcases o8 with q | q
  ·rw [q];exact rn
  ·omega
theorem KI.kv {base oc:Nat} (h:KI w ob au K) (o:w.ownsRow base 143 1 (ψ ob 0 n oc) n au) (hn:K.length=n):KV w (some (φ ob 0)) K :=
 ⟨fun h0=>⟨ob,0,rfl,(o.lt ob rfl).2,fun i hi=>by
  obtain ⟨rb,rc,h1,_,_,h4⟩:=h.row i hi;refine ⟨some ⟨rb,0,none⟩,rc,?_,h4⟩;rw [qai,World.ownsRow.cellAt o i ω];exact h1⟩⟩
theorem Q6 {α β:Type} (f:α->β) (L:List (List α)):aN (L.map (List.map f))=aN L:=by unfold aN;rw [List.map_map];congr 1;exact List.map_congr_left fun l _=>ε
theorem acZ {α:Type} (L:List (List α)) (d:α):aN (eT L.length (fun i=>(L.getD i []).length) (fun _=>0))=aN L:=by
 have:=congrArg aN (Qx L d)
 rwa [Q6] at this
theorem ac0:(prog.info? 143).map (fun i=>(i.zero,i.size,i.bytes))=some (some (.slice none 0 0),1,24):=η
theorem ac1 {base e size:Nat} {v:Value} {xs:List Value} (h:w.ownsRow base e size v n xs) (g:Gw w w'):w'.ownsRow base e size v n xs:=by
 refine ⟨h.1,?_⟩;rcases h.2 with q | ⟨b,cap,cur,rfl,hb,hh,r⟩
 ·exact .inl q
 ·exact .inr ⟨b,cap,cur,rfl,hb,(g.below.block b (qab.1 hh).1).trans hh,r⟩
theorem ac2 (w:World) (x:Value) (t:TypeId):∀ j u,[x][j]?=some u->(w.alloc (.cells #[x] t)).cell? ((⟨w.heap.size,0,none⟩:Addr).add j)=some u:=by
 intro j u hu;cases j with
 | zero =>
  simp only [List.getElem?_cons_zero,Option.some.injEq] at hu;subst hu;simp [Addr.add,go_sem]
 | succ j=>simp at hu
def dI (L:List (List ah)):List (List Int):=L.map (List.map ah.k)
theorem yM (L:List (List ah)):(dI L).length=L.length:=by simp [dI]
theorem Iw (L:List (List ah)) {i:Nat} (hi:i<L.length):(dI L).getD i []=(L.getD i []).map ah.k:=by simp [dI,List.getD,hi]
theorem Ix (L:List (List ah)):∀ i,i<L.length->cV (dI L) i=(L.getD i []).length:=fun i hi=>by unfold cV;rw [Iw L hi];simp
theorem ac3 {L:List (List ah)} {P:List (Nat×Nat)} (h:Mg (dD (dI L)) (eT (dI L).length (cV (dI L)) fun _=>0) P):Mg ah.k L (P.map fun p=>(L.getD p.1 []).getD p.2 aq):=by
 have e1:eT (dI L).length (cV (dI L)) (fun _=>0)=eT L.length (fun i=>(L.getD i []).length) (fun _=>0):=by
  unfold eT;rw [yM];refine List.map_congr_left fun i hi=>?_
  unfold ku;rw [Ix L i (List.mem_range.1 hi)]
 rw [e1] at h;have hk:∀ p:Nat×Nat,p.1<L.length/\p.2<(L.getD p.1 []).length->((L.getD p.1 []).getD p.2 aq).k=dD (dI L) p:=fun p hp=>by unfold dD;rw [Iw L hp.1];have h2:=hp.2;generalize L.getD p.1 []=l at h2 ⊢;simp [List.getD,h2]
 have:=h.map' (fun p=>(L.getD p.1 []).getD p.2 aq) ah.k (S:=fun p=>p.1<L.length/\p.2<(L.getD p.1 []).length) hk (fun l hl p hp=>by
  obtain ⟨i,hi,rfl⟩:=qaA.1 hl;have dQ:=List.mem_range.1 hi;obtain ⟨j,hj,rfl⟩:=qaA.1 hp;rw [List.mem_range'_1] at hj;have h9:j<0+((L.getD i []).length-0):=hj.2;exact ⟨dQ,by show j<(L.getD i []).length;omega⟩)
 rwa [Qx] at this
theorem ac4 (ao:Option Addr) (c:Nat) (L:List (List ah)) (hl:L.length<=2000000) (hs:∀ i,i<L.length->(L.getD i []).length<=2000000) (hN:aN L<=2000000) (w:World) (h:EV w ao L) :
  Calls prog 92 #[.slice ao L.length c] w fun e w'=>(∃ ob oc o,e=χ (ψ ob 0 o.length oc)/\EO w' w.heap.size (ψ ob 0 o.length oc) o/\Mg ah.k L o)/\Gw w w':=by
 have HE:ag (EV w ao L):=h;have HS:ag (∀ i,i<L.length->(L.getD i []).length<=2000000):=hs;have RM:ag (∀ (W:World) (ko:Option Addr) (kc:Nat),KV W ko (dI L)->Calls prog 112 #[.slice ko L.length kc] W fun e w'=>(∃ ob oc P,e=χ (ψ ob 0 P.length oc)/\gI w' (W.heap.size+1) (ψ ob 0 P.length oc) P/\Mg ah.k L (P.map fun p=>(L.getD p.1 []).getD p.2 aq)/\(∀ p∈P,p.1<L.length/\p.2<(L.getD p.1 []).length)/\P.length<=2000000)/\Gw W w'):=fun W ko kc hk=>by
  have e:=yM L;have e1:aN (eT (dI L).length (cV (dI L)) fun _=>0)<=2000000:=by
   have:=acZ (dI L) 0
   have q:aN (dI L)=aN L:=Q6 ah.k L;have:aN (eT (dI L).length (cV (dI L)) fun _=>0)=aN (dI L):=this
   omega
  have:=acU ko kc (dI L) ω (fun i hi=>by rw [Ix L i ω];exact hs i ω) e1 W hk
  rw [e] at this;refine this.mono fun e' w' ⟨⟨ob,oc,P,a1,a2,a3,a4⟩,g⟩=>⟨⟨ob,oc,P,a1,a2,?_,fun p hp=>?_,?_⟩,g⟩
  ·rw [<-e] at a3
   exact ac3 a3
  ·obtain ⟨x,y⟩:=a4 p hp
   exact ⟨x,by rw [Ix L _ x] at y;exact y⟩
  ·have:=a3.few
   rw [e] at e1;omega
 obtain ⟨ln,ax⟩:=qbr L.length;have LN:ag (L.length=ln):=ax;rw [ax] at hl RM HS ⊢;clear h hs ax hN;obtain ⟨jj,ka,jz,js,kg⟩:=info_parts ac0;obtain ⟨kk,yN,kz,ks',kby⟩:=info_parts qF;obtain ⟨ii,aK,hz,eI,aJ⟩:=info_parts kZ;have R1:ag ((w.alloc (.cells #[] 143)).ownsRow w.heap.size 143 1 (ψ w.heap.size 0 0 0) 0 []):=World.ownsRow_made w #[] 0 (Yk _) (Γ _) rfl;have K1:ag (KI (w.alloc (.cells #[] 143)) w.heap.size [] ((dI L).take 0)):=⟨ε,fun i hi=>by simp at hi⟩
 have G1:ag (Gw w (w.alloc (.cells #[] 143))):=(Gw.refl w).alloc _ _;go_enter func92,ntmps92;go_wp2_with fail;generalize w.alloc (.cells #[] 143)=w1 at R1 K1 G1 ⊢;go_loopg [3,4] ln (fun gg s3 s4 wr=>∃ (i ob oc:Nat) (au:List Value),s3=ψ ob 0 i oc/\s4=By (i:Int)/\i<=ln/\ln-i<=gg/\ag (wr.ownsRow w.heap.size 143 1 (ψ ob 0 i oc) i au)/\ag (KI wr ob au ((dI L).take i))/\ag (Gw w wr))
 case atStart=>exact ⟨0,w.heap.size,0,[],rfl,rfl,Γ _,ω,R1,K1,G1⟩
 case round =>
  clear R1 K1 G1;obtain ⟨i,ob,oc,au,rfl,rfl,a1,a2,R,KK,G⟩:=hrel;by_cases dP:i<ln
  ·have QR:(i:Int)<(ln:Int):=(by omega);obtain ⟨wS,aS⟩:=qbs wr;subst aS;have TK:ag ((dI L).take (i+1)=(dI L).take i++[(L.getD i []).map ah.k]):=by
    show _=_;have hi:i<(dI L).length:=(by rw [yM,LN.o];exact dP);rw [<-Iw L (by rw [LN.o];exact dP),qaW,qah hi,qag,qah hi]
    rfl
   have Q9:=HS.o i dP;obtain ⟨l,dw⟩:=qbr (L.getD i []);have HL:ag (L.getD i []=l):=dw;rw [dw] at TK Q9;obtain ⟨n,hn⟩:=qbr l.length;have LL:ag (l.length=n):=hn;rw [hn] at Q9;clear dw hn;have Q2:ag ((wS.alloc (.cells #[] 35)).ownsRow wS.heap.size 35 1 (ψ wS.heap.size 0 0 0) 0 ((List.range 0).map fun j=>Value.int .u64 (l.getD j aq).k)):=World.ownsRow_made wS #[] 0 (Yk _) (Γ _) rfl
   have G2:ag (Gw wS (wS.alloc (.cells #[] 35))):=(Gw.refl wS).alloc _ _;go_wp2_with fail;generalize wS.alloc (.cells #[] 35)=w2 at Q2 G2 ⊢;obtain ⟨tP,vO⟩:=qbr wS.heap.size;have RB:ag (wS.heap.size=tP):=vO;rw [vO] at Q2 ⊢;clear vO;go_loopg [5,6] n (fun gg s5 s6 wr=>∃ (j rb rc:Nat),s5=ψ rb 0 j rc/\s6=By (j:Int)/\j<=n/\n-j<=gg/\ag (tP<=rb)/\ag (wr.ownsRow tP 35 1 (ψ rb 0 j rc) j ((List.range j).map fun t=>Value.int .u64 (l.getD t aq).k))/\ag (Gw wS wr))
   case atStart=>exact ⟨0,tP,0,rfl,rfl,Γ _,ω,(show ag _ from Yk _),Q2,G2⟩
   case round =>
    clear Q2 G2;obtain ⟨j,rb,rc,rfl,rfl,b1,b2,Iy,Q,GG⟩:=hrel;obtain ⟨lb,iJ,rfl,dO,bL⟩:=((HE.o.gw G.o).gw GG.o).cells (by rw [LN.o];omega)
    obtain ⟨eo,ec,p1,p2,p3,_⟩:=bL i (by rw [LN.o];exact dP)
    rw [HL.o,LL.o] at p1 p2;rw [HL.o] at p3;have E3:ag (EL wr eo l):=p3;clear bL p3;by_cases kF:j<n
    ·have It:(j:Int)<(n:Int):=(by omega);obtain ⟨eb,iu,rfl,gV,kh⟩:=E3.o.cells (by rw [LL.o];omega)
     have kc:=(kh j (by rw [LL.o];exact kF)).1
     obtain ⟨xk,rG⟩:=qbr ((l.getD j aq).k);have XK:ag ((l.getD j aq).k=xk):=rG;have Q':wr.cell? (φ eb (iu+j*3))=some (BY xk):=(by rw [<-rG];exact kc);have wz:=GG.o.size;have rbe:=RB.o;clear kh rG kc;go_wp2_with (at_builtin;refine wpList_append_own _ rfl _ _ 143 rfl tP 35 kk (BY 0) 1 8 underlying143 yN kz ks' kby rfl γ _ j _ rfl (Q.o.alloc _) ⟨wr.heap.size,0,none⟩ 1 1 [BY xk] rfl rfl (uY wr xk) (ints_oneCell .u64 [xk]) θ ω ζ ?_);intro v' w5 r1 r2 r3;obtain ⟨b5,cB,rfl,dZ,_,_⟩:=cJ r1 (by simpa using r3)
     have Q5:ag (w5.ownsRow tP 35 1 (ψ b5 0 (j+1) cB) (j+1) ((List.range (j+1)).map fun t=>Value.int .u64 (l.getD t aq).k)):=by
      have:=r1
      rw [<-XK.o] at this;rw [List.range_succ,qaV];exact this
     have G5:ag (Gw wS w5):=(GG.o.alloc _ _).grown r2 (fun q hq=>by have:=(World.ownsRow.lt Q.o q hq).1;have:=RB.o;omega)
     have B5:ag (tP<=b5):=dZ;clear r1 r2 r3 Q GG Iy Q' gV dZ XK E3 p1 dO;go_wp2_with fail;go_roundg (n-(j+1))
     case measure=>omega
     case rel=>exact ⟨j+1,b5,cB,rfl,by go_num,ω,Yk _,B5,Q5,G5⟩
    ·have ej:j=n:=(by omega);subst ej;have KR:ag (KS wr (some (φ rb 0)) (l.map ah.k).length (fun t=>(l.map ah.k).getD t 0)):=by
      have e:(l.map ah.k).length=j:=(by rw [qaS,LL.o]);rw [e];refine xA Q.o (Yk _) (fun t ht=>?_) (fun t ht=>?_)
      ·have:(l.map ah.k).getD t 0=(l.getD t aq).k:=by have rH:t<l.length:=(by rw [LL.o];exact ht);simp [List.getD,rH]
       rw [this];simp [ht]
      ·have rH:t<l.length:=(by rw [LL.o];exact ht);have:(l.map ah.k).getD t 0=(l.getD t aq).k:=by simp [List.getD,rH]
       rw [this];exact (E3.o.ok rH).1
     have pT:=(R.o.lt ob rfl).2;have Ra:=(World.ownsRow.lt Q.o rb rfl).2;have rbo:rb≠ob:=(by have:=Iy.o;have:=RB.o;omega);have R4:ag (wr.ownsRow w.heap.size 143 1 (ψ ob 0 i oc) i au):=ac1 R.o GG.o;have K4:ag (KI wr ob au ((dI L).take i)):=KK.o.gw GG.o;have G4:ag (Gw w wr):=G.o.trans GG.o;have wz:=G4.o.size;clear Q E3 R KK Iy p2;go_wp2_with (at_builtin;refine wpList_append_own_at _ rfl _ _ 162 rfl w.heap.size 143 jj (.slice none 0 0) 1 24 underlying162 ka jz js kg rfl γ _ i _ rfl (R4.o.alloc _) ⟨wr.heap.size,0,none⟩ 1 1 [(ψ rb 0 j rc)] rfl rfl (ac2 wr (ψ rb 0 j rc) 143) (fun u hu=>by simp at hu;subst hu;rfl) θ ω ζ ?_)
     intro v' w8 r1 r2 r3 r4;obtain ⟨b8,cap8,rfl,pM,_,_⟩:=cJ r1 (by simpa using r3)
     have pO:b8=ob\/wr.heap.size<=b8:=by
      rcases r4 with q | q
      ·have q':b8=ob:=(by simpa [Value.ownBlock] using q);exact .inl q'
      ·have q':b8=wr.heap.size+1:=(by simpa [Value.ownBlock] using q);exact .inr ω
     have iF:(wr.alloc (.cells #[(ψ rb 0 j rc)] 143)).grownBy w8 (some ob):=r2;have K8:ag (KI w8 b8 (au++[(ψ rb 0 j rc)]) ((dI L).take (i+1))):=(by rw [TK.o];have:=K4.o.more (rc:=rc) iF pO rbo Ra KR.o;rw [qaS,LL.o] at this;exact this);have G8:ag (Gw w w8):=(G4.o.alloc _ _).grown r2 (fun q hq=>(World.ownsRow.lt R4.o q hq).1)
     have R8:ag (w8.ownsRow w.heap.size 143 1 (ψ b8 0 (i+1) cap8) (i+1) (au++[(ψ rb 0 j rc)])):=r1;clear r1 r2 r3 r4 iF pM R4 K4 G4 KR;go_wp2_with fail;go_roundg (ln-(i+1))
     case measure=>omega
     case rel=>exact ⟨i+1,b8,cap8,_,rfl,by go_num,ω,Yk _,R8,K8,G8⟩
  ·have ei:i=ln:=(by omega);subst ei;have Rb:ag (KV wr (some (φ ob 0)) (dI L)):=by
    have t:(dI L).take i=dI L:=qaQ (by rw [yM,LN.o];exact Yk _)
    have:=KK.o
    rw [t] at this;exact this.kv R.o (by rw [yM,LN.o])
   clear R KK;go_wp2_with fail;refine Calls.mono (RM.o _ _ _ Rb.o) ?_;rintro e w3 ⟨⟨tb,tc,P,rfl,pl,mg,pb,pn⟩,g3⟩;have MGG:ag (Mg ah.k L (P.map fun p=>(L.getD p.1 []).getD p.2 aq)):=mg
   have PB:ag (∀ p∈P,p.1<i/\p.2<(L.getD p.1 []).length):=pb;have P3:ag (gI w3 (wr.heap.size+1) (ψ tb 0 P.length tc) P):=pl;have G3:ag (Gw w w3):=G.o.trans g3;obtain ⟨pm,vQ⟩:=qbr P.length;have PM:ag (P.length=pm):=vQ;rw [vQ] at pn ⊢;clear vQ pl mg pb g3 G Rb RM;have E4:ag (EO (w3.alloc (.cells #[] 71)) w3.heap.size (ψ w3.heap.size 0 0 0) ((P.take 0).map fun p=>(L.getD p.1 []).getD p.2 aq)):=QN w3 _ (Yk _)
   have G4:ag (Gw w3 (w3.alloc (.cells #[] 71))):=(Gw.refl w3).alloc _ _;go_wp2_with fail;generalize w3.alloc (.cells #[] 71)=w4 at E4 G4 ⊢;go_loopg [8,9] pm (fun gg s8 s9 wr=>∃ (j ob oc:Nat),s8=ψ ob 0 j oc/\s9=By (j:Int)/\j<=pm/\pm-j<=gg/\ag (EO wr w3.heap.size (ψ ob 0 j oc) ((P.take j).map fun p=>(L.getD p.1 []).getD p.2 aq))/\ag (Gw w3 wr))
   case atStart=>exact ⟨0,w3.heap.size,0,rfl,rfl,Γ _,ω,E4,G4⟩
   case round =>
    clear E4 G4;obtain ⟨j,ob,oc,rfl,rfl,b1,b2,E,GG⟩:=hrel;by_cases kF:j<pm
    ·have It:(j:Int)<(pm:Int):=(by omega);have tbl:tb<w3.heap.size:=(World.ownsRow.lt P3.o tb rfl).2;obtain ⟨t0,t1⟩:=acN (tH P3.o GG.o) (i:=j) (by rw [PM.o];exact kF)
     have Rc:tb<wr.heap.size:=Θ tbl GG.o.size;obtain ⟨q1,q2⟩:=PB.o (P.getD j (0,0)) (by rw [qag,qah (by rw [PM.o];exact kF)];exact qaz _)
     have TK:ag ((P.take (j+1)).map (fun p=>(L.getD p.1 []).getD p.2 aq)=(P.take j).map (fun p=>(L.getD p.1 []).getD p.2 aq)++[(L.getD (P.getD j (0,0)).1 []).getD (P.getD j (0,0)).2 aq]):=by show _=_;have hj:j<P.length:=(by rw [PM.o];exact kF);have e:P.getD j (0,0)=P[j]:=(by simp [List.getD,hj]);rw [e,qaW,qah hj,qaV];rfl
     obtain ⟨⟨u,x⟩,Rd⟩:∃ p,P.getD j (0,0)=p:=⟨_,rfl⟩;rw [Rd] at t0 t1 q1 q2 TK;have Cx:wr.cell? (φ tb (j*2))=some (By (u:Int)):=t0;have oH:wr.cell? (φ tb (j*2+1))=some (By (x:Int)):=t1;have lW:u<i:=q1;have vv:x<(L.getD u []).length:=q2;have ul':(u:Int)<(i:Int):=ω;clear t0 t1 q1 q2 Rd;have HSu:=HS.o u lW;obtain ⟨lb,iJ,rfl,dO,bL⟩:=((HE.o.gw G3.o).gw GG.o).cells (by rw [LN.o];omega)
     obtain ⟨eo,ec,p1,p2,p3,_⟩:=bL u (by rw [LN.o];exact lW)
     obtain ⟨n,hn⟩:=qbr ((L.getD u []).length);obtain ⟨eb,iu,rfl,gV,kh⟩:=p3.cells ω;obtain ⟨c0,c1,c2⟩:=kh x vv;have Re:ag ((P.take (j+1)).map (fun p=>(L.getD p.1 []).getD p.2 aq)=(P.take j).map (fun p=>(L.getD p.1 []).getD p.2 aq)++[(L.getD u []).getD x aq]):=TK
     rw [hn] at p1 p2 vv HSu;obtain ⟨y,hy⟩:=qbr ((L.getD u []).getD x aq);rw [hy] at c0 c1 c2 Re;obtain ⟨xk,xv,xg⟩:=y;have d0:wr.cell? (φ eb (iu+x*3))=some (BY xk):=c0;have d1:wr.cell? (φ eb (iu+x*3+1))=some (BY xv):=c1;have d2:wr.cell? (φ eb (iu+x*3+2))=some (.bool xg):=c2;have xl':(x:Int)<(n:Int):=ω;have ac5:lb<w3.heap.size:=by
      obtain ⟨_,_,e,h3,_⟩:=(HE.o.gw G3.o).cells (by rw [LN.o];omega)
      cases e
      exact h3
     have ais:eb<w3.heap.size:=by
      obtain ⟨_,_,e,_,h3⟩:=(HE.o.gw G3.o).cells (by rw [LN.o];omega)
      cases e
      obtain ⟨eo',ec',p1',_,p3',_⟩:=h3 u (by rw [LN.o];exact lW)
      have Rf:=(GG.o.cell _ _ ac5).trans p1';rw [p1] at Rf;cases Rf;obtain ⟨_,_,e,h4,_⟩:=p3'.cells ω;cases e;exact h4
     clear bL kh c0 c1 c2 hy TK p3 hn p2;obtain ⟨w5,Iz⟩:=qbs wr;subst Iz;have obg:w3.heap.size<=ob:=(World.ownsRow.lt E.o ob rfl).1;have HX:ag (∀ w':World,(∀ q,q<w5.heap.size->q≠ob->w'.heap[q]?=w5.heap[q]?)->(∀ q,q<w5.heap.size->q≠ob->w'.heap[q]?=w5.heap[q]?)/\w'.cell? (φ tb (j*2))=some (By (u:Int))/\w'.cell? (φ tb (j*2+1))=some (By (x:Int))/\w'.cell? (φ lb (iJ+u))=some (ψ eb iu n ec)/\w'.cell? (φ eb (iu+x*3))=some (BY xk)/\w'.cell? (φ eb (iu+x*3+1))=some (BY xv)/\w'.cell? (φ eb (iu+x*3+2))=some (.bool xg)):=fun w' h=>by
      have ce:∀ b o,b<w5.heap.size->b≠ob->w'.cell? (φ b o)=w5.cell? (φ b o):=fun b o hb hn=>by simp [World.cell?,h b hb hn]
      exact ⟨h,(ce _ _ Rc ω).trans Cx,(ce _ _ Rc ω).trans oH,(ce _ _ dO ω).trans p1,(ce _ _ gV ω).trans d0,(ce _ _ gV ω).trans d1,(ce _ _ gV ω).trans d2⟩
     have H0:ag (∀ q,q<w5.heap.size->q≠ob->w5.heap[q]?=w5.heap[q]?):=fun _ _ _=>rfl
     have dB:ag ((w5.alloc (.cells #[BY xk,BY xv,.bool xg] 71)).drew.ownsRow w3.heap.size 71 3 (ψ ob 0 j oc) j (((P.take j).map fun p=>(L.getD p.1 []).getD p.2 aq).flatMap aI)):=by
      have:=E.o
      unfold EO at this;rw [qaS,qav,PM.o,qaU ω] at this;exact World.ownsRow.alloc this _
     have NS:ag (∀ j u,(aI ⟨xk,xv,xg⟩)[j]?=some u->(w5.alloc (.cells #[BY xk,BY xv,.bool xg] 71)).drew.cell? ((⟨w5.heap.size,0,none⟩:Addr).add j)=some u):=lV w5 ⟨xk,xv,xg⟩;have gsz:=GG.o.size;have GV:ag (Gw w3 w5):=GG;have LJ:ag (((P.take j).map fun p=>(L.getD p.1 []).getD p.2 aq).length=j):=(by show _=_;rw [qaS,qav,PM.o,qaU ω]);clear Cx oH p1 d0 d1 d2;go_wp2_with fail;go_region_held3 (fun w'=>(∀ q,q<w5.heap.size->q≠ob->w'.heap[q]?=w5.heap[q]?)/\w'.cell? (φ tb (j*2))=some (By (u:Int))/\w'.cell? (φ tb (j*2+1))=some (By (x:Int))/\w'.cell? (φ lb (iJ+u))=some (ψ eb iu n ec)/\w'.cell? (φ eb (iu+x*3))=some (BY xk)/\w'.cell? (φ eb (iu+x*3+1))=some (BY xv)/\w'.cell? (φ eb (iu+x*3+2))=some (.bool xg))
      ((refine HX.o _ ?_;(first | exact Ξ δ | exact ag.o δ | (intro q hq hn;rfl) | (intro q hq hn;exact qap _ _ hq));done))
      (first | (refine QY _ rfl (.tmp 51) (.tmp 67) 72 rfl w3.heap.size 71 ii _ 3 24 underlying72 aK hz eI aJ rfl γ ob j oc (((P.take j).map fun p=>(L.getD p.1 []).getD p.2 aq).flatMap aI) κ dB.o (some (φ w5.heap.size 0)) 1 1 (aI ⟨xk,xv,xg⟩) κ (fun q=>by cases q) rfl (fun ad e'=>(by cases e';exact NS.o)) (kC _) θ ω (by simp<;>omega) ?_;intro b7 yC w7 r1 r2 r3 r4;have X7:ag (∀ q,q<w5.heap.size->q≠ob->w7.heap[q]?=w5.heap[q]?):=(fun q hq hn=>(r2.block q ζ (fun e=>hn (by cases e;rfl))).trans (qap _ _ hq));have Q7:ag (Gw w3 w7/\EO w7 w3.heap.size (ψ b7 0 (j+1) yC) ((P.take (j+1)).map fun p=>(L.getD p.1 []).getD p.2 aq)):=⟨(GV.o.alloc _ _).drew.grown r2 (fun k' hk=>by have e:ob=k':=(by simpa using hk);omega),(by rw [Re.o];exact pQ (by rw [LJ.o];exact r1))⟩;clear r1 r2 r3))
     all_goals go_wp2_with fail
     all_goals go_roundg (pm-(j+1))
     all_goals first
      | (case measure=>omega)
      | (case rel=>exact ⟨j+1,b7,yC,rfl,by go_num,ω,Yk _,(show ag _ from Q7.o.2),(show ag _ from Q7.o.1)⟩)
    ·have ej:j=pm:=(by omega);subst ej;have TT:P.take j=P:=qaQ (by rw [PM.o];exact Yk _)
     rw [TT] at E;have IA:((P.map fun p=>(L.getD p.1 []).getD p.2 aq)).length=j:=(by rw [qaS,PM.o]);have E5:ag (EO wr w.heap.size (ψ ob 0 (P.map fun p=>(L.getD p.1 []).getD p.2 aq).length oc) (P.map fun p=>(L.getD p.1 []).getD p.2 aq)):=(by rw [IA];exact tI E.o G3.o.size);have EL6:ag ((P.map fun p=>(L.getD p.1 []).getD p.2 aq).length=j):=IA
     clear E TT IA;go_wp2_with fail;refine bodyPost_ret (v:=ψ ob 0 j oc) (by simp [results,results92,go_sem]) rfl ⟨⟨ob,oc,_,by rw [EL6.o],E5.o,MGG.o⟩,G3.o.trans GG.o⟩
