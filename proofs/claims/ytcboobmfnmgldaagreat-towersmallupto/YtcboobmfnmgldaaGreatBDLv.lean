/- The document's layer 16: the live keys of lists. -/
import Derived.Laws.AppendOwnNone
import Derived.Test.YtcboobmfnmgldaaGreatBIOf
set_option linter.unusedVariables false
set_option maxHeartbeats 8000000
set_option maxRecDepth 20000
open Go.Proofs.Tryz
namespace Go.Proofs.YtcboobmfnmgldaaGreat
open Go.RowKit
theorem Ht (e:ah):(dM e).length<=1:=by unfold dM;split<;>simp
theorem Hu (a l:List ah):(aX a l).length<=a.length+l.length:=by
 refine pX (P:=fun a l=>(aX a l).length<=a.length+l.length) (fun a=>?_) (fun e r ih=>?_) (fun a bG e r c ih=>?_) (fun a bG e r c ih=>?_) (fun a bG e r c ih=>?_) _ a l (Nat.le_refl _)
 ·rw [xJ];exact Nat.le_refl _
 ·rw [xK,List.length_append]
  have:=Ht e
  simp only [List.length_nil,List.length_cons] at *;omega
 ·rw [xL _ _ c]
  simp only [List.length_cons] at *;omega
 ·rw [xM _ _ c,List.length_append]
  have:=Ht e
  simp only [List.length_cons] at *;omega
 ·rw [xN _ _ c,List.length_append]
  have:=Ht e
  simp only [List.length_cons] at *;omega
theorem Sk:∀ (L:List (List ah)) (a:List ah),(L.foldl aX a).length<=a.length+aF L
 | [],a=>Nat.le_add_right _ _
 | x::L,a=>by
  have:=Sk L (aX a x)
  have:=Hu a x
  rw [List.foldl_cons,iF];omega
theorem acY (L:List (List ah)):(aV L).length<=aF L:=by have:=Sk L [];simpa [aV] using this
theorem Sl:∀ (L:List (List ah)) (i:Nat),aF (L.take i)<=aF L
 | [],i=>by rw [List.take_nil];exact Nat.le_refl _
 | x::L,0=>Nat.zero_le _
 | x::L,i+1=>by rw [List.take_succ_cons,iF,iF];have:=Sl L i;omega
theorem Sm {x:ah}:∀ (L:List (List ah)) (a:List ah),x∈L.foldl aX a->x∈a\/∃ l∈L,x∈l
 | [],a,h=>.inl h
 | y::L,a,h=>by
  rcases Sm L (aX a y) h with q | ⟨l,hl,q⟩
  ·rcases uA _ _ q with z | ⟨z,_⟩
   ·exact .inl z
   ·exact .inr ⟨y,List.mem_cons_self ..,z⟩
  ·exact .inr ⟨l,List.mem_cons_of_mem _ hl,q⟩
variable {L:List (List ah)}
theorem acZ {x:ah} (h:x∈aV L):∃ l∈L,x∈l:=(Sm L [] h).elim (fun q=>by cases q) id
variable {w:World} {n:Nat} {v:Value}
theorem Sn {base e size:Nat} {xs:List Value} (h:w.ownsRow base e size v n xs):∃ ao c,v=.slice ao n c:=by
 rcases h.2 with ⟨e,z⟩ | ⟨g,cap,cur,e,_⟩
 ·exact ⟨none,0,by rw [e,z]⟩
 ·exact ⟨_,_,e⟩
theorem Hv (m:List ah):(m.flatMap aO).length=m.length*3:=by
 induction m with
 | nil=>rfl
 | cons x m ih=>rw [List.flatMap_cons,List.length_append,ih,List.length_cons];show 3+_=_;omega
theorem So (m:List ah):∀ u∈m.flatMap aO,u.oneCell'=true:=fun u hu=>by
 obtain ⟨e,_,h⟩:=List.mem_flatMap.1 hu;exact mJ e u h
theorem ac0 (L:List (List ah)) {i:Nat} (hi:i<L.length):(aV (L.take i)).length+(L.getD i []).length<=aF L:=by
 have a:=acY (L.take i);have b:=Sl L (i+1);have e:L.take (i+1)=L.take i++[L.getD i []]:=by
  rw [List.take_add_one,List.getElem?_eq_getElem hi,List.getD_eq_getElem?_getD,List.getElem?_eq_getElem hi];rfl
 have c:aF (L.take i++[L.getD i []])=aF (L.take i)+(L.getD i []).length:=by simp [aF]
 rw [e,c] at b;omega
theorem ac1 (L:List (List ah)) {i:Nat} (hi:i<L.length):aV (L.take (i+1))=aX (aV (L.take i)) (L.getD i []):=by
 have e:L.take (i+1)=L.take i++[L.getD i []]:=by
  rw [List.take_add_one,List.getElem?_eq_getElem hi,List.getD_eq_getElem?_getD,List.getElem?_eq_getElem hi];rfl
 rw [e,Se]
theorem ac2 {base b cap k:Nat} {l:List ah} (h:EO w base (.slice (some ⟨b,0,none⟩) n cap) l) (hn:l.length=n) (hk:k<=n):∀ j u,((l.drop k).flatMap aO)[j]?=some u->w.cell? ((⟨b,k*3,none⟩:Addr).add j)=some u:=by
 intro j u hu;have e:(l.flatMap aO)[k*3+j]?=((l.drop k).flatMap aO)[j]?:=by
  have fl:=Hv;have e0:l.flatMap aO=(l.take k).flatMap aO++(l.drop k).flatMap aO:=by rw [<-List.flatMap_append,List.take_append_drop]
  rw [e0,List.getElem?_append_right (by rw [fl,List.length_take];omega),fl,List.length_take,Nat.min_eq_left (by omega),Nat.add_sub_cancel_left]
 have:=World.ownsRow.cells (g:=b) h rfl (k*3+j) u (by rw [e];exact hu)
 rw [Addr.add_lit] at this ⊢;rw [Nat.zero_add] at this;exact this
theorem ac3 (ao:Option Addr) (c:Nat) (L:List (List ah)) (hl:L.length<=2000000) (hN:aF L<=2000000) (w:World) (h:EV w ao L) :
  Calls prog 42 #[.slice ao L.length c] w fun e w'=>(∃ ob oc,e=.returned (.slice ob (aV L).length oc)/\EO w' w.heap.size (.slice ob (aV L).length oc) (aV L))/\Gw w w':=by
 have HE:ag (EV w ao L):=h;have HN:ag (aF L<=2000000):=hN;have mQ:ag (∀ l∈L,∀ x∈l,x.ok):=fun l eS x hx=>by
  obtain ⟨i,hi,rfl⟩:=List.mem_iff_getElem.1 eS;obtain ⟨b,off,_,_,hc⟩:=h.cells (by omega)
  obtain ⟨bo,c',_,_,h3,_⟩:=hc i hi;have e:L.getD i []=L[i]:=by simp [List.getD,hi]
  rw [e] at h3;exact h3.all x hx
 obtain ⟨ln,au⟩:∃ ln,L.length=ln:=⟨_,rfl⟩;have LN:ag (L.length=ln):=au;rw [au] at hl ⊢;clear h au hN;obtain ⟨ii,aQ,hz,hs,aR⟩:=info_parts nK;have E1:ag (EO w w.heap.size (.slice none (aV (L.take 0)).length 0) (aV (L.take 0))):=World.ownsRow_nil _ _ _ _;go_enter func42,ntmps42;go_wp2_with fail;go_loopg [3,4] ln (fun gg s3 s4 wr=>∃ (i:Nat) (bo:Option Addr) (bc:Nat),s3=.slice bo (aV (L.take i)).length bc/\s4=AI (i:Int)/\i<=ln/\ln-i<=gg/\ag (EO wr w.heap.size (.slice bo (aV (L.take i)).length bc) (aV (L.take i)))/\ag (Gw w wr))
 case atStart=>exact ⟨0,none,0,rfl,rfl,Nat.zero_le _,by omega,E1,(show ag _ from Gw.refl w)⟩
 case round =>
  clear E1;obtain ⟨i,bo,bc,rfl,rfl,a1,a2,E0,G⟩:=hrel;by_cases fX:i<ln
  ·have aga:(i:Int)<(ln:Int):=by omega
   have hi:i<L.length:=by rw [LN.o];exact fX
   obtain ⟨wS,bj⟩:∃ wx,wx=wr:=⟨_,rfl⟩;subst bj;have NX:ag (aV (L.take (i+1))=aX (aV (L.take i)) (L.getD i [])):=ac1 L hi;have SZ:=ac0 L hi;have hN':=HN.o;have Hw:∀ x∈aV (L.take i),x.ok:=fun x hx=>by
    obtain ⟨l,eS,q⟩:=acZ hx;exact mQ.o l (List.mem_of_mem_take eS) x q
   obtain ⟨A,hA⟩:∃ A,aV (L.take i)=A:=⟨_,rfl⟩;rw [hA] at E0 NX SZ Hw ⊢;obtain ⟨l,eS⟩:∃ l,L.getD i []=l:=⟨_,rfl⟩;have HL:ag (L.getD i []=l):=eS;rw [eS] at NX SZ;have HA:ag (EL wS bo A):=vS E0.o Hw;obtain ⟨n,hn⟩:∃ n,A.length=n:=⟨_,rfl⟩;have AN:ag (A.length=n):=hn;obtain ⟨m,hm⟩:∃ m,l.length=m:=⟨_,rfl⟩;have LM:ag (l.length=m):=hm;rw [hn,hm] at SZ;rw [hn] at E0 ⊢;clear eS hn hm hA Hw;obtain ⟨b0,tz⟩:∃ b,wS.heap.size=b:=⟨_,rfl⟩;have B0:ag (wS.heap.size=b0):=tz;have Z0:ag (EO wS b0 (.slice none 0 0) []):=World.ownsRow_nil _ _ _ _;clear tz;go_wp2_with fail;go_loopg [5,6,7] m (fun gg s5 s6 s7 wr=>∃ (k j nn:Nat) (N:List ah) (no:Option Addr) (nc:Nat),s5=.slice no nn nc/\s6=AI (k:Int)/\s7=AI (j:Int)/\k<=n/\j<=m/\m-j<=gg/\ag (N.length=nn)/\ag (EO wr b0 (.slice no nn nc) N)/\ag (Gw wS wr)/\ag (N++aX (A.drop k) (l.drop j)=aX A l))
   case atStart=>exact ⟨0,0,0,[],none,0,rfl,rfl,rfl,Nat.zero_le _,Nat.zero_le _,by omega,(show ag _ from rfl),Z0,(show ag _ from Gw.refl wS),(show ag _ from by show _=_;simp)⟩
   case round =>
    clear Z0;obtain ⟨k,j,nn,N,no,nc,rfl,rfl,rfl,k1,j1,j2,NL,E,GG,KJ⟩:=hrel;by_cases pO:j<m
    ·have ack:(j:Int)<(m:Int):=by omega
     obtain ⟨wT,xx⟩:∃ wx,wx=wr:=⟨_,rfl⟩;subst xx;have XX:ag (∃ xk xv xg,l.getD j ax=⟨xk,xv,xg⟩):=⟨_,_,_,rfl⟩;obtain ⟨xk,xv,xg,hx⟩:=XX.o;have HX:ag (l.getD j ax=⟨xk,xv,xg⟩):=hx;clear XX hx;obtain ⟨lb,tV,rfl,eR,cL⟩:=HE.o.cells (by rw [LN.o];omega)
     obtain ⟨eo,ec,p1,p2,p3,_⟩:=cL i hi;rw [HL.o,LM.o] at p1;rw [HL.o] at p3;obtain ⟨eb,A9,rfl,jO,py⟩:=p3.cells (by rw [LM.o];omega)
     obtain ⟨c0,c1,c2⟩:=py j (by rw [LM.o];exact pO)
     rw [HX.o] at c0 c1 c2;have CL:ag (∀ W,Gw wS W->(W.cell? ⟨lb,tV+i,none⟩=some (.slice (some ⟨eb,A9,none⟩) m ec)/\lb<W.heap.size)/\(W.cell? ⟨eb,A9+j*3,none⟩=some (By xk)/\W.cell? ⟨eb,A9+j*3+1,none⟩=some (By xv)/\W.cell? ⟨eb,A9+j*3+2,none⟩=some (.bool xg))/\eb<W.heap.size):=fun W g=>by
      have g':=G.o.trans g;exact ⟨⟨(g'.cell _ _ eR).trans p1,Nat.lt_of_lt_of_le eR g'.size⟩,⟨(g'.cell _ _ jO).trans c0,(g'.cell _ _ jO).trans c1,(g'.cell _ _ jO).trans c2⟩,Nat.lt_of_lt_of_le jO g'.size⟩
     have AC:ag (∀ W t,Gw wS W->t<n->∃ ab af,bo=some ⟨ab,af,none⟩/\ab<W.heap.size/\W.cell? ⟨ab,af+t*3,none⟩=some (By (A.getD t ax).k)/\W.cell? ⟨ab,af+t*3+1,none⟩=some (By (A.getD t ax).v)/\W.cell? ⟨ab,af+t*3+2,none⟩=some (.bool (A.getD t ax).g)):=fun W t g ht=>by
      obtain ⟨ab,af,e,cT,jX⟩:=(HA.o.gw g).cells (by rw [AN.o];omega)
      obtain ⟨x0,x1,x2⟩:=jX t (by rw [AN.o];exact ht)
      exact ⟨ab,af,e,cT,x0,x1,x2⟩
     have jl:j<l.length:=by rw [LM.o];exact pO
     clear cL py c0 c1 c2 p1 p2 p3 eR jO;obtain ⟨⟨q1,q2⟩,_,q3⟩:=CL.o wT GG.o;go_wp2_with fail;clear q1 q2 q3;go_loopg [5,6] (n-k) (fun gg s5 s6 wr=>∃ (k nn:Nat) (N:List ah) (no:Option Addr) (nc:Nat),s5=.slice no nn nc/\s6=AI (k:Int)/\k<=n/\n-k<=gg/\ag (N.length=nn)/\ag (EO wr b0 (.slice no nn nc) N)/\ag (Gw wS wr)/\ag (N++aX (A.drop k) (l.drop j)=aX A l))
     case atStart=>exact ⟨k,nn,N,no,nc,rfl,rfl,k1,Nat.le_refl _,NL,E,GG,KJ⟩
     case round =>
      clear NL E GG KJ k1;obtain ⟨k,nn,N,no,nc,rfl,rfl,k1,k2,NL,E,GG,KJ⟩:=hrel;obtain ⟨⟨q1,q2⟩,⟨d0,d1,d2⟩,q3⟩:=CL.o wr GG.o;have eV:ag (wr.ownsRow b0 75 3 (.slice no nn nc) nn (N.flatMap aO)):=by
       have:=E.o
       unfold EO at this;rw [NL.o] at this;exact this
      have bz:b0<=wr.heap.size:=by have:=GG.o.size;have:=B0.o;omega
      have nb:nn<=2000000:=by
       have a:=congrArg List.length KJ.o;rw [List.length_append,NL.o] at a;have b:=Hu A l;rw [AN.o,LM.o] at b;omega
      by_cases Hx:k<n
      ·have agb:(k:Int)<(n:Int):=by omega
       have kl:k<A.length:=by rw [AN.o];exact Hx
       obtain ⟨ab,af,rfl,cT,u0,u1,u2⟩:=AC.o wr k GG.o Hx;have YY:ag (∃ yk yv yg,A.getD k ax=⟨yk,yv,yg⟩):=⟨_,_,_,rfl⟩;obtain ⟨yk,yv,yg,hy⟩:=YY.o;have HY:ag (A.getD k ax=⟨yk,yv,yg⟩):=hy;rw [hy] at u0 u1 u2;have e0:wr.cell? ⟨ab,af+k*3,none⟩=some (By yk):=u0;have e1:wr.cell? ⟨ab,af+k*3+1,none⟩=some (By yv):=u1;have e2:wr.cell? ⟨ab,af+k*3+2,none⟩=some (.bool yg):=u2;clear YY hy u0 u1 u2;by_cases lt:yk<xk
       ·have tl:decide (yk<xk)=true:=by simpa using lt
        have K5:ag ((N++[(⟨yk,yv,yg⟩:ah)])++aX (A.drop (k+1)) (l.drop j)=aX A l):=by
         have:=KJ.o
         rw [acR kl jl (by rw [HY.o,HX.o];exact lt),HY.o] at this
         rw [List.append_assoc];exact this
        have L5:ag ((N++[(⟨yk,yv,yg⟩:ah)]).length=nn+1):=by show _=_;rw [List.length_append,NL.o];rfl
        clear lt;go_wp2_with fail;go_quiet (fail);go_wp2_with (at_builtin;refine wpList_append_own _ rfl _ _ 24 rfl b0 75 ii (.agg #[By 0,By 0,.bool false]) 3 24 underlying24 aQ hz hs aR rfl (by decide) _ nn _ rfl (eV.o.alloc _) ⟨wr.heap.size,0,none⟩ 1 1 (aO ⟨yk,yv,yg⟩) rfl rfl (pC wr ⟨yk,yv,yg⟩) (mJ _) (by simp only [maxLen];omega) (by omega) (by simp;omega) ?_)
        intro v' w5 r1 r2 r3;obtain ⟨b5,dJ,rfl,fI,_,_⟩:=dh r1 (by simpa using r3)
        have E5:ag (EO w5 b0 (.slice (some ⟨b5,0,none⟩) (nn+1) dJ) (N++[(⟨yk,yv,yg⟩:ah)])):=rf (by rw [NL.o];exact r1)
        have G5:ag (Gw wS w5):=((GG.o.drewN _).alloc _ _).grown r2 (fun q hq=>by have:=(World.ownsRow.lt eV.o q hq).1;have:=B0.o;omega)
        clear r1 r2 r3 eV d0 d1 d2 e0 e1 e2 q1 q2 q3 KJ NL E GG;go_wp2_with fail;go_roundg (n-(k+1))
        case measure=>omega
        case rel=>exact ⟨k+1,nn+1,N++[(⟨yk,yv,yg⟩:ah)],some ⟨b5,0,none⟩,dJ,rfl,by go_num,by omega,Nat.le_refl _,L5,E5,G5,K5⟩
       ·have tl:decide (yk<xk)=false:=by simpa using lt
        by_cases eq:yk=xk
        ·have te:(yk == xk)=true:=by simpa using eq
         have KK:ag (N++(dM ⟨xk,xv,xg⟩++aX (A.drop (k+1)) (l.drop (j+1)))=aX A l):=by
          have:=KJ.o
          rw [acS kl jl (by rw [HY.o,HX.o];exact eq),HX.o] at this
          exact this
         clear lt eq KJ;go_wp2_with fail;go_quiet (fail);go_wp2_with fail;go_quiet (fail);cases xg with
         | false =>
          go_wp2_with (at_builtin;refine wpList_append_own _ rfl _ _ 24 rfl b0 75 ii (.agg #[By 0,By 0,.bool false]) 3 24 underlying24 aQ hz hs aR rfl (by decide) _ nn _ rfl (eV.o.alloc _) ⟨wr.heap.size,0,none⟩ 1 1 (aO ⟨xk,xv,false⟩) rfl rfl (pC wr ⟨xk,xv,false⟩) (mJ _) (by simp only [maxLen];omega) (by omega) (by simp;omega) ?_)
          intro v' w5 r1 r2 r3;obtain ⟨b5,dJ,rfl,fI,_,_⟩:=dh r1 (by simpa using r3)
          have E5:ag (EO w5 b0 (.slice (some ⟨b5,0,none⟩) (nn+1) dJ) (N++[(⟨xk,xv,false⟩:ah)])):=rf (by rw [NL.o];exact r1)
          have G5:ag (Gw wS w5):=((GG.o.drewN _).alloc _ _).grown r2 (fun q hq=>by have:=(World.ownsRow.lt eV.o q hq).1;have:=B0.o;omega)
          have L5:ag ((N++[(⟨xk,xv,false⟩:ah)]).length=nn+1):=by show _=_;rw [List.length_append,NL.o];rfl
          have K5:ag ((N++[(⟨xk,xv,false⟩:ah)])++aX (A.drop (k+1)) (l.drop (j+1))=aX A l):=by show _=_;have:=KK.o;unfold dM at this;rw [List.append_assoc];simpa using this
          clear r1 r2 r3 eV KK d0 d1 d2 NL;go_wp2_with fail;go_roundg (m-(j+1))
          case measure=>omega
          case rel=>exact ⟨(k+1),j+1,nn+1,N++[(⟨xk,xv,false⟩:ah)],some ⟨b5,0,none⟩,dJ,rfl,by go_num,by go_num,by omega,by omega,Nat.le_refl _,L5,E5,G5,K5⟩
         | true =>
          have K5:ag (N++aX (A.drop (k+1)) (l.drop (j+1))=aX A l):=by show _=_;have:=KK.o;unfold dM at this;simpa using this
          clear eV KK;go_wp2_with fail;go_roundg (m-(j+1))
          case measure=>omega
          case rel=>exact ⟨(k+1),j+1,nn,N,no,nc,rfl,by go_num,by go_num,by omega,by omega,Nat.le_refl _,NL,(show ag _ from nT E.o ((Gw.refl wr).drewN _)),(show ag _ from GG.o.drewN _),K5⟩
        ·have te:(yk == xk)=false:=by simpa using eq
         have KK:ag (N++(dM ⟨xk,xv,xg⟩++aX (A.drop k) (l.drop (j+1)))=aX A l):=by
          have:=KJ.o
          rw [Sf jl (fun _=>by rw [HY.o,HX.o];show xk<yk;omega),HX.o] at this
          exact this
         clear lt eq KJ;go_wp2_with fail;go_quiet (fail);go_wp2_with fail;go_quiet (fail);cases xg with
         | false =>
          go_wp2_with (at_builtin;refine wpList_append_own _ rfl _ _ 24 rfl b0 75 ii (.agg #[By 0,By 0,.bool false]) 3 24 underlying24 aQ hz hs aR rfl (by decide) _ nn _ rfl (eV.o.alloc _) ⟨wr.heap.size,0,none⟩ 1 1 (aO ⟨xk,xv,false⟩) rfl rfl (pC wr ⟨xk,xv,false⟩) (mJ _) (by simp only [maxLen];omega) (by omega) (by simp;omega) ?_)
          intro v' w5 r1 r2 r3;obtain ⟨b5,dJ,rfl,fI,_,_⟩:=dh r1 (by simpa using r3)
          have E5:ag (EO w5 b0 (.slice (some ⟨b5,0,none⟩) (nn+1) dJ) (N++[(⟨xk,xv,false⟩:ah)])):=rf (by rw [NL.o];exact r1)
          have G5:ag (Gw wS w5):=((GG.o.drewN _).alloc _ _).grown r2 (fun q hq=>by have:=(World.ownsRow.lt eV.o q hq).1;have:=B0.o;omega)
          have L5:ag ((N++[(⟨xk,xv,false⟩:ah)]).length=nn+1):=by show _=_;rw [List.length_append,NL.o];rfl
          have K5:ag ((N++[(⟨xk,xv,false⟩:ah)])++aX (A.drop k) (l.drop (j+1))=aX A l):=by show _=_;have:=KK.o;unfold dM at this;rw [List.append_assoc];simpa using this
          clear r1 r2 r3 eV KK d0 d1 d2 NL;go_wp2_with fail;go_roundg (m-(j+1))
          case measure=>omega
          case rel=>exact ⟨k,j+1,nn+1,N++[(⟨xk,xv,false⟩:ah)],some ⟨b5,0,none⟩,dJ,rfl,by go_num,by go_num,k1,by omega,Nat.le_refl _,L5,E5,G5,K5⟩
         | true =>
          have K5:ag (N++aX (A.drop k) (l.drop (j+1))=aX A l):=by show _=_;have:=KK.o;unfold dM at this;simpa using this
          clear eV KK;go_wp2_with fail;go_roundg (m-(j+1))
          case measure=>omega
          case rel=>exact ⟨k,j+1,nn,N,no,nc,rfl,by go_num,by go_num,k1,by omega,Nat.le_refl _,NL,(show ag _ from nT E.o ((Gw.refl wr).drewN _)),(show ag _ from GG.o.drewN _),K5⟩
      ·have kd:decide ((k:Int)<(n:Int))=false:=by simp;omega
       have KK:ag (N++(dM ⟨xk,xv,xg⟩++aX (A.drop k) (l.drop (j+1)))=aX A l):=by
        have:=KJ.o
        rw [Sf jl (fun q=>absurd q (by rw [AN.o];exact Hx)),HX.o] at this
        exact this
       clear KJ;go_wp2_with fail;go_quiet (fail);go_wp2_with fail;go_quiet (fail);cases xg with
       | false =>
        go_wp2_with (at_builtin;refine wpList_append_own _ rfl _ _ 24 rfl b0 75 ii (.agg #[By 0,By 0,.bool false]) 3 24 underlying24 aQ hz hs aR rfl (by decide) _ nn _ rfl (eV.o.alloc _) ⟨wr.heap.size,0,none⟩ 1 1 (aO ⟨xk,xv,false⟩) rfl rfl (pC wr ⟨xk,xv,false⟩) (mJ _) (by simp only [maxLen];omega) (by omega) (by simp;omega) ?_)
        intro v' w5 r1 r2 r3;obtain ⟨b5,dJ,rfl,fI,_,_⟩:=dh r1 (by simpa using r3)
        have E5:ag (EO w5 b0 (.slice (some ⟨b5,0,none⟩) (nn+1) dJ) (N++[(⟨xk,xv,false⟩:ah)])):=rf (by rw [NL.o];exact r1)
        have G5:ag (Gw wS w5):=((GG.o.drewN _).alloc _ _).grown r2 (fun q hq=>by have:=(World.ownsRow.lt eV.o q hq).1;have:=B0.o;omega)
        have L5:ag ((N++[(⟨xk,xv,false⟩:ah)]).length=nn+1):=by show _=_;rw [List.length_append,NL.o];rfl
        have K5:ag ((N++[(⟨xk,xv,false⟩:ah)])++aX (A.drop k) (l.drop (j+1))=aX A l):=by show _=_;have:=KK.o;unfold dM at this;rw [List.append_assoc];simpa using this
        clear r1 r2 r3 eV KK d0 d1 d2 NL;go_wp2_with fail;go_roundg (m-(j+1))
        case measure=>omega
        case rel=>exact ⟨k,j+1,nn+1,N++[(⟨xk,xv,false⟩:ah)],some ⟨b5,0,none⟩,dJ,rfl,by go_num,by go_num,k1,by omega,Nat.le_refl _,L5,E5,G5,K5⟩
       | true =>
        have K5:ag (N++aX (A.drop k) (l.drop (j+1))=aX A l):=by show _=_;have:=KK.o;unfold dM at this;simpa using this
        clear eV KK;go_wp2_with fail;go_roundg (m-(j+1))
        case measure=>omega
        case rel=>exact ⟨k,j+1,nn,N,no,nc,rfl,by go_num,by go_num,k1,by omega,Nat.le_refl _,NL,(show ag _ from nT E.o ((Gw.refl wr).drewN _)),(show ag _ from GG.o.drewN _),K5⟩
    ·have ej:j=m:=by omega
     subst ej;obtain ⟨lb,tV,rfl,eR,cL⟩:=HE.o.cells (by rw [LN.o];omega)
     obtain ⟨eo,ec,p1,_,_,_⟩:=cL i hi;rw [HL.o,LM.o] at p1;have q1:=((G.o.trans GG.o).cell _ _ eR).trans p1;have q2:lb<wr.heap.size:=Nat.lt_of_lt_of_le eR (G.o.trans GG.o).size;have KE:ag (N++A.drop k=aV (L.take (i+1))):=by
      show _=_;rw [NX.o,<-KJ.o,Sh (by rw [LM.o];exact Nat.le_refl _)]
     have eV:ag (wr.ownsRow b0 75 3 (.slice no nn nc) nn (N.flatMap aO)):=by
      have:=E.o
      unfold EO at this;rw [NL.o] at this;exact this
     have NN:ag ((aV (L.take (i+1))).length=nn+(n-k)):=by
      show _=_;rw [<-KE.o,List.length_append,NL.o,List.length_drop,AN.o]
     have nb:nn+(n-k)<=2000000:=by
      have a:=congrArg List.length KJ.o;have b:=Hu A l;rw [Sh (by rw [LM.o];exact Nat.le_refl _),List.length_append,NL.o,List.length_drop,AN.o] at a
      rw [AN.o,LM.o] at b;omega
     have GB:ag (w.heap.size<=b0):=by show _<=_;have:=G.o.size;have:=B0.o;omega
     have EA:ag (EO wr w.heap.size (.slice bo n bc) A):=nT E0.o GG.o;have xP:n<=bc/\(bo=none->n=0/\bc=0)/\(∀ a,bo=some a->∃ g,a=⟨g,0,none⟩):=by
      rcases E0.o.2 with ⟨e,z⟩ | ⟨g,cap,cur,e,_,_,cc,_⟩
      ·injection e with e1 e2 e3
       have e0:=AN.o;refine ⟨by omega,fun _=>⟨by omega,e3⟩,fun a ha=>?_⟩
       rw [e1] at ha;cases ha
      ·injection e with e1 e2 e3
       refine ⟨by omega,fun x=>?_,fun a ha=>?_⟩
       ·rw [e1] at x;cases x
       ·rw [e1] at ha;cases ha;exact ⟨_,rfl⟩
     have bz:b0<=wr.heap.size:=by have:=GG.o.size;have:=B0.o;omega
     clear cL p1 KJ eR;have aL:ag (∀ (v':Value) (w5:World),w5.ownsRow b0 75 3 v' (nn+(n-k)) (N.flatMap aO++(A.drop k).flatMap aO)->wr.grownBy w5 (Value.slice no nn nc).ownBlock->(∃ xo xc,v'=.slice xo (aV (L.take (i+1))).length xc)/\EO w5 w.heap.size v' (aV (L.take (i+1)))/\Gw w w5):=fun v' w5 r1 r2=>by
      obtain ⟨xo,xc,e⟩:=Sn r1;refine ⟨⟨xo,xc,by rw [NN.o];exact e⟩,?_,(G.o.trans GG.o).grown r2 (fun q hq=>by have:=(World.ownsRow.lt eV.o q hq).1;have:=GB.o;omega)⟩
      have:EO w5 b0 v' (aV (L.take (i+1))):=by
       unfold EO;rw [NN.o,<-KE.o,List.flatMap_append];exact r1
      exact Om this GB.o
     have Ba:ag (∀ b,bo=some ⟨b,0,none⟩->∀ j u,((A.drop k).flatMap aO)[j]?=some u->wr.cell? ((⟨b,k*3,none⟩:Addr).add j)=some u):=fun b e=>by
      subst e;exact ac2 EA.o AN.o k1
     have FL:ag (((A.drop k).flatMap aO).length=(n-k)*3):=by
      show _=_;rw [Hv,List.length_drop,AN.o]
     cases bo with
     | none =>
      obtain ⟨rfl,rfl⟩:=xP.2.1 rfl;have k0:k=0:=by omega
      subst k0;clear Ba E0 E EA KE xP;have HNW:(([]:List ah))=[]:=rfl;have ad:A.drop 0=[]:=by
       have:=AN.o
       rw [List.drop_zero];exact List.eq_nil_of_length_eq_zero this
      rw [ad] at aL FL;go_wp2_with (at_builtin;refine wpList_append_own_none rfl _ _ 24 rfl b0 75 ii 3 underlying24 aQ _ nn _ rfl eV.o rfl ?_);obtain ⟨⟨xo,xc,e⟩,f1,f2⟩:=aL.o _ wr (by simpa using eV.o) (World.grownBy.refl _ _)
      have E5:ag (EO wr w.heap.size (.slice no nn nc) (aV (L.take (i+1)))):=f1;have G5:ag (Gw w wr):=f2;have LL:ag ((aV (L.take (i+1))).length=nn):=by show _=_;injection e with e1 e2 e3;first | done | omega
      clear aL FL eV e f1 f2;go_wp2_with fail;go_roundg (ln-(i+1))
      case measure=>omega
      case rel=>exact ⟨i+1,no,nc,by rw [LL.o],by go_num,by omega,Nat.le_refl _,by rw [LL.o];exact E5,G5⟩
     | some ad =>
      obtain ⟨ab,rfl⟩:=xP.2.2 _ rfl;have nc1:=xP.1;have ki1:(k:Int)<=(n:Int):=by omega
      have ki2:(n:Int)<=(bc:Int):=by omega
      have SC:=Ba.o ab;clear E0 E EA KE xP;by_cases kc:bc=k
      ·have kn:n=k:=by omega
       have ad:A.drop k=[]:=by
        refine List.drop_eq_nil_of_le ?_;rw [AN.o,kn];exact Nat.le_refl _
       have kz:n-k=0:=by omega
       rw [ad,kz] at aL;have Hy:=NN;clear ad NN kz;subst kc;subst kn;go_wp2_with (at_builtin;refine wpList_append_own _ rfl _ _ 24 rfl b0 75 ii (.agg #[By 0,By 0,.bool false]) 3 24 underlying24 aQ hz hs aR rfl (by decide) _ nn _ rfl eV.o ⟨ab,0,none⟩ 0 0 [] rfl rfl (fun j u h=>by cases h) (fun u h=>by cases h) (by simp only [maxLen];omega) (by omega) (by omega) ?_)
       intro v' w5 r1 r2 r3;obtain ⟨⟨xo,xc,e⟩,f1,f2⟩:=aL.o v' w5 (by simpa using r1) r2
       subst e;have E5:ag (EO w5 w.heap.size (.slice xo (aV (L.take (i+1))).length xc) (aV (L.take (i+1)))):=f1;have G5:ag (Gw w w5):=f2;clear aL FL Ba SC f1 f2 r1 r2 r3 Hy;go_wp2_with fail;go_roundg (ln-(i+1))
       case measure=>omega
       case rel=>exact ⟨i+1,xo,xc,rfl,by go_num,by omega,Nat.le_refl _,E5,G5⟩
      ·obtain ⟨news,kU⟩:∃ x,(A.drop k).flatMap aO=x:=⟨_,rfl⟩
       have Hy:ag ((A.drop k).flatMap aO=news):=kU;have on:=So (A.drop k);rw [kU] at aL FL SC on;have ON:ag (∀ u∈news,u.oneCell'=true):=on;have SA:ag (∀ j u,news[j]?=some u->wr.cell? (⟨ab,k*3+j,none⟩:Addr)=some u):=fun j u h=>by
        have:=SC rfl j u h
        rw [Addr.add_lit] at this;exact this
       clear kU NN on;go_wp2_with (at_builtin;refine wpList_append_own _ rfl _ _ 24 rfl b0 75 ii (.agg #[By 0,By 0,.bool false]) 3 24 underlying24 aQ hz hs aR rfl (by decide) _ nn _ rfl eV.o _ _ _ news rfl ?A1 ?A2 ON.o (by simp only [maxLen];omega) (by omega) (by omega) ?A3)
       case A1=>exact FL.o
       case A2=>exact SA.o
       case A3 =>
        intro v' w5 r1 r2 r3;obtain ⟨⟨xo,xc,e⟩,f1,f2⟩:=aL.o v' w5 r1 r2;subst e;have E5:ag (EO w5 w.heap.size (.slice xo (aV (L.take (i+1))).length xc) (aV (L.take (i+1)))):=f1;have G5:ag (Gw w w5):=f2;clear aL FL Ba SC f1 f2 r1 r2 r3 Hy SA ON;go_wp2_with fail;go_roundg (ln-(i+1))
        case measure=>omega
        case rel=>exact ⟨i+1,xo,xc,rfl,by go_num,by omega,Nat.le_refl _,E5,G5⟩
  ·have ei:i=ln:=by omega
   subst ei;have TT:L.take i=L:=List.take_of_length_le (by rw [LN.o];exact Nat.le_refl _)
   have E2:ag (EO wr w.heap.size (.slice bo (aV L).length bc) (aV L)):=by have:=E0.o;rw [TT] at this;exact this
   have LL:ag ((aV (L.take i)).length=(aV L).length):=by show _=_;rw [TT]
   clear E0 TT;generalize (aV (L.take i)).length=n0 at LL;go_wp2_with fail;exact bodyPost_ret (v:=.slice bo n0 bc) (by simp [results,results42,go_sem]) rfl ⟨⟨bo,bc,by rw [<-LL.o],E2.o⟩,G.o⟩
theorem rX {b:Nat} {x0 y0 z0:Value} {t:TypeId} (h:w.heap[b]?=some (.cells #[x0,y0,z0] t (0,0))):w.cell? ⟨b,0,none⟩=some x0/\w.cell? ⟨b,1,none⟩=some y0/\w.cell? ⟨b,2,none⟩=some z0:=by
 refine ⟨?_,?_,?_⟩<;>simp [World.cell?,h]
def Hz (w w':World) (eps buf keys:Int) (pt pb pu:Nat):Prop :=
 w'.heap[pt]?=some (.cells #[AI eps,AI buf,AI keys,BY pb,BY pu] 102 (0,0))/\w'.heap[pb]?=some (.cells #[AI buf,.slice none 0 0] 104 (0,0))/\w.heap.size<=pt/\w.heap.size<=pb/\pb≠pt
theorem ac4 (most:Int) (h1:1<=most) (h2:most<=4294967296) (w:World) :
  Calls prog 76 #[AI most] w fun e w'=>(e=.returned (.tuple #[BY (w.heap.size),AI 0])/\w'.heap[w.heap.size]?=some (.cells #[AI most,.slice none 0 0] 104 (0,0)))/\Gw w w':=by
 have N:ag ((w.alloc (.cells #[AI most,.slice none 0 0] 104)).heap[w.heap.size]?=some (.cells #[AI most,.slice none 0 0] 104 (0,0))):=heap_alloc_new w _;have G:ag (Gw w (w.alloc (.cells #[AI most,.slice none 0 0] 104))):=(Gw.refl w).alloc _ _;have t1:decide (most<1)=false:=by simp;omega
 have t2:decide ((4294967296:Int)<most)=false:=by simp;omega
 go_enter func76,ntmps76;go_wp2_with fail;go_ret2;exact ⟨⟨rfl,N.o⟩,G.o⟩
theorem ac5 (eps buf keys:Int) (w:World) :
  Calls prog 40 #[.agg #[AI eps,AI buf,AI keys]] w fun e w'=>((¬ eX eps buf keys/\e=.returned (.tuple #[.pointer none,AI 160]))\/(eX eps buf keys/\∃ pt pb pu,e=.returned (.tuple #[BY pt,AI 0])/\Hz w w' eps buf keys pt pb pu))/\Gw w w':=by
 have b0:(w.alloc (.cells #[AI eps,AI buf,AI keys] 23)).heap[w.heap.size]?=some (.cells #[AI eps,AI buf,AI keys] 23 (0,0)):=heap_alloc_new w _;have G0:ag (Gw w (w.alloc (.cells #[AI eps,AI buf,AI keys] 23))):=(Gw.refl w).alloc _ _;obtain ⟨bq,aE⟩:∃ b,w.heap.size=b:=⟨_,rfl⟩;have BQ:ag (w.heap.size=bq):=aE;rw [aE] at b0;have CK:ag (∀ W,Calls prog 75 #[.agg #[AI eps,AI buf,AI keys]] W fun e w'=>e=.returned (AI (eO eps buf keys))/\Gw W w'):=fun W=>Xf eps buf keys W
 have CB:ag (∀ W W',W.heap[bq]?=some (.cells #[AI eps,AI buf,AI keys] 23 (0,0))->Gw W W'->W'.heap[bq]?=some (.cells #[AI eps,AI buf,AI keys] 23 (0,0))):=fun W W' h g=>(g.below.block _ (Array.getElem?_eq_some_iff.1 h).1).trans h
 clear aE;go_enter func40,ntmps40;go_wp2_with fail;rw [BQ.o];generalize w.alloc (.cells #[AI eps,AI buf,AI keys] 23)=w0 at b0 G0 ⊢;refine (CK.o _).mono ?_;rintro e w1 ⟨rfl,g1⟩;have G1:ag (Gw w w1):=G0.o.trans g1;have B1:ag (w1.heap[bq]?=some (.cells #[AI eps,AI buf,AI keys] 23 (0,0))):=CB.o _ _ b0 g1;clear g1 b0 G0 CK;by_cases ok:eX eps buf keys
 ·have e0:eO eps buf keys=0:=if_pos ok
  rw [e0];have OK:ag (eX eps buf keys):=ok;obtain ⟨c0,c1,c2⟩:=rX B1.o;have cl:=(Array.getElem?_eq_some_iff.1 B1.o).1;have n1:=ok.2.1.1;have n2:=ok.2.1.2;have NB:ag (∀ W,Calls prog 76 #[AI buf] W fun e w'=>(e=.returned (.tuple #[BY (W.heap.size),AI 0])/\w'.heap[W.heap.size]?=some (.cells #[AI buf,.slice none 0 0] 104 (0,0)))/\Gw W w'):=fun W=>ac4 buf n1 n2 W
  have NC:ag (∀ W,Calls prog 77 #[AI eps,AI buf] W fun e w'=>(∃ p,e=.returned (.tuple #[BY p,AI 0]))/\Gw W w'):=fun W=>(QR eps buf W).mono fun e w' hh=>by
   rcases hh with ⟨⟨a,_⟩ | ⟨_,p,b,a,_⟩,g⟩
   ·exact absurd ⟨⟨OK.o.1.1,OK.o.1.2⟩,OK.o.2.1.1,OK.o.2.1.2⟩ a
   ·exact ⟨⟨p,a⟩,g⟩
  clear ok e0 n1 n2;go_wp2_with fail;refine (NB.o _).mono ?_;rintro e w2 ⟨⟨rfl,iU⟩,g2⟩;obtain ⟨pb,lP⟩:∃ p,w1.heap.size=p:=⟨_,rfl⟩;rw [lP] at iU ⊢;have G2:ag (Gw w w2):=G1.o.trans g2;have PB:ag (w.heap.size<=pb):=by show _<=_;have:=G1.o.size;omega
  have B2:ag (w2.heap[bq]?=some (.cells #[AI eps,AI buf,AI keys] 23 (0,0))):=CB.o _ _ B1.o g2;have jw:ag (w2.heap[pb]?=some (.cells #[AI buf,.slice none 0 0] 104 (0,0))):=iU;obtain ⟨d0,d1,d2⟩:=rX B2.o;have dl:=(Array.getElem?_eq_some_iff.1 B2.o).1;clear g2 iU G1 B1 NB c0 c1 c2 cl lP;go_wp2_with fail;refine (NC.o _).mono ?_;rintro e w3 ⟨⟨pu,rfl⟩,g3⟩;have B3:w3.heap[bq]?=some (.cells #[AI eps,AI buf,AI keys] 23 (0,0)):=CB.o _ _ B2.o g3;obtain ⟨x0,x1,x2⟩:=rX B3;have xl:=(Array.getElem?_eq_some_iff.1 B3).1;have nW:w3.heap[pb]?=some (.cells #[AI buf,.slice none 0 0] 104 (0,0)):=(g3.below.block _ (Array.getElem?_eq_some_iff.1 jw.o).1).trans jw.o;have ak:ag (Hz w (w3.alloc (.cells #[AI eps,AI buf,AI keys,BY pb,BY pu] 102)) eps buf keys w3.heap.size pb pu/\Gw w (w3.alloc (.cells #[AI eps,AI buf,AI keys,BY pb,BY pu] 102))):=by
   have pl:=(Array.getElem?_eq_some_iff.1 nW).1;exact ⟨⟨heap_alloc_new w3 _,(((Gw.refl w3).alloc _ _).below.block _ pl).trans nW,(G2.o.trans g3).size,PB.o,by omega⟩,(G2.o.trans g3).alloc _ _⟩
  clear g3 B3 nW G2 B2 jw d0 d1 d2 dl NC CB;go_wp2_with fail;go_ret2;exact ⟨.inr ⟨OK.o,_,pb,pu,rfl,ak.o.1⟩,ak.o.2⟩
 ·have e0:eO eps buf keys=160:=if_neg ok
  rw [e0];have NO:ag (¬ eX eps buf keys):=ok;clear ok e0;go_wp2_with fail;go_ret2;exact ⟨.inl ⟨NO.o,rfl⟩,G1.o⟩
structure LE (w0:World) (B:Nat) (w:World) (v:Value) (L:List (List ah)):Prop where
 row:∃ az,w.ownsRow B 24 1 v L.length az/\∀ i,i<L.length->∃ bo c,az[i]?=some (.slice bo (L.getD i []).length c)/\(L.getD i []).length<=c/\EL w0 bo (L.getD i [])/\(bo=none->(L.getD i []).length=0/\c=0)
theorem LE.nil (w0:World) (B:Nat) (w:World):LE w0 B w (.slice none 0 0) []:=⟨⟨[],World.ownsRow_nil _ _ _ _,fun i hi=>by simp at hi⟩⟩
variable {w0:World} {B:Nat}
theorem LE.gw {w':World} (h:LE w0 B w v L) (g:Gw w w'):LE w0 B w' v L:=by
 obtain ⟨az,r,p⟩:=h.row;exact ⟨az,DQ r fun q hq=>g.below.block q (World.ownsRow.lt r q hq).2,p⟩
theorem LE.ev {ao:Option Addr} {c:Nat} (h:LE w0 B w (.slice ao n c) L) (hn:L.length=n) (g:Gw w0 w):EV w ao L:=by
 obtain ⟨az,r,p⟩:=h.row;refine ⟨fun h0=>?_⟩
 rcases r.2 with ⟨e,z⟩ | ⟨b,cap,cur,e,hb,hh,x⟩
 ·omega
 ·injection e with e1 e2 e3
  subst e1;refine ⟨b,0,rfl,(Array.getElem?_eq_some_iff.1 hh).1,fun i hi=>?_⟩
  obtain ⟨bo,c',h1,h2,h3,h4⟩:=p i hi;refine ⟨bo,c',?_,h2,h3.gw g,h4⟩;rw [hn] at r;rw [Nat.zero_add,World.ownsRow.cellAt r i (by omega)]
  exact h1
theorem LE.more {w5:World} {v':Value} {l:List ah} {bo:Option Addr} {c k:Nat} {az:List Value} (r:w.ownsRow B 24 1 v n az) (ln:L.length=n) (lk:l.length=k) (p:∀ i,i<L.length->∃ bo c,az[i]?=some (.slice bo (L.getD i []).length c)/\(L.getD i []).length<=c/\EL w0 bo (L.getD i [])/\(bo=none->(L.getD i []).length=0/\c=0)) (hc:l.length<=c) (el:EL w0 bo l) (hn:bo=none->l.length=0/\c=0)
  (r1:w5.ownsRow B 24 1 v' (n+1) (az++[.slice bo k c])):LE w0 B w5 v' (L++[l]):=by
 subst ln;subst lk;have vl:az.length=L.length:=by have:=r.1;omega
 refine ⟨az++[.slice bo l.length c],by rw [List.length_append];exact r1,fun i hi=>?_⟩
 by_cases e:i<L.length
 ·obtain ⟨b,c',h1,h2,h3,h4⟩:=p i e
  have eg:(L++[l]).getD i []=L.getD i []:=by
   rw [List.getD_eq_getElem?_getD,List.getElem?_append_left e,<-List.getD_eq_getElem?_getD]
  rw [eg];exact ⟨b,c',by rw [List.getElem?_append_left (by omega)];exact h1,h2,h3,h4⟩
 ·have ei:i=L.length:=by
   rw [List.length_append] at hi;simp at hi;omega
  subst ei;have eg:(L++[l]).getD L.length []=l:=by simp [List.getD]
  rw [eg];exact ⟨bo,c,by rw [<-vl];simp,hc,el,hn⟩
theorem ac6 (l:List (Option Rn)) (i:Nat):tot (l.drop i)<=tot l:=by have:=pE l i;omega
theorem Bb:∀ l:List (Option Rn),(lists l).length<=l.length
 | []=>Nat.le_refl _
 | none::l=>by have:=Bb l;show (lists l).length<=l.length+1;omega
 | some r::l=>by have:=Bb l;show (r.l::lists l).length<=l.length+1;rw [List.length_cons];omega
theorem Sq (L:List (List ah)):aF L.reverse=aF L:=by
 induction L with
 | nil=>rfl
 | cons x L ih=>rw [List.reverse_cons,nQ,ih,iF,iF];show _+(x.length+0)=_;omega
theorem Sr (w:World) (v:Value) (t:TypeId):∀ j u,([v]:List Value)[j]?=some u->(w.alloc (.cells #[v] t)).cell? ((⟨w.heap.size,0,none⟩:Addr).add j)=some u:=cell_one_new w v t
theorem Ss {rs:List (Option Rn)} (hr:∀ r,some r∈rs->aG ah.k r.l):aS (aI rs) (aV (lists rs).reverse).length:=by
 have hL:∀ x∈lists rs,aG ah.k x:=fun x y=>by
  rw [R',List.mem_filterMap] at y;obtain ⟨o,ho,e⟩:=y;obtain ⟨u,hu,rfl⟩:=List.mem_map.1 ho;cases u with
  | none=>cases e
  | some r=>cases e;exact hr r hu
 have A:=fun q=>Hq q _ hL
 refine ⟨(aV (lists rs).reverse).map ah.k,AM (A 0).1,fun q=>?_,by simp⟩
 have V:(look ah.k q (aV (lists rs).reverse)).isSome=aI rs q:=by
  rw [(A q).2.2];unfold aI nw;cases cI ah.k q (lists rs) with
  | none=>rfl
  | some x=>unfold xO gI;cases hg:x.g<;>simp [hg]
 rw [<-V];constructor
 ·intro h
  obtain ⟨x,hx,rfl⟩:=List.mem_map.1 h;rw [vV (A 0).1 hx];rfl
 ·intro h
  obtain ⟨x,hx⟩:=Option.isSome_iff_exists.1 h;exact List.mem_map.2 ⟨x,List.mem_of_find?_eq_some hx,vP hx⟩
theorem St (n:Nat):lists (List.replicate n (none:Option Rn))=[]:=by
 induction n with
 | zero=>rfl
 | succ n ih=>rw [List.replicate_succ,show (none:Option Rn)::List.replicate n none=[none]++List.replicate n none from rfl,pD,ih];rfl
theorem ac7 {l:List (Option Rn)} (hl:l.length<=40) (j:Nat):lists ((aH l).drop j)=lists (l.drop j):=by
 unfold aH;rw [List.take_of_length_le hl];by_cases h:j<=l.length
 ·rw [List.drop_append_of_le_length h,pD,St,List.append_nil]
 ·have e:l.drop j=[]:=List.drop_eq_nil_of_le (by omega)
  have e2:(l++List.replicate (40-l.length) (none:Option Rn)).drop j=List.replicate (40-l.length-(j-l.length)) none:=by
   rw [List.drop_append,e,List.drop_replicate];rfl
  rw [e,e2,St];rfl
theorem Su {x:List (Option Rn)} (h:¬ ∃ r,some r∈x):lists x=[]:=by
 induction x with
 | nil=>rfl
 | cons o x ih =>
  cases o with
  | some r=>exact absurd ⟨r,List.mem_cons_self ..⟩ h
  | none =>
   rw [show (none:Option Rn)::x=[none]++x from rfl,pD,ih fun ⟨r,hr⟩=>h ⟨r,List.mem_cons_of_mem _ hr⟩]
   rfl
theorem ac8 {l:List (Option Rn)} (h:¬ ∃ r,some r∈l.drop 40) (j:Nat):lists ((aH l).drop j)=lists (l.drop j):=by
 by_cases uq:l.length<=40
 ·exact ac7 uq j
 ·unfold aH
  have e0:40-l.length=0:=by omega
  rw [e0,List.replicate_zero,List.append_nil];by_cases hj:j<=40
  ·have e:l.drop j=(l.take 40).drop j++l.drop 40:=by
    conv=>lhs;rw [<-List.take_append_drop 40 l]
    rw [List.drop_append_of_le_length (by rw [List.length_take];omega)]
   rw [e,pD,Su h,List.append_nil]
  ·rw [List.drop_eq_nil_of_le (by rw [List.length_take];omega)]
   refine (Su fun ⟨r,hr⟩=>h ⟨r,?_⟩).symm
   rw [show j=40+(j-40) by omega,<-List.drop_drop] at hr
   exact List.mem_of_mem_drop hr
theorem Sv {a b:List (Option Rn)} (h:lists a=lists b):aI a=aI b:=by
 funext q
 unfold aI nw;rw [h]
theorem ac9 {x:List ah} {a b:List (Option Rn)} (h:lists a=lists b):bE x a=bE x b:=by
 funext q
 unfold bE dB nw;rw [h]
def ka (w w':World) (ex:Ending) (eps buf keys:Int) (b:List ah) (l:List (Option Rn)):Prop :=
 ∃ E n,lQ eps buf keys b l E n/\((E≠0/\ex=.returned (.tuple #[.pointer none,AI E]))\/(E=0/\∃ p,ex=.returned (.tuple #[BY p,AI 0])))
end Go.Proofs.YtcboobmfnmgldaaGreat
