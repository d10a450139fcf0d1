import Derived.Laws.AppendOwnNone
import Derived.Test.YtaemofgeciklkaaGreatEIMem
set_option linter.unusedVariables false
set_option maxHeartbeats 8000000
set_option maxRecDepth 20000
open Go.Proofs.Tryz
namespace Go.Proofs.YtaemofgeciklkaaGreat
open Go.RowKit
theorem JY (e:ah):(eB e).length<=1:=by unfold eB;split<;>simp
theorem JZ (a l:List ah):(aX a l).length<=a.length+l.length:=by
 refine rW (P:=fun a l=>(aX a l).length<=a.length+l.length) (fun a=>?_) (fun e r ih=>?_) (fun a bI e r c ih=>?_) (fun a bI e r c ih=>?_) (fun a bI e r c ih=>?_) _ a l (Yk _)
 ·rw [zG];exact Yk _
 ·rw [zH,Ψ]
  have:=JY e
  simp only [List.length_nil,qak] at *;omega
 ·rw [zI _ _ c]
  simp only [qak] at *;omega
 ·rw [zJ _ _ c,Ψ]
  have:=JY e
  simp only [qak] at *;omega
 ·rw [zK _ _ c,Ψ]
  have:=JY e
  simp only [qak] at *;omega
theorem U9:∀ (L:List (List ah)) (a:List ah),(L.foldl aX a).length<=a.length+aN L
 | [],a=>Nat.le_add_right _ _
 | x::L,a=>by
  have:=U9 L (aX a x)
  have:=JZ a x
  rw [List.foldl_cons,jb];omega
theorem U' (L:List (List ah)):(bE L).length<=aN L:=by have:=U9 L [];simpa [bE] using this
theorem Va:∀ (L:List (List ah)) (i:Nat),aN (L.take i)<=aN L
 | [],i=>by rw [List.take_nil];exact Yk _
 | x::L,0=>Γ _
 | x::L,i+1=>by rw [qbj,jb,jb];have:=Va L i;omega
theorem Vb {x:ah}:∀ (L:List (List ah)) (a:List ah),x∈L.foldl aX a->x∈a\/∃ l∈L,x∈l
 | [],a,h=>.inl h
 | y::L,a,h=>by
  rcases Vb L (aX a y) h with q | ⟨l,hl,q⟩
  ·rcases wQ _ _ q with z | ⟨z,_⟩
   ·exact .inl z
   ·exact .inr ⟨y,qat ..,z⟩
  ·exact .inr ⟨l,qay _ hl,q⟩
theorem Vc {x:ah} {L:List (List ah)} (h:x∈bE L):∃ l∈L,x∈l:=(Vb L [] h).elim (fun q=>by cases q) id
theorem J0 {w:World} {base e size n:Nat} {v:Value} {xs:List Value} (h:w.ownsRow base e size v n xs):∃ ao c,v=.slice ao n c:=by
 rcases h.2 with ⟨e,z⟩ | ⟨g,cap,cur,e,_⟩
 ·exact ⟨none,0,by rw [e,z]⟩
 ·exact ⟨_,_,e⟩
theorem Vd (m:List ah):(m.flatMap aI).length=m.length*3:=by
 induction m with
 | nil=>rfl
 | cons x m ih=>rw [qaK,Ψ,ih,qak];show 3+_=_;omega
theorem aeI (m:List ah):∀ u∈m.flatMap aI,u.oneCell'=true:=fun u hu=>by obtain ⟨e,_,h⟩:=List.mem_flatMap.1 hu;exact kC e u h
theorem aeJ (L:List (List ah)) {i:Nat} (hi:i<L.length):(bE (L.take i)).length+(L.getD i []).length<=aN L:=by
 have a:=U' (L.take i);have b:=Va L (i+1);have e:L.take (i+1)=L.take i++[L.getD i []]:=by rw [qaW,qah hi,qag,qah hi];rfl
 have c:aN (L.take i++[L.getD i []])=aN (L.take i)+(L.getD i []).length:=by simp [aN]
 rw [e,c] at b;omega
theorem aeK (L:List (List ah)) {i:Nat} (hi:i<L.length):bE (L.take (i+1))=aX (bE (L.take i)) (L.getD i []):=by
 have e:L.take (i+1)=L.take i++[L.getD i []]:=by rw [qaW,qah hi,qag,qah hi];rfl
 rw [e,U2]
theorem aeL {w:World} {base b cap n k:Nat} {l:List ah} (h:EO w base (ψ b 0 n cap) l) (hn:l.length=n) (hk:k<=n):∀ j u,((l.drop k).flatMap aI)[j]?=some u->w.cell? ((⟨b,k*3,none⟩:Addr).add j)=some u:=by
 intro j u hu;have e:(l.flatMap aI)[k*3+j]?=((l.drop k).flatMap aI)[j]?:=by
  have fl:=Vd;have e0:l.flatMap aI=(l.take k).flatMap aI++(l.drop k).flatMap aI:=by rw [<-List.flatMap_append,List.take_append_drop]
  rw [e0,qaZ (by rw [fl,qav];omega),fl,qav,qaU ω,Nat.add_sub_cancel_left]
 have:=World.ownsRow.cells (g:=b) h rfl (k*3+j) u (by rw [e];exact hu)
 rw [Addr.add_lit] at this ⊢;rw [qai] at this;exact this
theorem aeM (ao:Option Addr) (c:Nat) (L:List (List ah)) (hl:L.length<=2000000) (hN:aN L<=2000000) (w:World) (h:EV w ao L) :
  Calls prog 53 #[.slice ao L.length c] w fun e w'=>(∃ ob oc,e=χ (.slice ob (bE L).length oc)/\EO w' w.heap.size (.slice ob (bE L).length oc) (bE L))/\Gw w w':=by
 have HE:ag (EV w ao L):=h;have HN:ag (aN L<=2000000):=hN;have l9:ag (∀ l∈L,∀ x∈l,x.ok):=fun l dw x hx=>by
  obtain ⟨i,hi,rfl⟩:=List.mem_iff_getElem.1 dw;obtain ⟨b,off,_,_,hc⟩:=h.cells ω;obtain ⟨bo,c',_,_,h3,_⟩:=hc i hi;have e:L.getD i []=L[i]:=by simp [List.getD,hi]
  rw [e] at h3;exact h3.all x hx
 obtain ⟨ln,ax⟩:=qbr L.length;have LN:ag (L.length=ln):=ax;rw [ax] at hl ⊢;clear h ax hN;obtain ⟨ii,aK,hz,hs,aJ⟩:=info_parts kZ;have E1:ag (EO w w.heap.size (.slice none (bE (L.take 0)).length 0) (bE (L.take 0))):=qaL _ _ _ _;go_enter func53,ntmps53;go_wp2_with fail;go_loopg [3,4] ln (fun gg s3 s4 wr=>∃ (i:Nat) (bo:Option Addr) (bc:Nat),s3=.slice bo (bE (L.take i)).length bc/\s4=By (i:Int)/\i<=ln/\ln-i<=gg/\ag (EO wr w.heap.size (.slice bo (bE (L.take i)).length bc) (bE (L.take i)))/\ag (Gw w wr))
 case atStart=>exact ⟨0,none,0,rfl,rfl,Γ _,ω,E1,(show ag _ from Gw.refl w)⟩
 case round =>
  clear E1;obtain ⟨i,bo,bc,rfl,rfl,a1,a2,E0,G⟩:=hrel;by_cases dP:i<ln
  ·have QR:(i:Int)<(ln:Int):=(by omega);have hi:i<L.length:=(by rw [LN.o];exact dP);obtain ⟨wS,aS⟩:=qbs wr;subst aS;have NX:ag (bE (L.take (i+1))=aX (bE (L.take i)) (L.getD i [])):=aeK L hi;have SZ:=aeJ L hi;have hN':=HN.o;have J3:∀ x∈bE (L.take i),x.ok:=fun x hx=>by obtain ⟨l,dw,q⟩:=Vc hx;exact l9.o l (List.mem_of_mem_take dw) x q
   obtain ⟨A,hA⟩:=qbr (bE (L.take i));rw [hA] at E0 NX SZ J3 ⊢;obtain ⟨l,dw⟩:=qbr (L.getD i []);have HL:ag (L.getD i []=l):=dw;rw [dw] at NX SZ;have HA:ag (EL wS bo A):=je E0.o J3;obtain ⟨n,hn⟩:=qbr A.length;have AN:ag (A.length=n):=hn;obtain ⟨m,hm⟩:=qbr l.length;have LM:ag (l.length=m):=hm;rw [hn,hm] at SZ;rw [hn] at E0 ⊢;clear dw hn hm hA J3;obtain ⟨b0,pt⟩:=qbr wS.heap.size;have B0:ag (wS.heap.size=b0):=pt;have Z0:ag (EO wS b0 (.slice none 0 0) []):=qaL _ _ _ _;clear pt;go_wp2_with fail;go_loopg [5,6,7] m (fun gg s5 s6 s7 wr=>∃ (k j nn:Nat) (N:List ah) (no:Option Addr) (nc:Nat),s5=.slice no nn nc/\s6=By (k:Int)/\s7=By (j:Int)/\k<=n/\j<=m/\m-j<=gg/\ag (N.length=nn)/\ag (EO wr b0 (.slice no nn nc) N)/\ag (Gw wS wr)/\ag (N++aX (A.drop k) (l.drop j)=aX A l))
   case atStart=>exact ⟨0,0,0,[],none,0,rfl,rfl,rfl,Γ _,Γ _,ω,(show ag _ from rfl),Z0,(show ag _ from Gw.refl wS),(show ag _ from by show _=_;simp)⟩
   case round =>
    clear Z0;obtain ⟨k,j,nn,N,no,nc,rfl,rfl,rfl,k1,j1,j2,NL,E,GG,KJ⟩:=hrel;by_cases kF:j<m
    ·have It:(j:Int)<(m:Int):=(by omega);obtain ⟨wT,Ir⟩:=qbs wr;subst Ir;have XX:ag (∃ xk xv xg,l.getD j aq=⟨xk,xv,xg⟩):=⟨_,_,_,rfl⟩;obtain ⟨xk,xv,xg,hx⟩:=XX.o;have HX:ag (l.getD j aq=⟨xk,xv,xg⟩):=hx;clear XX hx;obtain ⟨lb,iJ,rfl,dO,bL⟩:=HE.o.cells (by rw [LN.o];omega)
     obtain ⟨eo,ec,p1,p2,p3,_⟩:=bL i hi;rw [HL.o,LM.o] at p1;rw [HL.o] at p3;obtain ⟨eb,iu,rfl,gV,kh⟩:=p3.cells (by rw [LM.o];omega)
     obtain ⟨c0,c1,c2⟩:=kh j (by rw [LM.o];exact kF)
     rw [HX.o] at c0 c1 c2;have CL:ag (∀ W,Gw wS W->(W.cell? (φ lb (iJ+i))=some (ψ eb iu m ec)/\lb<W.heap.size)/\(W.cell? (φ eb (iu+j*3))=some (BY xk)/\W.cell? (φ eb (iu+j*3+1))=some (BY xv)/\W.cell? (φ eb (iu+j*3+2))=some (.bool xg))/\eb<W.heap.size):=fun W g=>by have g':=G.o.trans g;exact ⟨⟨(g'.cell _ _ dO).trans p1,Θ dO g'.size⟩,⟨(g'.cell _ _ gV).trans c0,(g'.cell _ _ gV).trans c1,(g'.cell _ _ gV).trans c2⟩,Θ gV g'.size⟩
     have AC:ag (∀ W t,Gw wS W->t<n->∃ ab af,bo=some (φ ab af)/\ab<W.heap.size/\W.cell? (φ ab (af+t*3))=some (BY (A.getD t aq).k)/\W.cell? (φ ab (af+t*3+1))=some (BY (A.getD t aq).v)/\W.cell? (φ ab (af+t*3+2))=some (.bool (A.getD t aq).g)):=fun W t g ht=>by
      obtain ⟨ab,af,e,cN,ju⟩:=(HA.o.gw g).cells (by rw [AN.o];omega)
      obtain ⟨x0,x1,x2⟩:=ju t (by rw [AN.o];exact ht)
      exact ⟨ab,af,e,cN,x0,x1,x2⟩
     have jl:j<l.length:=(by rw [LM.o];exact kF);clear bL kh c0 c1 c2 p1 p2 p3 dO gV;obtain ⟨⟨q1,q2⟩,_,q3⟩:=CL.o wT GG.o;go_wp2_with fail;clear q1 q2 q3;go_loopg [5,6] (n-k) (fun gg s5 s6 wr=>∃ (k nn:Nat) (N:List ah) (no:Option Addr) (nc:Nat),s5=.slice no nn nc/\s6=By (k:Int)/\k<=n/\n-k<=gg/\ag (N.length=nn)/\ag (EO wr b0 (.slice no nn nc) N)/\ag (Gw wS wr)/\ag (N++aX (A.drop k) (l.drop j)=aX A l))
     case atStart=>exact ⟨k,nn,N,no,nc,rfl,rfl,k1,Yk _,NL,E,GG,KJ⟩
     case round =>
      clear NL E GG KJ k1;obtain ⟨k,nn,N,no,nc,rfl,rfl,k1,k2,NL,E,GG,KJ⟩:=hrel;obtain ⟨⟨q1,q2⟩,⟨d0,d1,d2⟩,q3⟩:=CL.o wr GG.o;have dB:ag (wr.ownsRow b0 71 3 (.slice no nn nc) nn (N.flatMap aI)):=by
       have:=E.o
       unfold EO at this;rw [NL.o] at this;exact this
      have bz:b0<=wr.heap.size:=(by have:=GG.o.size;have:=B0.o;omega);have nb:nn<=2000000:=(by have a:=congrArg List.length KJ.o;rw [Ψ,NL.o] at a;have b:=JZ A l;rw [AN.o,LM.o] at b;omega);by_cases J4:k<n
      ·have aiw:(k:Int)<(n:Int):=(by omega);have kl:k<A.length:=(by rw [AN.o];exact J4);obtain ⟨ab,af,rfl,cN,u0,u1,u2⟩:=AC.o wr k GG.o J4;have YY:ag (∃ yk yv yg,A.getD k aq=⟨yk,yv,yg⟩):=⟨_,_,_,rfl⟩;obtain ⟨yk,yv,yg,hy⟩:=YY.o;have HY:ag (A.getD k aq=⟨yk,yv,yg⟩):=hy;rw [hy] at u0 u1 u2;have e0:wr.cell? (φ ab (af+k*3))=some (BY yk):=u0;have e1:wr.cell? (φ ab (af+k*3+1))=some (BY yv):=u1;have e2:wr.cell? (φ ab (af+k*3+2))=some (.bool yg):=u2;clear YY hy u0 u1 u2;by_cases lt:yk<xk
       ·have tl:decide (yk<xk)=true:=(by simpa using lt);have K5:ag ((N++[(⟨yk,yv,yg⟩:ah)])++aX (A.drop (k+1)) (l.drop j)=aX A l):=by
         have:=KJ.o
         rw [aeB kl jl (by rw [HY.o,HX.o];exact lt),HY.o] at this
         rw [qaI];exact this
        have L5:ag ((N++[(⟨yk,yv,yg⟩:ah)]).length=nn+1):=(by show _=_;rw [Ψ,NL.o];rfl);clear lt;go_wp2_with fail;go_quiet (fail);go_wp2_with (at_builtin;refine wpList_append_own _ rfl _ _ 72 rfl b0 71 ii (.agg #[BY 0,BY 0,.bool false]) 3 24 underlying72 aK hz hs aJ rfl γ _ nn _ rfl (dB.o.alloc _) ⟨wr.heap.size,0,none⟩ 1 1 (aI ⟨yk,yv,yg⟩) rfl rfl (lV wr ⟨yk,yv,yg⟩) (kC _) θ ω ζ ?_);intro v' w5 r1 r2 r3;obtain ⟨b5,cB,rfl,dZ,_,_⟩:=cJ r1 (by simpa using r3)
        have E5:ag (EO w5 b0 (ψ b5 0 (nn+1) cB) (N++[(⟨yk,yv,yg⟩:ah)])):=pQ (by rw [NL.o];exact r1)
        have G5:ag (Gw wS w5):=((GG.o.drewN _).alloc _ _).grown r2 (fun q hq=>by have:=(World.ownsRow.lt dB.o q hq).1;have:=B0.o;omega)
        clear r1 r2 r3 dB d0 d1 d2 e0 e1 e2 q1 q2 q3 KJ NL E GG;go_wp2_with fail;go_roundg (n-(k+1))
        case measure=>omega
        case rel=>exact ⟨k+1,nn+1,N++[(⟨yk,yv,yg⟩:ah)],some ⟨b5,0,none⟩,cB,rfl,by go_num,ω,Yk _,L5,E5,G5,K5⟩
       ·have tl:decide (yk<xk)=false:=(by simpa using lt);by_cases eq:yk=xk
        ·have te:(yk == xk)=true:=(by simpa using eq);have KK:ag (N++(eB ⟨xk,xv,xg⟩++aX (A.drop (k+1)) (l.drop (j+1)))=aX A l):=by
          have:=KJ.o
          rw [aeC kl jl (by rw [HY.o,HX.o];exact eq),HX.o] at this
          exact this
         clear lt eq KJ;go_wp2_with fail;go_quiet (fail);go_wp2_with fail;go_quiet (fail);cases xg with
         | false =>
          go_wp2_with (at_builtin;refine wpList_append_own _ rfl _ _ 72 rfl b0 71 ii (.agg #[BY 0,BY 0,.bool false]) 3 24 underlying72 aK hz hs aJ rfl γ _ nn _ rfl (dB.o.alloc _) ⟨wr.heap.size,0,none⟩ 1 1 (aI ⟨xk,xv,false⟩) rfl rfl (lV wr ⟨xk,xv,false⟩) (kC _) θ ω ζ ?_)
          intro v' w5 r1 r2 r3;obtain ⟨b5,cB,rfl,dZ,_,_⟩:=cJ r1 (by simpa using r3)
          have E5:ag (EO w5 b0 (ψ b5 0 (nn+1) cB) (N++[(⟨xk,xv,false⟩:ah)])):=pQ (by rw [NL.o];exact r1)
          have G5:ag (Gw wS w5):=((GG.o.drewN _).alloc _ _).grown r2 (fun q hq=>by have:=(World.ownsRow.lt dB.o q hq).1;have:=B0.o;omega)
          have L5:ag ((N++[(⟨xk,xv,false⟩:ah)]).length=nn+1):=(by show _=_;rw [Ψ,NL.o];rfl);have K5:ag ((N++[(⟨xk,xv,false⟩:ah)])++aX (A.drop (k+1)) (l.drop (j+1))=aX A l):=(by show _=_;have:=KK.o;unfold eB at this;rw [qaI];simpa using this);clear r1 r2 r3 dB KK d0 d1 d2 NL;go_wp2_with fail;go_roundg (m-(j+1))
          case measure=>omega
          case rel=>exact ⟨(k+1),j+1,nn+1,N++[(⟨xk,xv,false⟩:ah)],some ⟨b5,0,none⟩,cB,rfl,by go_num,by go_num,ω,ω,Yk _,L5,E5,G5,K5⟩
         | true =>
          have K5:ag (N++aX (A.drop (k+1)) (l.drop (j+1))=aX A l):=(by show _=_;have:=KK.o;unfold eB at this;simpa using this);clear dB KK;go_wp2_with fail;go_roundg (m-(j+1))
          case measure=>omega
          case rel=>exact ⟨(k+1),j+1,nn,N,no,nc,rfl,by go_num,by go_num,ω,ω,Yk _,NL,(show ag _ from nC E.o ((Gw.refl wr).drewN _)),(show ag _ from GG.o.drewN _),K5⟩
        ·have te:(yk == xk)=false:=(by simpa using eq);have KK:ag (N++(eB ⟨xk,xv,xg⟩++aX (A.drop k) (l.drop (j+1)))=aX A l):=by
          have:=KJ.o
          rw [U5 jl (fun _=>by rw [HY.o,HX.o];show xk<yk;omega),HX.o] at this
          exact this
         clear lt eq KJ;go_wp2_with fail;go_quiet (fail);go_wp2_with fail;go_quiet (fail);cases xg with
         | false =>
          go_wp2_with (at_builtin;refine wpList_append_own _ rfl _ _ 72 rfl b0 71 ii (.agg #[BY 0,BY 0,.bool false]) 3 24 underlying72 aK hz hs aJ rfl γ _ nn _ rfl (dB.o.alloc _) ⟨wr.heap.size,0,none⟩ 1 1 (aI ⟨xk,xv,false⟩) rfl rfl (lV wr ⟨xk,xv,false⟩) (kC _) θ ω ζ ?_)
          intro v' w5 r1 r2 r3;obtain ⟨b5,cB,rfl,dZ,_,_⟩:=cJ r1 (by simpa using r3)
          have E5:ag (EO w5 b0 (ψ b5 0 (nn+1) cB) (N++[(⟨xk,xv,false⟩:ah)])):=pQ (by rw [NL.o];exact r1)
          have G5:ag (Gw wS w5):=((GG.o.drewN _).alloc _ _).grown r2 (fun q hq=>by have:=(World.ownsRow.lt dB.o q hq).1;have:=B0.o;omega)
          have L5:ag ((N++[(⟨xk,xv,false⟩:ah)]).length=nn+1):=(by show _=_;rw [Ψ,NL.o];rfl);have K5:ag ((N++[(⟨xk,xv,false⟩:ah)])++aX (A.drop k) (l.drop (j+1))=aX A l):=(by show _=_;have:=KK.o;unfold eB at this;rw [qaI];simpa using this);clear r1 r2 r3 dB KK d0 d1 d2 NL;go_wp2_with fail;go_roundg (m-(j+1))
          case measure=>omega
          case rel=>exact ⟨k,j+1,nn+1,N++[(⟨xk,xv,false⟩:ah)],some ⟨b5,0,none⟩,cB,rfl,by go_num,by go_num,k1,ω,Yk _,L5,E5,G5,K5⟩
         | true =>
          have K5:ag (N++aX (A.drop k) (l.drop (j+1))=aX A l):=(by show _=_;have:=KK.o;unfold eB at this;simpa using this);clear dB KK;go_wp2_with fail;go_roundg (m-(j+1))
          case measure=>omega
          case rel=>exact ⟨k,j+1,nn,N,no,nc,rfl,by go_num,by go_num,k1,ω,Yk _,NL,(show ag _ from nC E.o ((Gw.refl wr).drewN _)),(show ag _ from GG.o.drewN _),K5⟩
      ·have kd:decide ((k:Int)<(n:Int))=false:=(by simp;omega);have KK:ag (N++(eB ⟨xk,xv,xg⟩++aX (A.drop k) (l.drop (j+1)))=aX A l):=by
        have:=KJ.o
        rw [U5 jl (fun q=>absurd q (by rw [AN.o];exact J4)),HX.o] at this
        exact this
       clear KJ;go_wp2_with fail;go_quiet (fail);go_wp2_with fail;go_quiet (fail);cases xg with
       | false =>
        go_wp2_with (at_builtin;refine wpList_append_own _ rfl _ _ 72 rfl b0 71 ii (.agg #[BY 0,BY 0,.bool false]) 3 24 underlying72 aK hz hs aJ rfl γ _ nn _ rfl (dB.o.alloc _) ⟨wr.heap.size,0,none⟩ 1 1 (aI ⟨xk,xv,false⟩) rfl rfl (lV wr ⟨xk,xv,false⟩) (kC _) θ ω ζ ?_)
        intro v' w5 r1 r2 r3;obtain ⟨b5,cB,rfl,dZ,_,_⟩:=cJ r1 (by simpa using r3)
        have E5:ag (EO w5 b0 (ψ b5 0 (nn+1) cB) (N++[(⟨xk,xv,false⟩:ah)])):=pQ (by rw [NL.o];exact r1)
        have G5:ag (Gw wS w5):=((GG.o.drewN _).alloc _ _).grown r2 (fun q hq=>by have:=(World.ownsRow.lt dB.o q hq).1;have:=B0.o;omega)
        have L5:ag ((N++[(⟨xk,xv,false⟩:ah)]).length=nn+1):=(by show _=_;rw [Ψ,NL.o];rfl);have K5:ag ((N++[(⟨xk,xv,false⟩:ah)])++aX (A.drop k) (l.drop (j+1))=aX A l):=(by show _=_;have:=KK.o;unfold eB at this;rw [qaI];simpa using this);clear r1 r2 r3 dB KK d0 d1 d2 NL;go_wp2_with fail;go_roundg (m-(j+1))
        case measure=>omega
        case rel=>exact ⟨k,j+1,nn+1,N++[(⟨xk,xv,false⟩:ah)],some ⟨b5,0,none⟩,cB,rfl,by go_num,by go_num,k1,ω,Yk _,L5,E5,G5,K5⟩
       | true =>
        have K5:ag (N++aX (A.drop k) (l.drop (j+1))=aX A l):=(by show _=_;have:=KK.o;unfold eB at this;simpa using this);clear dB KK;go_wp2_with fail;go_roundg (m-(j+1))
        case measure=>omega
        case rel=>exact ⟨k,j+1,nn,N,no,nc,rfl,by go_num,by go_num,k1,ω,Yk _,NL,(show ag _ from nC E.o ((Gw.refl wr).drewN _)),(show ag _ from GG.o.drewN _),K5⟩
    ·have ej:j=m:=(by omega);subst ej;obtain ⟨lb,iJ,rfl,dO,bL⟩:=HE.o.cells (by rw [LN.o];omega)
     obtain ⟨eo,ec,p1,_,_,_⟩:=bL i hi;rw [HL.o,LM.o] at p1;have q1:=((G.o.trans GG.o).cell _ _ dO).trans p1;have q2:lb<wr.heap.size:=Θ dO (G.o.trans GG.o).size;have KE:ag (N++A.drop k=bE (L.take (i+1))):=(by show _=_;rw [NX.o,<-KJ.o,U6 (by rw [LM.o];exact Yk _)]);have dB:ag (wr.ownsRow b0 71 3 (.slice no nn nc) nn (N.flatMap aI)):=by
      have:=E.o
      unfold EO at this;rw [NL.o] at this;exact this
     have NN:ag ((bE (L.take (i+1))).length=nn+(n-k)):=(by show _=_;rw [<-KE.o,Ψ,NL.o,qax,AN.o]);have nb:nn+(n-k)<=2000000:=by
      have a:=congrArg List.length KJ.o;have b:=JZ A l;rw [U6 (by rw [LM.o];exact Yk _),Ψ,NL.o,qax,AN.o] at a
      rw [AN.o,LM.o] at b;omega
     have GB:ag (w.heap.size<=b0):=(by show _<=_;have:=G.o.size;have:=B0.o;omega);have EA:ag (EO wr w.heap.size (.slice bo n bc) A):=nC E0.o GG.o;have zL:n<=bc/\(bo=none->n=0/\bc=0)/\(∀ a,bo=some a->∃ g,a=⟨g,0,none⟩):=by
      rcases E0.o.2 with ⟨e,z⟩ | ⟨g,cap,cur,e,_,_,cc,_⟩
      ·injection e with e1 e2 e3
       have e0:=AN.o;refine ⟨ω,fun _=>⟨ω,e3⟩,fun a ha=>?_⟩
       rw [e1] at ha;cases ha
      ·injection e with e1 e2 e3
       refine ⟨ω,fun x=>?_,fun a ha=>?_⟩
       ·rw [e1] at x;cases x
       ·rw [e1] at ha;cases ha;exact ⟨_,rfl⟩
     have bz:b0<=wr.heap.size:=(by have:=GG.o.size;have:=B0.o;omega);clear bL p1 KJ dO;have aD:ag (∀ (v':Value) (w5:World),w5.ownsRow b0 71 3 v' (nn+(n-k)) (N.flatMap aI++(A.drop k).flatMap aI)->wr.grownBy w5 (Value.slice no nn nc).ownBlock->(∃ xo xc,v'=.slice xo (bE (L.take (i+1))).length xc)/\EO w5 w.heap.size v' (bE (L.take (i+1)))/\Gw w w5):=fun v' w5 r1 r2=>by
      obtain ⟨xo,xc,e⟩:=J0 r1;refine ⟨⟨xo,xc,by rw [NN.o];exact e⟩,?_,(G.o.trans GG.o).grown r2 (fun q hq=>by have:=(World.ownsRow.lt dB.o q hq).1;have:=GB.o;omega)⟩
      have:EO w5 b0 v' (bE (L.take (i+1))):=by unfold EO;rw [NN.o,<-KE.o,List.flatMap_append];exact r1
      exact tI this GB.o
     have Dw:ag (∀ b,bo=some (φ b 0)->∀ j u,((A.drop k).flatMap aI)[j]?=some u->wr.cell? ((⟨b,k*3,none⟩:Addr).add j)=some u):=fun b e=>by subst e;exact aeL EA.o AN.o k1
     have FL:ag (((A.drop k).flatMap aI).length=(n-k)*3):=(by show _=_;rw [Vd,qax,AN.o]);cases bo with
     | none =>
      obtain ⟨rfl,rfl⟩:=zL.2.1 rfl;have k0:k=0:=ω;subst k0;clear Dw E0 E EA KE zL;have HNW:(([]:List ah))=[]:=rfl;have ad:A.drop 0=[]:=by
       have:=AN.o
       rw [List.drop_zero];exact qbd this
      rw [ad] at aD FL;go_wp2_with (at_builtin;refine wpList_append_own_none rfl _ _ 72 rfl b0 71 ii 3 underlying72 aK _ nn _ rfl dB.o rfl ?_);obtain ⟨⟨xo,xc,e⟩,f1,f2⟩:=aD.o _ wr (by simpa using dB.o) (World.grownBy.refl _ _)
      have E5:ag (EO wr w.heap.size (.slice no nn nc) (bE (L.take (i+1)))):=f1;have G5:ag (Gw w wr):=f2;have LL:ag ((bE (L.take (i+1))).length=nn):=(by show _=_;injection e with e1 e2 e3;first | done | omega);clear aD FL dB e f1 f2;go_wp2_with fail;go_roundg (ln-(i+1))
      case measure=>omega
      case rel=>exact ⟨i+1,no,nc,by rw [LL.o],by go_num,ω,Yk _,by rw [LL.o];exact E5,G5⟩
     | some ad =>
      obtain ⟨ab,rfl⟩:=zL.2.2 _ rfl;have nc1:=zL.1;have ki1:(k:Int)<=(n:Int):=ω;have ki2:(n:Int)<=(bc:Int):=ω;have SC:=Dw.o ab;clear E0 E EA KE zL;by_cases kc:bc=k
      ·have kn:n=k:=(by omega);have ad:A.drop k=[]:=(by refine qbp ?_;rw [AN.o,kn];exact Yk _);have kz:n-k=0:=ω;rw [ad,kz] at aD;have J5:=NN;clear ad NN kz;subst kc;subst kn;go_wp2_with (at_builtin;refine wpList_append_own _ rfl _ _ 72 rfl b0 71 ii (.agg #[BY 0,BY 0,.bool false]) 3 24 underlying72 aK hz hs aJ rfl γ _ nn _ rfl dB.o ⟨ab,0,none⟩ 0 0 [] rfl rfl (fun j u h=>by cases h) (fun u h=>by cases h) θ ω ω ?_)
       intro v' w5 r1 r2 r3;obtain ⟨⟨xo,xc,e⟩,f1,f2⟩:=aD.o v' w5 (by simpa using r1) r2
       subst e;have E5:ag (EO w5 w.heap.size (.slice xo (bE (L.take (i+1))).length xc) (bE (L.take (i+1)))):=f1;have G5:ag (Gw w w5):=f2;clear aD FL Dw SC f1 f2 r1 r2 r3 J5;go_wp2_with fail;go_roundg (ln-(i+1))
       case measure=>omega
       case rel=>exact ⟨i+1,xo,xc,rfl,by go_num,ω,Yk _,E5,G5⟩
      ·obtain ⟨news,jA⟩:=qbr ((A.drop k).flatMap aI)
       have J5:ag ((A.drop k).flatMap aI=news):=jA;have on:=aeI (A.drop k);rw [jA] at aD FL SC on;have ON:ag (∀ u∈news,u.oneCell'=true):=on;have SA:ag (∀ j u,news[j]?=some u->wr.cell? (⟨ab,k*3+j,none⟩:Addr)=some u):=fun j u h=>by
        have:=SC rfl j u h
        rw [Addr.add_lit] at this;exact this
       clear jA NN on;go_wp2_with (at_builtin;refine wpList_append_own _ rfl _ _ 72 rfl b0 71 ii (.agg #[BY 0,BY 0,.bool false]) 3 24 underlying72 aK hz hs aJ rfl γ _ nn _ rfl dB.o _ _ _ news rfl ?A1 ?A2 ON.o θ ω ω ?A3)
       case A1=>exact FL.o
       case A2=>exact SA.o
       case A3 =>
        intro v' w5 r1 r2 r3;obtain ⟨⟨xo,xc,e⟩,f1,f2⟩:=aD.o v' w5 r1 r2;subst e;have E5:ag (EO w5 w.heap.size (.slice xo (bE (L.take (i+1))).length xc) (bE (L.take (i+1)))):=f1;have G5:ag (Gw w w5):=f2;clear aD FL Dw SC f1 f2 r1 r2 r3 J5 SA ON;go_wp2_with fail;go_roundg (ln-(i+1))
        case measure=>omega
        case rel=>exact ⟨i+1,xo,xc,rfl,by go_num,ω,Yk _,E5,G5⟩
  ·have ei:i=ln:=(by omega);subst ei;have TT:L.take i=L:=qaQ (by rw [LN.o];exact Yk _)
   have E2:ag (EO wr w.heap.size (.slice bo (bE L).length bc) (bE L)):=(by have:=E0.o;rw [TT] at this;exact this);have LL:ag ((bE (L.take i)).length=(bE L).length):=(by show _=_;rw [TT]);clear E0 TT;generalize (bE (L.take i)).length=n0 at LL;go_wp2_with fail;exact bodyPost_ret (v:=.slice bo n0 bc) (by simp [results,results53,go_sem]) rfl ⟨⟨bo,bc,by rw [<-LL.o],E2.o⟩,G.o⟩
