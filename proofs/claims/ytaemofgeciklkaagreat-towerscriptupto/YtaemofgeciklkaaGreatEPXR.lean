import Derived.Test.YtaemofgeciklkaaGreatEZTell
import Derived.Test.YtaemofgeciklkaaGreatEPY2
set_option linter.unusedVariables false
set_option maxHeartbeats 8000000
set_option maxRecDepth 10000
open Go.Proofs.Tryz
namespace Go.Proofs.YtaemofgeciklkaaGreat
open Go.RowKit
theorem Ex (pp:Nat) (p:Nat) (W:World) (c:W.cell? (φ p 0)=some (IS pp)):(loadVar 109 ⟨p,0,none⟩).run prog W=.ok (IS pp) W:=by simp [go_sem,c]
theorem ahz (N:String) (F:Nat) (h0:(prog.info? 108).map (fun i=>(i.methods.find? (·.name == N)).map (fun m=>(m.path.toList.map (fun s=>(s.struct,s.index,s.deref)),m.func)))=some (some ([(111,0,true)],some (F,true)))) (p pp:Nat) (W:World) (c:W.cell? (φ p 0)=some (IS pp)) (k:Nat):(method (k+1) 108 (IS p) N).run prog W=.ok (F,IS pp) W:=by
 obtain ⟨i,hi,h2⟩:=Option.map_eq_some_iff.1 h0;obtain ⟨m,hm,h3⟩:=Option.map_eq_some_iff.1 h2;simp only [Prod.mk.injEq] at h3;obtain ⟨h4,h5⟩:=h3;have hp:m.path.toList=[⟨111,0,true⟩]:=by
  generalize m.path.toList=l at h4
  match l,h4 with
  | [⟨a,b,d⟩],h4=>simp at h4;obtain ⟨rfl,rfl,rfl⟩:=h4;rfl
 have hl:=Ex pp p W c;have z:∀ W,(sizeOf 109).run prog W=.ok 1 W:=fun W=>η
 unfold method;simp only [Sem.run_bind,typeInfo,run_program,Result.andThen_ok,hi,Sem.run_pure,hm,hp,h5,follow,run_underlying underlying111];simp [Place.get,asAddr,fieldPlace,z,receiverAt,run_underlying underlying109,Addr.add_lit,hl]
variable {p pp n:Nat} {w0 w:World} {HS:World->(Nat->Prop)->List (Int×Int)->List (Int×Int)->Prop} {eps:Int} {f:Nat->Int} {L:List (List Sg)} {S:Nat->Prop} {A B:List (Int×Int)}
theorem ahH (D:sw 62 97 269 118 (IS pp) w0 HS eps f n L) (loc:∀ {w:World} {S:Nat->Prop} {A B:List (Int×Int)},HS w S A B->w.cell? (φ p 0)=some (IS pp)/\p<w.heap.size) (i:Nat) (hi:i<L.length) (hl:L.length<=2000000) (gh c9 te r:Nat) (sl gu rk q:Int) (q0:0<=q) (q1:q<18446744073709551616) (lr:gh<=r) (rh:r<=c9) (ht:c9<=te) (tn:te<=bK n L i) (Nb:te<=4294967296) (Yn:∀ t,t<r->bF f L i t<q) (Yo:∀ t,r<=t->t<bK n L i->q<=bF f L i t) (h:HS w S A B) (la:A.length+(c9-gh)<=1999999999) :
 Calls prog 168 #[IS p,PJ ⟨(i:Int),sl,gu,(gh:Int),(c9:Int),rk⟩,By (te:Int),BY q] w fun e w'=>(∃ S' A',e=π #[By (r:Int),.bool (decide (r<te/\bF f L i r=q))]/\HS w' S' (A++A') B/\(∀ q,S' q->S q\/w.heap.size<=q)/\zU i gh c9 te A')/\Gs S w w':=by
 have HH:ag (HS (w.alloc (.cells #[By (i:Int),By sl,By gu,By (gh:Int),By (c9:Int),By rk] 219)) S A B):=D.grow h ((Gw.refl w).alloc _ _);have SW:ag _:=D.lt h;have BK:ag ((w.alloc (.cells #[By (i:Int),By sl,By gu,By (gh:Int),By (c9:Int),By rk] 219)).heap[w.heap.size]?=some (.cells #[By (i:Int),By sl,By gu,By (gh:Int),By (c9:Int),By rk] 219 (0,0))):=Ω w _;have G0:ag (Gs S w (w.alloc (.cells #[By (i:Int),By sl,By gu,By (gh:Int),By (c9:Int),By rk] 219))):=((Gw.refl w).alloc _ _).gs S;have z1:((w.alloc (.cells #[By (i:Int),By sl,By gu,By (gh:Int),By (c9:Int),By rk] 219)).heap.size=w.heap.size+1):=ε;have Z1:ag _:=z1;clear z1;have mK:∀ W:World,W.cell? (φ p 0)=some (IS pp)->(method 434 108 (IS p) "Key").run prog W=.ok (269,IS pp) W:=fun W c=>ahz "Key" 269 η p pp W c _
 have DD:ag _:=D;have uQ:ag (∀ {w:World} {S:Nat->Prop} {A B:List (Int×Int)},HS w S A B->w.cell? (φ p 0)=some (IS pp)/\p<w.heap.size):=loc;have BEL:ag _:=Yn;have ABO:ag _:=Yo;have TN:ag (te<=bK n L i/\i<L.length/\L.length<=2000000):=⟨tn,hi,hl⟩;clear h D Yn Yo tn hi loc;obtain ⟨st,eX⟩:∃ st:Bool,decide (r<te/\bF f L i r=q)=st:=⟨_,rfl⟩;have ST:ag _:=eX;rw [eX];clear eX;go_enter func168,ntmps168;go_wp2_with fail;generalize w.alloc (.cells #[By (i:Int),By sl,By gu,By (gh:Int),By (c9:Int),By rk] 219)=w1 at HH BK G0 Z1 ⊢;obtain ⟨vb,uR⟩:=qbr w.heap.size;have VB:ag _:=uR;rw [uR] at BK SW Z1 ⊢;clear uR;have VV:ag (PK w1 vb 0 ⟨(i:Int),sl,gu,(gh:Int),(c9:Int),rk⟩):=Ko BK.o;have k3:w1.cell? (φ vb 3)=some (By (gh:Int)):=VV.o.c3;have k4:w1.cell? (φ vb 4)=some (By (c9:Int)):=VV.o.c4;have kb:vb<w1.heap.size:=(qab.1 BK.o).1;go_quiet (fail);have H1:ag _:=DD.o.grow HH.o ((Gw.refl w1).drewN nq);have G1:ag _:=((Gw.refl w1).drewN nq).gs S;have DF:ag (false=decide (c9<c9/\bF f L i c9=q)):=(qan (fun x=>Nat.lt_irrefl _ x.1)).symm
 clear HH k3 k4;go_wp2_with fail;go_loopg [9,10,11] (c9-gh) (fun gg s9 jW lj wr=>∃ (l h:Nat) (t:Bool) (S':Nat->Prop) (A':List (Int×Int)),s9=.bool t/\jW=By (l:Int)/\lj=By (h:Int)/\gh<=l/\l<=r/\r<=h/\h<=c9/\h-l<=gg/\A'.length+(h-l)<=c9-gh/\ag (t=decide (h<c9/\bF f L i h=q))/\ag (HS wr S' (A++A') B)/\ag (∀ q,S' q->S q\/vb+1<=q)/\ag (sA i gh c9 l h A')/\ag (Gs S w1 wr))
 case atStart=>exact ⟨gh,c9,false,S,[],rfl,rfl,rfl,Yk _,lr,rh,Yk _,Yk _,ε,DF,(by rw [qaJ];exact H1),(show ag _ from fun q hq=>.inl hq),(show ag _ from ⟨ε,fun a ha=>by simp at ha⟩),G1⟩
 case round =>
  clear H1 G1 DF;obtain ⟨l,h,t,S',A',rfl,rfl,rfl,a1,a2,a3,a4,a5,a6,TT,HH,SS,SK,GG⟩:=hrel;have vk:ag _:=GG.o.block vb kb (fun e=>by have:=SW.o vb e;omega)
  have k0:wr.cell? (φ vb 0)=some (By (i:Int)):=(qba (a:=⟨vb,0,none⟩) vk.o).trans VV.o.c0;have k4:wr.cell? (φ vb 4)=some (By (c9:Int)):=(qba (a:=⟨vb,4,none⟩) vk.o).trans VV.o.c4;have vP:vb<wr.heap.size:=Θ kb GG.o.size;obtain ⟨jQ,pf⟩:=uQ.o HH.o;have mk:=mK wr jQ;by_cases ar:l<h
  ·obtain ⟨m,hm⟩:∃ m:Nat,(h-l)/2+l=m:=⟨_,rfl⟩
   have m1:l<=m:=ω;have m2:m<h:=ω;have d1:IntKind.i64.wrap ((h:Int)-(l:Int))=((h-l:Nat):Int):=(by rw [Δ];omega);have d4:(l:Int)+((h-l:Nat):Int)/2=(m:Int):=ω;have mN:ag (m<bK n L i):=(by have:=TN.o.1;exact Θ ω this);clear hm;go_wp2_with fail;refine (DD.o.key HH.o ζ i m (Nat.le_of_lt TN.o.2.1) mN.o).mono ?_;rintro e w2 ⟨⟨S2,rfl,h2,s2⟩,g2⟩;have H2:ag (HS w2 S2 (A++(A'++[((i:Int),(m:Int))])) B):=(by rw [<-List.append_assoc];exact h2);have S3:ag (∀ q,S2 q->S q\/vb+1<=q):=fun q hq=>by
    rcases s2 q hq with e | e
    ·exact SS.o q e
    ·exact .inr (by have:=GG.o.size;have:=Z1.o;omega)
   have G2:ag _:=lM GG.o g2 fun q hq=>by
    rcases SS.o q hq with e | e
    ·exact .inl e
    ·exact .inr (by rw [Z1.o];exact e)
   obtain ⟨y,hy⟩:=qbr (bF f L i m);have Y:ag _:=hy;rw [hy];clear hy h2 s2 g2 HH SS GG k0 k4 vP vk jQ pf mk;by_cases c:y<q
   ·have mr:m+1<=r:=by
     rcases qaB m r with e | e
     ·exact e
     ·have:=ABO.o m e mN.o
      rw [Y.o] at this;omega
    have Mm:ag _:=SK.o.add m1 m2 a1 a4 (.inl ⟨rfl,rfl⟩);clear Y SK d1 d4;go_wp2_with fail;go_roundg (h-(m+1))
    case measure=>omega
    case rel=>exact ⟨m+1,h,t,S2,A'++[((i:Int),(m:Int))],rfl,by go_num,rfl,ω,mr,a3,a4,Yk _,by simp;omega,TT,H2,S3,Mm,G2⟩
   ·have mr:r<=m:=by
     rcases qaB m r with e | e
     ·have:=BEL.o m e
      rw [Y.o] at this;omega
     ·exact e
    have Mm:ag _:=SK.o.add m1 m2 a1 a4 (.inr ⟨rfl,rfl⟩);obtain ⟨z,hz⟩:∃ z:Bool,(y == q)=z:=⟨_,rfl⟩;have TT2:ag (z=decide (m<c9/\bF f L i m=q)):=by
     show z=_;rw [<-hz,Y.o];have:m<c9:=ω;by_cases e:y=q
     ·rw [qaF ⟨this,e⟩];simpa using e
     ·rw [qan (fun x=>e x.2)];simpa using e
    clear Y SK d1 d4;go_wp2_with fail;go_roundg (m-l)
    case measure=>omega
    case rel=>exact ⟨l,m,z,S2,A'++[((i:Int),(m:Int))],rfl,rfl,rfl,a1,a2,mr,ω,Yk _,by simp;omega,TT2,H2,S3,Mm,G2⟩
  ·obtain rfl:l=r:=by omega
   obtain rfl:h=l:=ω;have Ey:ag (∀ q,S' q->S q\/w.heap.size<=q):=fun q hq=>by
    rcases SS.o q hq with e | e
    ·exact .inl e
    ·exact .inr (by rw [VB.o];omega)
   by_cases c1:h=c9
   ·by_cases c2:h<te
    ·have m0:((h:Int) == (c9:Int))=true:=by rw [c1];simp
     have m1:decide ((h:Int)<(te:Int))=true:=(by simpa using c2);have hN:ag (h<bK n L i):=(by have:=TN.o.1;exact Θ c2 this);have AL:ag ((A++A').length<=2000000000):=(by show _<=_;rw [Ψ];omega);have HI:ag _:=c1;clear c1;go_wp2_with fail;refine (DD.o.key HH.o AL.o i h (Nat.le_of_lt TN.o.2.1) hN.o).mono ?_;rintro e w2 ⟨⟨S2,rfl,h2,s2⟩,g2⟩;have H2:ag (HS w2 S2 (A++(A'++[((i:Int),(h:Int))])) B):=(by rw [<-List.append_assoc];exact h2);have S3:ag (∀ q,S2 q->S q\/w.heap.size<=q):=fun q hq=>by
      rcases s2 q hq with e | e
      ·exact Ey.o q e
      ·exact .inr (by have:=GG.o.size;have:=G0.o.size;omega)
     have G2:ag _:=lM (lM G0.o GG.o (fun q hq=>.inl hq)) g2 Ey.o
     obtain ⟨y,hy⟩:=qbr (bF f L i h);have zz:(y == q)=st:=by
      have s:=ST.o;rw [hy] at s;rw [<-s];by_cases e:y=q
      ·rw [qaF ⟨c2,e⟩];simpa using e
      ·rw [qan (fun x=>e x.2)];simpa using e
     rw [hy];have As:ag (zU i gh c9 te (A'++[((i:Int),(h:Int))])):=(by have e:=HI.o;have:=SK.o.last (te:=te) ω ω ω;rw [e];exact this);clear hy h2 s2 g2 HH SS GG k0 k4 vP vk jQ pf mk;go_wp2_with fail;go_ret2;exact ⟨⟨S2,_,rfl,H2.o,S3.o,As.o⟩,G2.o⟩
    ·have m0:((h:Int) == (c9:Int))=true:=by rw [c1];simp
     have m1:decide ((h:Int)<(te:Int))=false:=(by simpa using c2);have e1:t=false:=(by rw [TT.o];exact qan (fun x=>ω));have e2:st=false:=(by rw [<-ST.o];exact qan (fun x=>c2 x.1));subst e1 e2;have HI:ag _:=c1;have As:ag _:=SK.o.done ht ω;have G2:ag _:=lM G0.o GG.o (fun q hq=>.inl hq)
     clear c1;go_wp2_with fail;go_ret2;exact ⟨⟨S',A',rfl,HH.o,Ey.o,As.o⟩,G2.o⟩
   ·have m0:((h:Int) == (c9:Int))=false:=by simp;omega
    have e1:t=st:=by
     rw [TT.o,<-ST.o];have x1:h<c9:=ω;have x2:h<te:=ω;by_cases e:bF f L i h=q
     ·rw [qaF ⟨x1,e⟩,qaF ⟨x2,e⟩]
     ·rw [qan (fun x=>e x.2),qan (fun x=>e x.2)]
    subst e1;have As:ag _:=SK.o.done ht ω;have G2:ag _:=lM G0.o GG.o (fun q hq=>.inl hq)
    go_wp2_with fail;go_ret2
    exact ⟨⟨S',A',rfl,HH.o,Ey.o,As.o⟩,G2.o⟩
end Go.Proofs.YtaemofgeciklkaaGreat
namespace Go.Proofs.YtaemofgeciklkaaGreat
open Go.RowKit
attribute [local go_sem] iV
variable {p pp n:Nat} {w0 w:World} {HS:World->(Nat->Prop)->List (Int×Int)->List (Int×Int)->Prop} {eps:Int} {f:Nat->Int} {L:List (List Sg)} {S:Nat->Prop} {A B:List (Int×Int)}
theorem ahI (D:sw 62 97 269 118 (IS pp) w0 HS eps f n L) (loc:∀ {w:World} {S:Nat->Prop} {A B:List (Int×Int)},HS w S A B->w.cell? (φ p 0)=some (IS pp)/\p<w.heap.size) (M:iD) (R:oz eps f n L) (p0 p1:Value) {TT:World->(Nat->Prop)->List iY->Bool->Prop} (C:Wb 150 (fun a b=>#[a,b,p0,p1]) TT) (q:Int) (q0:0<=q) (q1:q<18446744073709551616) {X:Nat->Prop} (h:HS w S A B) (t:TT w X [] false) (dj:∀ q,X q->w0.heap.size<=q/\¬ S q) (la:A.length<=1000000000) (lb:B.length<=1000000000) :
 Calls prog 149 #[IS p,BY q,.func (.func 150) #[] #[p0,p1]] w fun e w'=>e=π #[]/\(∃ S' X' A' B',HS w' S' (A++A') (B++B')/\BM eps q f n L A' B'/\TT w' X' (Hh eps q f n L) (qu q f n L 0)/\(∀ q,S' q->S q\/w.heap.size<=q)/\(∀ q,X' q->(X q\/w.heap.size<=q)/\¬ S' q))/\Gs (fun q=>S q\/X q) w w':=by
 have mH:∀ W:World,W.cell? (φ p 0)=some (IS pp)->(method 434 108 (IS p) "Height").run prog W=.ok (97,IS pp) W:=fun W c=>ahz "Height" 97 η p pp W c _
 have mS:∀ W:World,W.cell? (φ p 0)=some (IS pp)->(method 434 108 (IS p) "Segment").run prog W=.ok (118,IS pp) W:=fun W c=>ahz "Segment" 118 η p pp W c _
 have mE:∀ W:World,W.cell? (φ p 0)=some (IS pp)->(method 434 108 (IS p) "Eps").run prog W=.ok (62,IS pp) W:=fun W c=>ahz "Eps" 62 η p pp W c _
 have DD:ag _:=D;have uQ:ag (∀ {w:World} {S:Nat->Prop} {A B:List (Int×Int)},HS w S A B->w.cell? (φ p 0)=some (IS pp)/\p<w.heap.size):=loc;have CC:ag _:=C;have MM:ag iD:=M;have RR:ag (oz eps f n L):=R;have HH:ag _:=h;have TH:ag _:=t;have DJ:ag _:=dj;have Yp:ag (A.length<=1000000000/\B.length<=1000000000):=⟨la,lb⟩;obtain ⟨ln,ax⟩:=qbr L.length;have LN:ag _:=ax;have l1:ln<=2000000:=by have:=R.sh.1;omega
 clear D C M R h t dj la lb ax loc;obtain ⟨jQ,pf⟩:=uQ.o HH.o;have mh:=mH w jQ;go_enter func149,ntmps149;go_wp2_with fail;refine (DD.o.height HH.o).mono ?_;rintro e w1 ⟨rfl,hw⟩;have eJ:w=w1:=hw.symm;subst eJ;rw [LN.o];clear hw jQ pf mh;go_wp2_with fail;have W0:ag _:=(DD.o.gw HH.o).size;go_loopg [6,7] ln (fun gg s6 s7 wr=>∃ (j sl:Nat) (S' X':Nat->Prop) (A' B':List (Int×Int)),s6=By (sl:Int)/\s7=By ((j:Int)-1)/\j<=ln/\j<=gg/\ag (0<j->sl=jJ q L (j-1))/\ag (HS wr S' (A++A') (B++B'))/\ag (oY eps q f n L j A' B')/\ag (TT wr X' (nW eps q f n L j) (qu q f n L j))/\ag (∀ q,S' q->S q\/w.heap.size<=q)/\ag (∀ q,X' q->(X q\/w.heap.size<=q)/\¬ S' q)/\ag (Gs (fun q=>S q\/X q) w wr))
 case atStart =>
  refine ⟨ln,0,S,X,[],[],rfl,by go_num,Yk _,Yk _,fun h0=>?_,?_,?_,?_,(show ag _ from fun q hq=>.inl hq),(show ag _ from fun q hq=>⟨.inl hq,(DJ.o q hq).2⟩),(show ag _ from (Gw.refl w).gs _)⟩
  ·have:=RR.o.lv.slot_top (q:=q) (by rw [LN.o];exact h0)
   rw [LN.o] at this;exact this.symm
  ·rw [qaJ,qaJ];exact HH
  ·have:=oY.none eps q f n L
   rw [LN.o] at this;exact this
  ·have e1:=afI eps q f n L
   have e2:qu q f n L L.length=false:=Ym rfl;rw [LN.o] at e1 e2;rw [e1,e2];exact TH
 case round =>
  clear HH TH;obtain ⟨j,sl,S',X',A',B',rfl,rfl,a1,a2,SL,HH,AK,TH,SS,XX,GG⟩:=hrel;rcases j with _ | i
  ·have e:(((0:Nat):Int)-1)=-1:=by omega
   rw [e];clear e;go_wp2_with fail;go_end0;exact ⟨rfl,⟨S',X',A',B',HH.o,AK.o.all,TH.o,SS.o,XX.o⟩,GG.o⟩
  ·have e:(((i+1:Nat):Int)-1)=(i:Int):=by omega
   rw [e];clear e;have hi:ag (i<L.length):=(by show _<_;rw [LN.o];omega);have sle:sl=jJ q L i:=SL.o ω;have slt:ag (sl<(L.getD i []).length):=(by rw [sle];exact RR.o.lv.slot hi.o);obtain ⟨s,hs⟩:=qbr (dV q L i);have SG:ag _:=hs;have Yq:ag ((L.getD i []).getD sl aF=s):=(by rw [sle];exact hs);have Yr:ag _:=sle;have bl:ag ((B++B').length<=2000000000):=(by show _<=_;have b1:=AK.o.bl;have:=Yp.o.2;rw [LN.o] at b1;rw [Ψ];omega);clear hs sle SL;obtain ⟨k,sp,ic,fr,te⟩:=s;obtain ⟨jQ,pf⟩:=uQ.o HH.o;have ms:=mS wr jQ;go_wp2_with fail;clear jQ pf ms;refine (DD.o.seg HH.o bl.o i sl hi.o slt.o).mono ?_;rintro e w2 ⟨⟨S2,rfl,h2,s2⟩,g2⟩;have H2:ag (HS w2 S2 (A++A') (B++(B'++[((i:Int)+1,(sl:Int))]))):=(by rw [<-List.append_assoc];exact h2);have S3:ag (∀ q,S2 q->S q\/w.heap.size<=q):=fun q hq=>by
    rcases s2 q hq with e | e
    ·exact SS.o q e
    ·exact .inr (Φ GG.o.size e)
   have T2:ag _:=CC.o.keep TH.o fun q hq=>g2.block q (CC.o.lt TH.o q hq) (XX.o q hq).2
   have X2:ag (∀ q,X' q->(X q\/w.heap.size<=q)/\¬ S2 q):=fun q hq=>⟨(XX.o q hq).1,fun e=>by
    rcases s2 q e with e | e
    ·exact (XX.o q hq).2 e
    ·have:=CC.o.lt TH.o q hq;omega⟩
   have G2:ag _:=lM GG.o g2 fun q hq=>by
    rcases SS.o q hq with e | e
    ·exact .inl (.inl e)
    ·exact .inr e
   rw [Yq.o];have OK:ag (Sg.ok ⟨k,sp,ic,fr,te⟩):=(by have:=DD.o.sok i hi.o sl slt.o;rw [Yq.o] at this;exact this);have s0:ag (0<=fr/\fr<te/\te<=4294967296/\te<=bK n L i/\fr<=jK q L i/\jK q L i<=te):=by
    have:=RR.o.lv.bounds (q:=q) q1 hi.o
    rw [SG.o] at this;exact ⟨this.1,this.2.1,this.2.2.1,this.2.2.2.1,this.2.2.2.2.1,this.2.2.2.2.2.1⟩
   have GA:ag (dh k sp ic fr te q=jK q L i):=(by show _=_;unfold jK;rw [SG.o]);clear h2 s2 g2 HH TH SS XX GG;go_wp2_with fail;have B3:ag ((w2.alloc (.cells #[BY k,.float .f64 sp,.float .f64 ic,By fr,By te] 174)).heap[w2.heap.size]?=some (.cells #[BY k,.float .f64 sp,.float .f64 ic,By fr,By te] 174 (0,0))):=Ω w2 _;have G3:ag (Gw w2 (w2.alloc (.cells #[BY k,.float .f64 sp,.float .f64 ic,By fr,By te] 174))):=(Gw.refl w2).alloc _ _;generalize w2.alloc (.cells #[BY k,.float .f64 sp,.float .f64 ic,By fr,By te] 174)=w3 at B3 G3 ⊢;obtain ⟨gb,BP⟩:=qbr w2.heap.size;have GB:ag _:=BP;rw [BP] at B3 ⊢;clear BP;refine (MM.o.guess k sp ic fr te q OK.o q0 q1 w3).mono ?_;rintro e w4 ⟨rfl,g4⟩;rw [GA.o];obtain ⟨G,hG⟩:=qbr (jK q L i);have GG:ag _:=hG;rw [hG];obtain ⟨z1,z2,z3,z4,z5,z6⟩:=s0.o;rw [hG] at z5 z6;obtain ⟨tn,KG⟩:∃ tn:Nat,te=(tn:Int):=⟨te.toNat,ω⟩;subst KG;have Z4:ag (tn<=bK n L i):=(by show _<=_;omega);have e2:=RR.o.e0;have e3:=RR.o.e1;have B4:ag (w4.heap[gb]?=some (.cells #[BY k,.float .f64 sp,.float .f64 ic,By fr,By (tn:Int)] 174 (0,0))):=(g4.below.block gb (qab.1 B3.o).1).trans B3.o;have G4:ag _:=G3.o.trans g4;obtain ⟨lo,Ys⟩:∃ lo:Nat,max (G-eps-1) fr=(lo:Int):=⟨(max (G-eps-1) fr).toNat,ω⟩;obtain ⟨hj,Yt⟩:∃ hj:Nat,min (G+eps+1) (tn:Int)=(hj:Int):=⟨(min (G+eps+1) (tn:Int)).toNat,ω⟩;have LO:ag ((fT eps q f n L i).lo=(lo:Int)):=(by show max (dV q L i).fr (jK q L i-eps-1)=_;rw [SG.o,GG.o,Int.max_comm];exact Ys);have HJ:ag ((fT eps q f n L i).hi=(hj:Int)):=(by show min (dV q L i).te (jK q L i+eps+1)=_;rw [SG.o,GG.o,Int.min_comm];exact Yt);have WI:ag (hj-lo<=130):=(by show _<=_;omega);clear B3 G3 g4 hG z4 s0;have Yu:=(qab.1 B4.o).1;have u1:IntKind.i64.wrap (G-eps)=G-eps:=(by rw [Δ];omega);have u2:IntKind.i64.wrap (G-eps-1)=G-eps-1:=(by rw [Δ];omega);have u3:IntKind.i64.wrap (G+eps)=G+eps:=(by rw [Δ];omega);have u4:IntKind.i64.wrap (G+eps+1)=G+eps+1:=(by rw [Δ];omega);go_wp2_with fail;have V5:ag ((w4.alloc (.cells #[By (i:Int),By (sl:Int),By G,By 0,By 0,By 0] 219)).heap[w4.heap.size]?=some (.cells #[By (i:Int),By (sl:Int),By G,By 0,By 0,By 0] 219 (0,0))):=Ω w4 _
   have G5:ag (Gw w4 (w4.alloc (.cells #[By (i:Int),By (sl:Int),By G,By 0,By 0,By 0] 219))):=(Gw.refl w4).alloc _ _;generalize w4.alloc (.cells #[By (i:Int),By (sl:Int),By G,By 0,By 0,By 0] 219)=w5 at V5 G5 ⊢;obtain ⟨vb,uR⟩:=qbr w4.heap.size;have VB:ag _:=uR;rw [uR] at V5 Yu ⊢;clear uR;have H5:ag _:=DD.o.grow H2.o (G4.o.trans G5.o).drew;have E5:=DD.o.eps H5.o;obtain ⟨jQ,pf⟩:=uQ.o H5.o;have me:=mE _ jQ;have B5:ag _:=(G5.o.below.block gb (by rw [VB.o];exact Yu)).trans B4.o
   have c2:w5.drew.cell? (φ vb 2)=some (By G):=oZ V5.o rfl;have c3:w5.drew.cell? (φ vb 3)=some (By 0):=oZ V5.o rfl;have x3:w5.drew.cell? (φ gb 3)=some (By fr):=oZ B5.o rfl;have f3:w5.drew.frozen? (φ vb 3)=false:=DT V5.o;refine wp_region_still_tail 11 η η ?_;change wpStill _ _ (World.drew w5) (fun a'=>wpList _ _ _ _ a' (World.drew w5)) _ _
   simp only [qbj,List.take_zero,List.drop_succ_cons,List.drop_zero]
   still_step
   still_step
   still_step
   still_step
   still_call E5
   still_step
   still_step
   still_step
   still_step
   still_step
   still_step
   refine wpStill_nil ?_;go_wp2_with fail;have gv:ag (w2.heap.size<=vb):=(by show _<=_;rw [<-VB.o];exact G4.o.size);have V6:ag ((w5.setCell (φ vb 3) (By (lo:Int))).drew.heap[vb]?=some (.cells #[By (i:Int),By (sl:Int),By G,By (lo:Int),By 0,By 0] 219 (0,0))):=zV V5.o 3 _;have G6:ag (Gw w2 (w5.setCell (φ vb 3) (By (lo:Int))).drew):=((G4.o.trans G5.o).setCell gv.o _).drew;have B6:ag ((w5.setCell (φ vb 3) (By (lo:Int))).drew.heap[gb]?=some (.cells #[BY k,.float .f64 sp,.float .f64 ic,By fr,By (tn:Int)] 174 (0,0))):=(qac _ _ _ _ (by show gb≠vb;omega)).trans B5.o
   generalize (w5.setCell (φ vb 3) (By (lo:Int))).drew=w6 at V6 G6 B6 ⊢;clear c2 c3 x3 f3 E5 H5 jQ pf me V5 G5 B5 B4 G4 u1 u2 Ys;have H6:ag _:=DD.o.grow H2.o G6.o.drew;have E6:=DD.o.eps H6.o;obtain ⟨jQ,pf⟩:=uQ.o H6.o;have me:=mE _ jQ;have c2:w6.drew.cell? (φ vb 2)=some (By G):=oZ V6.o rfl;have c4:w6.drew.cell? (φ vb 4)=some (By 0):=oZ V6.o rfl;have x4:w6.drew.cell? (φ gb 4)=some (By (tn:Int)):=oZ B6.o rfl;have f4:w6.drew.frozen? (φ vb 4)=false:=DT V6.o;refine wp_region_still_tail 11 η η ?_;change wpStill _ _ (World.drew w6) (fun a'=>wpList _ _ _ _ a' (World.drew w6)) _ _
   simp only [qbj,List.take_zero,List.drop_succ_cons,List.drop_zero]
   still_step
   still_step
   still_step
   still_step
   still_call E6
   still_step
   still_step
   still_step
   still_step
   still_step
   still_step
   refine wpStill_nil ?_;obtain ⟨w7,Ez⟩:=qbr (w6.setCell (φ vb 4) (By (hj:Int)));have V7:ag (w7.heap[vb]?=some (.cells #[By (i:Int),By (sl:Int),By G,By (lo:Int),By (hj:Int),By 0] 219 (0,0))):=(by rw [<-Ez];exact zV V6.o 4 _);have G7:ag (Gw w2 w7.drew):=(by rw [<-Ez];exact (G6.o.setCell gv.o _).drew);have B7:ag (w7.heap[gb]?=some (.cells #[BY k,.float .f64 sp,.float .f64 ic,By fr,By (tn:Int)] 174 (0,0))):=(by rw [<-Ez];exact (qac _ _ _ _ (by show gb≠vb;omega)).trans B6.o);have v7:=Ko (v:=⟨(i:Int),(sl:Int),G,(lo:Int),(hj:Int),0⟩) V7.o;have k0:w7.cell? (φ vb 0)=some (By (i:Int)):=v7.c0;have k1:w7.cell? (φ vb 1)=some (By (sl:Int)):=v7.c1;have k2:w7.cell? (φ vb 2)=some (By G):=v7.c2;have k3:w7.cell? (φ vb 3)=some (By (lo:Int)):=v7.c3;have k4:w7.cell? (φ vb 4)=some (By (hj:Int)):=v7.c4;have k5:w7.cell? (φ vb 5)=some (By 0):=v7.c5;have y4:w7.cell? (φ gb 4)=some (By (tn:Int)):=oZ B7.o rfl;have Yv:=(qab.1 V7.o).1;have HT:ag (hj<=tn):=(by show _<=_;omega);have WN:ag (lo<=aB (bF f L i) q (bK n L i)/\aB (bF f L i) q (bK n L i)<=hj):=(by obtain ⟨x1,x2⟩:=RR.o.lv.window (q:=q) q1 hi.o;rw [LO.o] at x1;rw [HJ.o] at x2;have y1:(lo:Int)<=(aB (bF f L i) q (bK n L i):Int):=x1;have y2:(aB (bF f L i) q (bK n L i):Int)<=(hj:Int):=x2;exact ⟨ω,ω⟩);have BL:ag ((∀ t,t<aB (bF f L i) q (bK n L i)->bF f L i t<q)/\∀ t,aB (bF f L i) q (bK n L i)<=t->t<bK n L i->q<=bF f L i t):=RR.o.lv.below hi.o;have VR:ag _:=RR.o.lv.vis q1 hi.o;have VI:ag (fT eps q f n L i=⟨(i:Int),(sl:Int),G,(lo:Int),(hj:Int),((aB (bF f L i) q (bK n L i):Nat):Int)⟩):=by show fT eps q f n L i=_;have e1:(fT eps q f n L i).lo=(lo:Int):=LO.o;have e2:(fT eps q f n L i).hi=(hj:Int):=HJ.o;have e3:(fT eps q f n L i).gu=G:=GG.o;have e4:(fT eps q f n L i).sl=(sl:Int):=(by show ((jJ q L i:Nat):Int)=_;rw [Yr.o]);rw [<-e1,<-e2,<-e3,<-e4];rfl
   obtain ⟨r,hr⟩:=qbr (aB (bF f L i) q (bK n L i));have RK:ag _:=hr;rw [hr] at WN BL VI;have r1:r<=tn:=Φ WN.o.2 HT.o;have H7:ag _:=DD.o.grow H2.o G7.o;have AL:ag ((A++A').length+(hj-lo)<=1999999999):=(by show _<=_;have b1:=AK.o.al;have:=Yp.o.1;have:=WI.o;rw [LN.o] at b1;rw [Ψ];omega);clear v7 Yt hr E6 H6 jQ pf me V6 G6 B6;go_wp2_with fail;refine (ahH DD.o uQ.o i hi.o RR.o.sh.1 lo hj tn r (sl:Int) G 0 q q0 q1 WN.o.1 WN.o.2 HT.o Z4.o ω BL.o.1 BL.o.2 H7.o AL.o).mono ?_;rintro e w8 ⟨⟨S8,A8,rfl,h8,s8,k8⟩,g8⟩;have Yw:ag _:=DD.o.lt H2.o;have At:ag _:=CC.o.lt T2.o;have n8:ag (∀ q,w2.heap.size<=q->q<w7.heap.size->w8.heap[q]?=w7.heap[q]?):=fun q h1 h2=>g8.block q h2 (fun e=>by have:=Yw.o q e;omega)
   have V8:ag _:=(n8.o vb gv.o Yv).trans V7.o;have Mn:ag _:=GB.o.symm;have B8:ag _:=(n8.o gb (qad Mn.o.symm) ω).trans B7.o;have Mo:ag (∀ q,S8 q->q<w8.heap.size/\q≠vb/\q≠gb):=fun q hq=>⟨DD.o.lt h8 q hq,by
    rcases s8 q hq with e | e
    ·have:=Yw.o q e;have:=gv.o;have:=Mn.o;omega
    ·have e':w7.heap.size<=q:=e
     omega⟩
   have S8W:ag (∀ q,S8 q->S q\/w.heap.size<=q):=fun q hq=>by
    rcases s8 q hq with e | e
    ·exact S3.o q e
    ·exact .inr (Φ G2.o.size (Φ G7.o.size e))
   have X8:ag (∀ q,X' q->¬ S8 q):=fun q hq e=>by
    rcases s8 q e with e | e
    ·exact (X2.o q hq).2 e
    ·have:=At.o q hq;have:=G7.o.size;omega
   have T8:ag _:=CC.o.keep T2.o fun q hq=>(g8.block q (Θ (At.o q hq) G7.o.size) (fun e=>(X2.o q hq).2 e)).trans (G7.o.below.block q (At.o q hq))
   have G8:ag (Gs (fun q=>S q\/X q) w w8):=lM (lM G2.o (G7.o.gs (fun _=>False)) (fun q hq=>hq.elim)) g8 fun q hq=>by
    rcases S3.o q hq with e | e
    ·exact .inl (.inl e)
    ·exact .inr e
   have Yx:ag _:=Φ G2.o.size gv.o;obtain ⟨w9,Au⟩:=qbr (w8.setCell (φ vb 5) (By (r:Int)));have V9:ag (w9.heap[vb]?=some (.cells #[By (i:Int),By (sl:Int),By G,By (lo:Int),By (hj:Int),By (r:Int)] 219 (0,0))):=(by rw [<-Au];exact zV V8.o 5 _);have N9:ag (∀ q,q≠vb->w9.heap[q]?=w8.heap[q]?):=fun q hq=>by rw [<-Au];exact qac _ _ _ _ hq
   have Z9:ag (w9.heap.size=w8.heap.size):=(by rw [<-Au];exact World.size_setCell _ _ _);have Mp:ag (Gs (fun q=>q=vb) w8 w9):=(by rw [<-Au];exact Gs.set (S:=fun q=>q=vb) ((Gw.refl w8).gs _) rfl 5 _);have H9:ag (HS w9 S8 (A++(A'++A8)) (B++(B'++[((i:Int)+1,(sl:Int))]))):=(by rw [<-List.append_assoc];exact DD.o.step h8 Mp.o fun q e=>⟨by rw [e];exact Φ W0.o Yx.o,fun e'=>(Mo.o q e').2.1 e⟩);have T9:ag _:=CC.o.keep T8.o fun q hq=>N9.o q (by have:=At.o q hq;have:=gv.o;omega)
   have G9:ag _:=lM G8.o Mp.o fun q e=>.inr (by rw [e];exact Yx.o)
   have B9:ag _:=(N9.o gb ω).trans B8.o;have SKR:ag _:=k8;obtain ⟨st,eX⟩:∃ st:Bool,decide (r<tn/\bF f L i r=q)=st:=⟨_,rfl⟩;have ST:ag _:=eX;rw [eX];have v9:=Ko (v:=⟨(i:Int),(sl:Int),G,(lo:Int),(hj:Int),(r:Int)⟩) V9.o;have d5:w8.cell? (φ vb 5)=some (By 0):=oZ V8.o rfl;have d6:w8.frozen? (φ vb 5)=false:=DT V8.o;have vb8:=(qab.1 V8.o).1;have vb9:=(qab.1 V9.o).1;have m0:w9.cell? (φ vb 0)=some (By (i:Int)):=v9.c0;have m1:w9.cell? (φ vb 1)=some (By (sl:Int)):=v9.c1;have m2:w9.cell? (φ vb 2)=some (By G):=v9.c2;have m3:w9.cell? (φ vb 3)=some (By (lo:Int)):=v9.c3;have m4:w9.cell? (φ vb 4)=some (By (hj:Int)):=v9.c4;have m5:w9.cell? (φ vb 5)=some (By (r:Int)):=v9.c5;clear h8 s8 k8 g8 n8 eX v9 Ez k0 k1 k2 k3 k4 k5 y4 c2 c4 x4 f4 u3 u4 V7 B7 G7 H7 V8 B8 T8 G8 Mp AL H2 T2 G2;go_wp2_with fail;have PL:ag ((nW eps q f n L (i+1)).length<=2000000):=(by show _<=_;rw [afJ,LN.o];omega);refine (CC.o.call T9.o PL.o ⟨(i:Int),(sl:Int),G,(lo:Int),(hj:Int),(r:Int)⟩ st).mono ?_;rintro e sG ⟨rfl,⟨wY,t10,jW⟩,g10⟩;have H10:ag (HS sG S8 (A++(A'++A8)) (B++(B'++[((i:Int)+1,(sl:Int))]))):=DD.o.step H9.o g10 fun q hq=>⟨by
    rcases (X2.o q hq).1 with e | e
    ·exact (DJ.o q e).1
    ·exact Φ W0.o e,X8.o q hq⟩
   have T10:ag (TT sG wY (nW eps q f n L i) (qu q f n L i)):=by
    have e1:qu q f n L i=st:=by
     unfold qu;rw [Yl (by have:=hi.o;omega),<-ST.o]
     unfold Wc;rw [RK.o];have th:=VR.o.there;rw [SG.o,RK.o] at th;have t1:(r<tn/\bF f L i r=q)↔(r<bK n L i/\bF f L i r=q):=⟨fun x=>th.1 ⟨by show (r:Int)<(tn:Int);omega,x.2⟩,fun x=>by have y:=th.2 x;have y1:(r:Int)<(tn:Int):=y.1;exact ⟨ω,x.2⟩⟩
     by_cases e:r<tn/\bF f L i r=q
     ·rw [qaF e,qaF (t1.1 e)]
     ·rw [qan e,qan (fun x=>e (t1.2 x))]
    rw [e1,Wd eps q f n L hi.o,VI.o];exact t10
   have ahJ:ag (∀ q,wY q->(X q\/w.heap.size<=q)/\¬ S8 q):=fun q hq=>by
    rcases jW q hq with e | e
    ·exact ⟨(X2.o q e).1,X8.o q e⟩
    ·exact ⟨.inr (Φ G9.o.size e),fun e'=>by have:=(Mo.o q e').1;have:=Z9.o;omega⟩
   have G10:ag _:=lM G9.o g10 fun q hq=>by
    rcases (X2.o q hq).1 with e | e
    ·exact .inl (.inr e)
    ·exact .inr e
   have gb9:=(qab.1 B9.o).1;have B10:ag _:=(g10.block gb gb9 (fun e=>by have:=At.o gb e;have:=Mn.o;omega)).trans B9.o
   have x3:sG.cell? (φ gb 3)=some (By fr):=oZ B10.o rfl;have AKN:ag (oY eps q f n L i (A'++A8) (B'++[((i:Int)+1,(sl:Int))])):=by
    have:=AK.o.next hi.o SKR.o LO.o HJ.o (by rw [SG.o]) (by have:=WI.o;omega)
    rw [<-Yr.o] at this;exact this
   obtain ⟨nx,EH⟩:∃ nx:Nat,(if st=true then (r:Int) else max ((r:Int)-1) fr)=(nx:Int):=⟨(if st=true then (r:Int) else max ((r:Int)-1) fr).toNat,by split<;>omega⟩
   have NXS:ag (0<i->nx=jJ q L (i-1)):=fun i0=>by
    have e1:jJ q L (i-1)=rs (bF f L i) (bK n L i) q:=by
     have:=ab3 (q:=q) (f:=f) (n:=n) (L:=L) (i-1)
     rw [show i-1+1=i by omega] at this
     exact this
    have th:=VR.o.there;have Yy:=VR.o.next;rw [SG.o,RK.o] at th Yy;rw [e1];have s:=ST.o;by_cases e:r<tn/\bF f L i r=q
    ·rw [qaF e] at s
     rw [Ym s.symm] at EH;have y:=th.1 ⟨by show (r:Int)<(tn:Int);omega,e.2⟩
     unfold rs;rw [RK.o,Ym y];omega
    ·rw [qan e] at s
     rw [Yl (by rw [<-s];simp)] at EH
     have y:=Yy (fun x=>e ⟨by have x1:(r:Int)<(tn:Int):=x.1;omega,x.2⟩)
     have y':max ((r:Int)-1) fr=((rs (bF f L i) (bK n L i) q:Nat):Int):=y;omega
   clear t10 jW g10 Au d5 d6 vb8 m0 m1 m2 m3 m4 m5 V9 B9 T9 G9 H9 N9 Mo X8 Yv;go_wp2_with fail;refine (afK (r:Int) fr st ω ω sG).mono ?_;rintro e w11 ⟨rfl,Yz⟩;have ahK:sG=w11:=Yz.symm;subst ahK;rw [EH];clear Yz EH;go_wp2_with fail;go_roundg i
   case measure=>omega
   case rel=>exact ⟨i,nx,S8,wY,A'++A8,B'++[((i:Int)+1,(sl:Int))],rfl,by go_num,ω,Yk _,NXS,H10,AKN,T10,S8W,ahJ,G10⟩
end Go.Proofs.YtaemofgeciklkaaGreat
namespace Go.Proofs.YtaemofgeciklkaaGreat
open Go.RowKit
attribute [local go_sem] iV
theorem ahL (br bt:Nat) (ne:br≠bt):Wb 150 (fun a b=>#[a,b,IS br,IS bt]) (Kq br bt) where
 lt h q hq:=by
  rcases (h.x q).1 hq with rfl | rfl
  ·exact h.r.lt
  ·exact h.t.lt
 keep h k:=⟨(k br ((h.x br).2 (.inl rfl))).trans h.r,(k bt ((h.x bt).2 (.inr rfl))).trans h.t,h.x⟩
 call {w X l st} h hl v s:=by
  obtain ⟨v0,v1,v2,v3,v4,v5⟩:=v;have HH:ag _:=h;have c1:=h.r.cell;have c2:=h.t.cell;have f1:=h.r.fz;have f2:=h.t.fz;have l1:=h.r.lt;have l2:=h.t.lt;have b1:br≠w.heap.size:=ω;have b2:bt≠w.heap.size:=ω;clear h;go_enter func150,ntmps150;go_wp2_with fail;go_end0;refine ⟨rfl,⟨X,⟨?_,?_,HH.o.x⟩,fun q hq=>.inl hq⟩,?_⟩
  ·rw [We]
   refine (qap _ _ (by simpa using l1)).trans ?_
   refine (qac _ _ _ _ ne).trans ?_;exact zV HH.o.r 0 _
  ·refine (qap _ _ (by simpa using l2)).trans ?_
   exact zV ((qac _ _ _ _ (fun e=>ne e.symm)).trans HH.o.t) 0 _
  ·have g:=(((Gw.refl w).gs X).set ((HH.o.x br).2 (.inl rfl)) 0 (By v5)).set ((HH.o.x bt).2 (.inr rfl)) 0 (.bool s)
   exact lM g (((Gw.refl _).alloc _ _).gs (fun _=>False)) (fun q hq=>hq.elim)
variable {p pp n:Nat} {w0 w:World} {HS:World->(Nat->Prop)->List (Int×Int)->List (Int×Int)->Prop} {eps:Int} {f:Nat->Int} {L:List (List Sg)} {S:Nat->Prop} {A B:List (Int×Int)}
theorem ahM (D:sw 62 97 269 118 (IS pp) w0 HS eps f n L) (loc:∀ {w:World} {S:Nat->Prop} {A B:List (Int×Int)},HS w S A B->w.cell? (φ p 0)=some (IS pp)/\p<w.heap.size) (M:iD) (R:oz eps f n L) (q:Int) (q0:0<=q) (q1:q<18446744073709551616) (h:HS w S A B) (la:A.length<=1000000000) (lb:B.length<=1000000000) :
 Calls prog 134 #[IS p,BY q] w fun e w'=>(∃ S' A' B',e=χ (yp f n q)/\HS w' S' (A++A') (B++B')/\BM eps q f n L A' B'/\∀ q,S' q->S q\/w.heap.size<=q)/\Gs S w w':=by
 obtain ⟨br,wE⟩:=qbr w.heap.size;have BR:ag _:=wE;have G2:ag (Gw w ((w.alloc (.cells #[By 0] 3)).alloc (.cells #[.bool false] 4))):=((Gw.refl w).alloc _ _).alloc _ _;have z1:(w.alloc (.cells #[By 0] 3)).heap.size=br+1:=by rw [<-wE];simp
 have T2:ag (Kq br (br+1) ((w.alloc (.cells #[By 0] 3)).alloc (.cells #[.bool false] 4)) (fun q=>q=br\/q=br+1) [] false):=by
  refine ⟨?_,?_,fun q=>Iff.rfl⟩
  ·have:=Ω w (.cells #[By 0] 3)
   rw [wE] at this;exact (qap _ _ ω).trans this
  ·have:=Ω (w.alloc (.cells #[By 0] 3)) (.cells #[.bool false] 4)
   rw [z1] at this;exact this
 have z2:((w.alloc (.cells #[By 0] 3)).alloc (.cells #[.bool false] 4)).heap.size=br+2:=by rw [<-wE];simp
 have Z2:ag _:=qad z2.symm;have H2:ag _:=D.grow h G2.o;have SB:ag (∀ q,S q->q<br):=fun q hq=>by have:=D.lt h q hq;omega
 have W0:ag (w0.heap.size<=br):=by have:=(D.gw h).size;show _<=_;omega
 have RR:ag _:=R;have DN:ag _:=fun (W:World) (hW:HS W S A B) (tW:Kq br (br+1) W (fun q=>q=br\/q=br+1) [] false) (dj:∀ q,(q=br\/q=br+1)->w0.heap.size<=q/\¬ S q)=>ahI D loc M R (IS br) (IS (br+1)) (ahL br (br+1) ω) q q0 q1 hW tW dj la lb
 have DD:ag _:=D;clear h D M R la lb z1 z2;go_enter func134,ntmps134;have dj:ag (∀ q,(q=br\/q=br+1)->w0.heap.size<=q/\¬ S q):=fun q hq=>by
  have:=W0.o
  exact ⟨ω,fun e=>by have:=SB.o q e;omega⟩
 go_wp2_with fail;refine (DN.o _ H2.o T2.o dj.o).mono ?_
 clear DN T2 H2;rintro e w3 ⟨rfl,⟨S3,X3,A3,B3,h3,k3,t3,s3,x3⟩,g3⟩;have c1:=t3.r.cell;have c2:=t3.t.cell;have l1:=t3.r.lt;have l2:=t3.t.lt;have av:ag (∀ W,Gw w3 W->∃ S' A' B',HS W S' (A++A') (B++B')/\BM eps q f n L A' B'/\∀ q,S' q->S q\/w.heap.size<=q):=fun W gW=>⟨S3,A3,B3,DD.o.grow h3 gW,k3,fun q hq=>by
  rcases s3 q hq with e | e
  ·exact .inl e
  ·exact .inr (by have:=Z2.o;rw [BR.o];omega)⟩
 have G3:ag _:=lM (G2.o.gs S) g3 fun q hq=>by
  rcases hq with e | e
  ·exact .inl e
  ·exact .inr (by rw [BR.o];omega)
 obtain ⟨e1,e2⟩:=afL (q:=q) RR.o;rw [e1] at c1;rw [e2] at c2;have FV:ag (yp f n q=.tuple #[By (aB f q n:Nat),.bool (decide (aB f q n<n/\f (aB f q n)=q))]):=rfl;generalize decide (aB f q n<n/\f (aB f q n)=q)=tt at c2 FV;generalize aB f q n=nn at c1 FV;clear h3 k3 t3 s3 x3 g3 e1 e2 dj;go_wp2_with fail
 first
  | (
   go_quiet (fail);go_wp2_with fail
   go_ret2
   obtain ⟨S',A',B',r1,r2,r3⟩:=av.o _ ((Gw.refl w3).drewN _);exact ⟨⟨S',A',B',congrArg Ending.returned FV.o.symm,r1,r2,r3⟩,lM G3.o (((Gw.refl w3).drewN _).gs (fun _=>False)) (fun q hq=>hq.elim)⟩)
  | (
   go_ret2
   obtain ⟨S',A',B',r1,r2,r3⟩:=av.o w3 (Gw.refl w3);exact ⟨⟨S',A',B',congrArg Ending.returned FV.o.symm,r1,r2,r3⟩,G3.o⟩)
end Go.Proofs.YtaemofgeciklkaaGreat
namespace Go.Proofs.YtaemofgeciklkaaGreat
open Go.RowKit
variable {w:World} {p pp:Nat}
theorem ahN (c:w.cell? (φ p 0)=some (IS pp)) (pl:p<w.heap.size):∀ {W:World} {S:Nat->Prop} {A B:List (Int×Int)},Wg w W S A B->W.cell? (φ p 0)=some (IS pp)/\p<W.heap.size :=
 fun x=>⟨(x.1.cell _ _ pl).trans c,Θ pl x.1.size⟩
variable {S:Nat->Prop} {eps:Int} {f:Nat->Int} {n:Nat} {L:List (List Sg)}
theorem ahO (M:iD) (c:w.cell? (φ p 0)=some (IS pp)) (pl:p<w.heap.size) (h:fF w pp S eps f n L) (R:oz eps f n L) (q:Int) (q0:0<=q) (q1:q<18446744073709551616) :
 Calls prog 134 #[IS p,BY q] w fun ex w'=>ex=χ (yp f n q)/\Gw w w':=by
 refine (ahM (afM h) (ahN c pl) M R q q0 q1 (S:=fun _=>False) (A:=[]) (B:=[]) ⟨Gw.refl w,fun _ e=>e⟩ ε ε).mono ?_
 rintro ex w2 ⟨⟨S2,A2,B2,rfl,x,_⟩,_⟩;exact ⟨rfl,x.1⟩
def fj {α:Type} (l:List α) (d:α) (i:Nat):List α:=l.take i++List.replicate (l.length-i) d
variable {α:Type}
theorem EJ (l:List α) (d:α) (i:Nat) (h:i<=l.length):(fj l d i).length=l.length:=by simp [fj];omega
theorem YA (l:List α) (d:α):fj l d 0=List.replicate l.length d:=by simp [fj]
theorem YB (l:List α) (d:α):fj l d l.length=l:=by simp [fj]
theorem YC (l:List α) (d d':α) {i:Nat} (h:i<l.length):(fj l d i).set i (l.getD i d')=fj l d (i+1):=by
 unfold fj;rw [List.set_append_right _ _ ζ,show l.length-i=(l.length-(i+1))+1 by omega,List.replicate_succ]
 have e:i-(l.take i).length=0:=by simp;omega
 have e3:l.take (i+1)=l.take i++[l.getD i d']:=by rw [qaW,qah h,qag,qah h];rfl
 rw [e,List.set_cons_zero,e3,qaI];rfl
theorem ahP (n:Nat) (hn:n<=4000000) (w:World) :
 (Instr.makeSlice 150 (By (n:Int)) (By (n:Int))).run prog w=.ok (ψ w.heap.size 0 n n) (w.alloc (.cells (madeCells #[BY 0,.float .f64 0,.float .f64 0,By 0,By 0] (n*5)) 174)):=by
 obtain ⟨i,hi,hz,hs,hb⟩:=info_parts Bq;have hr:=run_make (P:=prog) w 150 174 i _ underlying150 hi hz .i64 .i64 (n:Int) (n:Int) ω (qaH _) (by rw [hb];omega) ω
 rw [hr,hs];have e1:(n:Int).toNat=n:=ω;rw [e1];rfl
theorem ahQ (n:Nat):(madeCells #[BY 0,.float .f64 0,.float .f64 0,By 0,By 0] (n*5)).toList=(List.replicate n aF).flatMap dc:=by
 apply List.ext_getElem?
 intro j;by_cases h:j<n*5
 ·have F:=Bp (List.replicate n aF) (j/5) ζ (j%5) ω
  rw [show j/5*5+j%5=j by omega] at F
  rw [F,qag,qbk,Ym ω];have r5:j%5<5:=ω;simp only [madeCells,Array.getElem?_toList];rw [Array.getElem?_map,Array.getElem?_range,Ym h];simp only [Option.map_some];show some (#[Value.int .u64 0,.float .f64 0,.float .f64 0,By 0,By 0][j%5]!)=_;generalize j%5=r at *
  match r,r5 with
  | 0,_=>rfl
  | 1,_=>rfl
  | 2,_=>rfl
  | 3,_=>rfl
  | 4,_=>rfl
 ·rw [qbb (by simp [size_madeCells];omega),qbb (by rw [vA];simp;omega)]
theorem ahR (w:World) (n:Nat) (hn:n<=4000000):SR (w.alloc (.cells (madeCells #[BY 0,.float .f64 0,.float .f64 0,By 0,By 0] (n*5)) 174)) w.heap.size (ψ w.heap.size 0 n n) (List.replicate n aF):=by
 show World.ownsRow _ _ _ _ _ _ _;rw [qbc];refine ⟨by rw [vA];simp,.inr ⟨w.heap.size,n,_,rfl,Yk _,Ω w _,Yk _,by simp only [maxLen];omega,size_madeCells _ _,?_⟩⟩
 rw [<-ahQ,qaQ (by simp [size_madeCells])]
theorem ahS (n:Nat) (hn:n<=4000000) (w:World) :
 (Instr.makeSlice 103 (By (n:Int)) (By (n:Int))).run prog w=.ok (ψ w.heap.size 0 n n) (w.alloc (.cells (madeCells #[.slice none 0 0] n) 150)):=by
 obtain ⟨i,hi,hz,hs,hb⟩:=info_parts Br;have hr:=run_make (P:=prog) w 103 150 i _ underlying103 hi hz .i64 .i64 (n:Int) (n:Int) ω (qaH _) (by rw [hb];omega) ω
 rw [hr,hs];have e1:(n:Int).toNat=n:=ω;rw [e1,qaE];rfl
theorem ahT (n:Nat):(madeCells #[.slice none 0 0] n).toList=List.replicate n im:=by
 apply List.ext_getElem?
 intro j;by_cases h:j<n
 ·simp only [madeCells,Array.getElem?_toList]
  rw [Array.getElem?_map,Array.getElem?_range,Ym h,qbk,Ym h];show some (#[Value.slice none 0 0][j%1]!)=_;rw [show j%1=0 by omega]
  rfl
 ·rw [qbb (by simp [size_madeCells];omega),qbb ζ]
theorem ahU (w:World) (n:Nat) (hn:n<=4000000):cZ (w.alloc (.cells (madeCells #[.slice none 0 0] n) 150)) w.heap.size (ψ w.heap.size 0 n n) (List.replicate n []) (List.replicate n im):=by
 have e1:∀ i,i<n->(List.replicate n im).getD i im=im:=fun i hi=>by rw [qag,qbk,Ym hi];rfl
 have e2:∀ i,i<n->(List.replicate n ([]:List Sg)).getD i []=[]:=fun i hi=>by rw [qag,qbk,Ym hi];rfl
 refine ⟨?_,fun i hi=>?_,fun i hi q hq=>?_⟩
 ·rw [qbc]
  refine ⟨ε,.inr ⟨w.heap.size,n,_,rfl,Yk _,Ω w _,Yk _,by simp only [maxLen];omega,by rw [size_madeCells];omega,?_⟩⟩
  rw [<-ahT,qaQ (by simp [size_madeCells])]
 ·rw [qbc] at hi
  rw [e1 i hi,e2 i hi];exact qaL _ _ _ _
 ·rw [qbc] at hi
  rw [e1 i hi] at hq;cases hq
theorem ahV {base ni:Nat} {v:Value} {l:List Sg} (h:SR w base v l) (hb:ni<=base):SR w ni v l:=by
 refine ⟨h.1,?_⟩;rcases h.2 with q | ⟨b,cap,cur,e1,e2,e3⟩
 ·exact .inl q
 ·exact .inr ⟨b,cap,cur,e1,Φ hb e2,e3⟩
theorem cZ.put {w1:World} {B g cap i:Nat} {au:List Value} {vl:Value} {lv:List Sg} (h0:cZ w B (ψ g 0 L.length cap) L au) (gg:Gw w w1) (hs:SR w1 w.heap.size vl lv) (hB:B<=w.heap.size) (hi:i<L.length):cZ (w1.setCell (φ g i) vl) B (ψ g 0 (L.set i lv).length cap) (L.set i lv) (au.set i vl):=by
 have vn:=h0.len;have h:=h0.gw gg;have gl:g<w.heap.size:=(h0.outer.lt g rfl).2;have lq:∀ q,vl.ownBlock=some q->w.heap.size<=q:=fun q hq=>(lS hs q hq).1
 have oq:∀ j,j<L.length->∀ q,(au.getD j im).ownBlock=some q->q<w.heap.size:=fun j hj q hq=>(lS (h0.rows j hj) q hq).2
 have nN:∀ q,q≠g->(w1.setCell (φ g i) vl).heap[q]?=w1.heap[q]?:=fun q hq=>qac _ _ _ _ hq
 have gs:∀ j,j≠i->(au.set i vl).getD j im=au.getD j im/\(L.set i lv).getD j []=L.getD j []:=fun j hj=>by
  constructor
  ·simp [List.getD,List.getElem?_set_ne (Ne.symm hj)]
  ·simp [List.getD,List.getElem?_set_ne (Ne.symm hj)]
 have ge:(au.set i vl).getD i im=vl/\(L.set i lv).getD i []=lv:=by
  constructor
  ·simp [List.getD,List.getElem?_set_self (show i<au.length by omega)]
  ·simp [List.getD,List.getElem?_set_self hi]
 refine ⟨?_,fun j hj=>?_,fun j hj q hq=>?_⟩
 ·rw [List.length_set]
  exact (h.outer.stored i vl).1
 ·rw [List.length_set] at hj
  by_cases e:j=i
  ·subst e
   rw [ge.1,ge.2];exact ahV (vB hs fun q hq=>nN q (by have:=lq q hq;omega)) hB
  ·rw [(gs j e).1,(gs j e).2]
   exact vB (h.rows j hj) fun q hq=>nN q (fun x=>(h0.apart j hj q hq).1 (by rw [x];rfl))
 ·rw [List.length_set] at hj ⊢
  by_cases e:j=i
  ·subst e
   rw [ge.1] at hq;have q1:=lq q hq;refine ⟨fun x=>?_,fun m hm uS=>?_⟩
   ·have:g=q:=by simpa [Value.ownBlock] using x
    omega
   ·by_cases e2:m=j
    ·exact e2
    ·rw [(gs m e2).1] at uS
     have:=oq m hm q uS
     omega
  ·rw [(gs j e).1] at hq
   have q1:=oq j hj q hq;have ap:=h0.apart j hj q hq;refine ⟨fun x=>ap.1 (by
    have:g=q:=by simpa [Value.ownBlock] using x
    rw [this];rfl),fun m hm uS=>?_⟩
   by_cases e2:m=i
   ·subst e2
    rw [ge.1] at uS;have:=lq q uS;omega
   ·rw [(gs m e2).1] at uS
    exact ap.2 m hm uS
structure fs (w:World) (p:Nat) (S:Nat->Prop) (eps:Int) (k v:Nat->Int) (g:Nat->Bool) (n:Nat) (L:List (List Sg)):Prop where
 lies:∃ (u:World) (base pp:Nat) (Sp:Nat->Prop) (eo:Option Addr) (ec:Nat),(∀ q,S q↔base<=q/\q<u.heap.size)/\u.heap.size<=w.heap.size/\(∀ q,base<=q->q<u.heap.size->w.heap[q]?=u.heap[q]?)/\u.heap[p]?=some (.cells #[IS pp,.slice eo n ec] 111 (0,0))/\base<=p/\fF u pp Sp eps k n L/\(∀ q,Sp q->base<=q)/\ES u eo n k v g/\(∀ a,eo=some a->base<=a.block)
 rdy:oz eps k n L
section
variable {w:World} {p:Nat} {S:Nat->Prop} {eps:Int} {k v:Nat->Int} {g:Nat->Bool} {n:Nat} {L:List (List Sg)}
theorem fs.lt (h:fs w p S eps k v g n L):∀ q,S q->q<w.heap.size:=by obtain ⟨u,base,pp,Sp,eo,ec,h1,h2,_⟩:=h.lies;intro q hq;have:=(h1 q).1 hq;omega
theorem fs.keep {w':World} (h:fs w p S eps k v g n L) (kk:∀ q,S q->w'.heap[q]?=w.heap[q]?):fs w' p S eps k v g n L:=by
 obtain ⟨u,base,pp,Sp,eo,ec,h1,h2,h3,h4,h5,h6⟩:=h.lies;have pu:p<u.heap.size:=(qab.1 h4).1;refine ⟨⟨u,base,pp,Sp,eo,ec,h1,?_,fun q a b=>(kk q ((h1 q).2 ⟨a,b⟩)).trans (h3 q a b),h4,h5,h6⟩,h.rdy⟩
 have e:=kk (u.heap.size-1) ((h1 _).2 ⟨ω,ω⟩);rw [Array.getElem?_eq_getElem (show u.heap.size-1<w.heap.size by omega)] at e
 have:=(qab.1 e).1
 omega
theorem fs.gw {w':World} (h:fs w p S eps k v g n L) (gg:Gw w w'):fs w' p S eps k v g n L:=h.keep fun q hq=>gg.below.block q (h.lt q hq)
theorem fs.own (h:fs w p S eps k v g n L):S p:=by obtain ⟨u,base,pp,Sp,eo,ec,h1,h2,h3,h4,h5,_⟩:=h.lies;exact (h1 p).2 ⟨h5,(qab.1 h4).1⟩
theorem fs.opened (h:fs w p S eps k v g n L):∃ pp Sp eo ec,w.heap[p]?=some (.cells #[IS pp,.slice eo n ec] 111 (0,0))/\fF w pp Sp eps k n L/\(∀ q,Sp q->S q)/\ES w eo n k v g:=by obtain ⟨u,base,pp,Sp,eo,ec,h1,h2,h3,h4,h5,h6,h7,h8,h9⟩:=h.lies;have pu:p<u.heap.size:=(qab.1 h4).1;exact ⟨pp,Sp,eo,ec,(h3 p h5 pu).trans h4,h6.keep fun q hq=>h3 q (h7 q hq) (h6.lt q hq),fun q hq=>(h1 q).2 ⟨h7 q hq,h6.lt q hq⟩,h8.kept h9 h2 h3⟩
end
variable {w:World} {p:Nat}
theorem uT {a b:Value} {t:TypeId} (h:w.heap[p]?=some (.cells #[a,b] t (0,0))):w.cell? (φ p 0)=some a/\w.cell? (φ p 1)=some b:=by refine ⟨?_,?_⟩<;>simp [World.cell?,h]
variable {eps:Int} {f:Nat->Int} {n:Nat} {L:List (List Sg)}
theorem du.takenW (e1:2<=eps) (e2:eps<=64) (n1:n<=2000000) (bd:∀ t,t<n->0<=f t/\f t<18446744073709551616) (u:Up f n) (h:du eps f n L):jV eps f n L 0:=by
 refine .inr (.inr (.inr ⟨⟨e1,e2⟩,u,⟨?_,?_⟩,(h.chk n1 bd u).symm⟩))
 ·have a:=h.low e1 n1 bd u
  have b:=OG (e:=eps.toNat) ω 4294967296 n ω;unfold oo;rw [Ym ⟨e1,e2,γ⟩];show (L.length:Int)<=((iE eps.toNat 4294967296:Nat):Int);omega
 ·rw [qbh];exact h.none
variable {k v:Nat->Int} {g:Nat->Bool}
theorem YD {ao:Option Addr} {cp:Nat} (h:ES w ao n k v g) (hn:n<=2000000) :
 Calls prog 96 #[.slice ao n cp] w fun e w'=>(∃ bo c,e=χ (.slice bo n c)/\ER w' w.heap.size (.slice bo n c) k v g n)/\Gw w w':=by
 cases ao with
 | none =>
  have n0:n=0:=by
   rcases Nat.eq_zero_or_pos n with e | e
   ·exact e
   ·obtain ⟨b,off,e',_⟩:=h.cells e;cases e'
  subst n0;clear h;have hq:∀ W:World,(binOp .eql 72 (.slice none 0 cp) (.slice none 0 0)).run prog W=.ok (.bool true) W:=fun _=>η
  go_enter func96,ntmps96;go_wp2_with fail;go_ret;exact ⟨⟨none,0,rfl,qaL _ _ _ _⟩,Gw.refl w⟩
 | some ad =>
  have O0:ag ((w.alloc (.cells #[] 71)).ownsRow w.heap.size 71 3 (ψ w.heap.size 0 0 0) 0 []):=World.ownsRow_made w #[] 0 (Yk _) (Γ _) rfl;have NW:ag (∀ x,(some ad:Option Addr)=some x->∀ j u,(lT k v g n)[j]?=some u->(w.alloc (.cells #[] 71)).cell? (x.add j)=some u):=Qn (h.gw ((Gw.refl w).alloc _ _));obtain ⟨ii,aK,hz,hs,aJ⟩:=info_parts kZ;clear h;have hq:∀ W:World,(binOp .eql 72 (.slice (some ad) n cp) (.slice none 0 0)).run prog W=.ok (.bool false) W:=fun _=>η
  go_enter func96,ntmps96;go_wp2_with (at_builtin;refine qG _ rfl _ _ 72 rfl w.heap.size 71 ii (.agg #[BY 0,BY 0,.bool false]) 3 24 underlying72 aK hz hs aJ rfl γ _ 0 [] rfl O0.o (some ad) n cp (lT k v g n) rfl (fun q=>by cases q) (Hy k v g n) NW.o (Qm k v g n) θ ω ε ?_)
  intro v' w7 q1 q2 q3;have G7:ag (Gw w w7):=((Gw.refl w).alloc _ _).grown q2 (fun k hk=>by cases hk;exact Yk _)
  have R5:ER w7 w.heap.size v' k v g n:=(by show World.ownsRow _ _ _ _ _ _ _;simpa using q1);obtain ⟨bo,bc,rfl,_,_⟩:=HU R5;have av:ag _:=R5;clear q1 q2 q3 aK hz hs aJ R5;go_wp2_with fail;go_ret;exact ⟨⟨bo,bc,rfl,av.o⟩,G7.o⟩
theorem YE (eps:Int) (ao:Option Addr) (n cp:Nat) (k v:Nat->Int) (g:Nat->Bool) (hn:n<=2000000) (dA:n<=cp) (w:World) (h:ES w ao n k v g) :
 Calls prog 124 #[.slice ao n cp,By eps] w fun ex w'=>(∃ r,ex=χ (By r)/\nj eps k v g n r)/\Gw w w':=by
 have CK:ag _:=Hl ao n cp k v g ω dA w h;clear h;by_cases b:2<=eps/\eps<=64
 ·have t1:decide (eps<2)=false:=by simp;omega
  have t2:decide (64<eps)=false:=(by simp;omega);have BN:ag _:=b;clear b;go_enter func124,ntmps124;go_wp2_with fail;refine Calls.mono CK.o ?_;rintro e w1 ⟨⟨r,rfl,cr⟩,g1⟩;have CR:ag _:=cr;have G1:ag _:=g1;clear CK cr g1;go_wp2_with fail;go_ret;exact ⟨⟨r,rfl,.inr ⟨BN.o,CR.o⟩⟩,G1.o⟩
 ·have BN:ag (¬ (2<=eps/\eps<=64)):=b
  by_cases c:eps<2
  ·have t1:decide (eps<2)=true:=by simpa using c
   clear b c;go_enter func124,ntmps124;go_wp2_with fail;go_ret;exact ⟨⟨1,rfl,.inl ⟨BN.o,rfl⟩⟩,Gw.refl w⟩
  ·have t1:decide (eps<2)=false:=by simpa using c
   have t2:decide (64<eps)=true:=(by simp;omega);clear b c;go_enter func124,ntmps124;go_wp2_with fail;go_ret;exact ⟨⟨1,rfl,.inl ⟨BN.o,rfl⟩⟩,Gw.refl w⟩
theorem ahW (M:iD) (eps:Int) (ao:Option Addr) (n cp:Nat) (k v:Nat->Int) (g:Nat->Bool) (lo:Option Addr) (lc:Nat) (L:List (List Sg)) (e0:-9223372036854775808<=eps) (e1:eps<9223372036854775808) (hn:n<=2000000) (dA:n<=cp) (hS:ou L) (bL:L.length<=lc) (w:World) (h:ES w ao n k v g) (hv:VS w lo L) :
 Calls prog 127 #[.slice ao n cp,By eps,.slice lo L.length lc] w fun ex w'=>Ia fs w w' ex eps k v g n L/\Gw w w':=by
 have CK:ag _:=YE eps ao n cp k v g hn dA w h;have HE:ag _:=h;have HV:ag _:=hv;have SH:ag _:=hS;have KB:ag (∀ t,t<n->0<=k t/\k t<18446744073709551616):=fun t ht=>(h.bd t ht).1
 have P9:ag (∀ (ko:Option Addr) (W:World),KS W ko n k->VS W lo L->Calls prog 144 #[.slice ko n n,By eps,.slice lo L.length lc] W fun ex w'=>PV fF W w' ex eps k n L/\Gw W w'):=fun ko W hk hw=>of9 M eps ko n n k lo lc L e0 e1 hn (Yk _) hS bL W hk hw
 obtain ⟨ln,ax⟩:=qbr L.length;rw [ax] at P9 bL ⊢;clear h hv hS ax M;go_enter func127,ntmps127;go_wp2_with fail;refine Calls.mono CK.o ?_;rintro e w1 ⟨⟨r,rfl,cr⟩,g1⟩;have CR:ag _:=cr;have G1:ag _:=g1;clear CK cr g1;by_cases r0:r=0
 ·subst r0
  go_wp2_with fail;refine Calls.mono (Qa ao n cp k v g ω w1 (HE.o.gw G1.o)) ?_
  rintro e w2 ⟨⟨kb,rfl,iq,uU⟩,g2⟩;have G2:ag _:=G1.o.trans g2;have K2:ag (KS w2 (some (φ kb 0)) n k):=⟨fun _=>⟨kb,0,rfl,uU.lt,fun i hi=>by rw [qai];exact uU.cell hi⟩,KB.o⟩
  clear uU g2 iq G1;go_wp2_with fail;refine Calls.mono (P9.o _ w2 K2.o (HV.o.gw G2.o)) ?_;rintro e w3 ⟨⟨E,cE,x⟩,g3⟩;have G3:ag _:=G2.o.trans g3;have CE:ag _:=cE;have Z2:ag _:=G2.o.size;clear cE g3 K2 G2;rcases x with ⟨x0,rfl⟩ | ⟨rfl,pp,Sp,rfl,hS,hp⟩
  ·have x0':(E != 0)=true:=by simpa using x0
   have X0:ag _:=x0;clear x0;go_wp2_with fail;go_ret2;exact ⟨⟨E,⟨0,CR.o,.inr ⟨rfl,CE.o⟩⟩,.inl ⟨X0.o,rfl⟩⟩,G3.o⟩
  ·have HP:ag (fF w3 pp Sp eps k n L/\∀ q,Sp q->w2.heap.size<=q):=⟨hp,hS⟩
   clear hp hS;go_wp2_with fail;refine Calls.mono (YD (HE.o.gw G3.o) hn) ?_;rintro e w4 ⟨⟨bo,bc,rfl,er⟩,g4⟩;obtain ⟨ze,bc',e',_,bG⟩:=HU er;cases e';have E4:ag (ES w4 bo n k v g/\∀ a,bo=some a->w3.heap.size<=a.block/\a.block<w4.heap.size):=⟨Hz er HE.o.bd,bG⟩;have EK:ag _:=g4;clear er g4 bG;have av:ag (Ia fs w (w4.alloc (.cells #[IS pp,.slice bo n bc] 111)) (π #[IS (w4.heap.size),By 0]) eps k v g n L):=(by have zz:=EK.o.size;have z3:=G3.o.size;have z2:=Z2.o;have gA:Gw w4 (w4.alloc (.cells #[IS pp,.slice bo n bc] 111)):=(Gw.refl w4).alloc _ _;have g3A:=EK.o.trans gA;refine ⟨0,⟨0,CR.o,.inr ⟨rfl,CE.o⟩⟩,.inr ⟨rfl,w4.heap.size,fun q=>w.heap.size<=q/\q<w4.heap.size+1,rfl,fun q hq=>hq.1,⟨⟨_,w.heap.size,pp,Sp,bo,bc,fun q=>ε,Yk _,fun _ _ _=>rfl,Ω w4 _,ω,HP.o.1.keep fun q hq=>g3A.below.block q (HP.o.1.lt q hq),fun q hq=>Φ z2 (HP.o.2 q hq),E4.o.1.gw gA,fun a ea=>by have:=(E4.o.2 a ea).1;omega⟩,oz.of CE.o hn SH.o KB.o⟩⟩⟩);have G4:ag _:=G3.o.trans EK.o;clear E4 EK HP CE CR;go_wp2_with fail;go_ret2;exact ⟨av.o,G4.o.alloc _ _⟩
 ·have vK:(r != 0)=true:=by simpa using r0
  have R0:ag _:=r0;clear r0;go_wp2_with fail;go_ret2;exact ⟨⟨r,⟨r,CR.o,.inl ⟨R0.o,rfl⟩⟩,.inl ⟨R0.o,rfl⟩⟩,G1.o⟩
theorem ahX (BO:Gy) (OF:∀ (eps:Int) (ao:Option Addr) (n cp:Nat) (k v:Nat->Int) (g:Nat->Bool) (lo:Option Addr) (lc:Nat) (L:List (List Sg)),-9223372036854775808<=eps->eps<9223372036854775808->n<=2000000->n<=cp->ou L->L.length<=lc->∀ w:World,ES w ao n k v g->VS w lo L->Calls prog 127 #[.slice ao n cp,By eps,.slice lo L.length lc] w fun ex w'=>Ia fs w w' ex eps k v g n L/\Gw w w') (eps:Int) (ao:Option Addr) (n cp:Nat) (k v:Nat->Int) (g:Nat->Bool) (e0:-9223372036854775808<=eps) (e1:eps<9223372036854775808) (hn:n<=2000000) (dA:n<=cp) (w:World) (h:ES w ao n k v g) :
 Calls prog 111 #[.slice ao n cp,By eps] w fun ex w'=>vI fs w w' ex eps k v g n/\Gw w w':=by
 have CK:ag _:=YE eps ao n cp k v g hn dA w h;have HE:ag _:=h;have KB:ag (∀ t,t<n->0<=k t/\k t<18446744073709551616):=fun t ht=>(h.bd t ht).1
 clear h;go_enter func111,ntmps111;go_wp2_with fail;refine Calls.mono CK.o ?_;rintro e w1 ⟨⟨r,rfl,cr⟩,g1⟩;have CR:ag _:=cr;have G1:ag _:=g1;clear CK cr g1;by_cases r0:r=0
 ·subst r0
  go_wp2_with fail;refine Calls.mono (Qa ao n cp k v g ω w1 (HE.o.gw G1.o)) ?_
  rintro e w2 ⟨⟨kb,rfl,iq,uU⟩,g2⟩;have G2:ag _:=G1.o.trans g2;have K2:ag (KS w2 (some (φ kb 0)) n k):=⟨fun _=>⟨kb,0,rfl,uU.lt,fun i hi=>by rw [qai];exact uU.cell hi⟩,KB.o⟩
  clear uU g2 iq G1;go_wp2_with fail;refine Calls.mono (BO eps _ n n k e0 e1 hn (Yk _) w2 K2.o) ?_;rintro e w3 ⟨⟨lo,lc,L,err,au,rfl,be,bL,ow,YG⟩,g3⟩;obtain ⟨⟨a1,a2⟩,up⟩:=nj.up CR.o;have vJ:du eps k n L/\err=0:=by
   rcases be with ⟨x,_⟩ | ⟨_,x,_⟩ | ⟨_,_,x,y⟩
   ·exact absurd ⟨a1,a2⟩ x
   ·exact absurd up x
   ·exact ⟨x,y⟩
  obtain ⟨br,rfl⟩:=vJ;have G3:ag _:=G2.o.trans g3;have Mq:ag _:=OF eps ao n cp k v g lo lc L e0 e1 hn dA (br.fine a1 hn KB.o up) bL w3 (HE.o.gw G3.o) (ow.vsf YG).vs;have BR:ag (du eps k n L/\jV eps k n L 0):=⟨br,br.takenW a1 a2 hn KB.o up⟩;obtain ⟨ln,ax⟩:=qbr L.length;rw [ax] at Mq ⊢;clear br be ow YG bL g3 G2 K2 ax up a1 a2;go_wp2_with fail;refine Calls.mono Mq.o ?_;rintro e w4 ⟨⟨E,⟨r,ne,oe⟩,x⟩,g4⟩;have G4:ag _:=G3.o.trans g4;have er:=ne.one CR.o;subst er;rcases oe with ⟨oe,_⟩ | ⟨_,oe⟩
  ·exact absurd rfl oe
  have eE:=oe.one BR.o.2;subst eE;rcases x with ⟨x,_⟩ | ⟨_,p,S,rfl,hS,hr⟩
  ·exact absurd rfl x
  have av:ag (vI fs w w4 (π #[IS p,By 0]) eps k v g n):=⟨0,CR.o,.inr ⟨rfl,p,S,L,rfl,fun q hq=>Φ G3.o.size (hS q hq),BR.o.1,hr⟩⟩
  clear g4 ne oe hS hr BR G3 Mq CR;go_wp2_with fail;go_ret2;exact ⟨av.o,G4.o⟩
 ·have vK:(r != 0)=true:=by simpa using r0
  have R0:ag _:=r0;clear r0;go_wp2_with fail;go_ret2;exact ⟨⟨r,CR.o,.inl ⟨R0.o,rfl⟩⟩,G1.o⟩
end Go.Proofs.YtaemofgeciklkaaGreat
namespace Go.Proofs.YtaemofgeciklkaaGreat
open Go.RowKit
attribute [local go_sem] iV
def ET (b:Nat) (u:World) (x y:Int) (z:Bool):Prop:=(((u.setCell (φ b 0) (BY x)).setCell (φ b 1) (BY y)).setCell (φ b 2) (.bool z)).cell? (φ b 0)=some (BY x)/\(((u.setCell (φ b 0) (BY x)).setCell (φ b 1) (BY y)).setCell (φ b 2) (.bool z)).cell? (φ b 1)=some (BY y)/\(((u.setCell (φ b 0) (BY x)).setCell (φ b 1) (BY y)).setCell (φ b 2) (.bool z)).cell? (φ b 2)=some (.bool z)
theorem YH {b:Nat} {u:World} {x0 y0 z0:Value} {t:TypeId} (h:u.heap[b]?=some (.cells #[x0,y0,z0] t (0,0))) (x y:Int) (z:Bool):ET b u x y z:=by unfold ET;refine ⟨?_,?_,?_⟩<;>simp [World.cell?,World.setCell,Array.getElem?_modify,h]
variable {w:World} {p n:Nat} {S:Nat->Prop} {eps:Int} {k v:Nat->Int} {g:Nat->Bool} {L:List (List Sg)}
theorem ahY (h:fs w p S eps k v g n L):Calls prog 65 #[IS p] w fun e w'=>e=χ (By (n:Int))/\Gw w w':=by obtain ⟨pp,Sp,eo,ec,h1,hp,hs,he⟩:=h.opened;obtain ⟨c0,c1⟩:=uT h1;clear h h1 hp hs he;go_enter func65,ntmps65;go_wp2_with fail;go_ret;exact ⟨rfl,Gw.refl w⟩
theorem ahZ (h:fs w p S eps k v g n L) (i:Int) :
 Calls prog 120 #[IS p,By i] w fun e w'=>e=π #[(tD k v g n i).1,By (tD k v g n i).2]/\Gw w w':=by
 obtain ⟨pp,Sp,eo,ec,h1,hp,hs,hk⟩:=h.opened;obtain ⟨c0,c1⟩:=uT h1;have pl:p<w.heap.size:=(qab.1 h1).1;have hn:=h.rdy.n1;clear h h1 hp hs;unfold tD;by_cases a:i<0
 ·have t1:decide (i<0)=true:=by simpa using a
  rw [Yl ω];clear hk a;go_enter func120,ntmps120;go_wp2_with fail;exact bodyPost_ret (v:=.tuple #[.agg #[BY 0,BY 0,.bool false],By 1]) (by simp [results,results120,go_sem]) rfl ⟨rfl,(Gw.refl w).alloc _ _⟩
 ·have t1:decide (i<0)=false:=by simpa using a
  by_cases b:(n:Int)<=i
  ·have t2:decide ((n:Int)<=i)=true:=by simpa using b
   rw [Yl ω];clear hk a;go_enter func120,ntmps120;go_wp2_with fail;exact bodyPost_ret (v:=.tuple #[.agg #[BY 0,BY 0,.bool false],By 1]) (by simp [results,results120,go_sem]) rfl ⟨rfl,(Gw.refl w).alloc _ _⟩
  ·have t2:decide ((n:Int)<=i)=false:=by simpa using b
   rw [Ym ω];obtain ⟨j,rfl⟩:∃ j:Nat,i=(j:Int):=⟨i.toNat,ω⟩;obtain ⟨kb,ko,rfl,iq,di⟩:=hk.cells ω;obtain ⟨d1,d2,d3⟩:=di j ω;have jl:j<n:=ω;have vG:(j:Int)<(n:Int):=ω;show Calls _ _ _ _ fun e w'=>e=χ (.tuple #[.agg #[BY (k j),BY (v j),.bool (g j)],By 0])/\Gw w w'
   generalize k j=kj at d1 ⊢;generalize v j=vj at d2 ⊢;generalize g j=gj at d3 ⊢;clear hk di a b;go_enter func120,ntmps120;go_wp2_with fail;exact bodyPost_ret (v:=.tuple #[.agg #[BY kj,BY vj,.bool gj],By 0]) (by simp [results,results120,go_sem]) rfl ⟨rfl,(Gw.refl w).alloc _ _⟩
theorem ah0 (h:fs w p S eps k v g n L):Calls prog 61 #[IS p] w fun e w'=>(∃ bo c,e=χ (.slice bo n c)/\ER w' w.heap.size (.slice bo n c) k v g n)/\Gw w w':=by
 obtain ⟨pp,Sp,eo,ec,h1,hp,hs,he⟩:=h.opened;obtain ⟨c0,c1⟩:=uT h1;have CE:ag (Calls prog 96 #[.slice eo n ec] w fun e w'=>(∃ bo c,e=χ (.slice bo n c)/\ER w' w.heap.size (.slice bo n c) k v g n)/\Gw w w'):=YD he h.rdy.n1
 clear h h1 hp hs he;go_enter func61,ntmps61;go_wp2_with fail;refine Calls.mono CE.o ?_;rintro e w2 ⟨⟨bo,c,rfl,er⟩,g2⟩;have ER2:ag _:=er;have G2:ag _:=g2;clear er g2 CE c0 c1;go_wp2_with fail;go_ret;exact ⟨⟨bo,c,rfl,ER2.o⟩,G2.o⟩
theorem ah1 (h:fs w p S eps k v g n L) (lv:Nat) (pe:lv<L.length) :
 Calls prog 98 #[IS p,By ((lv:Int)+1)] w fun e w'=>(∃ bo c,e=χ (.slice bo (L.getD lv []).length c)/\SR w' w.heap.size (.slice bo (L.getD lv []).length c) (L.getD lv []))/\Gw w w':=by
 obtain ⟨pp,Sp,eo,ec,h1,hp,hs,he⟩:=h.opened;obtain ⟨c0,_⟩:=uT h1;have pl:p<w.heap.size:=(qab.1 h1).1;have Mr:=h.rdy.sh;have l1:=Mr.1;obtain ⟨row,Av⟩:=qbr (L.getD lv []);have rl:row.length<=2000000:=by rw [<-Av];exact Mr.2 lv pe
 have CP:ag (w.cell? (φ p 0)=some (IS pp)/\p<w.heap.size):=⟨c0,pl⟩;have KP:ag (∀ W,Gw w W->fF W pp Sp eps k n L):=fun W gg=>hp.keep fun q hq=>gg.below.block q (hp.lt q hq)
 have ez:fU n L ((lv:Int)+1)=row.length:=by unfold fU bK;rw [Ym ω,Yl ω,<-Av];congr 2
 have ZR:ag (Calls prog 117 #[IS pp,By ((lv:Int)+1)] w fun e w'=>e=χ (By (row.length:Int))/\w'=w):=by
  have:=PY hp ((lv:Int)+1) ω ω
  rw [ez] at this;exact this
 have SG:ag (∀ (W:World) (t:Nat),Gw w W->t<row.length->∃ sk cK cL bZ bQ,row.getD t aF=⟨sk,cK,cL,bZ,bQ⟩/\Calls prog 118 #[IS pp,By ((lv:Int)+1),By (t:Int)] W fun e w'=>e=χ (.agg #[BY sk,.float .f64 cK,.float .f64 cL,By bZ,By bQ])/\Gw W w'):=fun W t gg ht=>by
  have:=Hk (KP.o W gg) ((lv:Int)+1) (t:Int) ω ω ω ω
  have e:jX L ((lv:Int)+1) (t:Int)=row.getD t aF:=by
   unfold jX;rw [show ((lv:Int)+1).toNat-1=lv by omega,Av,Ym ⟨⟨ω,ω⟩,ω,ω⟩]
   simp
  rw [e] at this;exact ⟨_,_,_,_,_,rfl,this⟩
 rw [Av];obtain ⟨m,hm⟩:=qbr row.length;have RM:ag _:=hm;rw [hm] at ZR SG rl ⊢;have vF:=ahP m ω;have S0:ag (∀ W:World,SR (W.alloc (.cells (madeCells #[BY 0,.float .f64 0,.float .f64 0,By 0,By 0] (m*5)) 174)) W.heap.size (ψ W.heap.size 0 m m) (List.replicate m aF)):=fun W=>ahR W m ω
 clear h h1 hp hs he Av ez hm Mr;go_enter func98,ntmps98;go_wp2_with fail;refine Calls.mono ZR.o ?_;rintro e w1 ⟨rfl,e1⟩;have e2:=e1.symm;subst e2;clear ZR c0 e1;have B0:ag (SR (w.alloc (.cells (madeCells #[BY 0,.float .f64 0,.float .f64 0,By 0,By 0] (m*5)) 174)) w.heap.size (ψ w.heap.size 0 m m) (fj row aF 0)):=by
  have:=S0.o w
  rw [<-RM.o,<-YA] at this;rw [<-RM.o];exact this
 have G0:ag (Gw w (w.alloc (.cells (madeCells #[BY 0,.float .f64 0,.float .f64 0,By 0,By 0] (m*5)) 174))):=(Gw.refl w).alloc _ _;obtain ⟨b,hb⟩:=qbr w.heap.size;have BB:ag (w.heap.size=b):=hb;go_wp2_with fail;rw [hb] at B0
 try rw [hb]
 clear hb S0;generalize w.alloc (.cells (madeCells #[BY 0,.float .f64 0,.float .f64 0,By 0,By 0] (m*5)) 174)=wA at B0 G0 ⊢;go_loopg [16] m (fun gg Jf wr=>∃ i:Nat,Jf=By (i:Int)/\i<=m/\m-i<=gg/\ag (SR wr b (ψ b 0 m m) (fj row aF i))/\ag (Gw w wr))
 case atStart=>exact ⟨0,rfl,Γ _,ω,B0,G0⟩
 case round =>
  clear B0 G0;obtain ⟨i,rfl,a1,a2,SS,GG⟩:=hrel;obtain ⟨wS,aS⟩:=qbs wr;subst aS;by_cases ar:i<m
  ·obtain ⟨sk,cK,cL,bZ,bQ,es,CS⟩:=SG.o wS i GG.o ar
   have c0:wS.cell? (φ p 0)=some (IS pp):=(GG.o.cell _ _ CP.o.2).trans CP.o.1;have JD:p<wS.heap.size:=Θ CP.o.2 GG.o.size;have YI:ag _:=es;have dH:(i:Int)<(m:Int):=ω;clear es;go_wp2_with fail;clear c0 JD;refine Calls.mono CS ?_;rintro e u1 ⟨rfl,gg⟩;have S1:ag _:=Bt SS.o gg;have FL:ag ((fj row aF i).length=m):=(by rw [EJ _ _ _ (by rw [RM.o];omega)];exact RM.o);have ow:u1.ownsRow b 174 5 (ψ b 0 m m) m ((fj row aF i).flatMap dc):=by
    have:u1.ownsRow b 174 5 (ψ b 0 m m) (fj row aF i).length ((fj row aF i).flatMap dc):=S1.o
    rw [FL.o] at this;exact this
   have fz:∀ o,u1.frozen? (φ b o)=false:=fun o=>by
    rcases ow.2 with ⟨e,_⟩ | ⟨g',cap,cur,e,eQ,hh,_⟩
    ·cases e
    ·cases e
     simp [World.frozen?,hh]
   have cl:∀ j,j<5->(u1.cell? (φ b (i*5+j))).isSome=true:=fun j hj=>by
    have:=ow.cellAt (i*5+j) ω
    rw [this,Bp _ i (by rw [FL.o];exact ar) j hj]
    match j,hj with
    | 0,_=>rfl
    | 1,_=>rfl
    | 2,_=>rfl
    | 3,_=>rfl
    | 4,_=>rfl
   obtain ⟨y0,f0⟩:=Option.isSome_iff_exists.1 (cl 0 γ);obtain ⟨y1,f1⟩:=Option.isSome_iff_exists.1 (cl 1 γ);obtain ⟨y2,f2⟩:=Option.isSome_iff_exists.1 (cl 2 γ);obtain ⟨y3,f3⟩:=Option.isSome_iff_exists.1 (cl 3 γ);obtain ⟨y4,f4⟩:=Option.isSome_iff_exists.1 (cl 4 γ);have z0:=fz (i*5+0);have z1:=fz (i*5+1);have z2:=fz (i*5+2);have z3:=fz (i*5+3);have z4:=fz (i*5+4);rw [Nat.add_zero] at f0 z0;have bl:b<u1.heap.size:=(ow.lt b rfl).2;clear ow fz cl;have S2:ag (SR (sY u1 b (i*5) ⟨sk,cK,cL,bZ,bQ⟩) b (ψ b 0 m m) (fj row aF (i+1))):=by
    have h1:SR u1 b (ψ b 0 (fj row aF i).length m) (fj row aF i):=(by rw [FL.o];exact S1.o);have h2:=OY h1 (k:=i) (by rw [FL.o];exact ar) ⟨sk,cK,cL,bZ,bQ⟩
    have h3:=YC row aF aF (i:=i) (by rw [RM.o];exact ar)
    rw [YI.o] at h3;rw [h3,EJ _ _ _ (by rw [RM.o];omega),RM.o] at h2
    exact h2
   have G2:ag (Gw w (sY u1 b (i*5) ⟨sk,cK,cL,bZ,bQ⟩)):=Gv (GG.o.trans gg) (qad BB.o);clear gg S1 FL YI;go_wp2_with fail;go_roundg (m-(i+1))
   case measure=>omega
   case rel=>exact ⟨i+1,by go_num,ω,Yk _,S2,G2⟩
  ·have ei:i=m:=by omega
   subst ei;go_wp2_with fail;go_ret;have e:=YB row aF;rw [RM.o] at e;exact ⟨⟨some ⟨b,0,none⟩,_,rfl,by rw [BB.o];have:=SS.o;rw [e] at this;exact this⟩,GG.o⟩
theorem ah2 (h:fs w p S eps k v g n L) :
 Calls prog 63 #[IS p] w fun e w'=>(∃ lo lc au,e=χ (.slice lo L.length lc)/\cZ w' w.heap.size (.slice lo L.length lc) L au/\x6 L/\L.length<=lc)/\Gw w w':=by
 obtain ⟨pp,Sp,eo,ec,h1,hp,hs,he⟩:=h.opened;obtain ⟨c0,_⟩:=uT h1;have pl:p<w.heap.size:=(qab.1 h1).1;have l1:=h.rdy.sh.1;have LOK:ag (x6 L):=by obtain ⟨ko,kc,lo,lc,_,_,hv⟩:=hp.opened;exact Wf hv
 obtain ⟨m,hm⟩:=qbr L.length;have RM:ag _:=hm;have HT:ag (Calls prog 97 #[IS pp] w fun e w'=>e=χ (By (m:Int))/\w'=w):=by
  have:=PX hp
  rw [hm] at this;exact this
 have SG:ag (∀ (W:World) (i:Nat),Gw w W->i<m->Calls prog 98 #[IS p,By ((i:Int)+1)] W fun e w'=>(∃ bo c sn,e=χ (.slice bo sn c)/\SR w' W.heap.size (.slice bo sn c) (L.getD i []))/\Gw W w'):=fun W i gg hi=>(ah1 (h.gw gg) i (by rw [RM.o];exact hi)).mono fun e w' ⟨⟨bo,c,a,s⟩,b⟩=>⟨⟨bo,c,_,a,s⟩,b⟩
 rw [hm] at l1 ⊢;have vF:=ahS m ω;have B0:ag (cZ (w.alloc (.cells (madeCells #[.slice none 0 0] m) 150)) w.heap.size (ψ w.heap.size 0 m m) (fj L [] 0) (List.replicate m im)):=by
  have:=ahU w m ω
  rw [YA,RM.o];exact this
 have G0:ag (Gw w (w.alloc (.cells (madeCells #[.slice none 0 0] m) 150))):=(Gw.refl w).alloc _ _;obtain ⟨b,hb⟩:=qbr w.heap.size;have BB:ag _:=hb;clear h h1 hp hs he hm;go_enter func63,ntmps63;go_wp2_with fail;refine Calls.mono HT.o ?_;rintro e w1 ⟨rfl,e1⟩;have e2:=e1.symm;subst e2;clear HT c0 e1;go_wp2_with fail;rw [hb] at B0
 try rw [hb]
 clear hb;generalize w.alloc (.cells (madeCells #[.slice none 0 0] m) 150)=wA at B0 G0 ⊢;go_loopg [13] m (fun gg yj wr=>∃ (i:Nat) (au:List Value),yj=By (i:Int)/\i<=m/\m-i<=gg/\ag (cZ wr b (ψ b 0 m m) (fj L [] i) au)/\ag (Gw w wr))
 case atStart=>exact ⟨0,_,rfl,Γ _,ω,B0,G0⟩
 case round =>
  clear B0 G0;obtain ⟨i,au,rfl,a1,a2,OV,GG⟩:=hrel;obtain ⟨wS,aS⟩:=qbs wr;subst aS;by_cases ar:i<m
  ·have dH:(i:Int)<(m:Int):=by omega
   have wi:IntKind.i64.wrap ((i:Int)+1)=(i:Int)+1:=(by rw [Δ];omega);have FL:ag ((fj L [] i).length=m):=(by show _=_;rw [EJ _ _ _ (by rw [RM.o];omega)];exact RM.o);go_wp2_with fail;refine Calls.mono (SG.o _ i GG.o ar) ?_
   rintro e u1 ⟨⟨bo,c,sn,rfl,sr⟩,gg⟩;have ow:u1.ownsRow b 150 1 (ψ b 0 m m) m au:=by
    have:=(OV.o.gw gg).outer
    rw [FL.o] at this;exact this
   have fz:u1.frozen? (φ b i)=false:=by
    rcases ow.2 with ⟨e,_⟩ | ⟨g',cap,cur,e,eQ,hh,_⟩
    ·cases e
    ·cases e
     simp [World.frozen?,hh]
   have cl:∃ y,u1.cell? (φ b i)=some y:=(by have vl:=OV.o.len;rw [FL.o] at vl;have:=ow.cellAt i ω;rw [qah ω] at this;exact ⟨_,this⟩);obtain ⟨y,cy⟩:=cl;have bl:b<u1.heap.size:=(ow.lt b rfl).2;have O2:ag (cZ (u1.setCell (φ b i) (.slice bo sn c)) b (ψ b 0 m m) (fj L [] (i+1)) (au.set i (.slice bo sn c))):=by
    have h1:cZ wS b (ψ b 0 (fj L [] i).length m) (fj L [] i) au:=(by rw [FL.o];exact OV.o);have h2:=h1.put (i:=i) gg sr (by rw [<-BB.o];exact GG.o.size) (by rw [FL.o];exact ar)
    have h3:=YC L [] [] (i:=i) (by rw [RM.o];exact ar)
    rw [h3,EJ _ _ _ (by rw [RM.o];omega),RM.o] at h2
    exact h2
   have G2:ag (Gw w (u1.setCell (φ b i) (.slice bo sn c))):=(GG.o.trans gg).setCell (qad BB.o) _;clear gg sr ow FL;go_wp2_with fail;go_roundg (m-(i+1))
   case measure=>omega
   case rel=>exact ⟨i+1,_,by go_num,ω,Yk _,O2,G2⟩
  ·have ei:i=m:=by omega
   subst ei;go_wp2_with fail;go_ret;have e:=YB L [];rw [RM.o] at e;exact ⟨⟨some ⟨b,0,none⟩,_,au,rfl,by rw [BB.o];have:=OV.o;rw [e] at this;exact this,LOK.o,Yk _⟩,GG.o⟩
theorem ah3 (M:iD) (h:fs w p S eps k v g n L) (q:Int) (q0:0<=q) (q1:q<18446744073709551616) :
 Calls prog 119 #[IS p,BY q] w fun e w'=>e=π #[(jZ k v g n q).1,.bool (jZ k v g n q).2]/\Gw w w':=by
 obtain ⟨pp,Sp,eo,ec,h1,hp,hs,he⟩:=h.opened;obtain ⟨c0,c1⟩:=uT h1;have pl:p<w.heap.size:=(qab.1 h1).1;have hn:=h.rdy.n1;have FF:ag (∀ W,Gw w W->Calls prog 134 #[IS p,BY q] W fun ex w'=>ex=χ (yp k n q)/\Gw W w'):=fun W gg=>ahO M ((gg.cell _ _ pl).trans c0) (Θ pl gg.size) (hp.keep fun q hq=>gg.below.block q (hp.lt q hq)) h.rdy q q0 q1
 unfold yp at FF;have HE:ag _:=he;have C1:ag (w.cell? (φ p 1)=some (.slice eo n ec)/\p<w.heap.size):=⟨c1,pl⟩;have lc:=pD k q n;unfold jZ;clear h h1 hp hs he c0 c1 M pl;generalize aB k q n=c at FF lc ⊢;by_cases b:c<n/\k c=q
 ·rw [Ym b]
  rw [qaF b] at FF;have hc:=b.1;clear b;obtain ⟨kj,Ms⟩:=qbr (k c);obtain ⟨vj,Mt⟩:=qbr (v c);obtain ⟨gj,Mu⟩:=qbr (g c);have KJ:ag (k c=kj/\v c=vj/\g c=gj):=⟨Ms,Mt,Mu⟩;show Calls _ _ _ _ fun e w'=>e=χ (.tuple #[.agg #[BY (k c),BY (v c),.bool (g c)],.bool true])/\Gw w w'
  rw [Ms,Mt,Mu];clear Ms Mt Mu;go_enter func119,ntmps119;go_wp2_with fail;refine Calls.mono (FF.o _ ((Gw.refl w).alloc _ _)) ?_;rintro e u1 ⟨rfl,gg⟩;have G1:Gw w u1:=((Gw.refl w).alloc _ _).trans gg;have c1:u1.cell? (φ p 1)=some (.slice eo n ec):=(G1.cell _ _ C1.o.2).trans C1.o.1;have pl:p<u1.heap.size:=Θ C1.o.2 G1.size;obtain ⟨kb,ko,rfl,iq,di⟩:=(HE.o.gw G1).cells ω;obtain ⟨d1,d2,d3⟩:=di c hc;have GG:ag _:=G1;have NB:ag (u1.heap[w.heap.size]?=some (.cells #[BY 0,BY 0,.bool false] 71 (0,0))):=(gg.below.block _ ε).trans (Ω _ _);have iX:(c:Int)<(n:Int):=ω;rw [KJ.o.1] at d1;rw [KJ.o.2.1] at d2;rw [KJ.o.2.2] at d3;clear di gg G1 FF KJ;obtain ⟨bq,aE⟩:=qbr w.heap.size;have BQ:ag _:=aE;rw [aE] at NB;have m0:u1.cell? (φ bq 0)=some (BY 0):=(by simp [World.cell?,NB.o]);have m1:u1.cell? (φ bq 1)=some (BY 0):=(by simp [World.cell?,NB.o]);have m2:u1.cell? (φ bq 2)=some (.bool false):=(by simp [World.cell?,NB.o]);have z0:u1.frozen? (φ bq 0)=false:=(by simp [World.frozen?,NB.o]);have z1:u1.frozen? (φ bq 1)=false:=(by simp [World.frozen?,NB.o]);have z2:u1.frozen? (φ bq 2)=false:=(by simp [World.frozen?,NB.o]);have bl:bq<u1.heap.size:=(qab.1 NB.o).1;have TT:ET bq u1 kj vj gj:=YH NB.o _ _ _;go_wp2_with fail;exact bodyPost_ret (v:=.tuple #[.agg #[BY kj,BY vj,.bool gj],.bool true]) (by simp [results,results119,go_sem,TT.1,TT.2.1,TT.2.2]) rfl ⟨rfl,((GG.o.setCell (qad BQ.o) _).setCell (qad BQ.o) _).setCell (qad BQ.o) _⟩
 ·rw [Yl b]
  rw [qan b] at FF;clear b;go_enter func119,ntmps119;go_wp2_with fail;refine Calls.mono (FF.o _ ((Gw.refl w).alloc _ _)) ?_;rintro e u1 ⟨rfl,gg⟩;have GG:ag (Gw w u1):=((Gw.refl w).alloc _ _).trans gg;have NB:ag (u1.heap[w.heap.size]?=some (.cells #[BY 0,BY 0,.bool false] 71 (0,0))):=(gg.below.block _ ε).trans (Ω _ _);clear gg FF;obtain ⟨bq,aE⟩:=qbr w.heap.size;have BQ:ag _:=aE;rw [aE] at NB;have m0:u1.cell? (φ bq 0)=some (BY 0):=(by simp [World.cell?,NB.o]);have m1:u1.cell? (φ bq 1)=some (BY 0):=(by simp [World.cell?,NB.o]);have m2:u1.cell? (φ bq 2)=some (.bool false):=(by simp [World.cell?,NB.o]);have z0:u1.frozen? (φ bq 0)=false:=(by simp [World.frozen?,NB.o]);have z1:u1.frozen? (φ bq 1)=false:=(by simp [World.frozen?,NB.o]);have z2:u1.frozen? (φ bq 2)=false:=(by simp [World.frozen?,NB.o]);have bl:bq<u1.heap.size:=(qab.1 NB.o).1;have TT:ET bq u1 0 0 false:=YH NB.o _ _ _;go_wp2_with fail;exact bodyPost_ret (v:=.tuple #[.agg #[BY 0,BY 0,.bool false],.bool false]) (by simp [results,results119,go_sem,TT.1,TT.2.1,TT.2.2]) rfl ⟨rfl,((GG.o.setCell (qad BQ.o) _).setCell (qad BQ.o) _).setCell (qad BQ.o) _⟩
end Go.Proofs.YtaemofgeciklkaaGreat
namespace Go.Proofs.YtaemofgeciklkaaGreat
open Go.RowKit
theorem ah4:bj fs where
 keep h k:=h.keep k
 lt h:=h.lt
 own h:=h.own
 ready h:=h.rdy
 pile h:=by obtain ⟨pp,Sp,eo,ec,h1,hp,hs,_⟩:=h.opened;exact ⟨pp,Sp,(uT h1).1,hp,hs⟩
 new eps ao n cp k v g e0 e1 hn dA hz w h:=ahX ahu (fun eps ao n cp k v g lo lc L e0 e1 hn dA hS bL w h hv=>ahW L9 eps ao n cp k v g lo lc L e0 e1 hn dA hS bL w h hv) eps ao n cp k v g e0 e1 hn dA w h
 len h:=ahY h
 at_ h i i0 i1:=ahZ h i
 list h:=ah0 h
 levels h:=ah2 h
 get h q q0 q1:=ah3 L9 h q q0 q1
