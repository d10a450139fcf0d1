/- The document's layer 13: Merge. -/
import Derived.Test.YtklkpldicbkjeaaGreatVGPlain
set_option linter.unusedVariables false
set_option maxHeartbeats 8000000
set_option maxRecDepth 10000
open Go.Proofs.Tryz
namespace Go.Proofs.YtklkpldicbkjeaaGreat
open Go.RowKit
def c9 (K:List (List Int)) (p:Nat×Nat):Int:=(K.getD p.1 []).getD p.2 0
def cg (K:List (List Int)) (i:Nat):Nat:=(K.getD i []).length
def FI (key:Nat×Nat->Int) (len a:Nat->Nat) (i:Nat) (z:Int):Prop:=(z=-1/\∀ j,j<i->¬ a j<len j)\/∃ f:Nat,z=f/\f<i/\a f<len f/\(∀ j,j<f->a j<len j->key (f,a f)<key (j,a j))/\∀ j,j<i->a j<len j->key (f,a f)<=key (j,a j)
theorem FI.zero (key:Nat×Nat->Int) (len a:Nat->Nat):FI key len a 0 (-1):=.inl ⟨rfl,fun j hj=>by omega⟩
theorem FI.skip {key:Nat×Nat->Int} {len a:Nat->Nat} {i:Nat} {z:Int} (h:FI key len a i z) (hi:¬ a i<len i):FI key len a (i+1) z:=by
 rcases h with ⟨e,h⟩ | ⟨f,e,h1,h2,h3,h4⟩
 ·refine .inl ⟨e,fun j hj=>?_⟩
  by_cases q:j=i
  ·rw [q];exact hi
  ·exact h j (by omega)
 ·refine .inr ⟨f,e,by omega,h2,h3,fun j hj hl=>?_⟩
  by_cases q:j=i
  ·rw [q] at hl;exact absurd hl hi
  ·exact h4 j (by omega) hl
theorem FI.first {key:Nat×Nat->Int} {len a:Nat->Nat} {i:Nat} (h:FI key len a i (-1)) (hi:a i<len i):FI key len a (i+1) i:=by
 rcases h with ⟨e,h⟩ | ⟨f,e,_⟩
 ·refine .inr ⟨i,rfl,by omega,hi,fun j hj hl=>absurd hl (h j hj),fun j hj hl=>?_⟩
  by_cases q:j=i
  ·rw [q];exact Int.le_refl _
  ·exact absurd hl (h j (by omega))
 ·omega
theorem FI.less {key:Nat×Nat->Int} {len a:Nat->Nat} {i f:Nat} (h:FI key len a i f) (hi:a i<len i) (k:key (i,a i)<key (f,a f)):FI key len a (i+1) i:=by
 rcases h with ⟨e,_⟩ | ⟨f',e,h1,h2,h3,h4⟩
 ·omega
 ·have:f=f':=by omega
  subst this;refine .inr ⟨i,rfl,by omega,hi,fun j hj hl=>?_,fun j hj hl=>?_⟩
  ·have:=h4 j hj hl;omega
  ·by_cases q:j=i
   ·rw [q];exact Int.le_refl _
   ·have:=h4 j (by omega) hl;omega
theorem FI.more {key:Nat×Nat->Int} {len a:Nat->Nat} {i f:Nat} (h:FI key len a i f) (hi:a i<len i) (k:¬ key (i,a i)<key (f,a f)):FI key len a (i+1) f:=by
 rcases h with ⟨e,_⟩ | ⟨f',e,h1,h2,h3,h4⟩
 ·omega
 ·have:f=f':=by omega
  subst this;refine .inr ⟨f,rfl,by omega,h2,h3,fun j hj hl=>?_⟩
  by_cases q:j=i
  ·rw [q];omega
  ·exact h4 j (by omega) hl
structure MI (key:Nat×Nat->Int) (ln:Nat) (len a:Nat->Nat) (P:List (Nat×Nat)):Prop where
 cn:∀ o,Mg key (dX ln len a) o->Mg key (dX ln len fun _=>0) (P++o)
 al:∀ i,i<ln->a i<=len i
 pb:∀ p∈P,p.1<ln/\p.2<len p.1
theorem MI.start (key:Nat×Nat->Int) (ln:Nat) (len:Nat->Nat):MI key ln len (fun _=>0) []:=⟨fun o h=>h,fun _ _=>Nat.zero_le _,fun p hp=>by cases hp⟩
theorem MI.more {key:Nat×Nat->Int} {ln:Nat} {len a:Nat->Nat} {P:List (Nat×Nat)} (h:MI key ln len a P) {f:Nat} (hf:FI key len a ln f):MI key ln len (ij key (key (f,a f)) len a) (P++[(f,a f)]):=by
 rcases hf with ⟨e,_⟩ | ⟨f',e,h1,h2,h3,h4⟩
 ·omega
 ·have:f=f':=by omega
  subst this;have ls:=aaG (key:=key) h1 h2 h3 h4;refine ⟨fun o ho=>?_,fun i hi=>?_,fun p hp=>?_⟩
  ·rw [List.append_assoc]
   refine h.cn _ (.step ls ?_);rw [aaE];exact ho
  ·unfold ij
   have:=h.al i hi
   split<;>omega
  ·rcases List.mem_append.1 hp with q | q
   ·exact h.pb p q
   ·rw [List.mem_singleton.1 q];exact ⟨h1,h2⟩
theorem MI.done {key:Nat×Nat->Int} {ln:Nat} {len a:Nat->Nat} {P:List (Nat×Nat)} (h:MI key ln len a P) (hf:FI key len a ln (-1)):Mg key (dX ln len fun _=>0) P:=by
 rcases hf with ⟨_,q⟩ | ⟨f',e,_⟩
 ·have:=h.cn [] (.done (aaF q))
  rwa [List.append_nil] at this
 ·omega
theorem MI.few {key:Nat×Nat->Int} {ln:Nat} {len a:Nat->Nat} {P:List (Nat×Nat)} (h:MI key ln len a P):P.length<=aN (dX ln len fun _=>0):=by
 obtain ⟨o,ho⟩:=Mg.ex key _ (dX ln len a) (Nat.le_refl _);have:=(h.cn o ho).few;rw [List.length_append] at this;omega
def je (p a:Nat->Nat) (j t:Nat):Nat:=if t<j then p t else a t
theorem aaU (p a:Nat->Nat) (t:Nat):je p a 0 t=a t:=if_neg (by omega)
theorem aaV {p a:Nat->Nat} {j t:Nat} (h:t<j):je p a j t=p t:=if_pos h
theorem Nw (p a:Nat->Nat) (j:Nat):je p a j j=a j:=if_neg (by omega)
theorem zH (p a:Nat->Nat) (j t:Nat):je p a (j+1) t=if t=j then p j else je p a j t:=by
 unfold je;by_cases e:t=j
 ·rw [if_pos (by omega),if_pos e,e]
 ·rw [if_neg e]
  by_cases e2:t<j
  ·rw [if_pos (by omega),if_pos e2]
  ·rw [if_neg (by omega),if_neg e2]
theorem aaW (ko:Option Addr) (kc:Nat) (K:List (List Int)) (hl:K.length<=2000000) (hs:∀ i,i<K.length->cg K i<=2000000) (hN:aN (dX K.length (cg K) fun _=>0)<=2000000) (w:World) (h:KV w ko K) :
  Calls prog 68 #[.slice ko K.length kc] w fun e w'=>(∃ ob oc P,e=.returned (.slice (some ⟨ob,0,none⟩) P.length oc)/\ik w' (w.heap.size+1) (.slice (some ⟨ob,0,none⟩) P.length oc) P/\Mg (c9 K) (dX K.length (cg K) fun _=>0) P/\∀ p∈P,p.1<K.length/\p.2<cg K p.1)/\Gw w w':=by
 have HK:ag _:=h;have HS:ag (∀ i,i<K.length->cg K i<=2000000):=hs;obtain ⟨ln,aA⟩:∃ ln,K.length=ln:=⟨_,rfl⟩;have LN:ag _:=aA;rw [aA] at hl hN HS ⊢;clear h hs aA;have mk:=Nl ln (ln:Int) rfl (by omega) w
 have A1:ag (AT (w.alloc (.cells (madeCells #[.int .i64 0] ln) 3)) w.heap.size ln (fun _=>0)):=aaI w ln
 have G1:ag (Gw w (w.alloc (.cells (madeCells #[.int .i64 0] ln) 3))):=(Gw.refl w).alloc _ _;have Z0:ag ((w.alloc (.cells (madeCells #[.int .i64 0] ln) 3)).heap.size=w.heap.size+1):=by show _=_;simp
 obtain ⟨ii,aM,hz,dT,aL⟩:=info_parts aaK;go_enter func68,ntmps68;go_wp2_with fail;generalize w.alloc (.cells (madeCells #[.int .i64 0] ln) 3)=w1 at A1 G1 Z0 ⊢;obtain ⟨ab,cO⟩:∃ ab,w.heap.size=ab:=⟨_,rfl⟩;have AB:ag _:=cO;have Z1:w1.heap.size=ab+1:=by have:=Z0.o;omega
 have G2:ag (Gw w (w1.alloc (.cells #[] 119))):=G1.o.alloc _ _;have P2:ag (ik (w1.alloc (.cells #[] 119)) (ab+1) (.slice (some ⟨ab+1,0,none⟩) 0 0) []):=by
  have:=World.ownsRow_made (base:=ab+1) (e:=119) (size:=2) w1 #[] 0 (by omega) (Nat.zero_le _) rfl
  rw [Z1] at this;exact this
 have A2:ag (AT (w1.alloc (.cells #[] 119)) ab ln (fun _=>0)):=by
  have:=A1.o.gw ((Gw.refl w1).alloc #[] 119)
  rw [cO] at this;exact this
 rw [cO];clear A1 G1 mk Z0;generalize w1.alloc (.cells #[] 119)=w2 at G2 P2 A2 ⊢;obtain ⟨N,DO⟩:∃ N,aN (dX ln (cg K) fun _=>0)=N:=⟨_,rfl⟩
 have NN:ag _:=DO;rw [DO] at hN;clear DO cO Z1;go_loopg [4] N (fun gg s4 wr=>∃ (P:List (Nat×Nat)) (a:Nat->Nat) (m ob oc:Nat),s4=.slice (some ⟨ob,0,none⟩) m oc/\N-m<=gg/\m<=N/\ag (P.length=m)/\ag (MI (c9 K) ln (cg K) a P)/\ag (AT wr ab ln a)/\ag (ik wr (ab+1) (.slice (some ⟨ob,0,none⟩) P.length oc) P)/\ag (Gw w wr))
 case atStart=>exact ⟨[],fun _=>0,0,ab+1,0,rfl,by omega,Nat.zero_le _,rfl,(show ag _ from MI.start _ _ _),A2,P2,G2⟩
 case round =>
  clear P2 A2 G2;obtain ⟨P,a,m,ob,oc,rfl,m1,m2,PM,I,A,R,G⟩:=hrel;obtain ⟨wS,aZ⟩:∃ wx,wx=wr:=⟨_,rfl⟩;subst aZ;have tJ:ab<wS.heap.size:=A.o.lt;have kA:ab+1<=ob:=(R.o.lt ob rfl).1;go_wp2_with fail;go_loopg [5,6] ln (fun gg s5 s6 wr=>∃ (i:Nat) (z:Int),s5=.int .i64 z/\s6=.int .i64 (i:Int)/\i<=ln/\ln-i<=gg/\ag (FI (c9 K) (cg K) a i z)/\ag (Gw wS wr))
  case atStart=>exact ⟨0,-1,rfl,rfl,Nat.zero_le _,by omega,(show ag _ from FI.zero _ _ _),(show ag _ from Gw.refl wS)⟩
  case round=>as_aux_lemma =>
   obtain ⟨i,z,rfl,rfl,b1,b2,F,GG⟩:=hrel;obtain ⟨wT,vL⟩:∃ wx,wx=wr:=⟨_,rfl⟩;subst vL;by_cases dJ:i<ln
   ·have aaX:(i:Int)<(ln:Int):=by omega
    have Nx:ab<wT.heap.size:=Nat.lt_of_lt_of_le tJ GG.o.size;obtain ⟨kb,aaY,rfl,fT,cQ⟩:=((HK.o.gw G.o).gw GG.o).cells (by rw [LN.o];omega)
    obtain ⟨ro,rc,r1,r2⟩:=cQ i (by rw [LN.o];exact dJ)
    have ac:=(A.o.gw GG.o).cell dJ;obtain ⟨li,qX⟩:∃ li,(K.getD i []).length=li:=⟨_,rfl⟩;have LI:ag (cg K i=li):=qX;have lib:li<=2000000:=by have:=HS.o i dJ;have e:=LI.o;omega
    rw [qX] at r1 r2;obtain ⟨ai,qY⟩:∃ ai,a i=ai:=⟨_,rfl⟩;have AI:ag _:=qY;rw [qY] at ac;clear qX qY;by_cases al:ai<li
    ·have vM:(ai:Int)<(li:Int):=by omega
     have AL:ag (a i<cg K i):=by show _<_;rw [AI.o,LI.o];exact al
     obtain ⟨rb,aaZ,rfl,ly,tA⟩:=r2.cells (by omega)
     have DP:=tA ai al;have KI:ag (c9 K (i,a i)=(K.getD i []).getD ai 0):=by show _=_;unfold c9;rw [AI.o]
     generalize (K.getD i []).getD ai 0=ki at DP KI;clear tA r2;rcases F.o with ⟨rfl,_⟩ | ⟨f,rfl,f1,f2,_,_⟩
     ·have F':ag (FI (c9 K) (cg K) a (i+1) i):=F.o.first AL.o
      clear F;go_wp2_with fail;go_quiet (fail);go_wp2_with fail;go_roundg (ln-(i+1))
      case measure=>omega
      case rel=>exact ⟨i+1,i,rfl,by go_num,by omega,Nat.le_refl _,F',(show ag _ from GG.o.drewN _)⟩
     ·have fz:decide ((f:Int)<0)=false:=decide_eq_false (by omega)
      have fl':(f:Int)<(ln:Int):=by omega
      obtain ⟨so,sc,q1,q2⟩:=cQ f (by rw [LN.o];omega)
      have fc:=(A.o.gw GG.o).cell (i:=f) (by omega)
      obtain ⟨im,vN⟩:∃ x,(K.getD f []).length=x:=⟨_,rfl⟩;have f3:a f<(K.getD f []).length:=f2;rw [vN] at q1 q2 f3;obtain ⟨af,pz⟩:∃ x,a f=x:=⟨_,rfl⟩;have KF:ag (c9 K (f,a f)=(K.getD f []).getD af 0):=by show _=_;unfold c9;rw [pz]
      rw [pz] at fc f3;have f3':(af:Int)<(im:Int):=by omega
      obtain ⟨sb,aa0,rfl,lA,lB⟩:=q2.cells (by omega)
      have zI:=lB af f3;generalize (K.getD f []).getD af 0=kf at zI KF;have lfb:im<=2000000:=by have:cg K f<=_:=HS.o f (by omega);unfold cg at this;omega
      clear lB q2 vN pz f2;by_cases kl:ki<kf
      ·have F':ag (FI (c9 K) (cg K) a (i+1) i):=F.o.less AL.o (by rw [KI.o,KF.o];exact kl)
       clear F;go_wp2_with fail;go_quiet (fail);go_wp2_with fail;go_roundg (ln-(i+1))
       case measure=>omega
       case rel=>exact ⟨i+1,i,rfl,by go_num,by omega,Nat.le_refl _,F',(show ag _ from GG.o.drewN _)⟩
      ·have F':ag (FI (c9 K) (cg K) a (i+1) f):=F.o.more AL.o (by rw [KI.o,KF.o];exact kl)
       have kl':decide (ki<kf)=false:=decide_eq_false kl;clear F kl;go_wp2_with fail;go_quiet (fail);go_wp2_with fail;go_roundg (ln-(i+1))
       case measure=>omega
       case rel=>exact ⟨i+1,f,rfl,by go_num,by omega,Nat.le_refl _,F',(show ag _ from GG.o.drewN _)⟩
    ·have vM:decide (ai<li)=false:=decide_eq_false al
     have F':ag _:=F.o.skip (by rw [AI.o,LI.o];exact al)
     clear F al;go_wp2_with fail;go_quiet (fail);go_wp2_with fail;go_roundg (ln-(i+1))
     case measure=>omega
     case rel=>exact ⟨i+1,z,rfl,by go_num,by omega,Nat.le_refl _,F',(show ag _ from GG.o.drewN _)⟩
   ·have ei:i=ln:=by omega
    subst ei;rcases F.o with ⟨rfl,_⟩ | ⟨f,rfl,f1,f2,_,_⟩
    ·have MD:ag (Mg (c9 K) (dX i (cg K) fun _=>0) P):=I.o.done F.o
     have PW:ag (ik wT (w.heap.size+1) (.slice (some ⟨ob,0,none⟩) P.length oc) P):=by
      have:=qT R.o GG.o
      rw [AB.o];exact this
     go_wp2_with fail;exact bodyPost_ret (v:=.slice (some ⟨ob,0,none⟩) m oc) (by simp [results,results68,go_sem]) rfl ⟨⟨ob,oc,P,by rw [PM.o],PW.o,MD.o,I.o.pb⟩,G.o.trans GG.o⟩
    ·have fz:¬ (f:Int)<0:=by omega
     have fl':(f:Int)<(i:Int):=by omega
     have Nx:ab<wT.heap.size:=Nat.lt_of_lt_of_le tJ GG.o.size;have fc:=(A.o.gw GG.o).cell (i:=f) f1;have MM:ag _:=I.o.more F.o;have mlt:m<N:=by
      have:=MM.o.few
      rw [NN.o,List.length_append,PM.o] at this;simp at this;omega
     have f3:a f<(K.getD f []).length:=f2;obtain ⟨af,pz⟩:∃ x,a f=x:=⟨_,rfl⟩;have AF:ag _:=pz;have KF:ag (c9 K (f,a f)=(K.getD f []).getD af 0):=by show _=_;unfold c9;rw [pz]
     rw [pz] at fc f3 MM;obtain ⟨kf,Ny⟩:∃ kf,(K.getD f []).getD af 0=kf:=⟨_,rfl⟩;have Nz:ag _:=Ny;have KE:ag (c9 K (f,af)=kf):=by
      have:=KF.o
      rw [AF.o,Nz.o] at this;exact this
     have G3:ag _:=G.o.trans GG.o;have R3:ag (wT.ownsRow (ab+1) 119 2 (.slice (some ⟨ob,0,none⟩) m oc) m (P.flatMap jH)):=by
      have:=qT R.o GG.o
      unfold ik at this;rw [PM.o] at this;exact this
     have NW:ag _:=aaM wT (f,af);have A3:ag (AT wT ab i a):=A.o.gw GG.o;clear F Ny pz KF f2 R;go_wp2_with (at_builtin;refine wpList_append_own _ rfl _ _ 116 rfl (ab+1) 119 ii (.agg #[.int .i64 0,.int .i64 0]) 2 16 underlying116 aM hz dT aL rfl (by decide) _ m _ rfl (R3.o.alloc _) ⟨wT.heap.size,0,none⟩ 1 1 (jH (f,af)) rfl rfl NW.o (aaJ _) (by simp only [maxLen];omega) (by omega) (by simp;omega) ?_)
     intro v' w5 r1 r2 r3;obtain ⟨b5,dw,rfl,dH,_,_⟩:=cS r1 (by simpa using r3)
     have G5:ag (Gw w w5):=(G3.o.alloc _ _).grown r2 (fun q hq=>(by have e':ob=q:=(by simpa [Value.ownBlock] using hq);have:=AB.o;omega))
     have R5:ag (ik w5 (ab+1) (.slice (some ⟨b5,0,none⟩) (P++[(f,af)]).length dw) (P++[(f,af)])):=by
      show World.ownsRow _ _ _ _ _ _ _;rw [List.length_append,PM.o,List.flatMap_append];simpa using r1
     have A5:ag (AT w5 ab i a):=A3.o.keep ((r2.block ab (by simp;omega) (fun e=>(by have e':ab=ob:=(by simpa [Value.ownBlock] using e);omega))).trans (heap_alloc_old wT _ Nx))
     clear r1 r2 r3 R3 A3 NW G3 A;have ab5:ab<w5.heap.size:=A5.o.lt;obtain ⟨kb,aaY,rfl,fT,cQ⟩:=(HK.o.gw G5.o).cells (by rw [LN.o];omega)
     obtain ⟨so,sc,q1,q2⟩:=cQ f (by rw [LN.o];exact f1)
     have ND:=A5.o.cell (i:=f) f1;rw [AF.o] at ND;obtain ⟨im,vN⟩:∃ x,(K.getD f []).length=x:=⟨_,rfl⟩;rw [vN] at q1 q2 f3;have f3':(af:Int)<(im:Int):=by omega
     obtain ⟨sb,aa0,rfl,lA,lB⟩:=q2.cells (by omega)
     have zI:=lB af f3;rw [Nz.o] at zI;have lfb:im<=2000000:=by have:cg K f<=_:=HS.o f f1;unfold cg at this;omega
     clear lB q2 vN cQ fc;go_wp2_with fail;go_quiet (fail);have G6:ag (Gw w (w5.drewN nq)):=G5.o.drewN _;have R6:ag (ik (w5.drewN nq) (ab+1) (.slice (some ⟨b5,0,none⟩) (P++[(f,af)]).length dw) (P++[(f,af)])):=qT R5.o ((Gw.refl _).drewN _);have A6:ag (AT (w5.drewN nq) ab i a):=A5.o.gw ((Gw.refl _).drewN _);clear q1 zI lA fT ND ab5 R5 A5 G5;generalize w5.drewN nq=w6 at G6 R6 A6 ⊢;go_wp2_with fail;go_loopg [8] i (fun gg s8 wr=>∃ j:Nat,s8=.int .i64 (j:Int)/\j<=i/\i-j<=gg/\ag (AT wr ab i (je (ij (c9 K) kf (cg K) a) a j))/\ag (ik wr (ab+1) (.slice (some ⟨b5,0,none⟩) (P++[(f,af)]).length dw) (P++[(f,af)]))/\ag (Gw w wr))
     case atStart=>exact ⟨0,rfl,Nat.zero_le _,by omega,(show ag _ from A6.o.congr fun t _=>(aaU _ _ t).symm),R6,G6⟩
     case round=>as_aux_lemma =>
      clear A6 R6 G6;obtain ⟨j,rfl,j1,j2,AA,RR,GR⟩:=hrel;obtain ⟨wU,vO⟩:∃ wx,wx=wr:=⟨_,rfl⟩;subst vO;by_cases dB:j<i
      ·have qZ:(j:Int)<(i:Int):=by omega
       have abu:ab<wU.heap.size:=AA.o.lt;obtain ⟨tK,af1,ek,fT,cQ⟩:=(HK.o.gw GR.o).cells (by rw [LN.o];omega)
       cases ek
       obtain ⟨ro,rc,r1,r2⟩:=cQ j (by rw [LN.o];exact dB)
       have ac:=AA.o.cell dB;rw [Nw] at ac;have af0:=AA.o.frozen j;obtain ⟨li,qX⟩:∃ li,(K.getD j []).length=li:=⟨_,rfl⟩;have LI:ag (cg K j=li):=qX;have lib:li<=2000000:=by have:=HS.o j dB;have e:=LI.o;omega
       rw [qX] at r1 r2;obtain ⟨ai,qY⟩:∃ ai,a j=ai:=⟨_,rfl⟩;have AI:ag _:=qY;rw [qY] at ac;clear qX qY cQ;have vP:ag (¬ (a j<cg K j/\c9 K (j,a j)=kf)->∀ W,AT W ab i (je (ij (c9 K) kf (cg K) a) a j)->AT W ab i (je (ij (c9 K) kf (cg K) a) a (j+1))):=fun no W hW=>hW.congr fun t ht=>by
        rw [zH];by_cases e:t=j
        ·rw [if_pos e,e,Nw,DI no]
        ·rw [if_neg e]
       by_cases al:ai<li
       ·have vM:(ai:Int)<(li:Int):=by omega
        obtain ⟨rb,aaZ,rfl,ly,tA⟩:=r2.cells (by omega)
        have DP:=tA ai al;have KI:ag (c9 K (j,a j)=(K.getD j []).getD ai 0):=by show _=_;unfold c9;rw [AI.o]
        generalize (K.getD j []).getD ai 0=ki at DP KI;clear tA r2;by_cases kq:ki=kf
        ·have kq':(ki == kf)=true:=by simpa using kq
         have PA:ag (ij (c9 K) kf (cg K) a j=ai+1):=by
          show _=_;rw [Nj ⟨by rw [AI.o,LI.o];exact al,by rw [KI.o];exact kq⟩,AI.o]
         have wi:IntKind.i64.wrap ((ai:Int)+1)=((ai+1:Nat):Int):=by rw [IntKind.wrap_i64];omega
         have A7:ag (AT (wU.setCell ⟨ab,j,none⟩ (.int .i64 ((ai+1:Nat):Int))) ab i (je (ij (c9 K) kf (cg K) a) a (j+1))):=by
          have e2:je (ij (c9 K) kf (cg K) a) a (j+1) j=ai+1:=by rw [zH,if_pos rfl,PA.o]
          have:=AA.o.set (a':=je (ij (c9 K) kf (cg K) a) a (j+1)) dB (fun t ht=>by rw [zH,zH,if_pos rfl])
          rw [e2] at this;exact this
         have R7:ag (ik (wU.setCell ⟨ab,j,none⟩ (.int .i64 ((ai+1:Nat):Int))) (ab+1) (.slice (some ⟨b5,0,none⟩) (P++[(f,af)]).length dw) (P++[(f,af)])):=aaL RR.o fun q hq=>Go.Deep.blk_setCell_other _ _ _ _ (fun e=>by have h1:=(World.ownsRow.lt RR.o q hq).1;first | (have e':q=ab:=e;omega) | (have e':ab=q:=e;omega))
         have G7:ag (Gw w (wU.setCell ⟨ab,j,none⟩ (.int .i64 ((ai+1:Nat):Int)))):=GR.o.setCell (by rw [AB.o];exact Nat.le_refl _) _
         clear vP kq;go_wp2_with fail;go_quiet (fail);go_wp2_with fail;have ce:((ai+1:Nat):Int)=(ai:Int)+1:=by omega
         rw [ce] at A7 R7 G7;go_roundg (i-(j+1))
         case measure=>omega
         case rel=>exact ⟨j+1,by go_num,by omega,Nat.le_refl _,(show ag _ from A7.o.gw ((Gw.refl _).drewN nq)),(show ag _ from qT R7.o ((Gw.refl _).drewN nq)),(show ag _ from G7.o.drewN nq)⟩
        ·have kq':(ki == kf)=false:=by simpa using kq
         have A7:ag (AT (wU.drewN 0) ab i (je (ij (c9 K) kf (cg K) a) a (j+1))):=vP.o (fun x=>kq (by rw [<-KI.o];exact x.2)) wU AA.o
         clear vP kq;go_wp2_with fail;go_quiet (fail);go_wp2_with fail;go_roundg (i-(j+1))
         case measure=>omega
         case rel=>exact ⟨j+1,by go_num,by omega,Nat.le_refl _,(show ag _ from A7.o.gw ((Gw.refl _).drewN _)),(show ag _ from qT RR.o ((Gw.refl _).drewN _)),(show ag _ from GR.o.drewN _)⟩
       ·have vM:decide (ai<li)=false:=decide_eq_false al
        have A7:ag (AT wU ab i (je (ij (c9 K) kf (cg K) a) a (j+1))):=vP.o (fun x=>al (by rw [<-AI.o,<-LI.o];exact x.1)) wU AA.o
        clear vP al;go_wp2_with fail;go_quiet (fail);go_wp2_with fail;go_roundg (i-(j+1))
        case measure=>omega
        case rel=>exact ⟨j+1,by go_num,by omega,Nat.le_refl _,(show ag _ from A7.o.gw ((Gw.refl _).drewN _)),(show ag _ from qT RR.o ((Gw.refl _).drewN _)),(show ag _ from GR.o.drewN _)⟩
      ·have ej:j=i:=by omega
       subst ej;have A8:ag (AT wU ab j (ij (c9 K) (c9 K (f,af)) (cg K) a)):=by
        rw [KE.o];exact AA.o.congr fun t ht=>aaV ht
       have NG:ag ((P++[(f,af)]).length=m+1):=by
        show _=_;rw [List.length_append,PM.o];rfl
       go_wp2_with fail;go_roundg (N-(m+1))
       case measure=>omega
       case rel=>exact ⟨P++[(f,af)],_,m+1,b5,dw,by rw [<-NG.o],Nat.le_refl _,by omega,NG,MM,A8,RR,GR⟩
end Go.Proofs.YtklkpldicbkjeaaGreat
