/- The document's layer 13: Merge. -/
import Derived.Test.YteflpamjgaeaiaaGreatUGPlain
set_option linter.unusedVariables false
set_option maxHeartbeats 8000000
set_option maxRecDepth 10000
open Go.Proofs.Tryz
namespace Go.Proofs.YteflpamjgaeaiaaGreat
open Go.RowKit
def keyP (K:List (List Int)) (p:Nat×Nat):Int:=(K.getD p.1 []).getD p.2 0
def lenK (K:List (List Int)) (i:Nat):Nat:=(K.getD i []).length
def FI (key:Nat×Nat->Int) (len a:Nat->Nat) (i:Nat) (z:Int):Prop:=(z=-1/\∀ j,j<i->¬ a j<len j)\/∃ f:Nat,z=f/\f<i/\a f<len f/\(∀ j,j<f->a j<len j->key (f,a f)<key (j,a j))/\∀ j,j<i->a j<len j->key (f,a f)<=key (j,a j)
theorem FI.zero (key:Nat×Nat->Int) (len a:Nat->Nat):FI key len a 0 (-1):=.inl ⟨rfl,fun j hj=>by omega⟩
theorem FI.skip {key:Nat×Nat->Int} {len a:Nat->Nat} {i:Nat} {z:Int} (h:FI key len a i z) (hi:¬ a i<len i):FI key len a (i+1) z:=by
 rcases h with ⟨e,h⟩ | ⟨f,e,h1,h2,h3,h4⟩
 ·refine .inl ⟨e,fun j hj=>?_⟩
  by_cases q:j=i
  ·rw [q];exact hi
  ·exact h j (by omega)
 ·refine .inr ⟨f,e,by omega,h2,h3,fun j hj hl=>?_⟩
  by_cases q:j=i
  ·rw [q] at hl;exact absurd hl hi
  ·exact h4 j (by omega) hl
theorem FI.first {key:Nat×Nat->Int} {len a:Nat->Nat} {i:Nat} (h:FI key len a i (-1)) (hi:a i<len i):FI key len a (i+1) i:=by
 rcases h with ⟨e,h⟩ | ⟨f,e,_⟩
 ·refine .inr ⟨i,rfl,by omega,hi,fun j hj hl=>absurd hl (h j hj),fun j hj hl=>?_⟩
  by_cases q:j=i
  ·rw [q];exact Int.le_refl _
  ·exact absurd hl (h j (by omega))
 ·omega
theorem FI.less {key:Nat×Nat->Int} {len a:Nat->Nat} {i f:Nat} (h:FI key len a i f) (hi:a i<len i) (k:key (i,a i)<key (f,a f)):FI key len a (i+1) i:=by
 rcases h with ⟨e,_⟩ | ⟨f',e,h1,h2,h3,h4⟩
 ·omega
 ·have:f=f':=by omega
  subst this;refine .inr ⟨i,rfl,by omega,hi,fun j hj hl=>?_,fun j hj hl=>?_⟩
  ·have:=h4 j hj hl;omega
  ·by_cases q:j=i
   ·rw [q];exact Int.le_refl _
   ·have:=h4 j (by omega) hl;omega
theorem FI.more {key:Nat×Nat->Int} {len a:Nat->Nat} {i f:Nat} (h:FI key len a i f) (hi:a i<len i) (k:¬ key (i,a i)<key (f,a f)):FI key len a (i+1) f:=by
 rcases h with ⟨e,_⟩ | ⟨f',e,h1,h2,h3,h4⟩
 ·omega
 ·have:f=f':=by omega
  subst this;refine .inr ⟨f,rfl,by omega,h2,h3,fun j hj hl=>?_⟩
  by_cases q:j=i
  ·rw [q];omega
  ·exact h4 j (by omega) hl
structure MI (key:Nat×Nat->Int) (ln:Nat) (len a:Nat->Nat) (P:List (Nat×Nat)):Prop where
 cn:∀ o,Mg key (froms ln len a) o->Mg key (froms ln len fun _=>0) (P++o)
 al:∀ i,i<ln->a i<=len i
 pb:∀ p∈P,p.1<ln/\p.2<len p.1
theorem MI.start (key:Nat×Nat->Int) (ln:Nat) (len:Nat->Nat):MI key ln len (fun _=>0) []:=⟨fun o h=>h,fun _ _=>Nat.zero_le _,fun p hp=>by cases hp⟩
theorem MI.more {key:Nat×Nat->Int} {ln:Nat} {len a:Nat->Nat} {P:List (Nat×Nat)} (h:MI key ln len a P) {f:Nat} (hf:FI key len a ln f):MI key ln len (passA key (key (f,a f)) len a) (P++[(f,a f)]):=by
 rcases hf with ⟨e,_⟩ | ⟨f',e,h1,h2,h3,h4⟩
 ·omega
 ·have:f=f':=by omega
  subst this;have ls:=froms_least (key:=key) h1 h2 h3 h4;refine ⟨fun o ho=>?_,fun i hi=>?_,fun p hp=>?_⟩
  ·rw [List.append_assoc]
   refine h.cn _ (.step ls ?_);rw [froms_pass];exact ho
  ·unfold passA
   have:=h.al i hi
   split<;>omega
  ·rcases List.mem_append.1 hp with q | q
   ·exact h.pb p q
   ·rw [List.mem_singleton.1 q];exact ⟨h1,h2⟩
theorem MI.done {key:Nat×Nat->Int} {ln:Nat} {len a:Nat->Nat} {P:List (Nat×Nat)} (h:MI key ln len a P) (hf:FI key len a ln (-1)):Mg key (froms ln len fun _=>0) P:=by
 rcases hf with ⟨_,q⟩ | ⟨f',e,_⟩
 ·have:=h.cn [] (.done (froms_none q))
  rwa [List.append_nil] at this
 ·omega
theorem MI.few {key:Nat×Nat->Int} {ln:Nat} {len a:Nat->Nat} {P:List (Nat×Nat)} (h:MI key ln len a P):P.length<=sizes (froms ln len fun _=>0):=by
 obtain ⟨o,ho⟩:=Mg.ex key _ (froms ln len a) (Nat.le_refl _);have:=(h.cn o ho).few;rw [List.length_append] at this;omega
def mixA (p a:Nat->Nat) (j t:Nat):Nat:=if t<j then p t else a t
theorem mixA_zero (p a:Nat->Nat) (t:Nat):mixA p a 0 t=a t:=if_neg (by omega)
theorem mixA_lt {p a:Nat->Nat} {j t:Nat} (h:t<j):mixA p a j t=p t:=if_pos h
theorem mixA_at (p a:Nat->Nat) (j:Nat):mixA p a j j=a j:=if_neg (by omega)
theorem mixA_next (p a:Nat->Nat) (j t:Nat):mixA p a (j+1) t=if t=j then p j else mixA p a j t:=by
 unfold mixA;by_cases e:t=j
 ·rw [if_pos (by omega),if_pos e,e]
 ·rw [if_neg e]
  by_cases e2:t<j
  ·rw [if_pos (by omega),if_pos e2]
  ·rw [if_neg (by omega),if_neg e2]
theorem rmerge13 (ko:Option Addr) (kc:Nat) (K:List (List Int)) (hl:K.length<=2000000) (hs:∀ i,i<K.length->lenK K i<=2000000) (hN:sizes (froms K.length (lenK K) fun _=>0)<=2000000) (w:World) (h:KV w ko K) :
  Calls prog 105 #[.slice ko K.length kc] w fun e w'=>(∃ ob oc P,e=.returned (.slice (some ⟨ob,0,none⟩) P.length oc)/\PL13 w' (w.heap.size+1) (.slice (some ⟨ob,0,none⟩) P.length oc) P/\Mg (keyP K) (froms K.length (lenK K) fun _=>0) P/\∀ p∈P,p.1<K.length/\p.2<lenK K p.1)/\Gw w w':=by
 have HK:Aside _:=h;have HS:Aside (∀ i,i<K.length->lenK K i<=2000000):=hs;obtain ⟨ln,hln⟩:∃ ln,K.length=ln:=⟨_,rfl⟩;have LN:Aside _:=hln;rw [hln] at hl hN HS ⊢;clear h hs hln;have mk:=made_i13 ln (ln:Int) rfl (by omega) w
 have A1:Aside (AT (w.alloc (.cells (madeCells #[.int .i64 0] ln) 3)) w.heap.size ln (fun _=>0)):=at_made w ln
 have G1:Aside (Gw w (w.alloc (.cells (madeCells #[.int .i64 0] ln) 3))):=(Gw.refl w).alloc _ _;have Z0:Aside ((w.alloc (.cells (madeCells #[.int .i64 0] ln) 3)).heap.size=w.heap.size+1):=by show _=_;simp
 obtain ⟨ii,hii,hz,hs',hby⟩:=info_parts info_p13;go_enter func105,ntmps105;go_wp2_with fail;generalize w.alloc (.cells (madeCells #[.int .i64 0] ln) 3)=w1 at A1 G1 Z0 ⊢;obtain ⟨ab,hab⟩:∃ ab,w.heap.size=ab:=⟨_,rfl⟩;have AB:Aside _:=hab;have Z1:w1.heap.size=ab+1:=by have:=Z0.out;omega
 have G2:Aside (Gw w (w1.alloc (.cells #[] 167))):=G1.out.alloc _ _;have P2:Aside (PL13 (w1.alloc (.cells #[] 167)) (ab+1) (.slice (some ⟨ab+1,0,none⟩) 0 0) []):=by
  have:=World.ownsRow_made (base:=ab+1) (e:=167) (size:=2) w1 #[] 0 (by omega) (Nat.zero_le _) rfl
  rw [Z1] at this;exact this
 have A2:Aside (AT (w1.alloc (.cells #[] 167)) ab ln (fun _=>0)):=by
  have:=A1.out.gw ((Gw.refl w1).alloc #[] 167)
  rw [hab] at this;exact this
 rw [hab];clear A1 G1 mk Z0;generalize w1.alloc (.cells #[] 167)=w2 at G2 P2 A2 ⊢;obtain ⟨N,hNe⟩:∃ N,sizes (froms ln (lenK K) fun _=>0)=N:=⟨_,rfl⟩
 have NN:Aside _:=hNe;rw [hNe] at hN;clear hNe hab Z1;go_loopg [4] N (fun gg s4 wr=>∃ (P:List (Nat×Nat)) (a:Nat->Nat) (m ob oc:Nat),s4=.slice (some ⟨ob,0,none⟩) m oc/\N-m<=gg/\m<=N/\Aside (P.length=m)/\Aside (MI (keyP K) ln (lenK K) a P)/\Aside (AT wr ab ln a)/\Aside (PL13 wr (ab+1) (.slice (some ⟨ob,0,none⟩) P.length oc) P)/\Aside (Gw w wr))
 case atStart=>exact ⟨[],fun _=>0,0,ab+1,0,rfl,by omega,Nat.zero_le _,rfl,(show Aside _ from MI.start _ _ _),A2,P2,G2⟩
 case round =>
  clear P2 A2 G2;obtain ⟨P,a,m,ob,oc,rfl,m1,m2,PM,I,A,R,G⟩:=hrel;obtain ⟨wS,hwS⟩:∃ wx,wx=wr:=⟨_,rfl⟩;subst hwS;have abl:ab<wS.heap.size:=A.out.lt;have obl:ab+1<=ob:=(R.out.lt ob rfl).1;go_wp2_with fail;go_loopg [5,6] ln (fun gg s5 s6 wr=>∃ (i:Nat) (z:Int),s5=.int .i64 z/\s6=.int .i64 (i:Int)/\i<=ln/\ln-i<=gg/\Aside (FI (keyP K) (lenK K) a i z)/\Aside (Gw wS wr))
  case atStart=>exact ⟨0,-1,rfl,rfl,Nat.zero_le _,by omega,(show Aside _ from FI.zero _ _ _),(show Aside _ from Gw.refl wS)⟩
  case round=>as_aux_lemma =>
   obtain ⟨i,z,rfl,rfl,b1,b2,F,GG⟩:=hrel;obtain ⟨wT,hwT⟩:∃ wx,wx=wr:=⟨_,rfl⟩;subst hwT;by_cases ilt:i<ln
   ·have ilt':(i:Int)<(ln:Int):=by omega
    have abt:ab<wT.heap.size:=Nat.lt_of_lt_of_le abl GG.out.size;obtain ⟨kb,koff,rfl,hkb,hkc⟩:=((HK.out.gw G.out).gw GG.out).cells (by rw [LN.out];omega)
    obtain ⟨ro,rc,r1,r2⟩:=hkc i (by rw [LN.out];exact ilt)
    have ac:=(A.out.gw GG.out).cell ilt;obtain ⟨li,hli⟩:∃ li,(K.getD i []).length=li:=⟨_,rfl⟩;have LI:Aside (lenK K i=li):=hli;have lib:li<=2000000:=by have:=HS.out i ilt;have e:=LI.out;omega
    rw [hli] at r1 r2;obtain ⟨ai,hai⟩:∃ ai,a i=ai:=⟨_,rfl⟩;have AI:Aside _:=hai;rw [hai] at ac;clear hli hai;by_cases al:ai<li
    ·have al':(ai:Int)<(li:Int):=by omega
     have AL:Aside (a i<lenK K i):=by show _<_;rw [AI.out,LI.out];exact al
     obtain ⟨rb,roff,rfl,hrb,hrc⟩:=r2.cells (by omega)
     have kc1:=hrc ai al;have KI:Aside (keyP K (i,a i)=(K.getD i []).getD ai 0):=by show _=_;unfold keyP;rw [AI.out]
     generalize (K.getD i []).getD ai 0=ki at kc1 KI;clear hrc r2;rcases F.out with ⟨rfl,_⟩ | ⟨f,rfl,f1,f2,_,_⟩
     ·have F':Aside (FI (keyP K) (lenK K) a (i+1) i):=F.out.first AL.out
      clear F;go_wp2_with fail;go_quiet (fail);go_wp2_with fail;go_roundg (ln-(i+1))
      case measure=>omega
      case rel=>exact ⟨i+1,i,rfl,by go_num,by omega,Nat.le_refl _,F',(show Aside _ from GG.out.drewN _)⟩
     ·have fz:decide ((f:Int)<0)=false:=decide_eq_false (by omega)
      have fl':(f:Int)<(ln:Int):=by omega
      obtain ⟨so,sc,q1,q2⟩:=hkc f (by rw [LN.out];omega)
      have fc:=(A.out.gw GG.out).cell (i:=f) (by omega)
      obtain ⟨lf',hlf⟩:∃ x,(K.getD f []).length=x:=⟨_,rfl⟩;have f3:a f<(K.getD f []).length:=f2;rw [hlf] at q1 q2 f3;obtain ⟨af,haf⟩:∃ x,a f=x:=⟨_,rfl⟩;have KF:Aside (keyP K (f,a f)=(K.getD f []).getD af 0):=by show _=_;unfold keyP;rw [haf]
      rw [haf] at fc f3;have f3':(af:Int)<(lf':Int):=by omega
      obtain ⟨sb,soff,rfl,hsb,hsc⟩:=q2.cells (by omega)
      have kc2:=hsc af f3;generalize (K.getD f []).getD af 0=kf at kc2 KF;have lfb:lf'<=2000000:=by have:lenK K f<=_:=HS.out f (by omega);unfold lenK at this;omega
      clear hsc q2 hlf haf f2;by_cases kl:ki<kf
      ·have F':Aside (FI (keyP K) (lenK K) a (i+1) i):=F.out.less AL.out (by rw [KI.out,KF.out];exact kl)
       clear F;go_wp2_with fail;go_quiet (fail);go_wp2_with fail;go_roundg (ln-(i+1))
       case measure=>omega
       case rel=>exact ⟨i+1,i,rfl,by go_num,by omega,Nat.le_refl _,F',(show Aside _ from GG.out.drewN _)⟩
      ·have F':Aside (FI (keyP K) (lenK K) a (i+1) f):=F.out.more AL.out (by rw [KI.out,KF.out];exact kl)
       have kl':decide (ki<kf)=false:=decide_eq_false kl;clear F kl;go_wp2_with fail;go_quiet (fail);go_wp2_with fail;go_roundg (ln-(i+1))
       case measure=>omega
       case rel=>exact ⟨i+1,f,rfl,by go_num,by omega,Nat.le_refl _,F',(show Aside _ from GG.out.drewN _)⟩
    ·have al':decide (ai<li)=false:=decide_eq_false al
     have F':Aside _:=F.out.skip (by rw [AI.out,LI.out];exact al)
     clear F al;go_wp2_with fail;go_quiet (fail);go_wp2_with fail;go_roundg (ln-(i+1))
     case measure=>omega
     case rel=>exact ⟨i+1,z,rfl,by go_num,by omega,Nat.le_refl _,F',(show Aside _ from GG.out.drewN _)⟩
   ·have ei:i=ln:=by omega
    subst ei;rcases F.out with ⟨rfl,_⟩ | ⟨f,rfl,f1,f2,_,_⟩
    ·have MD:Aside (Mg (keyP K) (froms i (lenK K) fun _=>0) P):=I.out.done F.out
     have PW:Aside (PL13 wT (w.heap.size+1) (.slice (some ⟨ob,0,none⟩) P.length oc) P):=by
      have:=pl_gw R.out GG.out
      rw [AB.out];exact this
     go_wp2_with fail;exact bodyPost_ret (v:=.slice (some ⟨ob,0,none⟩) m oc) (by simp [results,results105,go_sem]) rfl ⟨⟨ob,oc,P,by rw [PM.out],PW.out,MD.out,I.out.pb⟩,G.out.trans GG.out⟩
    ·have fz:¬ (f:Int)<0:=by omega
     have fl':(f:Int)<(i:Int):=by omega
     have abt:ab<wT.heap.size:=Nat.lt_of_lt_of_le abl GG.out.size;have fc:=(A.out.gw GG.out).cell (i:=f) f1;have MM:Aside _:=I.out.more F.out;have mlt:m<N:=by
      have:=MM.out.few
      rw [NN.out,List.length_append,PM.out] at this;simp at this;omega
     have f3:a f<(K.getD f []).length:=f2;obtain ⟨af,haf⟩:∃ x,a f=x:=⟨_,rfl⟩;have AF:Aside _:=haf;have KF:Aside (keyP K (f,a f)=(K.getD f []).getD af 0):=by show _=_;unfold keyP;rw [haf]
     rw [haf] at fc f3 MM;obtain ⟨kf,hkf⟩:∃ kf,(K.getD f []).getD af 0=kf:=⟨_,rfl⟩;have KFF:Aside _:=hkf;have KE:Aside (keyP K (f,af)=kf):=by
      have:=KF.out
      rw [AF.out,KFF.out] at this;exact this
     have G3:Aside _:=G.out.trans GG.out;have R3:Aside (wT.ownsRow (ab+1) 167 2 (.slice (some ⟨ob,0,none⟩) m oc) m (P.flatMap pl2)):=by
      have:=pl_gw R.out GG.out
      unfold PL13 at this;rw [PM.out] at this;exact this
     have NW:Aside _:=new_pl wT (f,af);have A3:Aside (AT wT ab i a):=A.out.gw GG.out;clear F hkf haf KF f2 R;go_wp2_with (at_builtin;refine wpList_append_own _ rfl _ _ 164 rfl (ab+1) 167 ii (.agg #[.int .i64 0,.int .i64 0]) 2 16 underlying164 hii hz hs' hby rfl (by decide) _ m _ rfl (R3.out.alloc _) ⟨wT.heap.size,0,none⟩ 1 1 (pl2 (f,af)) rfl rfl NW.out (pl2_one _) (by simp only [maxLen];omega) (by omega) (by simp;omega) ?_)
     intro v' w5 r1 r2 r3;obtain ⟨b5,cap5,rfl,hb5,_,_⟩:=own_slice r1 (by simpa using r3)
     have G5:Aside (Gw w w5):=(G3.out.alloc _ _).grown r2 (fun q hq=>(by have e':ob=q:=(by simpa [Value.ownBlock] using hq);have:=AB.out;omega))
     have R5:Aside (PL13 w5 (ab+1) (.slice (some ⟨b5,0,none⟩) (P++[(f,af)]).length cap5) (P++[(f,af)])):=by
      show World.ownsRow _ _ _ _ _ _ _;rw [List.length_append,PM.out,List.flatMap_append];simpa using r1
     have A5:Aside (AT w5 ab i a):=A3.out.keep ((r2.block ab (by simp;omega) (fun e=>(by have e':ab=ob:=(by simpa [Value.ownBlock] using e);omega))).trans (heap_alloc_old wT _ abt))
     clear r1 r2 r3 R3 A3 NW G3 A;have ab5:ab<w5.heap.size:=A5.out.lt;obtain ⟨kb,koff,rfl,hkb,hkc⟩:=(HK.out.gw G5.out).cells (by rw [LN.out];omega)
     obtain ⟨so,sc,q1,q2⟩:=hkc f (by rw [LN.out];exact f1)
     have fc5:=A5.out.cell (i:=f) f1;rw [AF.out] at fc5;obtain ⟨lf',hlf⟩:∃ x,(K.getD f []).length=x:=⟨_,rfl⟩;rw [hlf] at q1 q2 f3;have f3':(af:Int)<(lf':Int):=by omega
     obtain ⟨sb,soff,rfl,hsb,hsc⟩:=q2.cells (by omega)
     have kc2:=hsc af f3;rw [KFF.out] at kc2;have lfb:lf'<=2000000:=by have:lenK K f<=_:=HS.out f f1;unfold lenK at this;omega
     clear hsc q2 hlf hkc fc;go_wp2_with fail;go_quiet (fail);have G6:Aside (Gw w (w5.drewN nq)):=G5.out.drewN _;have R6:Aside (PL13 (w5.drewN nq) (ab+1) (.slice (some ⟨b5,0,none⟩) (P++[(f,af)]).length cap5) (P++[(f,af)])):=pl_gw R5.out ((Gw.refl _).drewN _);have A6:Aside (AT (w5.drewN nq) ab i a):=A5.out.gw ((Gw.refl _).drewN _);clear q1 kc2 hsb hkb fc5 ab5 R5 A5 G5;generalize w5.drewN nq=w6 at G6 R6 A6 ⊢;go_wp2_with fail;go_loopg [8] i (fun gg s8 wr=>∃ j:Nat,s8=.int .i64 (j:Int)/\j<=i/\i-j<=gg/\Aside (AT wr ab i (mixA (passA (keyP K) kf (lenK K) a) a j))/\Aside (PL13 wr (ab+1) (.slice (some ⟨b5,0,none⟩) (P++[(f,af)]).length cap5) (P++[(f,af)]))/\Aside (Gw w wr))
     case atStart=>exact ⟨0,rfl,Nat.zero_le _,by omega,(show Aside _ from A6.out.congr fun t _=>(mixA_zero _ _ t).symm),R6,G6⟩
     case round=>as_aux_lemma =>
      clear A6 R6 G6;obtain ⟨j,rfl,j1,j2,AA,RR,GR⟩:=hrel;obtain ⟨wU,hwU⟩:∃ wx,wx=wr:=⟨_,rfl⟩;subst hwU;by_cases jlt:j<i
      ·have jlt':(j:Int)<(i:Int):=by omega
       have abu:ab<wU.heap.size:=AA.out.lt;obtain ⟨kb',koff',ek,hkb,hkc⟩:=(HK.out.gw GR.out).cells (by rw [LN.out];omega)
       cases ek
       obtain ⟨ro,rc,r1,r2⟩:=hkc j (by rw [LN.out];exact jlt)
       have ac:=AA.out.cell jlt;rw [mixA_at] at ac;have af0:=AA.out.frozen j;obtain ⟨li,hli⟩:∃ li,(K.getD j []).length=li:=⟨_,rfl⟩;have LI:Aside (lenK K j=li):=hli;have lib:li<=2000000:=by have:=HS.out j jlt;have e:=LI.out;omega
       rw [hli] at r1 r2;obtain ⟨ai,hai⟩:∃ ai,a j=ai:=⟨_,rfl⟩;have AI:Aside _:=hai;rw [hai] at ac;clear hli hai hkc;have SAME:Aside (¬ (a j<lenK K j/\keyP K (j,a j)=kf)->∀ W,AT W ab i (mixA (passA (keyP K) kf (lenK K) a) a j)->AT W ab i (mixA (passA (keyP K) kf (lenK K) a) a (j+1))):=fun no W hW=>hW.congr fun t ht=>by
        rw [mixA_next];by_cases e:t=j
        ·rw [if_pos e,e,mixA_at,passA_neg no]
        ·rw [if_neg e]
       by_cases al:ai<li
       ·have al':(ai:Int)<(li:Int):=by omega
        obtain ⟨rb,roff,rfl,hrb,hrc⟩:=r2.cells (by omega)
        have kc1:=hrc ai al;have KI:Aside (keyP K (j,a j)=(K.getD j []).getD ai 0):=by show _=_;unfold keyP;rw [AI.out]
        generalize (K.getD j []).getD ai 0=ki at kc1 KI;clear hrc r2;by_cases kq:ki=kf
        ·have kq':(ki == kf)=true:=by simpa using kq
         have PA:Aside (passA (keyP K) kf (lenK K) a j=ai+1):=by
          show _=_;rw [passA_pos ⟨by rw [AI.out,LI.out];exact al,by rw [KI.out];exact kq⟩,AI.out]
         have wi:IntKind.i64.wrap ((ai:Int)+1)=((ai+1:Nat):Int):=by rw [IntKind.wrap_i64];omega
         have A7:Aside (AT (wU.setCell ⟨ab,j,none⟩ (.int .i64 ((ai+1:Nat):Int))) ab i (mixA (passA (keyP K) kf (lenK K) a) a (j+1))):=by
          have e2:mixA (passA (keyP K) kf (lenK K) a) a (j+1) j=ai+1:=by rw [mixA_next,if_pos rfl,PA.out]
          have:=AA.out.set (a':=mixA (passA (keyP K) kf (lenK K) a) a (j+1)) jlt (fun t ht=>by rw [mixA_next,mixA_next,if_pos rfl])
          rw [e2] at this;exact this
         have R7:Aside (PL13 (wU.setCell ⟨ab,j,none⟩ (.int .i64 ((ai+1:Nat):Int))) (ab+1) (.slice (some ⟨b5,0,none⟩) (P++[(f,af)]).length cap5) (P++[(f,af)])):=pl_keep RR.out fun q hq=>Go.Deep.blk_setCell_other _ _ _ _ (fun e=>by have h1:=(World.ownsRow.lt RR.out q hq).1;first | (have e':q=ab:=e;omega) | (have e':ab=q:=e;omega))
         have G7:Aside (Gw w (wU.setCell ⟨ab,j,none⟩ (.int .i64 ((ai+1:Nat):Int)))):=GR.out.setCell (by rw [AB.out];exact Nat.le_refl _) _
         clear SAME kq;go_wp2_with fail;go_quiet (fail);go_wp2_with fail;have ce:((ai+1:Nat):Int)=(ai:Int)+1:=by omega
         rw [ce] at A7 R7 G7;go_roundg (i-(j+1))
         case measure=>omega
         case rel=>exact ⟨j+1,by go_num,by omega,Nat.le_refl _,(show Aside _ from A7.out.gw ((Gw.refl _).drewN nq)),(show Aside _ from pl_gw R7.out ((Gw.refl _).drewN nq)),(show Aside _ from G7.out.drewN nq)⟩
        ·have kq':(ki == kf)=false:=by simpa using kq
         have A7:Aside (AT (wU.drewN 0) ab i (mixA (passA (keyP K) kf (lenK K) a) a (j+1))):=SAME.out (fun x=>kq (by rw [<-KI.out];exact x.2)) wU AA.out
         clear SAME kq;go_wp2_with fail;go_quiet (fail);go_wp2_with fail;go_roundg (i-(j+1))
         case measure=>omega
         case rel=>exact ⟨j+1,by go_num,by omega,Nat.le_refl _,(show Aside _ from A7.out.gw ((Gw.refl _).drewN _)),(show Aside _ from pl_gw RR.out ((Gw.refl _).drewN _)),(show Aside _ from GR.out.drewN _)⟩
       ·have al':decide (ai<li)=false:=decide_eq_false al
        have A7:Aside (AT wU ab i (mixA (passA (keyP K) kf (lenK K) a) a (j+1))):=SAME.out (fun x=>al (by rw [<-AI.out,<-LI.out];exact x.1)) wU AA.out
        clear SAME al;go_wp2_with fail;go_quiet (fail);go_wp2_with fail;go_roundg (i-(j+1))
        case measure=>omega
        case rel=>exact ⟨j+1,by go_num,by omega,Nat.le_refl _,(show Aside _ from A7.out.gw ((Gw.refl _).drewN _)),(show Aside _ from pl_gw RR.out ((Gw.refl _).drewN _)),(show Aside _ from GR.out.drewN _)⟩
      ·have ej:j=i:=by omega
       subst ej;have A8:Aside (AT wU ab j (passA (keyP K) (keyP K (f,af)) (lenK K) a)):=by
        rw [KE.out];exact AA.out.congr fun t ht=>mixA_lt ht
       have PM8:Aside ((P++[(f,af)]).length=m+1):=by
        show _=_;rw [List.length_append,PM.out];rfl
       go_wp2_with fail;go_roundg (N-(m+1))
       case measure=>omega
       case rel=>exact ⟨P++[(f,af)],_,m+1,b5,cap5,by rw [<-PM8.out],Nat.le_refl _,by omega,PM8,MM,A8,RR,GR⟩
end Go.Proofs.YteflpamjgaeaiaaGreat
