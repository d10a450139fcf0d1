import Derived.Deep.CutBlock
import Derived.Deep.DeepCutAuto
import Derived.Test.YtaemofgeciklkaaGreatEPBs
set_option linter.unusedVariables false
set_option maxHeartbeats 16000000
set_option maxRecDepth 100000
open Go.Proofs.Tryz
namespace Go.Proofs.YtaemofgeciklkaaGreat
open Go.RowKit
structure Gs (S:Nat->Prop) (w w':World):Prop where
 os:w'.os=w.os
 tape:w'.tape=w.tape
 output:w'.output=w.output
 size:w.heap.size<=w'.heap.size
 block:∀ q,q<w.heap.size->¬ S q->w'.heap[q]?=w.heap[q]?
variable {w w':World}
theorem Gw.gs (h:Gw w w') (S:Nat->Prop):Gs S w w':=⟨h.below.os,h.below.tape,h.below.output,h.below.size,fun q hq _=>h.below.block q hq⟩
variable {S:Nat->Prop}
theorem Gs.set (h:Gs S w w') {q:Nat} (hq:S q) (o:Nat) (v:Value):Gs S w (w'.setCell (φ q o) v) :=
 ⟨h.os,h.tape,h.output,by simpa [World.setCell] using h.size,fun k hk hs=>(qac _ _ _ _ (fun e=>hs (by rw [e];exact hq))).trans (h.block k hk hs)⟩
theorem Gs.grown {dW:World} {row:Option Nat} (h:Gs S w w') (g:w'.grownBy dW row) (hr:∀ k,row=some k->S k):Gs S w dW :=
 ⟨g.os.trans h.os,g.tape.trans h.tape,g.output.trans h.output,Φ h.size g.size,fun k hk hs=>(g.block k (Θ hk h.size) (fun e=>hs (hr k e.symm))).trans (h.block k hk hs)⟩
variable {base n:Nat} {v:Value}
theorem GH {e size:Nat} {xs:List Value} (h:w.ownsRow base e size v n xs):w.ownsRow 0 e size v n xs:=by
 refine ⟨h.1,?_⟩;rcases h.2 with q | ⟨g,cap,cur,rfl,_,r⟩
 ·exact .inl q
 ·exact .inr ⟨g,cap,cur,rfl,Γ _,r⟩
theorem OZ {e size:Nat} {xs:List Value} (h:w.ownsRow base e size v (n+1) xs):∃ g cap,v=ψ g 0 (n+1) cap/\base<=g/\g<w.heap.size:=by
 rcases h.2 with ⟨_,q⟩ | ⟨g,cap,cur,rfl,hg,hh,_⟩
 ·omega
 ·exact ⟨g,cap,rfl,hg,(qab.1 hh).1⟩
variable {W:World} {p:Nat} {e a c d:Int} {f:Nat->Int}
theorem abT {v0 x2 x3 x4 x5:Value} {b:Int}
  (blk:W.heap[p]?=some (.cells #[By (e+1),v0,x2,x3,x4,x5] 229 (0,0)))
  (own:W.ownsRow 0 35 1 v n ((List.range n).map fun i=>Value.int .u64 (f i))) (ne:∀ q,v.ownBlock=some q->q≠p) (up:Up f n) (bd:∀ i,i<n->0<=f i/\f i<18446744073709551616)
  (low:bM e f (aC n) a b) (top:dG e f (aC n) c d) (fit:aY e f (aC n)) (e1:1<=e/\e<=63) (wd:(a<18446744073709551616/\b<18446744073709551616)/\(0<=c/\c<18446744073709551616)/\(0<=d/\d<18446744073709551616)) :
  RF (((((W.setCell (φ p 1) v).setCell (φ p 2) (BY a)).setCell (φ p 3) (BY b)).setCell (φ p 4) (BY c)).setCell (φ p 5) (BY d)) p v e n f a b c d:=by
 refine ⟨?_,⟨own.1,?_⟩,ne,up,bd,low,top,fit,e1,wd⟩
 ·simp [World.setCell,Array.getElem?_modify,blk]
 ·rcases own.2 with q | ⟨g,cap,cur,rfl,hb,hh,r⟩
  ·exact .inl q
  ·have x7:=ne g rfl
   refine .inr ⟨g,cap,cur,rfl,hb,?_,r⟩;rw [qac _ _ _ _ x7,qac _ _ _ _ x7,qac _ _ _ _ x7,qac _ _ _ _ x7,qac _ _ _ _ x7];exact hh
theorem abU {b:Int} (h:RF w p v e n f a b c d) (x:Int) (x0:0<=x) (x1:x<18446744073709551616) (hn:n<=4000000) (hx:0<n->f (n-1)<x) :
  Calls prog 146 #[IS p,BY x] w fun ex w' =>
   (∃ ok:Bool,ex=π #[.bool ok,By 0]/\(ok=true↔aY e (aG f n x) (aC (n+1)))/\(ok=false->Gw w w')/\(ok=true->∃ v' a' b' c' d',RF w' p v' e (n+1) (aG f n x) a' b' c' d'/\∀ q,dX p v' q->dX p v q\/w.heap.size<=q))/\Gs (dX p v) w w':=by
 obtain ⟨c0,c1,c2,c3,c4,c5⟩:=h.cells;have hl:=h.lt;obtain ⟨e1,e2⟩:=h.e1;have HR:ag (RF w p v e n f a b c d):=h;have UP:ag (Up (aG f n x) (n+1)):=Fh h.up hx;have CM:ag (∀ M c g:Int,0<M->c*g=M->0<g->1<=c):=by
  show ∀ M c g:Int,0<M->c*g=M->0<g->1<=c;intro M c g h0 h1 h2;rcases Int.lt_or_le 0 c with q | q
  ·omega
  ·have:=qae q (show 0<=g by omega)
   omega
 have HX:ag (∀ i,i<n->f i<x):=by
  show ∀ i,i<n->f i<x;intro i hi;have q1:=hx ω;have q2:=h.up.le (show i<=n-1 by omega) ω
  omega
 have ST:ag (bM e (aG f n x) (gM n 0) a b/\dG e (aG f n x) (gM n 0) c d/\(a<18446744073709551616/\b<18446744073709551616)/\(0<=c/\c<18446744073709551616)/\(0<=d/\d<18446744073709551616)) :=
  ⟨h.low.congr (MW n) (fun i j s=>by rw [bJ s.2,bJ (by have:=s.1;have:=s.2;omega)]),h.top.congr (MW n) (fun i j s=>by rw [bJ s.2,bJ (by have:=s.1;have:=s.2;omega)]),h.wd⟩
 obtain ⟨ao,cap,ev,ks⟩:=h.ks;rw [ev] at c1;clear h;go_enter func146,ntmps146;go_upto_region 2 with fail;go_cut [32] (fun s32 wc=>s32=.bool false/\wc=w)
 case first =>
  by_cases hz:n=0
  ·have z0:¬ 0<n:=(by omega);have z1:decide ((0:Int)<n)=false:=(by simp;omega);clear hz ks hx;go_wp2_with fail;go_meet
   case rel=>exact ⟨rfl,rfl⟩
  ·obtain ⟨bk,off,eo,hb,hc⟩:=ks.cells ω
   subst eo;obtain ⟨pr,hpr⟩:∃ pr:Nat,(n:Int)-1=pr:=⟨n-1,ω⟩;have Bv:pr<n:=ω;have hw:=sJ pr ω;have pF:0<n:=ω;have k1:=hc pr Bv;have xk:¬ x<=f pr:=by
    have:=HX.o pr Bv
    omega
   clear hz ks hx hc;generalize f pr=fp at k1 xk;go_wp2_with fail;go_meet
   case rel=>exact ⟨rfl,rfl⟩
 case rest =>
  obtain ⟨rfl,x8⟩:=hcut;have GJ:w=wc:=x8.symm;subst GJ;clear x8 ks hx;go_wp2_with fail;clear c0 c1 c2 c3 c4 c5 ev;go_loopg [10] n (fun gg jW wr=>∃ (i:Nat) (a' b' c' d':Int),jW=By i/\i<=n/\n-i<=gg/\ag (Bx wr (w.heap.size) 227 (BY a') (BY b'))/\ag (Bx wr (w.heap.size+1) 227 (BY c') (BY d'))/\ag (bM e (aG f n x) (gM n i) a' b'/\dG e (aG f n x) (gM n i) c' d'/\(a'<18446744073709551616/\b'<18446744073709551616)/\(0<=c'/\c'<18446744073709551616)/\(0<=d'/\d'<18446744073709551616))/\ag (Gw w wr))
  case atStart=>exact ⟨0,a,b,c,d,rfl,Γ _,ω,(show ag _ from (Bx.new w _ _ _).alloc _),(show ag _ from (Bx.new _ _ _ _).at ε),ST,(show ag _ from ((Gw.refl w).alloc _ _).alloc _ _)⟩
  case round =>
   obtain ⟨i,a',b',c',d',rfl,h1,h2,XL,XT,I,G⟩:=hrel;obtain ⟨⟨wa,wb⟩,⟨qY,pG⟩,⟨qZ,rf⟩⟩:=I.o.2.2;have O3:=I.o.1.a0;have wb0:=I.o.1.b1;by_cases ar:i<n
   ·have hh:=HR.o.gw G.o
    obtain ⟨_,c1,_⟩:=hh.cells;obtain ⟨ao,cap,ev,ks⟩:=hh.ks;rw [ev] at c1;obtain ⟨bk,off,rfl,hb,hc⟩:=ks.cells ω;have k1:=hc i ar;have fb:=HR.o.bd i ar;have fx:f i<x:=HX.o i ar;clear hh ks hc ev;have TP:ag (dG e (aG f n x) (gM n i) c' d'):=I.o.2.1;have LP:ag (bM e (aG f n x) (gM n i) a' b'):=I.o.1;have E0:ag (aG f n x n-aG f n x i=x-f i):=(by show _=_;rw [eF,bJ ar]);obtain ⟨fi,fB⟩:=qbr (f i);rw [fB] at k1 fb fx E0;clear fB;obtain ⟨D,hD⟩:=qbr (x-fi);obtain ⟨m,hm⟩:=qbr ((n:Int)-i-2*e);obtain ⟨M,hM⟩:=qbr ((n:Int)-i+2*e);have EM:ag ((n:Int)-i+2*e=M/\aG f n x n-aG f n x i=D):=⟨hM,by rw [E0.o,hD]⟩
    have Em:ag ((n:Int)-i-2*e=m):=hm;have wM:=wu (x:=M) ω ω;have D0:0<D:=ω;have D1:D<18446744073709551616:=ω;have M0:0<M:=ω;have M1:M<10000000:=ω;have m1:m<10000000:=ω;clear E0;by_cases hm0:0<m
    ·have wm:=wu (x:=m) ω ω
     go_wp2_with fail;refine (AP m D ω ω ω ω _).mono ?_
     rintro ex w1 ⟨⟨lc,ld,lg,rfl,ri⟩,g1⟩;obtain ⟨q0,q1⟩:=ri.c0,ri.d1;have q2:lc<18446744073709551616:=(by have:=ri.cb;omega);have q3:ld<18446744073709551616:=(by have:=ri.db;omega);have O7:ag (Bx (w1.alloc (.cells #[BY lc,BY ld] 227)) (w.heap.size) 227 (BY a') (BY b')):=(XL.o.gw g1).alloc _;have O9:ag (Bx (w1.alloc (.cells #[BY lc,BY ld] 227)) (w.heap.size+1) 227 (BY c') (BY d')):=(XT.o.gw g1).alloc _;have G2:ag (Gw w (w1.alloc (.cells #[BY lc,BY ld] 227))):=(G.o.trans g1).alloc _ _;have HL:ag (ve m D lc ld lg):=ri;have z1:=(XL.o.gw g1).c0;have z2:=(XL.o.gw g1).c1;have z3:=(XL.o.gw g1).lt;clear ri g1;go_wp2_with fail;refine (xH a' b' lc ld O3 wa ω wb q0 q2 ω q3 _).mono ?_;rintro ex w2 ⟨⟨r1,rfl,ta⟩,g2⟩;have vC:ag (Bx w2 (w.heap.size) 227 (BY a') (BY b')):=O7.o.gw g2;have O':ag (Bx w2 (w.heap.size+1) 227 (BY c') (BY d')):=O9.o.gw g2;have G4:ag (Gw w w2):=G2.o.trans g2;have y1:=(Bx.new w1 227 (BY lc) (BY ld)).gw g2;have y2:=y1.c0;have y3:=y1.c1;clear y1 O7 O9 G2 g2 z1 z2 z3;have z1:=vC.o.c0;have z2:=vC.o.c1;have z3:=vC.o.fz 0;have z4:=vC.o.fz 1;cases r1 with
     | true =>
      have K1:ag (fN a' b' lc ld):=ta.1 rfl;clear ta;have mY:ag (Bx ((w2.setCell (φ w.heap.size 0) (BY lc)).setCell (φ w.heap.size 1) (BY ld)) (w.heap.size) 227 (BY lc) (BY ld)):=vC.o.set _ _;have iH:ag (Bx ((w2.setCell (φ w.heap.size 0) (BY lc)).setCell (φ w.heap.size 1) (BY ld)) (w.heap.size+1) 227 (BY c') (BY d')):=(O'.o.far _ ω).far _ ω;have G1:ag (Gw w (((w2.setCell (φ w.heap.size 0) (BY lc)).setCell (φ w.heap.size 1) (BY ld)))):=(G4.o.setCell ε _).setCell ε _;have LW:ag (bM e (aG f n x) (gM n (i+1)) lc ld/\lc<18446744073709551616/\ld<18446744073709551616):=⟨bM.congr (bM.take (Ay UP.o ω) LP.o HL.o.g0 (CM.o m _ _ ω HL.o.ec HL.o.g0) q1 HL.o.low (by rw [HL.o.ec,<-Em.o]) (by rw [HL.o.ed,<-EM.o.2]) K1.o) (ph n i) (fun _ _ _=>rfl),q2,q3⟩
      clear XL XT G I;go_wp2_with fail;refine (AP M D ω ω ω ω _).mono ?_;rintro ex w3 ⟨⟨sc,sd,sg,rfl,hs⟩,g3⟩;obtain ⟨s0,s1⟩:=hs.c0,hs.d1;have s2:sc<18446744073709551616:=(by have:=hs.cb;omega);have s3:sd<18446744073709551616:=(by have:=hs.db;omega);have rj:ag (Bx (w3.alloc (.cells #[BY sc,BY sd] 227)) (w.heap.size) 227 (BY lc) (BY ld)):=(mY.o.gw g3).alloc _;have rq:ag (Bx (w3.alloc (.cells #[BY sc,BY sd] 227)) (w.heap.size+1) 227 (BY c') (BY d')):=(iH.o.gw g3).alloc _;have G3:ag (Gw w (w3.alloc (.cells #[BY sc,BY sd] 227))):=(G1.o.trans g3).alloc _ _;have HS:ag (ve M D sc sd sg):=hs;have z1:=(iH.o.gw g3).c0;have z2:=(iH.o.gw g3).c1;have z3:=(iH.o.gw g3).lt;have z4:w.heap.size<w3.heap.size:=(mY.o.gw g3).lt;clear hs mY iH G1 g3;go_wp2_with fail;refine (xH sc sd c' d' s0 s2 ω s3 qY pG qZ rf _).mono ?_;rintro ex w5 ⟨⟨r2,rfl,gT⟩,g5⟩;have jI:ag (Bx w5 (w.heap.size) 227 (BY lc) (BY ld)):=rj.o.gw g5;have dT:ag (Bx w5 (w.heap.size+1) 227 (BY c') (BY d')):=rq.o.gw g5;have G5:ag (Gw w w5):=G3.o.trans g5;have y1:=(Bx.new w3 227 (BY sc) (BY sd)).gw g5;have y2:=y1.c0;have y3:=y1.c1;clear y1 rj rq G3 g5 z1 z2 z3 z4;have z1:=dT.o.c0;have z2:=dT.o.c1;have z3:=dT.o.fz 0;have z4:=dT.o.fz 1;cases r2 with
      | true =>
       have K:ag (fN sc sd c' d'):=gT.1 rfl;clear gT;go_wp2_with fail;go_roundg (n-(i+1))
       case measure=>omega
       case rel =>
        refine ⟨i+1,lc,ld,sc,sd,by go_num,ω,Yk _,(show ag _ from ((jI.o.far _ ω).far _ ω)),(show ag _ from dT.o.set _ _),(show ag _ from ⟨LW.o.1,dG.congr (dG.take (Ay UP.o ω) TP.o HS.o.g0 (CM.o M _ _ ω HS.o.ec HS.o.g0) s1 HS.o.low (by rw [HS.o.ec,<-EM.o.1]) (by rw [HS.o.ed,<-EM.o.2]) K.o) (ph n i) (fun _ _ _=>rfl),LW.o.2,⟨ω,s2⟩,⟨ω,s3⟩⟩),(show ag _ from (G5.o.setCell ε _).setCell ε _)⟩
      | false =>
       have K:ag (¬ fN sc sd c' d'):=fun hb=>Bool.noConfusion (gT.2 hb)
       clear gT;go_wp2_with fail;go_roundg (n-(i+1))
       case measure=>omega
       case rel =>
        refine ⟨i+1,lc,ld,c',d',by go_num,ω,Yk _,(show ag _ from jI.o),(show ag _ from dT.o),(show ag _ from ⟨LW.o.1,dG.congr (dG.keep TP.o HS.o.g0 (CM.o M _ _ ω HS.o.ec HS.o.g0) s1 (by rw [HS.o.ec,<-EM.o.1]) (by rw [HS.o.ed,<-EM.o.2]) K.o) (ph n i) (fun _ _ _=>rfl),LW.o.2,⟨qY,pG⟩,⟨qZ,rf⟩⟩),(show ag _ from G5.o)⟩
     | false =>
      have K1:ag (¬ fN a' b' lc ld):=fun hb=>Bool.noConfusion (ta.2 hb)
      clear ta z1 z2 z3 z4;have mY:ag (Bx w2 (w.heap.size) 227 (BY a') (BY b')):=vC.o;have iH:ag (Bx w2 (w.heap.size+1) 227 (BY c') (BY d')):=O'.o;have G1:ag (Gw w (w2)):=G4.o;have LW:ag (bM e (aG f n x) (gM n (i+1)) a' b'/\a'<18446744073709551616/\b'<18446744073709551616):=⟨bM.congr (bM.keep LP.o HL.o.g0 q1 (by rw [HL.o.ec,<-Em.o]) (by rw [HL.o.ed,<-EM.o.2]) K1.o) (ph n i) (fun _ _ _=>rfl),wa,wb⟩
      clear XL XT G I;go_wp2_with fail;refine (AP M D ω ω ω ω _).mono ?_;rintro ex w3 ⟨⟨sc,sd,sg,rfl,hs⟩,g3⟩;obtain ⟨s0,s1⟩:=hs.c0,hs.d1;have s2:sc<18446744073709551616:=(by have:=hs.cb;omega);have s3:sd<18446744073709551616:=(by have:=hs.db;omega);have rj:ag (Bx (w3.alloc (.cells #[BY sc,BY sd] 227)) (w.heap.size) 227 (BY a') (BY b')):=(mY.o.gw g3).alloc _;have rq:ag (Bx (w3.alloc (.cells #[BY sc,BY sd] 227)) (w.heap.size+1) 227 (BY c') (BY d')):=(iH.o.gw g3).alloc _;have G3:ag (Gw w (w3.alloc (.cells #[BY sc,BY sd] 227))):=(G1.o.trans g3).alloc _ _;have HS:ag (ve M D sc sd sg):=hs;have z1:=(iH.o.gw g3).c0;have z2:=(iH.o.gw g3).c1;have z3:=(iH.o.gw g3).lt;have z4:w.heap.size<w3.heap.size:=(mY.o.gw g3).lt;clear hs mY iH G1 g3;go_wp2_with fail;refine (xH sc sd c' d' s0 s2 ω s3 qY pG qZ rf _).mono ?_;rintro ex w5 ⟨⟨r2,rfl,gT⟩,g5⟩;have jI:ag (Bx w5 (w.heap.size) 227 (BY a') (BY b')):=rj.o.gw g5;have dT:ag (Bx w5 (w.heap.size+1) 227 (BY c') (BY d')):=rq.o.gw g5;have G5:ag (Gw w w5):=G3.o.trans g5;have y1:=(Bx.new w3 227 (BY sc) (BY sd)).gw g5;have y2:=y1.c0;have y3:=y1.c1;clear y1 rj rq G3 g5 z1 z2 z3 z4;have z1:=dT.o.c0;have z2:=dT.o.c1;have z3:=dT.o.fz 0;have z4:=dT.o.fz 1;cases r2 with
      | true =>
       have K:ag (fN sc sd c' d'):=gT.1 rfl;clear gT;go_wp2_with fail;go_roundg (n-(i+1))
       case measure=>omega
       case rel =>
        refine ⟨i+1,a',b',sc,sd,by go_num,ω,Yk _,(show ag _ from ((jI.o.far _ ω).far _ ω)),(show ag _ from dT.o.set _ _),(show ag _ from ⟨LW.o.1,dG.congr (dG.take (Ay UP.o ω) TP.o HS.o.g0 (CM.o M _ _ ω HS.o.ec HS.o.g0) s1 HS.o.low (by rw [HS.o.ec,<-EM.o.1]) (by rw [HS.o.ed,<-EM.o.2]) K.o) (ph n i) (fun _ _ _=>rfl),LW.o.2,⟨ω,s2⟩,⟨ω,s3⟩⟩),(show ag _ from (G5.o.setCell ε _).setCell ε _)⟩
      | false =>
       have K:ag (¬ fN sc sd c' d'):=fun hb=>Bool.noConfusion (gT.2 hb)
       clear gT;go_wp2_with fail;go_roundg (n-(i+1))
       case measure=>omega
       case rel =>
        refine ⟨i+1,a',b',c',d',by go_num,ω,Yk _,(show ag _ from jI.o),(show ag _ from dT.o),(show ag _ from ⟨LW.o.1,dG.congr (dG.keep TP.o HS.o.g0 (CM.o M _ _ ω HS.o.ec HS.o.g0) s1 (by rw [HS.o.ec,<-EM.o.1]) (by rw [HS.o.ed,<-EM.o.2]) K.o) (ph n i) (fun _ _ _=>rfl),LW.o.2,⟨qY,pG⟩,⟨qZ,rf⟩⟩),(show ag _ from G5.o)⟩
    ·have kV:m<=0:=(by omega);have mY:ag (Bx wr (w.heap.size) 227 (BY a') (BY b')):=XL.o;have iH:ag (Bx wr (w.heap.size+1) 227 (BY c') (BY d')):=XT.o;have G1:ag (Gw w (wr)):=G.o;have LW:ag (bM e (aG f n x) (gM n (i+1)) a' b'/\a'<18446744073709551616/\b'<18446744073709551616):=⟨bM.congr (bM.skip LP.o (by rw [EM.o.2];exact D0) (by rw [Em.o];exact kV)) (ph n i) (fun _ _ _=>rfl),wa,wb⟩
     clear XL XT G I;go_wp2_with fail;refine (AP M D ω ω ω ω _).mono ?_;rintro ex w3 ⟨⟨sc,sd,sg,rfl,hs⟩,g3⟩;obtain ⟨s0,s1⟩:=hs.c0,hs.d1;have s2:sc<18446744073709551616:=(by have:=hs.cb;omega);have s3:sd<18446744073709551616:=(by have:=hs.db;omega);have rj:ag (Bx (w3.alloc (.cells #[BY sc,BY sd] 227)) (w.heap.size) 227 (BY a') (BY b')):=(mY.o.gw g3).alloc _;have rq:ag (Bx (w3.alloc (.cells #[BY sc,BY sd] 227)) (w.heap.size+1) 227 (BY c') (BY d')):=(iH.o.gw g3).alloc _;have G3:ag (Gw w (w3.alloc (.cells #[BY sc,BY sd] 227))):=(G1.o.trans g3).alloc _ _;have HS:ag (ve M D sc sd sg):=hs;have z1:=(iH.o.gw g3).c0;have z2:=(iH.o.gw g3).c1;have z3:=(iH.o.gw g3).lt;have z4:w.heap.size<w3.heap.size:=(mY.o.gw g3).lt;clear hs mY iH G1 g3;go_wp2_with fail;refine (xH sc sd c' d' s0 s2 ω s3 qY pG qZ rf _).mono ?_;rintro ex w5 ⟨⟨r2,rfl,gT⟩,g5⟩;have jI:ag (Bx w5 (w.heap.size) 227 (BY a') (BY b')):=rj.o.gw g5;have dT:ag (Bx w5 (w.heap.size+1) 227 (BY c') (BY d')):=rq.o.gw g5;have G5:ag (Gw w w5):=G3.o.trans g5;have y1:=(Bx.new w3 227 (BY sc) (BY sd)).gw g5;have y2:=y1.c0;have y3:=y1.c1;clear y1 rj rq G3 g5 z1 z2 z3 z4;have z1:=dT.o.c0;have z2:=dT.o.c1;have z3:=dT.o.fz 0;have z4:=dT.o.fz 1;cases r2 with
     | true =>
      have K:ag (fN sc sd c' d'):=gT.1 rfl;clear gT;go_wp2_with fail;go_roundg (n-(i+1))
      case measure=>omega
      case rel =>
       refine ⟨i+1,a',b',sc,sd,by go_num,ω,Yk _,(show ag _ from ((jI.o.far _ ω).far _ ω)),(show ag _ from dT.o.set _ _),(show ag _ from ⟨LW.o.1,dG.congr (dG.take (Ay UP.o ω) TP.o HS.o.g0 (CM.o M _ _ ω HS.o.ec HS.o.g0) s1 HS.o.low (by rw [HS.o.ec,<-EM.o.1]) (by rw [HS.o.ed,<-EM.o.2]) K.o) (ph n i) (fun _ _ _=>rfl),LW.o.2,⟨ω,s2⟩,⟨ω,s3⟩⟩),(show ag _ from (G5.o.setCell ε _).setCell ε _)⟩
     | false =>
      have K:ag (¬ fN sc sd c' d'):=fun hb=>Bool.noConfusion (gT.2 hb)
      clear gT;go_wp2_with fail;go_roundg (n-(i+1))
      case measure=>omega
      case rel =>
       refine ⟨i+1,a',b',c',d',by go_num,ω,Yk _,(show ag _ from jI.o),(show ag _ from dT.o),(show ag _ from ⟨LW.o.1,dG.congr (dG.keep TP.o HS.o.g0 (CM.o M _ _ ω HS.o.ec HS.o.g0) s1 (by rw [HS.o.ec,<-EM.o.1]) (by rw [HS.o.ed,<-EM.o.2]) K.o) (ph n i) (fun _ _ _=>rfl),LW.o.2,⟨qY,pG⟩,⟨qZ,rf⟩⟩),(show ag _ from G5.o)⟩
   ·obtain rfl:i=n:=by omega
    have LO:ag (bM e (aG f i x) (aC (i+1)) a' b'):=I.o.1.congr (MZ i) (fun _ _ _=>rfl)
    have TO:ag (dG e (aG f i x) (aC (i+1)) c' d'):=I.o.2.1.congr (MZ i) (fun _ _ _=>rfl)
    have PP:=uZ UP.o;have FI:ag (¬ fN c' d' a' b'↔aY e (aG f i x) (aC (i+1))):=MU ω PP LO.o TO.o;clear PP I;have z1:=XT.o.c0;have z2:=XT.o.c1;have z3:=XL.o.c0;have z4:=XL.o.c1;have Pa:ag (Bx wr (w.heap.size) 227 (BY a') (BY b')):=XL.o;have Pb:ag (Bx wr (w.heap.size+1) 227 (BY c') (BY d')):=XT.o;have G':ag (Gw w wr):=G.o;clear XL XT G;go_wp2_with fail;refine (xH c' d' a' b' qY pG qZ rf O3 wa ω wb _).mono ?_;rintro ex w5 ⟨⟨r,rfl,hr⟩,g5⟩;have jI:ag (Bx w5 (w.heap.size) 227 (BY a') (BY b')):=Pa.o.gw g5;have dT:ag (Bx w5 (w.heap.size+1) 227 (BY c') (BY d')):=Pb.o.gw g5;have G5:ag (Gw w w5):=G'.o.trans g5;clear Pa Pb G' g5 z1 z2 z3 z4;cases r with
    | true =>
     have K:ag (fN c' d' a' b'):=hr.1 rfl;clear hr;go_wp2_with fail;go_ret2;exact ⟨⟨false,rfl,⟨fun q=>Bool.noConfusion q,fun q=>absurd K.o (FI.o.2 q)⟩,fun _=>G5.o,fun q=>Bool.noConfusion q⟩,G5.o.gs _⟩
    | false =>
     have K:ag (aY e (aG f i x) (aC (i+1))):=FI.o.1 (fun hb=>Bool.noConfusion (hr.2 hb))
     clear hr FI;have R5:ag (RF w5 p v e i f a b c d):=HR.o.gw G5.o;obtain ⟨_,p1,_⟩:=R5.o.cells;have x9:=R5.o.own;have aD:ag (∀ (W:World) (v':Value),W.heap[p]?=w5.heap[p]?->W.ownsRow 0 35 1 v' (i+1) ((List.range i).map (fun j=>Value.int .u64 (f j))++[BY x])->(∀ q,v'.ownBlock=some q->q≠p) ->
       RF (((((W.setCell (φ p 1) v').setCell (φ p 2) (BY a')).setCell (φ p 3) (BY b')).setCell (φ p 4) (BY c')).setCell (φ p 5) (BY d')) p v' e (i+1) (aG f i x) a' b' c' d'):=by
      intro W v' h1 h2 h3;refine abT (h1.trans R5.o.blk) ?_ h3 UP.o ?_ LO.o TO.o K.o ⟨e1,e2⟩ ⟨⟨wa,wb⟩,⟨qY,pG⟩,⟨qZ,rf⟩⟩
      ·have e3:(List.range (i+1)).map (fun j=>Value.int .u64 (aG f i x j))=(List.range i).map (fun j=>Value.int .u64 (f j))++[BY x]:=by
        rw [List.range_succ,qaV];congr 1
        ·refine List.map_congr_left fun j hj=>?_
         rw [bJ (List.mem_range.1 hj)]
        ·simp [eF]
       rw [e3];exact h2
      ·intro j hj
       by_cases q:j=i
       ·subst q;rw [eF];exact ⟨x0,x1⟩
       ·rw [bJ ω];exact HR.o.bd j ω
     obtain ⟨ii,aK,hz,hs,aJ⟩:=info_parts qF;rcases x9.2 with ⟨ev,i0⟩ | ⟨g,cp,cur,ev,_,hg,xz,Pc,_⟩
     ·rw [ev] at p1
      subst i0;clear ev x9;go_wp2_with (at_builtin;refine wpList_append_grows _ rfl _ _ 143 rfl 35 ii (BY 0) 1 8 underlying143 aK hz hs aJ rfl γ none 0 0 [] rfl (fun _=>⟨rfl,rfl⟩) rfl (fun _ q=>by cases q) ⟨w5.heap.size,0,none⟩ 1 1 [BY x] rfl rfl (uY w5 x) (ints_oneCell .u64 [x]) γ (by simp [maxLen]) γ ?_)
      intro v' w7 q1 q2;obtain ⟨g',gH,xR,tg,Pd⟩:=OZ q1;subst xR;have B7:ag (w7.heap[p]?=w5.heap[p]?):=by
       show w7.heap[p]?=w5.heap[p]?;rw [q2.block p (by simp;have:=R5.o.lt;omega) (fun q=>by cases q)]
       exact qap _ _ R5.o.lt
      have R7:ag (w7.heap[p]?=some (.cells #[By (e+1),v,BY a,BY b,BY c,BY d] 229 (0,0))):=B7.o.trans R5.o.blk;have fC:=R7.o;have t0:∀ o,w7.frozen? (φ p o)=false:=fun o=>by simp [World.frozen?,fC]
      have t1:w7.cell? (φ p 1)=some v:=(by simp [World.cell?,fC]);have t2:w7.cell? (φ p 2)=some (BY a):=(by simp [World.cell?,fC]);have t3:w7.cell? (φ p 3)=some (BY b):=(by simp [World.cell?,fC]);have t4:w7.cell? (φ p 4)=some (BY c):=(by simp [World.cell?,fC]);have t5:w7.cell? (φ p 5)=some (BY d):=(by simp [World.cell?,fC]);clear fC;have YL:Bx w7 (w.heap.size) 227 (BY a') (BY b'):=(q2.block _ (by simp;have:=jI.o.lt;omega) (fun q=>by cases q)).trans (jI.o.alloc _)
      have YT:Bx w7 (w.heap.size+1) 227 (BY c') (BY d'):=(q2.block _ (by simp;have:=dT.o.lt;omega) (fun q=>by cases q)).trans (dT.o.alloc _)
      have y1:=YL.c0;have y2:=YL.c1;have y3:=YT.c0;have y4:=YT.c1;have Pe:p≠w.heap.size:=ω;have Pf:p≠w.heap.size+1:=ω;have Q1:ag (w7.ownsRow 0 35 1 (ψ g' 0 1 gH) 1 ((List.range 0).map (fun j=>Value.int .u64 (f j))++[BY x])):=GH q1
      have Q2:ag (Gs (dX p v) w w7):=((G5.o.alloc _ _).gs _).grown q2 (fun k hk=>by cases hk)
      have FP:ag (∀ q,dX p (ψ g' 0 1 gH) q->dX p v q\/w.heap.size<=q):=by
       show ∀ q,dX p (ψ g' 0 1 gH) q->dX p v q\/w.heap.size<=q;intro q hq;rcases hq with rfl | hq
       ·exact .inl (.inl rfl)
       ·cases hq
        exact .inr (show w.heap.size<=g' by have:=G5.o.size;first | omega | (simp at tg;omega))
      have NE:ag (g'≠p):=by
       show g'≠p;have:=G5.o.size
       first | omega | (simp at tg;omega)
      clear q1 q2 YL YT aK hz hs aJ;go_wp2_with fail;go_ret2;exact ⟨⟨true,rfl,⟨fun _=>K.o,fun _=>rfl⟩,(fun q=>Bool.noConfusion q),fun _=>⟨_,_,_,_,_,aD.o w7 _ B7.o Q1.o (fun q hq=>by cases hq;exact NE.o),FP.o⟩⟩,((((Q2.o.set (.inl rfl) _ _).set (.inl rfl) _ _).set (.inl rfl) _ _).set (.inl rfl) _ _).set (.inl rfl) _ _⟩
     ·rw [ev] at p1 x9
      have EV:ag (v=ψ g 0 i cp):=ev;have GP:ag (g≠p):=R5.o.ne g (by rw [ev];rfl)
      have GL:ag (g<w.heap.size):=(HR.o.own.lt g (by rw [ev];rfl)).2
      have O5:ag (w5.ownsRow 0 35 1 (ψ g 0 i cp) i ((List.range i).map fun j=>Value.int .u64 (f j))):=x9
      clear ev x9 hg;by_cases room:i+1<=cp
      ·go_wp2_with (at_builtin;refine wpList_append_fits _ rfl _ _ 143 rfl 0 35 ii 1 underlying143 aK hs g i cp _ rfl (O5.o.alloc _) ⟨w5.heap.size,0,none⟩ 1 1 [BY x] rfl rfl (uY w5 x) (ints_oneCell .u64 [x]) room ?_)
       intro w7 q1 q2;have Pd:=(q1.lt g rfl).2;have B7:ag (w7.heap[p]?=w5.heap[p]?):=by
        show w7.heap[p]?=w5.heap[p]?;rw [q2.block p (by simp;have:=R5.o.lt;omega) (fun q=>by cases q;exact GP.o rfl)]
        exact qap _ _ R5.o.lt
       have R7:ag (w7.heap[p]?=some (.cells #[By (e+1),v,BY a,BY b,BY c,BY d] 229 (0,0))):=B7.o.trans R5.o.blk;have fC:=R7.o;have t0:∀ o,w7.frozen? (φ p o)=false:=fun o=>by simp [World.frozen?,fC]
       have t1:w7.cell? (φ p 1)=some v:=(by simp [World.cell?,fC]);have t2:w7.cell? (φ p 2)=some (BY a):=(by simp [World.cell?,fC]);have t3:w7.cell? (φ p 3)=some (BY b):=(by simp [World.cell?,fC]);have t4:w7.cell? (φ p 4)=some (BY c):=(by simp [World.cell?,fC]);have t5:w7.cell? (φ p 5)=some (BY d):=(by simp [World.cell?,fC]);clear fC;have YL:Bx w7 (w.heap.size) 227 (BY a') (BY b'):=(q2.block _ (by simp;have:=jI.o.lt;omega) (fun q=>by cases q;have:=GL.o;omega)).trans (jI.o.alloc _)
       have YT:Bx w7 (w.heap.size+1) 227 (BY c') (BY d'):=(q2.block _ (by simp;have:=dT.o.lt;omega) (fun q=>by cases q;have:=GL.o;omega)).trans (dT.o.alloc _)
       have y1:=YL.c0;have y2:=YL.c1;have y3:=YT.c0;have y4:=YT.c1;have Pe:p≠w.heap.size:=ω;have Pf:p≠w.heap.size+1:=ω;have Q1:ag (w7.ownsRow 0 35 1 (ψ g 0 (i+1) cp) (i+1) ((List.range i).map (fun j=>Value.int .u64 (f j))++[BY x])):=GH q1
       have Q2:ag (Gs (dX p v) w w7):=((G5.o.alloc _ _).gs _).grown q2 (fun k hk=>by cases hk;exact .inr (by rw [EV.o];rfl))
       have FP:ag (∀ q,dX p (ψ g 0 (i+1) cp) q->dX p v q\/w.heap.size<=q):=by
        show ∀ q,dX p (ψ g 0 (i+1) cp) q->dX p v q\/w.heap.size<=q;intro q hq;rcases hq with rfl | hq
        ·exact .inl (.inl rfl)
        ·cases hq
         exact .inl (.inr (by rw [EV.o];rfl))
       have NE:ag (g≠p):=GP.o;clear q1 q2 YL YT aK hz hs aJ;go_wp2_with fail;go_ret2;exact ⟨⟨true,rfl,⟨fun _=>K.o,fun _=>rfl⟩,(fun q=>Bool.noConfusion q),fun _=>⟨_,_,_,_,_,aD.o w7 _ B7.o Q1.o (fun q hq=>by cases hq;exact NE.o),FP.o⟩⟩,((((Q2.o.set (.inl rfl) _ _).set (.inl rfl) _ _).set (.inl rfl) _ _).set (.inl rfl) _ _).set (.inl rfl) _ _⟩
      ·go_wp2_with (at_builtin;refine wpList_append_grows _ rfl _ _ 143 rfl 35 ii (BY 0) 1 8 underlying143 aK hz hs aJ rfl γ (some (φ g 0)) i cp ((List.range i).map fun j=>Value.int .u64 (f j)) rfl (fun q=>by cases q) ε (fun bb q=>by cases q;exact (O5.o.alloc _).cells rfl) ⟨w5.heap.size,0,none⟩ 1 1 [BY x] rfl rfl (uY w5 x) (ints_oneCell .u64 [x]) ω θ ω ?_)
       intro v' w7 q1 q2;obtain ⟨g',gH,xR,tg,Pd⟩:=OZ q1;subst xR;have B7:ag (w7.heap[p]?=w5.heap[p]?):=by
        show w7.heap[p]?=w5.heap[p]?;rw [q2.block p (by simp;have:=R5.o.lt;omega) (fun q=>by cases q)]
        exact qap _ _ R5.o.lt
       have R7:ag (w7.heap[p]?=some (.cells #[By (e+1),v,BY a,BY b,BY c,BY d] 229 (0,0))):=B7.o.trans R5.o.blk;have fC:=R7.o;have t0:∀ o,w7.frozen? (φ p o)=false:=fun o=>by simp [World.frozen?,fC]
       have t1:w7.cell? (φ p 1)=some v:=(by simp [World.cell?,fC]);have t2:w7.cell? (φ p 2)=some (BY a):=(by simp [World.cell?,fC]);have t3:w7.cell? (φ p 3)=some (BY b):=(by simp [World.cell?,fC]);have t4:w7.cell? (φ p 4)=some (BY c):=(by simp [World.cell?,fC]);have t5:w7.cell? (φ p 5)=some (BY d):=(by simp [World.cell?,fC]);clear fC;have YL:Bx w7 (w.heap.size) 227 (BY a') (BY b'):=(q2.block _ (by simp;have:=jI.o.lt;omega) (fun q=>by cases q)).trans (jI.o.alloc _)
       have YT:Bx w7 (w.heap.size+1) 227 (BY c') (BY d'):=(q2.block _ (by simp;have:=dT.o.lt;omega) (fun q=>by cases q)).trans (dT.o.alloc _)
       have y1:=YL.c0;have y2:=YL.c1;have y3:=YT.c0;have y4:=YT.c1;have Pe:p≠w.heap.size:=ω;have Pf:p≠w.heap.size+1:=ω;have Q1:ag (w7.ownsRow 0 35 1 (ψ g' 0 (i+1) gH) (i+1) ((List.range i).map (fun j=>Value.int .u64 (f j))++[BY x])):=GH q1
       have Q2:ag (Gs (dX p v) w w7):=((G5.o.alloc _ _).gs _).grown q2 (fun k hk=>by cases hk)
       have FP:ag (∀ q,dX p (ψ g' 0 (i+1) gH) q->dX p v q\/w.heap.size<=q):=by
        show ∀ q,dX p (ψ g' 0 (i+1) gH) q->dX p v q\/w.heap.size<=q;intro q hq;rcases hq with rfl | hq
        ·exact .inl (.inl rfl)
        ·cases hq
         exact .inr (show w.heap.size<=g' by have:=G5.o.size;first | omega | (simp at tg;omega))
       have NE:ag (g'≠p):=by
        show g'≠p;have:=G5.o.size
        first | omega | (simp at tg;omega)
       clear q1 q2 YL YT aK hz hs aJ;go_wp2_with fail;go_ret2;exact ⟨⟨true,rfl,⟨fun _=>K.o,fun _=>rfl⟩,(fun q=>Bool.noConfusion q),fun _=>⟨_,_,_,_,_,aD.o w7 _ B7.o Q1.o (fun q hq=>by cases hq;exact NE.o),FP.o⟩⟩,((((Q2.o.set (.inl rfl) _ _).set (.inl rfl) _ _).set (.inl rfl) _ _).set (.inl rfl) _ _).set (.inl rfl) _ _⟩
theorem abV {b:Int} (h:RF w p v e n f a b c d) (x:Int) (x0:0<=x) (x1:x<18446744073709551616) (hn:n<=4000000) (hp:0<n) (hx:x<=f (n-1)) :
  Calls prog 146 #[IS p,BY x] w fun ex w'=>ex=π #[.bool false,By 40]/\Gw w w':=by
 obtain ⟨c0,c1,_⟩:=h.cells;have hl:=h.lt;obtain ⟨ao,cap,ev,ks⟩:=h.ks;rw [ev] at c1;obtain ⟨bk,off,eo,hb,hc⟩:=ks.cells hp;subst eo;obtain ⟨pr,hpr⟩:∃ pr:Nat,(n:Int)-1=pr:=⟨n-1,ω⟩;have Bv:pr<n:=ω;have hw:=sJ pr ω;have k1:=hc pr Bv;rw [show n-1=pr by omega] at hx
 clear h ks hc ev;generalize f pr=fp at k1 hx;go_enter func146,ntmps146;go_wp2_with fail;go_ret2;exact ⟨rfl,Gw.refl w⟩
def oy (w:World) (p:Nat) (S:Nat->Prop) (e:Int) (n:Nat) (f:Nat->Int):Prop:=∃ v a b c d,RF w p v e n f a b c d/\∀ q,S q↔dX p v q
theorem Pg (h:oy w p S e n f) (x:Int) (x0:0<=x) (x1:x<18446744073709551616) (hn:n<=4000000) :
  Calls prog 146 #[IS p,BY x] w fun ex w' =>
   (∃ (ok:Bool) (err:Int) (S':Nat->Prop),ex=π #[.bool ok,By err]/\Fi e n f x ok err/\oy w' p S' e (if ok then n+1 else n) (if ok then aG f n x else f)/\∀ q,S' q->S q\/w.heap.size<=q)/\Gs S w w':=by
 obtain ⟨v,a,b,c,d,h,hS⟩:=h;by_cases hx:0<n/\x<=f (n-1)
 ·refine (abV h x x0 x1 hn hx.1 hx.2).mono ?_
  rintro ex w' ⟨rfl,g⟩;exact ⟨⟨false,40,S,rfl,.inl ⟨hx.1,hx.2,rfl,rfl⟩,⟨v,a,b,c,d,h.gw g,hS⟩,fun q hq=>.inl hq⟩,g.gs S⟩
 ·refine (abU h x x0 x1 hn (fun h0=>by
   rcases Int.lt_or_le (f (n-1)) x with q | q
   ·exact q
   ·exact absurd ⟨h0,q⟩ hx)).mono ?_
  rintro ex w' ⟨⟨ok,rfl,h1,h2,h3⟩,g⟩;have g':Gs S w w':=⟨g.os,g.tape,g.output,g.size,fun q hq hs=>g.block q hq (fun r=>hs ((hS q).2 r))⟩
  cases ok with
  | true =>
   obtain ⟨v',a',b',c',d',hr,hf⟩:=h3 rfl;exact ⟨⟨true,0,dX p v',rfl,.inr ⟨hx,rfl,h1⟩,⟨v',a',b',c',d',hr,fun q=>Iff.rfl⟩,fun q hq=>by
    rcases hf q hq with r | r
    ·exact .inl ((hS q).2 r)
    ·exact .inr r⟩,g'⟩
  | false=>exact ⟨⟨false,0,S,rfl,.inr ⟨hx,rfl,h1⟩,⟨v,a,b,c,d,h.gw (h2 rfl),hS⟩,fun q hq=>.inl hq⟩,g'⟩
theorem Gs.gw (h:Gw W w) (g:Gs S w w') (hS:∀ q,S q->W.heap.size<=q):Gw W w' :=
 ⟨⟨g.os.trans h.below.os,g.tape.trans h.below.tape,g.output.trans h.below.output,Φ h.below.size g.size,fun q hq=>(g.block q (Θ hq h.below.size) (fun s=>by have:=hS q s;omega)).trans (h.below.block q hq)⟩⟩
structure pH (HF:World->Nat->(Nat->Prop)->Int->Nat->(Nat->Int)->Prop):Prop where
 keep:∀ {w w':World} {p:Nat} {S:Nat->Prop} {e:Int} {n:Nat} {f:Nat->Int},HF w p S e n f->(∀ q,S q->w'.heap[q]?=w.heap[q]?)->HF w' p S e n f
 lt:∀ {w:World} {p:Nat} {S:Nat->Prop} {e:Int} {n:Nat} {f:Nat->Int},HF w p S e n f->∀ q,S q->q<w.heap.size
 ext:∀ {w:World} {p:Nat} {S:Nat->Prop} {e:Int} {n:Nat} {f g:Nat->Int},HF w p S e n f->(∀ i,i<n->f i=g i)->HF w p S e n g
 facts:∀ {w:World} {p:Nat} {S:Nat->Prop} {e:Int} {n:Nat} {f:Nat->Int},HF w p S e n f->Up f n/\(∀ i,i<n->0<=f i/\f i<18446744073709551616)/\aY e f (aC n)/\1<=e/\e<=63
 bad:∀ (eps:Int),¬ (2<=eps/\eps<=64)->∀ w:World,Calls prog 173 #[By eps] w fun ex w'=>ex=π #[.pointer none,By 1]/\Gw w w'
 new:∀ (eps:Int),2<=eps->eps<=64->∀ w:World,Calls prog 173 #[By eps] w fun ex w'=>(∃ p S,ex=π #[IS p,By 0]/\(∀ q,S q->w.heap.size<=q)/\HF w' p S (eps-1) 0 (fun _=>0))/\Gw w w'
 add:∀ {w:World} {p:Nat} {S:Nat->Prop} {e:Int} {n:Nat} {f:Nat->Int},HF w p S e n f->∀ x:Int,0<=x->x<18446744073709551616->n<=3000000 ->
  Calls prog 190 #[IS p,BY x] w fun ex w' =>
   (∃ (ok:Bool) (err:Int) (S':Nat->Prop),ex=π #[.bool ok,By err]/\Fi e n f x ok err/\HF w' p S' e (if ok then n+1 else n) (if ok then aG f n x else f)/\∀ q,S' q->S q\/w.heap.size<=q)/\Gs S w w'
 least:∀ {w:World} {p:Nat} {S:Nat->Prop} {e:Int} {n:Nat} {f:Nat->Int},HF w p S e n f->n<=3000001->Calls prog 193 #[IS p] w fun ex w'=>(∃ a b,ex=χ (.agg #[BY a,BY b])/\bM e f (aC n) a b/\a<18446744073709551616/\b<18446744073709551616)/\Gw w w'
theorem pH.gw {HF:World->Nat->(Nat->Prop)->Int->Nat->(Nat->Int)->Prop} (H:pH HF) (h:HF w p S e n f) (g:Gw w w'):HF w' p S e n f :=
 H.keep h fun q hq=>g.below.block q (H.lt h q hq)
theorem GM:(prog.info? 3).map (fun i=>(i.zero,i.size,i.bytes))=some (some (By 0),1,8):=η
def IR (w:World) (base:Nat) (v:Value) (l:List Nat):Prop:=w.ownsRow base 3 1 v l.length (l.map fun (j:Nat)=>Value.int .i64 (j:Int))
variable {l:List Nat}
theorem Bw (h:IR w base v l) (k:∀ q,v.ownBlock=some q->w'.heap[q]?=w.heap[q]?):IR w' base v l:=by
 refine ⟨h.1,?_⟩;rcases h.2 with q | ⟨g,cap,cur,rfl,hb,hh,r⟩
 ·exact .inl q
 ·exact .inr ⟨g,cap,cur,rfl,hb,(k g rfl).trans hh,r⟩
theorem mZ (h:IR w base v l):∀ q,v.ownBlock=some q->base<=q/\q<w.heap.size:=fun q hq=>World.ownsRow.lt h q hq
theorem Ph (h:IR w base v l) (g:Gw w w'):IR w' base v l:=Bw h fun q hq=>g.below.block q (mZ h q hq).2
theorem yd (w:World) (base:Nat):IR w base (.slice none 0 0) []:=qaL _ _ _ _
theorem abW (w:World) (base:Nat) (hb:base<=w.heap.size):IR (w.alloc (.cells #[] 3)) base (ψ w.heap.size 0 0 0) []:=World.ownsRow_made w #[] 0 hb (Γ _) rfl
theorem Pj (h:IR w base v l):∃ ao cap,v=.slice ao l.length cap/\(ao=none->l=[]/\cap=0)/\(∀ ad,ao=some ad->∃ g,ad=⟨g,0,none⟩/\base<=g/\g<w.heap.size/\∀ i,i<l.length->w.cell? (φ g i)=some (By ((l.getD i 0:Nat):Int))):=by
 rcases h.2 with ⟨rfl,q⟩ | ⟨g,cap,cur,rfl,hb,hh,r⟩
 ·have:l=[]:=qbd q
  subst this;exact ⟨none,0,rfl,fun _=>⟨rfl,rfl⟩,fun ad e=>by cases e⟩
 ·refine ⟨some ⟨g,0,none⟩,cap,rfl,(fun e=>by cases e),fun ad e=>⟨g,by cases e;rfl,hb,(qab.1 hh).1,fun i hi=>?_⟩⟩
  have:=World.ownsRow.cellAt h i ω
  rw [this];simp [hi,List.getD]
theorem Bz (w:World) (x:Int):∀ j u,[Value.int .i64 x][j]?=some u->(w.alloc (.cells #[By x] 3)).cell? ((⟨w.heap.size,0,none⟩:Addr).add j)=some u:=by
 intro j u hu;cases j with
 | zero =>
  simp only [List.getElem?_cons_zero,Option.some.injEq] at hu;subst hu;simp [Addr.add,go_sem]
 | succ j=>simp at hu
def pI (f:Nat->Int) (m j:Nat):Int:=if j<m then f j else 0
theorem tv {m j:Nat} (h:j<m):pI f m j=f j:=Ym h
theorem BA (f:Nat->Int) (m:Nat):aG (pI f m) m (f m)=pI f (m+1):=by
 funext j
 by_cases e:j=m
 ·subst e;rw [eF,tv ω]
 ·by_cases e':j<m
  ·rw [bJ e',tv e',tv ω]
  ·unfold aG
   rw [Yl e];unfold pI;rw [Yl e',Yl ω]
theorem Pk (f:Nat->Int):pI f 0=fun _=>0:=by funext j;exact Yl ω
theorem GN (h:oy w p S e n f):∀ q,S q->q<w.heap.size:=by obtain ⟨v,a,b,c,d,hR,hS⟩:=h;exact fun q hq=>hR.in q ((hS q).1 hq)
theorem Pm (h:oy w p S e n f) (k:∀ q,S q->w'.heap[q]?=w.heap[q]?):oy w' p S e n f:=by obtain ⟨v,a,b,c,d,hR,hS⟩:=h;exact ⟨v,a,b,c,d,hR.keep fun q hq=>k q ((hS q).2 hq),hS⟩
theorem Pn (h:Gw W w) (g:Gs S w w') (hS:∀ q,S q->W.heap.size<=q):Gw W w' :=
 ⟨⟨g.os.trans h.below.os,g.tape.trans h.below.tape,g.output.trans h.below.output,Φ h.below.size g.size,fun q hq=>(g.block q (Θ hq h.below.size) (fun s=>by have:=hS q s;omega)).trans (h.below.block q hq)⟩⟩
structure vD (w0 w:World) (p:Nat) (S:Nat->Prop) (e:Int) (f:Nat->Int) (s i:Nat):Prop where
 fit:oy w p S e (i-s) (pI (sh f s) (i-s))
 new:∀ q,S q->w0.heap.size<=q
 on:aY e (sh f s) (aC (i-s))
theorem Po {w0:World} {s i:Nat} (h:vD w0 w p S e f s i) (g0:Gw w0 w) (hs:s<=i) (hi:i<n) (u:Up f n) (x:Int) (hx:f i=x) (x0:0<=x) (x1:x<18446744073709551616) (hn:n<=4000000) :
  Calls prog 146 #[IS p,BY x] w fun ex w' =>
   ∃ (ok:Bool) (err:Int) (S':Nat->Prop),ex=π #[.bool ok,By err]/\(ok=true↔aY e (sh f s) (aC (i+1-s)))/\(ok=true->vD w0 w' p S' e f s (i+1))/\(∀ q,S' q->S q\/w.heap.size<=q)/\Gs S w w'/\Gw w0 w':=by
 refine (Pg h.fit x x0 x1 ω).mono ?_;rintro ex w' ⟨⟨ok,err,S',rfl,hA,hF,gU⟩,g⟩;have ei:i+1-s=i-s+1:=ω;have ye:sh f s (i-s)=x:=by show f (s+(i-s))=x;rw [show s+(i-s)=i by omega];exact hx
 have UF:∀ j,j<i-s+1->aG (pI (sh f s) (i-s)) (i-s) x j=sh f s j:=fun j hj=>by rw [<-ye,BA,tv hj]
 have HC:ok=true↔aY e (sh f s) (aC (i+1-s)):=by
  rw [ei];rcases hA with ⟨q1,q2,_⟩ | ⟨_,_,q3⟩
  ·exfalso
   rw [tv ω] at q2;have q4:f (s+(i-s-1))<f i:=u.lt ω hi;have q5:sh f s (i-s-1)=f (s+(i-s-1)):=rfl;omega
  ·refine q3.trans ⟨fun q=>q.congr (fun _ _ s=>s) (fun a b s=>?_),fun q=>q.congr (fun _ _ s=>s) (fun a b s=>?_)⟩
   all_goals rw [UF b (by have:=s.2;omega),UF a (by have:=s.1;have:=s.2;omega)]
 refine ⟨ok,err,S',rfl,HC,fun q=>?_,gU,g,Pn g0 g h.new⟩
 have on:=HC.1 q;subst q;refine ⟨?_,fun q hq=>?_,on⟩
 ·rw [Ym rfl,Ym rfl,<-ye,BA] at hF
  rw [ei];exact hF
 ·rcases gU q hq with r | r
  ·exact h.new q r
  ·have:=g0.size;omega
theorem Pp (w0 w:World) (eps:Int) (e1:2<=eps) (e2:eps<=64) (f:Nat->Int) (s:Nat) (g0:Gw w0 w) :
  Calls prog 145 #[By eps] w fun ex w'=>(∃ p S,ex=π #[IS p,By 0]/\vD w0 w' p S (eps-1) f s s/\(∀ q,S q->w.heap.size<=q))/\Gw w w':=by
 refine (Nn eps e1 e2 w).mono ?_;rintro ex w' ⟨⟨p,rfl,hp,hF⟩,g⟩;have hS:∀ q,dX p (.slice none 0 0) q->w.heap.size<=q:=fun q hq=>by
  rcases hq with rfl | hq
  ·exact hp
  ·simp [Value.ownBlock] at hq
 refine ⟨⟨p,dX p (.slice none 0 0),rfl,⟨?_,fun q hq=>?_,?_⟩,hS⟩,g⟩
 ·rw [Nat.sub_self,Pk]
  exact ⟨_,_,_,_,_,hF,fun q=>Iff.rfl⟩
 ·have:=hS q hq;have:=g0.size;omega
 ·rw [Nat.sub_self]
  intro a b a' b' q;have:=q.1;have:=q.2;omega
def Pq (base:Nat) (w':World) (ex:Ending) (eps:Int) (f:Nat->Int) (n:Nat):Prop:=∃ v l err,ex=π #[v,By err]/\qJ eps f n l err/\IR w' base v l
theorem abX (eps:Int) (ao:Option Addr) (n cp:Nat) (f:Nat->Int) (p0:-9223372036854775808<=eps) (p1:eps<9223372036854775808) (hn:n<=2000000) (w:World) (h:KS w ao n f) :
  Calls prog 130 #[.slice ao n cp,By eps] w fun ex w'=>Pq w.heap.size w' ex eps f n/\Gw w w':=by
 have HK:ag _:=h;clear h;obtain ⟨ii,aK,hz,hs,aJ⟩:=info_parts GM;by_cases k0:¬ (2<=eps/\eps<=64)
 ·have R:ag (qJ eps f n [] 1):=.inl ⟨k0,rfl,rfl⟩
  have pJ:ag _:=fun W=>Zz eps k0 W
  clear k0;go_enter func130,ntmps130;go_wp2_with fail;refine (pJ.o _).mono ?_;rintro ex w1 ⟨rfl,g1⟩;go_wp2_with fail;exact bodyPost_ret (v:=.tuple #[.slice none 0 0,By 1]) (by simp [results,results130,go_sem]) rfl ⟨⟨_,[],1,rfl,R.o,yd _ _⟩,g1⟩
 ·have KE:ag (2<=eps/\eps<=64):=Classical.not_not.1 k0
  have k2:=KE.o.1;have k3:=KE.o.2;clear k0;go_enter func130,ntmps130;go_wp2_with fail;refine (Pp w _ eps k2 k3 f 0 (Gw.refl w)).mono ?_;rintro ex w1 ⟨⟨p,S,rfl,hF,_⟩,g1⟩;have F1:ag _:=hF;have G1:ag _:=g1;clear hF g1;go_wp2_with fail;refine (Fl ao n cp f ω _ (HK.o.gw G1.o)).mono ?_;rintro ex w2 ⟨⟨r,rfl,hr⟩,g2⟩;have HR:ag _:=hr;have G2:ag _:=G1.o.trans g2;have F2:ag (vD w w2 p S (eps-1) f 0 0):=⟨Pm F1.o.fit fun q hq=>g2.below.block q (GN F1.o.fit q hq),F1.o.new,F1.o.on⟩
  clear hr g2 F1 G1;cases r with
  | false =>
   have R:ag (qJ eps f n [] 60):=.inr (.inl ⟨KE.o,fun q=>by have:=HR.o.2 q;simp at this,rfl,rfl⟩)
   go_wp2_with fail;exact bodyPost_ret (v:=.tuple #[.slice none 0 0,By 60]) (by simp [results,results130,go_sem]) rfl ⟨⟨_,[],60,rfl,R.o,yd _ _⟩,G2.o⟩
  | true =>
   have UP:ag _:=HR.o.1 rfl;clear HR;have I3:ag _:=abW w2 w.heap.size G2.o.size;have G3:ag (Gw w (w2.alloc (.cells #[] 3))):=G2.o.alloc _ _;have F3:ag (vD w (w2.alloc (.cells #[] 3)) p S (eps-1) f 0 0):=⟨Pm F2.o.fit fun q hq=>((Gw.refl w2).alloc _ _).below.block q (GN F2.o.fit q hq),F2.o.new,F2.o.on⟩
   have N3:ag (¬ S w2.heap.size):=fun q=>by have:=GN F2.o.fit _ q;omega
   have B3:ag _:=G2.o.size;clear F2 G2;go_wp2_with fail;generalize w2.alloc (.cells #[] 3)=w3 at I3 G3 F3 ⊢;go_loopg [6,8,9] n (fun gg s6 s8 s9 wr=>∃ (i s p b cap:Nat) (S:Nat->Prop) (l:List Nat),s6=IS p/\s8=ψ b 0 l.length cap/\s9=By i/\s<=i/\i<=n/\n-i<=gg/\l.length<=i/\(s=i->i=0)/\ag (vD w wr p S (eps-1) f s i)/\ag (IR wr w.heap.size (ψ b 0 l.length cap) l)/\ag (¬ S b)/\ag (w.heap.size<=b)/\ag (∀ l',dr (eps-1) f n s l'->dr (eps-1) f n 0 (l++l'))/\ag (Gw w wr))
   case atStart=>exact ⟨0,0,p,w2.heap.size,0,S,[],rfl,rfl,rfl,Yk _,Γ _,ω,Yk _,fun _=>rfl,F3,I3,N3,B3,(show ag _ from fun l' h=>h),G3⟩
   case round =>
    clear F3 I3 N3 B3 G3;obtain ⟨i,s,p,b,cap,S,l,rfl,rfl,rfl,h1,h2,h3,h4,h5,F,I,NB,BB,eS,G⟩:=hrel;by_cases ar:i<n
    ·obtain ⟨bk,off,rfl,gR,hc⟩:=(HK.o.gw G.o).cells ω
     have q1:=hc i ar;obtain ⟨y0,y1⟩:=HK.o.bd i ar;obtain ⟨fi,fB⟩:=qbr (f i);have FI:ag _:=fB;rw [fB] at q1 y0 y1;clear hc fB;go_wp2_with fail;refine (Po F.o G.o h1 ar UP.o fi FI.o y0 y1 ω).mono ?_;rintro ex w4 ⟨ok,err,S',rfl,fD,hF,gU,gs,g4⟩;have OK:ag _:=fD;have G4:ag _:=g4;have I4:ag _:=Bw I.o fun q hq=>by
      cases hq
      exact gs.block b (mZ I.o b rfl).2 NB.o
     cases ok with
     | true =>
      have F4:ag _:=hF rfl;have GO:ag (¬ S' b):=fun q=>by
       rcases gU b q with r | r
       ·exact NB.o r
       ·have:=(mZ I.o b rfl).2;omega
      clear fD hF gU gs g4 F I NB G OK q1;go_wp2_with fail;go_roundg (n-(i+1))
      case measure=>omega
      case rel=>exact ⟨i+1,s,p,b,cap,S',l,rfl,rfl,by go_num,ω,ω,Yk _,ω,fun q=>ω,F4,I4,GO,BB,eS,G4⟩
     | false =>
      have si:s<i:=by
       rcases qaB s i with q | q
       ·exact q
       ·exfalso
        have e:s=i:=ω;have:aY (eps-1) (sh f s) (aC (i+1-s)):=Az ω (qK UP.o (show i+1<=n by omega)) ω
        have:=OK.o.2 this
        simp at this
      have ON:ag _:=F.o.on;have NX:ag (∀ l',dr (eps-1) f n i l'->dr (eps-1) f n 0 ((l++[i])++l')):=fun l' h=>by rw [qaI];exact eS.o (i::l') ⟨si,ω,ON.o,fun _ q=>by have:=OK.o.2 q;simp at this,h⟩
      have q2:w4.cell? (φ bk (off+i))=some (BY fi):=(by obtain ⟨xX,vx,e,_,iX⟩:=(HK.o.gw G4.o).cells ω;cases e;rw [iX i ar,FI.o]);have BC:bk<w4.heap.size:=by
       have:=(HK.o.gw G4.o).cells ω
       obtain ⟨xX,vx,e,eQ,_⟩:=this;cases e;exact eQ
      clear fD hF gU gs g4 F I NB G OK eS ON q1;have z4:=G4.o.size;go_wp2_with (at_builtin;refine wpList_append_own _ rfl _ _ 44 rfl w.heap.size 3 ii (By 0) 1 8 underlying44 aK hz hs aJ rfl γ _ l.length _ rfl (I4.o.alloc _) ⟨w4.heap.size,0,none⟩ 1 1 [By (i:Int)] rfl rfl (Bz w4 i) (ints_oneCell .i64 [(i:Int)]) θ ω ζ ?_);intro v' w5 r1 r2 r3;obtain ⟨b5,cB,rfl,dZ,_,_⟩:=cJ r1 (by simpa using r3)
      have I5:ag (IR w5 w.heap.size (ψ b5 0 (l++[i]).length cB) (l++[i])):=by
       have:=r1
       simp only [IR,Ψ,qak,List.length_nil,qaV,qaw,List.map_nil];show World.ownsRow _ _ _ _ _ _ _;simpa using this
      have G5:ag (Gw w w5):=(G4.o.alloc _ _).grown r2 (fun k hk=>by cases hk;exact BB.o)
      have B5:ag _:=dZ;have e5:(l++[i]).length=l.length+1:=ε;have q5:w5.cell? (φ bk (off+i))=some (BY fi):=(by obtain ⟨xX,vx,e,_,iX⟩:=(HK.o.gw G5.o).cells ω;cases e;rw [iX i ar,FI.o]);clear r1 r2 r3 I4 BB dZ q2 BC;go_wp2_with fail;refine (Pp w _ eps k2 k3 f i G5.o).mono ?_;rintro ex w6 ⟨⟨p6,S6,rfl,Pr,Ps⟩,g6⟩;have F6:ag _:=Pr;have G6:ag _:=G5.o.trans g6;have I6:ag _:=Ph I5.o g6;have Ha:ag (¬ S6 b5):=fun q=>by have:=Ps b5 q;have:=(mZ I5.o b5 rfl).2;omega
      have q6:w6.cell? (φ bk (off+i))=some (BY fi):=(by obtain ⟨xX,vx,e,_,iX⟩:=(HK.o.gw G6.o).cells ω;cases e;rw [iX i ar,FI.o]);clear Pr Ps g6 G5 I5 q5;go_wp2_with fail;refine (Po F6.o G6.o (Yk _) ar UP.o fi FI.o y0 y1 ω).mono ?_;rintro ex w7 ⟨ok7,aip,S7,rfl,Pt,Pu,Pv,Pw,g7⟩;have o7:ok7=true:=Pt.2 (Az ω (qK UP.o (show i+1<=n by omega)) ω)
      have F7:ag _:=Pu o7;have G7:ag _:=g7;have I7:ag _:=Bw I6.o fun q hq=>by
       cases hq
       exact Pw.block b5 (mZ I6.o b5 rfl).2 Ha.o
      have NB7:ag (¬ S7 b5):=fun q=>by
       rcases Pv b5 q with r | r
       ·exact Ha.o r
       ·have:=(mZ I6.o b5 rfl).2;omega
      clear Pt Pu Pv Pw g7 F6 G6 I6 Ha q6;go_wp2_with fail;go_roundg (n-(i+1))
      case measure=>omega
      case rel=>exact ⟨i+1,i,p6,b5,cB,S7,l++[i],rfl,by rw [e5],by go_num,ω,ω,Yk _,ω,fun q=>ω,F7,I7,NB7,B5,NX,G7⟩
    ·have e:i=n:=(by omega);subst e;by_cases n0:0<i
     ·have si:s<i:=by
       rcases qaB s i with q | q
       ·exact q
       ·have:=h5 ω;omega
      have R:ag (qJ eps f i (l++[i]) 0):=.inr (.inr ⟨KE.o,UP.o,eS.o [i] ⟨si,Yk _,F.o.on,fun q=>absurd q (Nat.lt_irrefl _),rfl⟩,rfl⟩)
      have tn:(0:Int)<(i:Int):=ω;have z4:=G.o.size;clear F eS NB;go_wp2_with (at_builtin;refine wpList_append_own _ rfl _ _ 44 rfl w.heap.size 3 ii (By 0) 1 8 underlying44 aK hz hs aJ rfl γ _ l.length _ rfl (I.o.alloc _) ⟨wr.heap.size,0,none⟩ 1 1 [By (i:Int)] rfl rfl (Bz wr i) (ints_oneCell .i64 [(i:Int)]) θ ω ζ ?_);intro v' w5 r1 r2 r3;have I5:ag (IR w5 w.heap.size v' (l++[i])):=by
       have:=r1
       simp only [IR,Ψ,qak,List.length_nil,qaV,qaw,List.map_nil];show World.ownsRow _ _ _ _ _ _ _;simpa using this
      have G5:ag (Gw w w5):=(G.o.alloc _ _).grown r2 (fun k hk=>by cases hk;exact BB.o)
      clear r1 r2 r3;go_wp2_with fail;exact bodyPost_ret (v:=.tuple #[v',By 0]) (by simp [results,results130,go_sem]) rfl ⟨⟨_,_,0,rfl,R.o,I5.o⟩,G5.o⟩
     ·have ei:i=0:=(by omega);subst ei;have es:s=0:=ω;subst es;have R:ag (qJ eps f 0 l 0):=.inr (.inr ⟨KE.o,UP.o,by simpa using eS.o [] rfl,rfl⟩)
      clear F eS NB;go_wp2_with fail;exact bodyPost_ret (v:=.tuple #[ψ b 0 l.length cap,By 0]) (by simp [results,results130,go_sem]) rfl ⟨⟨_,_,0,rfl,R.o,I.o⟩,G.o⟩
def Px (ex:Ending) (eps:Int) (f:Nat->Int) (n:Nat):Prop:=∃ a b c err:Int,ex=χ (.tuple #[.agg #[BY a,BY b,By c],By err])/\eG eps f n a b c err/\(0<=a/\a<18446744073709551616)/\(0<=b/\b<18446744073709551616)/\(-9223372036854775808<=c/\c<9223372036854775808)
theorem Gs.gw5 (h:Gw W w) (g:Gs S w w') (hS:∀ q,S q->W.heap.size<=q):Gw W w' :=
 ⟨⟨g.os.trans h.below.os,g.tape.trans h.below.tape,g.output.trans h.below.output,Φ h.below.size g.size,fun q hq=>(g.block q (Θ hq h.below.size) (fun s=>by have:=hS q s;omega)).trans (h.below.block q hq)⟩⟩
theorem aY.part {m:Nat} (h:aY e f (aC n)) (hm:m<=n):aY e f (aC m):=fun i j i' j' s s'=>h i j i' j' ⟨s.1,by have:=s.2;omega⟩ ⟨s'.1,by have:=s'.2;omega⟩
theorem abY {b C C' Q:Int} {j:Nat} (EQ:a*(f j-f 0)/b=Q) (h:∀ x,x<j->(x:Int)-e<=a*(f x-f 0)/b+C) (h':0<j->∃ x,x<j/\(x:Int)-e=a*(f x-f 0)/b+C)
  (k1:(j:Int)-e-Q<=C') (k2:0<j->C<=C') (k3:C'=(j:Int)-e-Q\/(0<j/\C'=C)):(∀ x,x<j+1->(x:Int)-e<=a*(f x-f 0)/b+C')/\(0<j+1->∃ x,x<j+1/\(x:Int)-e=a*(f x-f 0)/b+C'):=by
 refine ⟨fun x hx=>?_,fun _=>?_⟩
 ·by_cases q:x=j
  ·rw [q,EQ];omega
  ·have:=h x ω
   have:=k2 ω
   omega
 ·rcases k3 with k3 | ⟨q,k3⟩
  ·exact ⟨j,ω,by rw [EQ,k3];omega⟩
  ·obtain ⟨x,hx,ex⟩:=h' q
   exact ⟨x,ω,by rw [k3];exact ex⟩
def Ln (w:World) (b:Nat) (x y z:Int):Prop:=w.heap[b]?=some (.cells #[BY x,BY y,By z] 212 (0,0))
variable {b:Nat} {x y z:Int}
theorem Ln.lt (h:Ln w b x y z):b<w.heap.size:=(qab.1 h).1
theorem Ln.c0 (h:Ln w b x y z):w.cell? (φ b 0)=some (BY x):=by unfold Ln at h;simp [World.cell?,h]
theorem Ln.c1 (h:Ln w b x y z):w.cell? (φ b 1)=some (BY y):=by unfold Ln at h;simp [World.cell?,h]
theorem Ln.c2 (h:Ln w b x y z):w.cell? (φ b 2)=some (By z):=by unfold Ln at h;simp [World.cell?,h]
theorem Ln.fz (h:Ln w b x y z) (o:Nat):w.frozen? (φ b o)=false:=by unfold Ln at h;simp [World.frozen?,h]
theorem Ln.gw (h:Ln w b x y z) (g:Gw w w'):Ln w' b x y z:=(g.below.block b h.lt).trans h
theorem Ln.far (h:Ln w b x y z) {q o:Nat} (u:Value) (hq:b≠q):Ln (w.setCell (φ q o) u) b x y z:=(qac _ _ _ _ hq).trans h
theorem Ln.set2 (h:Ln w b x y z) (z':Int):Ln (w.setCell (φ b 2) (By z')) b x y z':=by unfold Ln at h ⊢;simp [World.setCell,Array.getElem?_modify,h]
theorem Ln.gs (h:Ln w b x y z) (g:Gs S w w') (n:¬ S b):Ln w' b x y z:=(g.block b h.lt n).trans h
theorem abZ (DD:aac) (eps:Int) (ao:Option Addr) (n cp:Nat) (f:Nat->Int) (p0:-9223372036854775808<=eps) (p1:eps<9223372036854775808) (hn:n<=2000000) (w:World) (h:KS w ao n f) :
  Calls prog 147 #[.slice ao n cp,By eps] w fun ex w'=>Px ex eps f n/\Gw w w':=by
 have HK:ag _:=h;clear h;have G0:ag (Gw w (w.alloc (.cells #[BY 0,BY 0,By 0] 212))):=(Gw.refl w).alloc _ _;have Z0:ag (Ln (w.alloc (.cells #[BY 0,BY 0,By 0] 212)) w.heap.size 0 0 0):=Ω w _;by_cases k0:¬ (2<=eps/\eps<=64)
 ·have R:ag (eG eps f n 0 0 0 1):=.inl ⟨k0,rfl,rfl,rfl,rfl⟩
  by_cases k1:eps<2
  ·have t1:decide (eps<2)=true:=(by simpa using k1);clear k0;go_enter func147,ntmps147;go_wp2_with fail;refine bodyPost_ret (v:=.tuple #[.agg #[BY 0,BY 0,By 0],By 1]) (by simp [results,results147,go_sem]) rfl ⟨⟨0,0,0,1,rfl,R.o,ω,ω,ω⟩,?_⟩
   first | exact G0.o | (refine Gw.setCell (Gw.setCell (Gw.setCell G0.o ?_ _) ?_ _) ?_ _<;>exact Yk _)
  ·have t1:decide (eps<2)=false:=(by simpa using k1);have k2:64<eps:=ω;have t2:decide (64<eps)=true:=(by simpa using k2);clear k0;go_enter func147,ntmps147;go_wp2_with fail;refine bodyPost_ret (v:=.tuple #[.agg #[BY 0,BY 0,By 0],By 1]) (by simp [results,results147,go_sem]) rfl ⟨⟨0,0,0,1,rfl,R.o,ω,ω,ω⟩,?_⟩
   first | exact G0.o | (refine Gw.setCell (Gw.setCell (Gw.setCell G0.o ?_ _) ?_ _) ?_ _<;>exact Yk _)
 ·have k1:2<=eps/\eps<=64:=Classical.not_not.1 k0
  have KE:ag _:=k1;have t1:decide (eps<2)=false:=by simp;omega
  have t2:decide (64<eps)=false:=by simp;omega
  obtain ⟨k2,k3⟩:=k1;clear k0;by_cases hz:n=0
  ·have R:ag (eG eps f n 0 0 0 50):=.inr (.inl ⟨KE.o,fun q=>ω,rfl,rfl,rfl,rfl⟩)
   subst hz;go_enter func147,ntmps147;go_wp2_with fail;refine bodyPost_ret (v:=.tuple #[.agg #[BY 0,BY 0,By 0],By 50]) (by simp [results,results147,go_sem]) rfl ⟨⟨0,0,0,50,rfl,R.o,ω,ω,ω⟩,?_⟩
   first | exact G0.o | (refine Gw.setCell (Gw.setCell (Gw.setCell G0.o ?_ _) ?_ _) ?_ _<;>exact Yk _)
  ·have t3:((n:Int) == 0)=false:=(by simp;omega);go_enter func147,ntmps147;go_wp2_with fail;generalize w.alloc (.cells #[BY 0,BY 0,By 0] 212)=wx at G0 Z0 ⊢;obtain ⟨N,hN⟩:=qbr w.heap.size;have NW:ag (w.heap.size<=N):=qad hN;rw [hN] at Z0 ⊢;clear hN;refine (Fl ao n cp f ω _ (HK.o.gw G0.o)).mono ?_;rintro ex w1 ⟨⟨r,rfl,hr⟩,g1⟩;have G1:ag _:=G0.o.trans g1;have Z1:ag (Ln w1 N 0 0 0):=Z0.o.gw g1;have HR:ag _:=hr;clear g1 hr G0 Z0;cases r with
   | false =>
    have R:ag (eG eps f n 0 0 0 50):=.inr (.inl ⟨KE.o,fun q=>by have:=HR.o.2 q.2;simp at this,rfl,rfl,rfl,rfl⟩)
    have z0:=Z1.o.c0;have z1:=Z1.o.c1;have z2:=Z1.o.c2;have z3:=Z1.o.fz 0;have z4:=Z1.o.fz 1;have z5:=Z1.o.fz 2;have z6:=Z1.o.lt;go_wp2_with fail;refine bodyPost_ret (v:=.tuple #[.agg #[BY 0,BY 0,By 0],By 50]) (by simp [results,results147,go_sem, *]) rfl ⟨⟨0,0,0,50,rfl,R.o,ω,ω,ω⟩,?_⟩
    refine Gw.setCell (Gw.setCell (Gw.setCell G1.o ?_ _) ?_ _) ?_ _<;>exact NW.o
   | true =>
    have UP:ag (Up f n):=HR.o.1 rfl;clear HR;go_wp2_with fail;refine (Nn eps k2 k3 _).mono ?_;rintro ex w2 ⟨⟨p,rfl,hp,hF⟩,g2⟩;have G2:ag _:=G1.o.trans g2;have Z2:ag _:=Z1.o.gw g2;have S2:ag (∀ q,dX p (.slice none 0 0) q->N<q):=fun q hq=>by
     have:=Z1.o.lt
     rcases hq with rfl | hq
     ·omega
     ·simp [Value.ownBlock] at hq
    have F2:ag (oy w2 p (dX p (.slice none 0 0)) (eps-1) 0 (fun _=>0)):=⟨_,_,_,_,_,hF,fun q=>Iff.rfl⟩
    clear g2 hF hp G1 Z1;go_wp2_with fail;go_loopg [8] n (fun gg s8 wr=>∃ (i:Nat) (S:Nat->Prop),s8=By i/\i<=n/\n-i<=gg/\ag (oy wr p S (eps-1) i (fun j=>if j<i then f j else 0))/\ag (∀ q,S q->N<q)/\ag (Ln wr N 0 0 0)/\ag (Gw w wr))
    case atStart=>exact ⟨0,_,rfl,Γ _,ω,(by show oy _ _ _ _ _ _;simpa using F2.o),S2,Z2,G2⟩
    case round =>
     clear F2 S2 Z2 G2;obtain ⟨i,S,rfl,h1,h2,F,SN,Z,G⟩:=hrel;by_cases ar:i<n
     ·obtain ⟨bk,off,rfl,gR,hc⟩:=(HK.o.gw G.o).cells ω
      have q1:=hc i ar;obtain ⟨y0,y1⟩:=HK.o.bd i ar;have SF:ag _:=F.o;have FI:ag (∀ j,j<=i->aG (fun j=>if j<i then f j else 0) i (f i) j=f j):=fun j hj=>by
       by_cases e:j=i
       ·subst e;exact eF _ _ _
       ·rw [bJ ω];exact Ym ω
      have FE:ag (aG (fun j=>if j<i then f j else 0) i (f i)=(fun j=>if j<i+1 then f j else 0)):=by
       show _=_;funext j;by_cases e:j=i
       ·subst e;rw [eF,Ym ω]
       ·by_cases e':j<i
        ·rw [bJ e']
         show (if j<i then f j else 0)=_
         rw [Ym e',Ym ω]
        ·unfold aG
         rw [Yl e];show (if j<i then f j else 0)=_
         rw [Yl e',Yl ω]
      obtain ⟨fi,fB⟩:=qbr (f i);rw [fB] at q1 FI FE y0 y1;clear hc F;go_wp2_with fail;refine (Pg SF.o fi y0 y1 ω).mono ?_;rintro ex w3 ⟨⟨ok,err,S',rfl,hA,hF,gU⟩,g3⟩;have G3:ag _:=Gs.gw5 G.o g3 (fun q hq=>by have:=SN.o q hq;have:=NW.o;omega)
      have Z3:ag (Ln w3 N 0 0 0):=Z.o.gs g3 (fun q=>by have:=SN.o N q;omega)
      have Hb:ag (∀ q,S' q->N<q):=fun q hq=>by
       rcases gU q hq with r | r
       ·exact SN.o q r
       ·have:=Z.o.lt;omega
      have HA:ag _:=hA;have HF:ag _:=hF;have HC:ag (ok=true↔aY (eps-1) f (aC (i+1))):=by
       rcases HA.o with ⟨q1,q2,_⟩ | ⟨_,_,q3⟩
       ·exfalso
        replace q2:fi<=if i-1<i then f (i-1) else 0:=q2
        rw [Ym ω] at q2;have:=UP.o.lt (a:=i-1) (b:=i) ω ar;omega
       ·refine q3.trans ⟨fun q=>q.congr (fun _ _ s=>s) (fun a b s=>?_),fun q=>q.congr (fun _ _ s=>s) (fun a b s=>?_)⟩
        all_goals rw [FI.o b (by have:=s.2;omega),FI.o a (by have:=s.1;have:=s.2;omega)]
      clear hA hF gU g3 HA SF G Z SN q1;cases ok with
      | false =>
       have R:ag (eG eps f n 0 0 0 51):=.inr (.inr (.inl ⟨KE.o,⟨ω,UP.o⟩,fun q=>by have:=HC.o.2 (q.part ω);simp at this,rfl,rfl,rfl,rfl⟩))
       have z0:=Z3.o.c0;have z1:=Z3.o.c1;have z2:=Z3.o.c2;have z3:=Z3.o.fz 0;have z4:=Z3.o.fz 1;have z5:=Z3.o.fz 2;have z6:=Z3.o.lt;go_wp2_with fail;refine bodyPost_ret (v:=.tuple #[.agg #[BY 0,BY 0,By 0],By 51]) (by simp [results,results147,go_sem, *]) rfl ⟨⟨0,0,0,51,rfl,R.o,ω,ω,ω⟩,?_⟩
       refine Gw.setCell (Gw.setCell (Gw.setCell G3.o ?_ _) ?_ _) ?_ _<;>exact NW.o
      | true =>
       have He:ag (oy w3 p S' (eps-1) (i+1) (fun j=>if j<i+1 then f j else 0)):=by
        have:=HF.o
        rw [Ym rfl,Ym rfl,FE.o] at this;exact this
       go_wp2_with fail;go_roundg (n-(i+1))
       case measure=>omega
       case rel=>exact ⟨i+1,S',by go_num,ω,Yk _,He,Hb,Z3,G3⟩
     ·have e:i=n:=(by omega);subst e;obtain ⟨v,a,b,c,d,yf,hS⟩:=F.o;have LE:ag (∀ w',Gw wr w'->RF w' p v (eps-1) i (fun j=>if j<i then f j else 0) a b c d):=fun w' g=>yf.gw g
      have eq:∀ x y,aC i x y->(if y<i then f y else 0)-(if x<i then f x else 0)=f y-f x:=fun x y s=>by rw [Ym s.2,Ym (by have:=s.1;have:=s.2;omega)]
      have LO:ag (bM (eps-1) f (aC i) a b):=yf.low.congr (fun _ _=>Iff.rfl) eq
      have FO:ag (aY (eps-1) f (aC i)):=yf.fit.congr (fun _ _ s=>s) eq
      have a0:=LO.o.a0;have b1:=LO.o.b1;have WD:=yf.wd;clear yf F hS SN eq;go_wp2_with fail;refine (ZA (LE.o wr (Gw.refl _))).mono ?_;rintro ex w3 ⟨rfl,g3⟩;have G3:ag _:=G.o.trans g3;have Z3:ag (Ln w3 N 0 0 0):=Z.o.gw g3;clear g3 G Z LE;go_wp2_with fail;have ML:ag (Ln ((w3.alloc (.cells #[BY a,BY b] 227)).alloc (.cells #[BY a,BY b,By 0] 212)) (w3.heap.size+1) a b 0):=by
       have:=Ω (w3.alloc (.cells #[BY a,BY b] 227)) (.cells #[BY a,BY b,By 0] 212)
       show Ln _ _ _ _ _;simpa [Ln] using this
      have MG:ag (Gw w3 ((w3.alloc (.cells #[BY a,BY b] 227)).alloc (.cells #[BY a,BY b,By 0] 212))):=((Gw.refl w3).alloc _ _).alloc _ _;generalize (w3.alloc (.cells #[BY a,BY b] 227)).alloc (.cells #[BY a,BY b,By 0] 212)=w4 at ML MG ⊢;have Z4:ag _:=Z3.o.gw MG.o;have G4:ag _:=G3.o.trans MG.o;have NL:ag (N<w3.heap.size+1):=(by have:=Z3.o.lt;exact Nat.lt_succ_of_lt this);obtain ⟨L,hL⟩:=qbr (w3.heap.size+1);rw [hL] at ML NL ⊢;rw [show w3.heap.size=L-1 by omega]
      clear hL MG Z3 G3;have QS:ag (∀ x,x<i->0<=a*(f x-f 0)/b/\a*(f x-f 0)/b<=(i:Int)+2*(eps-1)):=fun x hx=>xB ω UP.o LO.o FO.o hx
      obtain ⟨⟨wa,wb⟩,_⟩:=WD;go_loopg [13] i (fun gg yj wq=>∃ (j:Nat) (C:Int),yj=By j/\j<=i/\i-j<=gg/\ag (Ln wq L a b C)/\ag (Ln wq N 0 0 0)/\ag (Gw w wq)/\ag (∀ x,x<j->(x:Int)-(eps-1)<=a*(f x-f 0)/b+C)/\ag (0<j->∃ x,x<j/\(x:Int)-(eps-1)=a*(f x-f 0)/b+C)/\ag (-100000000<=C/\C<=100000000))
      case atStart=>exact ⟨0,0,rfl,Γ _,ω,ML,Z4,G4,(show ag _ from fun x hx=>ω),(show ag _ from fun q=>ω),(by show (-100000000:Int)<=0/\(0:Int)<=100000000;decide)⟩
      case round =>
       clear ML Z4 G4;obtain ⟨j,C,rfl,h3,h4,ML,Z4,G4,J1,J2,CB⟩:=hrel;by_cases BG:j<i
       ·obtain ⟨bk,off,rfl,gR,hc⟩:=(HK.o.gw G4.o).cells ω
        have q1:=hc j BG;have q0:=hc 0 ω;simp only [Nat.add_zero] at q0;obtain ⟨y0,y1⟩:=HK.o.bd j BG;obtain ⟨z0,z1⟩:=HK.o.bd 0 ω;have le0:=UP.o.le (Γ j) BG;obtain ⟨Py,Pz⟩:=QS.o j BG;obtain ⟨D,hD⟩:=qbr (f j-f 0);have D0:0<=D:=ω;have D1:D<18446744073709551616:=ω;have ED:ag _:=hD;rw [hD] at Py Pz;obtain ⟨fi,fB⟩:=qbr (f j);obtain ⟨f0,Gg⟩:=qbr (f 0);rw [fB] at q1 y0 y1 hD;rw [Gg] at q0 z0 z1 hD;clear fB Gg hc le0;have hDw:IntKind.u64.wrap D=D:=(by rw [qao];omega);have PG:0<i:=ω;have DC:ag (∀ W:World,Calls prog 165 #[.agg #[BY a,BY b,By C],BY D] W fun ex w'=>ex=π #[By (a*D/b),.bool true]/\Gw W w'):=fun W=>by
         have:=DD a b C D a0 wa ω wb D0 D1 W
         rw [Yl ω,show (!decide (2305843009213693952<a*D/b))=true by simp;omega] at this
         exact this
        obtain ⟨Q,hQ⟩:=qbr (a*D/b);have EQ:ag (a*(f j-f 0)/b=Q):=(by rw [ED.o];exact hQ);rw [hQ] at DC Py Pz;clear hQ;have e0:=ML.o.c0;have e1:=ML.o.c1;have e2:=ML.o.c2;go_wp2_with fail;go_cut [14] (fun s w'=>s=By Q/\ag (Gw wr w'))
        case first =>
         go_region_with (go_at_call 165;refine (DC.o _).mono ?_;rintro ex v4 ⟨rfl,g4⟩;have G5:ag (Gw wr v4):=(Gw.trans σ g4);clear g4)
         all_goals go_wp2_with fail
         all_goals go_meet
         all_goals
          case rel=>exact ⟨rfl,(show ag _ from (by first | exact G5.o | exact G5.o.drew | exact G5.o.drewN _))⟩
        case rest =>
         obtain ⟨wy,ym⟩:=qbs wc;subst ym;obtain ⟨rfl,gy⟩:=hcut;have GY:ag (Gw w wy):=G4.o.trans gy.o;have MY:ag (Ln wy L a b C):=ML.o.gw gy.o;have ZY:ag (Ln wy N 0 0 0):=Z4.o.gw gy.o;clear ML Z4 G4 gy DC q0 q1 e0 e1 e2;have wa1:IntKind.i64.wrap (eps-1)=eps-1:=(by rw [Δ];omega);have wb1:IntKind.i64.wrap ((j:Int)-(eps-1))=(j:Int)-(eps-1):=(by rw [Δ];omega);have pG:IntKind.i64.wrap ((j:Int)-(eps-1)-Q)=(j:Int)-(eps-1)-Q:=(by rw [Δ];omega);have m0:=MY.o.c2;have m1:=MY.o.fz 2;have m2:=MY.o.lt;have kW:ag _:=fun C' k1 k2 k3=>abY (C':=C') EQ.o J1.o J2.o k1 k2 k3
         have cb:=CB.o;have BH:ag (Ln (wy.setCell (φ L 2) (By ((j:Int)-(eps-1)-Q))) L a b ((j:Int)-(eps-1)-Q)/\Ln (wy.setCell (φ L 2) (By ((j:Int)-(eps-1)-Q))) N 0 0 0/\Gw w (wy.setCell (φ L 2) (By ((j:Int)-(eps-1)-Q)))) :=
          ⟨MY.o.set2 _,ZY.o.far _ (by have:=NL.o;omega),GY.o.setCell (by have:=NL.o;have:=NW.o;show _<=L;omega) _⟩
         clear J1 J2 CB EQ;by_cases hj:j=0
         ·have tj:((j:Int) == 0)=true:=(by simp;omega);have NX:=kW.o ((j:Int)-(eps-1)-Q) (qaH _) (fun q=>ω) (.inl rfl)
          have X1:ag _:=NX.1;have X2:ag _:=NX.2;clear NX kW;have Hg:ag (Ln (wy.setCell (φ L 2) (By (-(eps-1)-Q))) L a b ((j:Int)-(eps-1)-Q)/\Ln (wy.setCell (φ L 2) (By (-(eps-1)-Q))) N 0 0 0/\Gw w (wy.setCell (φ L 2) (By (-(eps-1)-Q)))):=by
           have h:=BH.o;rw [show (j:Int)-(eps-1)-Q=-(eps-1)-Q by omega] at h
           show _/\_;rw [show (j:Int)-(eps-1)-Q=-(eps-1)-Q by omega]
           exact h
          go_wp2_with fail;go_roundg (i-(j+1))
          case measure=>omega
          case rel=>exact ⟨j+1,(j:Int)-(eps-1)-Q,by go_num,ω,Yk _,Hg.o.1,Hg.o.2.1,Hg.o.2.2,X1,X2,(by show -100000000<=_/\_<=(100000000:Int);omega)⟩
         ·have tj:((j:Int) == 0)=false:=(by simp;omega);by_cases hC:C<(j:Int)-(eps-1)-Q
          ·have tC:decide (C<(j:Int)-(eps-1)-Q)=true:=(by simpa using hC);have NX:=kW.o ((j:Int)-(eps-1)-Q) (qaH _) (fun q=>ω) (.inl rfl)
           have X1:ag _:=NX.1;have X2:ag _:=NX.2;clear NX kW;go_wp2_with fail;go_roundg (i-(j+1))
           case measure=>omega
           case rel=>exact ⟨j+1,(j:Int)-(eps-1)-Q,by go_num,ω,Yk _,BH.o.1,BH.o.2.1,BH.o.2.2,X1,X2,(by show -100000000<=_/\_<=(100000000:Int);omega)⟩
          ·have tC:decide (C<(j:Int)-(eps-1)-Q)=false:=(by simpa using hC);have NX:=kW.o C ω (fun q=>qaH _) (.inr ⟨ω,rfl⟩)
           have X1:ag _:=NX.1;have X2:ag _:=NX.2;clear NX kW;go_wp2_with fail;go_roundg (i-(j+1))
           case measure=>omega
           case rel=>exact ⟨j+1,C,by go_num,ω,Yk _,MY,ZY,GY,X1,X2,cb⟩
       ·have e:j=i:=(by omega);subst e;have R:ag (eG eps f j a b C 0):=.inr (.inr (.inr ⟨KE.o,⟨ω,UP.o⟩,FO.o,LO.o,⟨J1.o,J2.o ω⟩,rfl⟩));have cb:=CB.o;have m0:=ML.o.c0;have m1:=ML.o.c1;have m2:=ML.o.c2;have m3:=ML.o.lt;have z0:=Z4.o.c0;have z1:=Z4.o.c1;have z2:=Z4.o.c2;have z3:=Z4.o.fz 0;have z4:=Z4.o.fz 1;have z5:=Z4.o.fz 2;have z6:=Z4.o.lt;clear J1 J2 CB ML Z4;go_wp2_with fail;refine bodyPost_ret (v:=.tuple #[.agg #[BY a,BY b,By C],By 0]) (by simp [results,results147,go_sem, *]) rfl ⟨⟨a,b,C,0,rfl,R.o,⟨a0,wa⟩,⟨ω,wb⟩,ω⟩,?_⟩
        refine Gw.setCell (Gw.setCell (Gw.setCell G4.o ?_ _) ?_ _) ?_ _<;>exact NW.o
