/- The document's Add. -/
import Derived.ArgAppend
import Derived.Deep.CutBlock
import Derived.Deep.DeepCutAuto
import Derived.Test.YtcboobmfnmgldaaGreatBPBs
set_option linter.unusedVariables false
set_option maxHeartbeats 16000000
set_option maxRecDepth 100000
open Go.Proofs.Tryz
namespace Go.Proofs.YtcboobmfnmgldaaGreat
open Go.RowKit
structure Gs (S:Nat->Prop) (w w':World):Prop where
 os:w'.os=w.os
 tape:w'.tape=w.tape
 output:w'.output=w.output
 size:w.heap.size<=w'.heap.size
 block:∀ q,q<w.heap.size->¬ S q->w'.heap[q]?=w.heap[q]?
variable {w w':World}
theorem Gw.gs (h:Gw w w') (S:Nat->Prop):Gs S w w':=⟨h.below.os,h.below.tape,h.below.output,h.below.size,fun q hq _=>h.below.block q hq⟩
variable {S:Nat->Prop}
theorem Gs.set (h:Gs S w w') {q:Nat} (hq:S q) (o:Nat) (v:Value):Gs S w (w'.setCell ⟨q,o,none⟩ v) :=
 ⟨h.os,h.tape,h.output,by simpa [World.setCell] using h.size,fun k hk hs=>(Go.Deep.blk_setCell_other _ _ _ _ (fun e=>hs (by rw [e];exact hq))).trans (h.block k hk hs)⟩
theorem Gs.grown {dG:World} {row:Option Nat} (h:Gs S w w') (g:w'.grownBy dG row) (hr:∀ k,row=some k->S k):Gs S w dG :=
 ⟨g.os.trans h.os,g.tape.trans h.tape,g.output.trans h.output,Nat.le_trans h.size g.size,fun k hk hs=>(g.block k (Nat.lt_of_lt_of_le hk h.size) (fun e=>hs (hr k e.symm))).trans (h.block k hk hs)⟩
variable {base n:Nat} {v:Value}
theorem DW {e size:Nat} {xs:List Value} (h:w.ownsRow base e size v n xs):w.ownsRow 0 e size v n xs:=by
 refine ⟨h.1,?_⟩;rcases h.2 with q | ⟨g,cap,cur,rfl,_,r⟩
 ·exact .inl q
 ·exact .inr ⟨g,cap,cur,rfl,Nat.zero_le _,r⟩
theorem Mk {e size:Nat} {xs:List Value} (h:w.ownsRow base e size v (n+1) xs):∃ g cap,v=.slice (some ⟨g,0,none⟩) (n+1) cap/\base<=g/\g<w.heap.size:=by
 rcases h.2 with ⟨_,q⟩ | ⟨g,cap,cur,rfl,hg,hh,_⟩
 ·omega
 ·exact ⟨g,cap,rfl,hg,(Array.getElem?_eq_some_iff.1 hh).1⟩
variable {W:World} {p:Nat} {e a b c d:Int} {f:Nat->Int}
theorem aal {v0 x2 x3 x4 x5:Value}
  (blk:W.heap[p]?=some (.cells #[AI (e+1),v0,x2,x3,x4,x5] 200 (0,0)))
  (own:W.ownsRow 0 42 1 v n ((List.range n).map fun i=>Value.int .u64 (f i))) (ne:∀ q,v.ownBlock=some q->q≠p) (up:Up f n) (bd:∀ i,i<n->0<=f i/\f i<18446744073709551616)
  (low:bK e f (aB n) a b) (top:di e f (aB n) c d) (fit:aY e f (aB n)) (e1:1<=e/\e<=63) (wd:(a<18446744073709551616/\b<18446744073709551616)/\(0<=c/\c<18446744073709551616)/\(0<=d/\d<18446744073709551616)) :
  RF (((((W.setCell ⟨p,1,none⟩ v).setCell ⟨p,2,none⟩ (By a)).setCell ⟨p,3,none⟩ (By b)).setCell ⟨p,4,none⟩ (By c)).setCell ⟨p,5,none⟩ (By d)) p v e n f a b c d:=by
 refine ⟨?_,⟨own.1,?_⟩,ne,up,bd,low,top,fit,e1,wd⟩
 ·simp [World.setCell,Array.getElem?_modify,blk]
 ·rcases own.2 with q | ⟨g,cap,cur,rfl,hb,hh,r⟩
  ·exact .inl q
  ·have vy:=ne g rfl
   refine .inr ⟨g,cap,cur,rfl,hb,?_,r⟩;rw [Go.Deep.blk_setCell_other _ _ _ _ vy,Go.Deep.blk_setCell_other _ _ _ _ vy,Go.Deep.blk_setCell_other _ _ _ _ vy,Go.Deep.blk_setCell_other _ _ _ _ vy,Go.Deep.blk_setCell_other _ _ _ _ vy];exact hh
theorem aam (h:RF w p v e n f a b c d) (x:Int) (x0:0<=x) (x1:x<18446744073709551616) (hn:n<=4000000) (hx:0<n->f (n-1)<x) :
  Calls prog 108 #[BY p,By x] w fun ex w' =>
   (∃ ok:Bool,ex=.returned (.tuple #[.bool ok,AI 0])/\(ok=true↔aY e (aD f n x) (aB (n+1)))/\(ok=false->Gw w w')/\(ok=true->∃ v' a' b' c' d',RF w' p v' e (n+1) (aD f n x) a' b' c' d'/\∀ q,dH p v' q->dH p v q\/w.heap.size<=q))/\Gs (dH p v) w w':=by
 obtain ⟨c0,c1,c2,c3,c4,c5⟩:=h.cells;have hl:=h.lt;obtain ⟨e1,e2⟩:=h.e1;have HR:ag (RF w p v e n f a b c d):=h;have UP:ag (Up (aD f n x) (n+1)):=CQ h.up hx;have CM:ag (∀ M c g:Int,0<M->c*g=M->0<g->1<=c):=by
  show ∀ M c g:Int,0<M->c*g=M->0<g->1<=c;intro M c g h0 h1 h2;rcases Int.lt_or_le 0 c with q | q
  ·omega
  ·have:=Int.mul_le_mul_of_nonneg_right q (show 0<=g by omega)
   omega
 have HX:ag (∀ i,i<n->f i<x):=by
  show ∀ i,i<n->f i<x;intro i hi;have q1:=hx (by omega)
  have q2:=h.up.le (show i<=n-1 by omega) (by omega)
  omega
 have ST:ag (bK e (aD f n x) (fO n 0) a b/\di e (aD f n x) (fO n 0) c d/\(a<18446744073709551616/\b<18446744073709551616)/\(0<=c/\c<18446744073709551616)/\(0<=d/\d<18446744073709551616)) :=
  ⟨h.low.congr (Kc n) (fun i j s=>by rw [bH s.2,bH (by have:=s.1;have:=s.2;omega)]),h.top.congr (Kc n) (fun i j s=>by rw [bH s.2,bH (by have:=s.1;have:=s.2;omega)]),h.wd⟩
 obtain ⟨ao,cap,ev,ks⟩:=h.ks;rw [ev] at c1;clear h;go_enter func108,ntmps108;go_upto_region 2 with fail;go_cut [32] (fun s32 wc=>s32=.bool false/\wc=w)
 case first =>
  by_cases hz:n=0
  ·have z0:¬ 0<n:=by omega
   have z1:decide ((0:Int)<n)=false:=by simp;omega
   clear hz ks hx;go_wp2_with fail;go_meet
   case rel=>exact ⟨rfl,rfl⟩
  ·obtain ⟨bk,off,eo,hb,hc⟩:=ks.cells (by omega)
   subst eo;obtain ⟨pr,hpr⟩:∃ pr:Nat,(n:Int)-1=pr:=⟨n-1,by omega⟩
   have zL:pr<n:=by omega
   have hw:=qu pr (by omega)
   have nG:0<n:=by omega
   have k1:=hc pr zL;have xk:¬ x<=f pr:=by
    have:=HX.o pr zL
    omega
   clear hz ks hx hc;generalize f pr=fp at k1 xk;go_wp2_with fail;go_meet
   case rel=>exact ⟨rfl,rfl⟩
 case rest =>
  obtain ⟨rfl,Ml⟩:=hcut;have aan:w=wc:=Ml.symm;subst aan;clear Ml ks hx;go_wp2_with fail;clear c0 c1 c2 c3 c4 c5 ev;go_loopg [10] n (fun gg iB wr=>∃ (i:Nat) (a' b' c' d':Int),iB=AI i/\i<=n/\n-i<=gg/\ag (Bx wr (w.heap.size) 198 (By a') (By b'))/\ag (Bx wr (w.heap.size+1) 198 (By c') (By d'))/\ag (bK e (aD f n x) (fO n i) a' b'/\di e (aD f n x) (fO n i) c' d'/\(a'<18446744073709551616/\b'<18446744073709551616)/\(0<=c'/\c'<18446744073709551616)/\(0<=d'/\d'<18446744073709551616))/\ag (Gw w wr))
  case atStart=>exact ⟨0,a,b,c,d,rfl,Nat.zero_le _,by omega,(show ag _ from (Bx.new w _ _ _).alloc _),(show ag _ from (Bx.new _ _ _ _).at (by simp)),ST,(show ag _ from ((Gw.refl w).alloc _ _).alloc _ _)⟩
  case round =>
   obtain ⟨i,a',b',c',d',rfl,h1,h2,XL,XT,I,G⟩:=hrel;obtain ⟨⟨wa,wb⟩,⟨o9,nH⟩,⟨pa,pe⟩⟩:=I.o.2.2;have Mm:=I.o.1.a0;have wb0:=I.o.1.b1;by_cases ar:i<n
   ·have hh:=HR.o.gw G.o
    obtain ⟨_,c1,_⟩:=hh.cells;obtain ⟨ao,cap,ev,ks⟩:=hh.ks;rw [ev] at c1;obtain ⟨bk,off,rfl,hb,hc⟩:=ks.cells (by omega)
    have k1:=hc i ar;have fb:=HR.o.bd i ar;have fx:f i<x:=HX.o i ar;clear hh ks hc ev;have TP:ag (di e (aD f n x) (fO n i) c' d'):=I.o.2.1;have LP:ag (bK e (aD f n x) (fO n i) a' b'):=I.o.1;have E0:ag (aD f n x n-aD f n x i=x-f i):=by show _=_;rw [dO,bH ar]
    obtain ⟨fi,eF⟩:∃ y,f i=y:=⟨_,rfl⟩;rw [eF] at k1 fb fx E0;clear eF;obtain ⟨D,hD⟩:∃ y,x-fi=y:=⟨_,rfl⟩;obtain ⟨m,hm⟩:∃ y,(n:Int)-i-2*e=y:=⟨_,rfl⟩;obtain ⟨M,hM⟩:∃ y,(n:Int)-i+2*e=y:=⟨_,rfl⟩;have EM:ag ((n:Int)-i+2*e=M/\aD f n x n-aD f n x i=D):=⟨hM,by rw [E0.o,hD]⟩
    have Em:ag ((n:Int)-i-2*e=m):=hm;have wM:=wu (x:=M) (by omega) (by omega)
    have D0:0<D:=by omega
    have D1:D<18446744073709551616:=by omega
    have M0:0<M:=by omega
    have M1:M<10000000:=by omega
    have m1:m<10000000:=by omega
    clear E0;by_cases XS:0<m
    ·have wm:=wu (x:=m) (by omega) (by omega)
     go_wp2_with fail;refine (y9 m D (by omega) (by omega) (by omega) (by omega) _).mono ?_
     rintro ex w1 ⟨⟨lc,ld,lg,rfl,pf⟩,g1⟩;obtain ⟨q0,q1⟩:=pf.c0,pf.d1;have q2:lc<18446744073709551616:=by have:=pf.cb;omega
     have q3:ld<18446744073709551616:=by have:=pf.db;omega
     have Mn:ag (Bx (w1.alloc (.cells #[By lc,By ld] 198)) (w.heap.size) 198 (By a') (By b')):=(XL.o.gw g1).alloc _;have Mo:ag (Bx (w1.alloc (.cells #[By lc,By ld] 198)) (w.heap.size+1) 198 (By c') (By d')):=(XT.o.gw g1).alloc _;have G2:ag (Gw w (w1.alloc (.cells #[By lc,By ld] 198))):=(G.o.trans g1).alloc _ _;have HL:ag (sY m D lc ld lg):=pf;have z1:=(XL.o.gw g1).c0;have z2:=(XL.o.gw g1).c1;have z3:=(XL.o.gw g1).lt;clear pf g1;go_wp2_with fail;refine (uU a' b' lc ld Mm wa (by omega) wb q0 q2 (by omega) q3 _).mono ?_
     rintro ex w2 ⟨⟨r1,rfl,qQ⟩,g2⟩;have tL:ag (Bx w2 (w.heap.size) 198 (By a') (By b')):=Mn.o.gw g2;have Mp:ag (Bx w2 (w.heap.size+1) 198 (By c') (By d')):=Mo.o.gw g2;have G4:ag (Gw w w2):=G2.o.trans g2;have y1:=(Bx.new w1 198 (By lc) (By ld)).gw g2;have y2:=y1.c0;have y3:=y1.c1;clear y1 Mn Mo G2 g2 z1 z2 z3;have z1:=tL.o.c0;have z2:=tL.o.c1;have z3:=tL.o.fz 0;have z4:=tL.o.fz 1;cases r1 with
     | true =>
      have K1:ag (eM a' b' lc ld):=qQ.1 rfl;clear qQ;have lu:ag (Bx ((w2.setCell ⟨w.heap.size,0,none⟩ (By lc)).setCell ⟨w.heap.size,1,none⟩ (By ld)) (w.heap.size) 198 (By lc) (By ld)):=tL.o.set _ _;have gU:ag (Bx ((w2.setCell ⟨w.heap.size,0,none⟩ (By lc)).setCell ⟨w.heap.size,1,none⟩ (By ld)) (w.heap.size+1) 198 (By c') (By d')):=(Mp.o.far _ (by omega)).far _ (by omega)
      have G1:ag (Gw w (((w2.setCell ⟨w.heap.size,0,none⟩ (By lc)).setCell ⟨w.heap.size,1,none⟩ (By ld)))):=(G4.o.setCell (by simp) _).setCell (by simp) _
      have LW:ag (bK e (aD f n x) (fO n (i+1)) lc ld/\lc<18446744073709551616/\ld<18446744073709551616):=⟨bK.congr (bK.take (yV UP.o (by omega)) LP.o HL.o.g0 (CM.o m _ _ (by omega) HL.o.ec HL.o.g0) q1 HL.o.low (by rw [HL.o.ec,<-Em.o]) (by rw [HL.o.ed,<-EM.o.2]) K1.o) (ni n i) (fun _ _ _=>rfl),q2,q3⟩
      clear XL XT G I;go_wp2_with fail;refine (y9 M D (by omega) (by omega) (by omega) (by omega) _).mono ?_
      rintro ex w3 ⟨⟨sc,sd,sg,rfl,hs⟩,g3⟩;obtain ⟨s0,s1⟩:=hs.c0,hs.d1;have s2:sc<18446744073709551616:=by have:=hs.cb;omega
      have s3:sd<18446744073709551616:=by have:=hs.db;omega
      have pg:ag (Bx (w3.alloc (.cells #[By sc,By sd] 198)) (w.heap.size) 198 (By lc) (By ld)):=(lu.o.gw g3).alloc _;have ph:ag (Bx (w3.alloc (.cells #[By sc,By sd] 198)) (w.heap.size+1) 198 (By c') (By d')):=(gU.o.gw g3).alloc _;have G3:ag (Gw w (w3.alloc (.cells #[By sc,By sd] 198))):=(G1.o.trans g3).alloc _ _;have HS:ag (sY M D sc sd sg):=hs;have z1:=(gU.o.gw g3).c0;have z2:=(gU.o.gw g3).c1;have z3:=(gU.o.gw g3).lt;have z4:w.heap.size<w3.heap.size:=(lu.o.gw g3).lt;clear hs lu gU G1 g3;go_wp2_with fail;refine (uU sc sd c' d' s0 s2 (by omega) s3 o9 nH pa pe _).mono ?_
      rintro ex w5 ⟨⟨r2,rfl,fU⟩,g5⟩;have iR:ag (Bx w5 (w.heap.size) 198 (By lc) (By ld)):=pg.o.gw g5;have dD:ag (Bx w5 (w.heap.size+1) 198 (By c') (By d')):=ph.o.gw g5;have G5:ag (Gw w w5):=G3.o.trans g5;have y1:=(Bx.new w3 198 (By sc) (By sd)).gw g5;have y2:=y1.c0;have y3:=y1.c1;clear y1 pg ph G3 g5 z1 z2 z3 z4;have z1:=dD.o.c0;have z2:=dD.o.c1;have z3:=dD.o.fz 0;have z4:=dD.o.fz 1;cases r2 with
      | true =>
       have K:ag (eM sc sd c' d'):=fU.1 rfl;clear fU;go_wp2_with fail;go_roundg (n-(i+1))
       case measure=>omega
       case rel =>
        refine ⟨i+1,lc,ld,sc,sd,by go_num,by omega,Nat.le_refl _,(show ag _ from ((iR.o.far _ (by omega)).far _ (by omega))),(show ag _ from dD.o.set _ _),(show ag _ from ⟨LW.o.1,di.congr (di.take (yV UP.o (by omega)) TP.o HS.o.g0 (CM.o M _ _ (by omega) HS.o.ec HS.o.g0) s1 HS.o.low (by rw [HS.o.ec,<-EM.o.1]) (by rw [HS.o.ed,<-EM.o.2]) K.o) (ni n i) (fun _ _ _=>rfl),LW.o.2,⟨by omega,s2⟩,⟨by omega,s3⟩⟩),(show ag _ from (G5.o.setCell (by simp) _).setCell (by simp) _)⟩
      | false =>
       have K:ag (¬ eM sc sd c' d'):=fun hb=>Bool.noConfusion (fU.2 hb)
       clear fU;go_wp2_with fail;go_roundg (n-(i+1))
       case measure=>omega
       case rel =>
        refine ⟨i+1,lc,ld,c',d',by go_num,by omega,Nat.le_refl _,(show ag _ from iR.o),(show ag _ from dD.o),(show ag _ from ⟨LW.o.1,di.congr (di.keep TP.o HS.o.g0 (CM.o M _ _ (by omega) HS.o.ec HS.o.g0) s1 (by rw [HS.o.ec,<-EM.o.1]) (by rw [HS.o.ed,<-EM.o.2]) K.o) (ni n i) (fun _ _ _=>rfl),LW.o.2,⟨o9,nH⟩,⟨pa,pe⟩⟩),(show ag _ from G5.o)⟩
     | false =>
      have K1:ag (¬ eM a' b' lc ld):=fun hb=>Bool.noConfusion (qQ.2 hb)
      clear qQ z1 z2 z3 z4;have lu:ag (Bx w2 (w.heap.size) 198 (By a') (By b')):=tL.o;have gU:ag (Bx w2 (w.heap.size+1) 198 (By c') (By d')):=Mp.o;have G1:ag (Gw w (w2)):=G4.o;have LW:ag (bK e (aD f n x) (fO n (i+1)) a' b'/\a'<18446744073709551616/\b'<18446744073709551616):=⟨bK.congr (bK.keep LP.o HL.o.g0 q1 (by rw [HL.o.ec,<-Em.o]) (by rw [HL.o.ed,<-EM.o.2]) K1.o) (ni n i) (fun _ _ _=>rfl),wa,wb⟩
      clear XL XT G I;go_wp2_with fail;refine (y9 M D (by omega) (by omega) (by omega) (by omega) _).mono ?_
      rintro ex w3 ⟨⟨sc,sd,sg,rfl,hs⟩,g3⟩;obtain ⟨s0,s1⟩:=hs.c0,hs.d1;have s2:sc<18446744073709551616:=by have:=hs.cb;omega
      have s3:sd<18446744073709551616:=by have:=hs.db;omega
      have pg:ag (Bx (w3.alloc (.cells #[By sc,By sd] 198)) (w.heap.size) 198 (By a') (By b')):=(lu.o.gw g3).alloc _;have ph:ag (Bx (w3.alloc (.cells #[By sc,By sd] 198)) (w.heap.size+1) 198 (By c') (By d')):=(gU.o.gw g3).alloc _;have G3:ag (Gw w (w3.alloc (.cells #[By sc,By sd] 198))):=(G1.o.trans g3).alloc _ _;have HS:ag (sY M D sc sd sg):=hs;have z1:=(gU.o.gw g3).c0;have z2:=(gU.o.gw g3).c1;have z3:=(gU.o.gw g3).lt;have z4:w.heap.size<w3.heap.size:=(lu.o.gw g3).lt;clear hs lu gU G1 g3;go_wp2_with fail;refine (uU sc sd c' d' s0 s2 (by omega) s3 o9 nH pa pe _).mono ?_
      rintro ex w5 ⟨⟨r2,rfl,fU⟩,g5⟩;have iR:ag (Bx w5 (w.heap.size) 198 (By a') (By b')):=pg.o.gw g5;have dD:ag (Bx w5 (w.heap.size+1) 198 (By c') (By d')):=ph.o.gw g5;have G5:ag (Gw w w5):=G3.o.trans g5;have y1:=(Bx.new w3 198 (By sc) (By sd)).gw g5;have y2:=y1.c0;have y3:=y1.c1;clear y1 pg ph G3 g5 z1 z2 z3 z4;have z1:=dD.o.c0;have z2:=dD.o.c1;have z3:=dD.o.fz 0;have z4:=dD.o.fz 1;cases r2 with
      | true =>
       have K:ag (eM sc sd c' d'):=fU.1 rfl;clear fU;go_wp2_with fail;go_roundg (n-(i+1))
       case measure=>omega
       case rel =>
        refine ⟨i+1,a',b',sc,sd,by go_num,by omega,Nat.le_refl _,(show ag _ from ((iR.o.far _ (by omega)).far _ (by omega))),(show ag _ from dD.o.set _ _),(show ag _ from ⟨LW.o.1,di.congr (di.take (yV UP.o (by omega)) TP.o HS.o.g0 (CM.o M _ _ (by omega) HS.o.ec HS.o.g0) s1 HS.o.low (by rw [HS.o.ec,<-EM.o.1]) (by rw [HS.o.ed,<-EM.o.2]) K.o) (ni n i) (fun _ _ _=>rfl),LW.o.2,⟨by omega,s2⟩,⟨by omega,s3⟩⟩),(show ag _ from (G5.o.setCell (by simp) _).setCell (by simp) _)⟩
      | false =>
       have K:ag (¬ eM sc sd c' d'):=fun hb=>Bool.noConfusion (fU.2 hb)
       clear fU;go_wp2_with fail;go_roundg (n-(i+1))
       case measure=>omega
       case rel =>
        refine ⟨i+1,a',b',c',d',by go_num,by omega,Nat.le_refl _,(show ag _ from iR.o),(show ag _ from dD.o),(show ag _ from ⟨LW.o.1,di.congr (di.keep TP.o HS.o.g0 (CM.o M _ _ (by omega) HS.o.ec HS.o.g0) s1 (by rw [HS.o.ec,<-EM.o.1]) (by rw [HS.o.ed,<-EM.o.2]) K.o) (ni n i) (fun _ _ _=>rfl),LW.o.2,⟨o9,nH⟩,⟨pa,pe⟩⟩),(show ag _ from G5.o)⟩
    ·have jK:m<=0:=by omega
     have lu:ag (Bx wr (w.heap.size) 198 (By a') (By b')):=XL.o;have gU:ag (Bx wr (w.heap.size+1) 198 (By c') (By d')):=XT.o;have G1:ag (Gw w (wr)):=G.o;have LW:ag (bK e (aD f n x) (fO n (i+1)) a' b'/\a'<18446744073709551616/\b'<18446744073709551616):=⟨bK.congr (bK.skip LP.o (by rw [EM.o.2];exact D0) (by rw [Em.o];exact jK)) (ni n i) (fun _ _ _=>rfl),wa,wb⟩
     clear XL XT G I;go_wp2_with fail;refine (y9 M D (by omega) (by omega) (by omega) (by omega) _).mono ?_
     rintro ex w3 ⟨⟨sc,sd,sg,rfl,hs⟩,g3⟩;obtain ⟨s0,s1⟩:=hs.c0,hs.d1;have s2:sc<18446744073709551616:=by have:=hs.cb;omega
     have s3:sd<18446744073709551616:=by have:=hs.db;omega
     have pg:ag (Bx (w3.alloc (.cells #[By sc,By sd] 198)) (w.heap.size) 198 (By a') (By b')):=(lu.o.gw g3).alloc _;have ph:ag (Bx (w3.alloc (.cells #[By sc,By sd] 198)) (w.heap.size+1) 198 (By c') (By d')):=(gU.o.gw g3).alloc _;have G3:ag (Gw w (w3.alloc (.cells #[By sc,By sd] 198))):=(G1.o.trans g3).alloc _ _;have HS:ag (sY M D sc sd sg):=hs;have z1:=(gU.o.gw g3).c0;have z2:=(gU.o.gw g3).c1;have z3:=(gU.o.gw g3).lt;have z4:w.heap.size<w3.heap.size:=(lu.o.gw g3).lt;clear hs lu gU G1 g3;go_wp2_with fail;refine (uU sc sd c' d' s0 s2 (by omega) s3 o9 nH pa pe _).mono ?_
     rintro ex w5 ⟨⟨r2,rfl,fU⟩,g5⟩;have iR:ag (Bx w5 (w.heap.size) 198 (By a') (By b')):=pg.o.gw g5;have dD:ag (Bx w5 (w.heap.size+1) 198 (By c') (By d')):=ph.o.gw g5;have G5:ag (Gw w w5):=G3.o.trans g5;have y1:=(Bx.new w3 198 (By sc) (By sd)).gw g5;have y2:=y1.c0;have y3:=y1.c1;clear y1 pg ph G3 g5 z1 z2 z3 z4;have z1:=dD.o.c0;have z2:=dD.o.c1;have z3:=dD.o.fz 0;have z4:=dD.o.fz 1;cases r2 with
     | true =>
      have K:ag (eM sc sd c' d'):=fU.1 rfl;clear fU;go_wp2_with fail;go_roundg (n-(i+1))
      case measure=>omega
      case rel =>
       refine ⟨i+1,a',b',sc,sd,by go_num,by omega,Nat.le_refl _,(show ag _ from ((iR.o.far _ (by omega)).far _ (by omega))),(show ag _ from dD.o.set _ _),(show ag _ from ⟨LW.o.1,di.congr (di.take (yV UP.o (by omega)) TP.o HS.o.g0 (CM.o M _ _ (by omega) HS.o.ec HS.o.g0) s1 HS.o.low (by rw [HS.o.ec,<-EM.o.1]) (by rw [HS.o.ed,<-EM.o.2]) K.o) (ni n i) (fun _ _ _=>rfl),LW.o.2,⟨by omega,s2⟩,⟨by omega,s3⟩⟩),(show ag _ from (G5.o.setCell (by simp) _).setCell (by simp) _)⟩
     | false =>
      have K:ag (¬ eM sc sd c' d'):=fun hb=>Bool.noConfusion (fU.2 hb)
      clear fU;go_wp2_with fail;go_roundg (n-(i+1))
      case measure=>omega
      case rel =>
       refine ⟨i+1,a',b',c',d',by go_num,by omega,Nat.le_refl _,(show ag _ from iR.o),(show ag _ from dD.o),(show ag _ from ⟨LW.o.1,di.congr (di.keep TP.o HS.o.g0 (CM.o M _ _ (by omega) HS.o.ec HS.o.g0) s1 (by rw [HS.o.ec,<-EM.o.1]) (by rw [HS.o.ed,<-EM.o.2]) K.o) (ni n i) (fun _ _ _=>rfl),LW.o.2,⟨o9,nH⟩,⟨pa,pe⟩⟩),(show ag _ from G5.o)⟩
   ·obtain rfl:i=n:=by omega
    have LO:ag (bK e (aD f i x) (aB (i+1)) a' b'):=I.o.1.congr (Kd i) (fun _ _ _=>rfl)
    have TO:ag (di e (aD f i x) (aB (i+1)) c' d'):=I.o.2.1.congr (Kd i) (fun _ _ _=>rfl)
    have PP:=sW UP.o;have FI:ag (¬ eM c' d' a' b'↔aY e (aD f i x) (aB (i+1))):=Kb (by omega) PP LO.o TO.o
    clear PP I;have z1:=XT.o.c0;have z2:=XT.o.c1;have z3:=XL.o.c0;have z4:=XL.o.c1;have Mq:ag (Bx wr (w.heap.size) 198 (By a') (By b')):=XL.o;have Mr:ag (Bx wr (w.heap.size+1) 198 (By c') (By d')):=XT.o;have G':ag (Gw w wr):=G.o;clear XL XT G;go_wp2_with fail;refine (uU c' d' a' b' o9 nH pa pe Mm wa (by omega) wb _).mono ?_
    rintro ex w5 ⟨⟨r,rfl,hr⟩,g5⟩;have iR:ag (Bx w5 (w.heap.size) 198 (By a') (By b')):=Mq.o.gw g5;have dD:ag (Bx w5 (w.heap.size+1) 198 (By c') (By d')):=Mr.o.gw g5;have G5:ag (Gw w w5):=G'.o.trans g5;clear Mq Mr G' g5 z1 z2 z3 z4;cases r with
    | true =>
     have K:ag (eM c' d' a' b'):=hr.1 rfl;clear hr;go_wp2_with fail;go_ret2;exact ⟨⟨false,rfl,⟨fun q=>Bool.noConfusion q,fun q=>absurd K.o (FI.o.2 q)⟩,fun _=>G5.o,fun q=>Bool.noConfusion q⟩,G5.o.gs _⟩
    | false =>
     have K:ag (aY e (aD f i x) (aB (i+1))):=FI.o.1 (fun hb=>Bool.noConfusion (hr.2 hb))
     clear hr FI;have R5:ag (RF w5 p v e i f a b c d):=HR.o.gw G5.o;obtain ⟨_,p1,_⟩:=R5.o.cells;have vz:=R5.o.own;have aL:ag (∀ (W:World) (v':Value),W.heap[p]?=w5.heap[p]?->W.ownsRow 0 42 1 v' (i+1) ((List.range i).map (fun j=>Value.int .u64 (f j))++[By x])->(∀ q,v'.ownBlock=some q->q≠p) ->
       RF (((((W.setCell ⟨p,1,none⟩ v').setCell ⟨p,2,none⟩ (By a')).setCell ⟨p,3,none⟩ (By b')).setCell ⟨p,4,none⟩ (By c')).setCell ⟨p,5,none⟩ (By d')) p v' e (i+1) (aD f i x) a' b' c' d'):=by
      intro W v' h1 h2 h3;refine aal (h1.trans R5.o.blk) ?_ h3 UP.o ?_ LO.o TO.o K.o ⟨e1,e2⟩ ⟨⟨wa,wb⟩,⟨o9,nH⟩,⟨pa,pe⟩⟩
      ·have e3:(List.range (i+1)).map (fun j=>Value.int .u64 (aD f i x j))=(List.range i).map (fun j=>Value.int .u64 (f j))++[By x]:=by
        rw [List.range_succ,List.map_append];congr 1
        ·refine List.map_congr_left fun j hj=>?_
         rw [bH (List.mem_range.1 hj)]
        ·simp [dO]
       rw [e3];exact h2
      ·intro j hj
       by_cases q:j=i
       ·subst q;rw [dO];exact ⟨x0,x1⟩
       ·rw [bH (by omega)];exact HR.o.bd j (by omega)
     obtain ⟨ii,aQ,hz,hs,aR⟩:=info_parts qv;rcases vz.2 with ⟨ev,i0⟩ | ⟨g,cp,cur,ev,_,hg,uM,Ms,_⟩
     ·rw [ev] at p1
      subst i0;clear ev vz;go_wp2_with (at_builtin;refine wpList_append_grows _ rfl _ _ 83 rfl 42 ii (By 0) 1 8 underlying83 aQ hz hs aR rfl (by decide) none 0 0 [] rfl (fun _=>⟨rfl,rfl⟩) rfl (fun _ q=>by cases q) ⟨w5.heap.size,0,none⟩ 1 1 [By x] rfl rfl (uN w5 x) (ints_oneCell .u64 [x]) (by decide) (by simp [maxLen]) (by decide) ?_)
      intro v' w7 q1 q2;obtain ⟨g',fJ,vh,qR,Mt⟩:=Mk q1;subst vh;have B7:ag (w7.heap[p]?=w5.heap[p]?):=by
       show w7.heap[p]?=w5.heap[p]?;rw [q2.block p (by simp;have:=R5.o.lt;omega) (fun q=>by cases q)]
       exact heap_alloc_old _ _ R5.o.lt
      have R7:ag (w7.heap[p]?=some (.cells #[AI (e+1),v,By a,By b,By c,By d] 200 (0,0))):=B7.o.trans R5.o.blk;have eG:=R7.o;have t0:∀ o,w7.frozen? ⟨p,o,none⟩=false:=fun o=>by simp [World.frozen?,eG]
      have t1:w7.cell? ⟨p,1,none⟩=some v:=by simp [World.cell?,eG]
      have t2:w7.cell? ⟨p,2,none⟩=some (By a):=by simp [World.cell?,eG]
      have t3:w7.cell? ⟨p,3,none⟩=some (By b):=by simp [World.cell?,eG]
      have t4:w7.cell? ⟨p,4,none⟩=some (By c):=by simp [World.cell?,eG]
      have t5:w7.cell? ⟨p,5,none⟩=some (By d):=by simp [World.cell?,eG]
      clear eG;have YL:Bx w7 (w.heap.size) 198 (By a') (By b'):=(q2.block _ (by simp;have:=iR.o.lt;omega) (fun q=>by cases q)).trans (iR.o.alloc _)
      have YT:Bx w7 (w.heap.size+1) 198 (By c') (By d'):=(q2.block _ (by simp;have:=dD.o.lt;omega) (fun q=>by cases q)).trans (dD.o.alloc _)
      have y1:=YL.c0;have y2:=YL.c1;have y3:=YT.c0;have y4:=YT.c1;have Mu:p≠w.heap.size:=by omega
      have Mv:p≠w.heap.size+1:=by omega
      have Q1:ag (w7.ownsRow 0 42 1 (.slice (some ⟨g',0,none⟩) 1 fJ) 1 ((List.range 0).map (fun j=>Value.int .u64 (f j))++[By x])):=DW q1
      have Q2:ag (Gs (dH p v) w w7):=((G5.o.alloc _ _).gs _).grown q2 (fun k hk=>by cases hk)
      have FP:ag (∀ q,dH p (.slice (some ⟨g',0,none⟩) 1 fJ) q->dH p v q\/w.heap.size<=q):=by
       show ∀ q,dH p (.slice (some ⟨g',0,none⟩) 1 fJ) q->dH p v q\/w.heap.size<=q;intro q hq;rcases hq with rfl | hq
       ·exact .inl (.inl rfl)
       ·cases hq
        exact .inr (show w.heap.size<=g' by have:=G5.o.size;first | omega | (simp at qR;omega))
      have NE:ag (g'≠p):=by
       show g'≠p;have:=G5.o.size
       first | omega | (simp at qR;omega)
      clear q1 q2 YL YT aQ hz hs aR;go_wp2_with fail;go_ret2;exact ⟨⟨true,rfl,⟨fun _=>K.o,fun _=>rfl⟩,(fun q=>Bool.noConfusion q),fun _=>⟨_,_,_,_,_,aL.o w7 _ B7.o Q1.o (fun q hq=>by cases hq;exact NE.o),FP.o⟩⟩,((((Q2.o.set (.inl rfl) _ _).set (.inl rfl) _ _).set (.inl rfl) _ _).set (.inl rfl) _ _).set (.inl rfl) _ _⟩
     ·rw [ev] at p1 vz
      have EV:ag (v=.slice (some ⟨g,0,none⟩) i cp):=ev;have GP:ag (g≠p):=R5.o.ne g (by rw [ev];rfl)
      have GL:ag (g<w.heap.size):=(HR.o.own.lt g (by rw [ev];rfl)).2
      have O5:ag (w5.ownsRow 0 42 1 (.slice (some ⟨g,0,none⟩) i cp) i ((List.range i).map fun j=>Value.int .u64 (f j))):=vz
      clear ev vz hg;by_cases room:i+1<=cp
      ·go_wp2_with (at_builtin;refine wpList_append_fits _ rfl _ _ 83 rfl 0 42 ii 1 underlying83 aQ hs g i cp _ rfl (O5.o.alloc _) ⟨w5.heap.size,0,none⟩ 1 1 [By x] rfl rfl (uN w5 x) (ints_oneCell .u64 [x]) room ?_)
       intro w7 q1 q2;have Mt:=(q1.lt g rfl).2;have B7:ag (w7.heap[p]?=w5.heap[p]?):=by
        show w7.heap[p]?=w5.heap[p]?;rw [q2.block p (by simp;have:=R5.o.lt;omega) (fun q=>by cases q;exact GP.o rfl)]
        exact heap_alloc_old _ _ R5.o.lt
       have R7:ag (w7.heap[p]?=some (.cells #[AI (e+1),v,By a,By b,By c,By d] 200 (0,0))):=B7.o.trans R5.o.blk;have eG:=R7.o;have t0:∀ o,w7.frozen? ⟨p,o,none⟩=false:=fun o=>by simp [World.frozen?,eG]
       have t1:w7.cell? ⟨p,1,none⟩=some v:=by simp [World.cell?,eG]
       have t2:w7.cell? ⟨p,2,none⟩=some (By a):=by simp [World.cell?,eG]
       have t3:w7.cell? ⟨p,3,none⟩=some (By b):=by simp [World.cell?,eG]
       have t4:w7.cell? ⟨p,4,none⟩=some (By c):=by simp [World.cell?,eG]
       have t5:w7.cell? ⟨p,5,none⟩=some (By d):=by simp [World.cell?,eG]
       clear eG;have YL:Bx w7 (w.heap.size) 198 (By a') (By b'):=(q2.block _ (by simp;have:=iR.o.lt;omega) (fun q=>by cases q;have:=GL.o;omega)).trans (iR.o.alloc _)
       have YT:Bx w7 (w.heap.size+1) 198 (By c') (By d'):=(q2.block _ (by simp;have:=dD.o.lt;omega) (fun q=>by cases q;have:=GL.o;omega)).trans (dD.o.alloc _)
       have y1:=YL.c0;have y2:=YL.c1;have y3:=YT.c0;have y4:=YT.c1;have Mu:p≠w.heap.size:=by omega
       have Mv:p≠w.heap.size+1:=by omega
       have Q1:ag (w7.ownsRow 0 42 1 (.slice (some ⟨g,0,none⟩) (i+1) cp) (i+1) ((List.range i).map (fun j=>Value.int .u64 (f j))++[By x])):=DW q1
       have Q2:ag (Gs (dH p v) w w7):=((G5.o.alloc _ _).gs _).grown q2 (fun k hk=>by cases hk;exact .inr (by rw [EV.o];rfl))
       have FP:ag (∀ q,dH p (.slice (some ⟨g,0,none⟩) (i+1) cp) q->dH p v q\/w.heap.size<=q):=by
        show ∀ q,dH p (.slice (some ⟨g,0,none⟩) (i+1) cp) q->dH p v q\/w.heap.size<=q;intro q hq;rcases hq with rfl | hq
        ·exact .inl (.inl rfl)
        ·cases hq
         exact .inl (.inr (by rw [EV.o];rfl))
       have NE:ag (g≠p):=GP.o;clear q1 q2 YL YT aQ hz hs aR;go_wp2_with fail;go_ret2;exact ⟨⟨true,rfl,⟨fun _=>K.o,fun _=>rfl⟩,(fun q=>Bool.noConfusion q),fun _=>⟨_,_,_,_,_,aL.o w7 _ B7.o Q1.o (fun q hq=>by cases hq;exact NE.o),FP.o⟩⟩,((((Q2.o.set (.inl rfl) _ _).set (.inl rfl) _ _).set (.inl rfl) _ _).set (.inl rfl) _ _).set (.inl rfl) _ _⟩
      ·go_wp2_with (at_builtin;refine wpList_append_grows _ rfl _ _ 83 rfl 42 ii (By 0) 1 8 underlying83 aQ hz hs aR rfl (by decide) (some ⟨g,0,none⟩) i cp ((List.range i).map fun j=>Value.int .u64 (f j)) rfl (fun q=>by cases q) (by simp) (fun bb q=>by cases q;exact (O5.o.alloc _).cells rfl) ⟨w5.heap.size,0,none⟩ 1 1 [By x] rfl rfl (uN w5 x) (ints_oneCell .u64 [x]) (by omega) (by simp only [maxLen];omega) (by omega) ?_)
       intro v' w7 q1 q2;obtain ⟨g',fJ,vh,qR,Mt⟩:=Mk q1;subst vh;have B7:ag (w7.heap[p]?=w5.heap[p]?):=by
        show w7.heap[p]?=w5.heap[p]?;rw [q2.block p (by simp;have:=R5.o.lt;omega) (fun q=>by cases q)]
        exact heap_alloc_old _ _ R5.o.lt
       have R7:ag (w7.heap[p]?=some (.cells #[AI (e+1),v,By a,By b,By c,By d] 200 (0,0))):=B7.o.trans R5.o.blk;have eG:=R7.o;have t0:∀ o,w7.frozen? ⟨p,o,none⟩=false:=fun o=>by simp [World.frozen?,eG]
       have t1:w7.cell? ⟨p,1,none⟩=some v:=by simp [World.cell?,eG]
       have t2:w7.cell? ⟨p,2,none⟩=some (By a):=by simp [World.cell?,eG]
       have t3:w7.cell? ⟨p,3,none⟩=some (By b):=by simp [World.cell?,eG]
       have t4:w7.cell? ⟨p,4,none⟩=some (By c):=by simp [World.cell?,eG]
       have t5:w7.cell? ⟨p,5,none⟩=some (By d):=by simp [World.cell?,eG]
       clear eG;have YL:Bx w7 (w.heap.size) 198 (By a') (By b'):=(q2.block _ (by simp;have:=iR.o.lt;omega) (fun q=>by cases q)).trans (iR.o.alloc _)
       have YT:Bx w7 (w.heap.size+1) 198 (By c') (By d'):=(q2.block _ (by simp;have:=dD.o.lt;omega) (fun q=>by cases q)).trans (dD.o.alloc _)
       have y1:=YL.c0;have y2:=YL.c1;have y3:=YT.c0;have y4:=YT.c1;have Mu:p≠w.heap.size:=by omega
       have Mv:p≠w.heap.size+1:=by omega
       have Q1:ag (w7.ownsRow 0 42 1 (.slice (some ⟨g',0,none⟩) (i+1) fJ) (i+1) ((List.range i).map (fun j=>Value.int .u64 (f j))++[By x])):=DW q1
       have Q2:ag (Gs (dH p v) w w7):=((G5.o.alloc _ _).gs _).grown q2 (fun k hk=>by cases hk)
       have FP:ag (∀ q,dH p (.slice (some ⟨g',0,none⟩) (i+1) fJ) q->dH p v q\/w.heap.size<=q):=by
        show ∀ q,dH p (.slice (some ⟨g',0,none⟩) (i+1) fJ) q->dH p v q\/w.heap.size<=q;intro q hq;rcases hq with rfl | hq
        ·exact .inl (.inl rfl)
        ·cases hq
         exact .inr (show w.heap.size<=g' by have:=G5.o.size;first | omega | (simp at qR;omega))
       have NE:ag (g'≠p):=by
        show g'≠p;have:=G5.o.size
        first | omega | (simp at qR;omega)
       clear q1 q2 YL YT aQ hz hs aR;go_wp2_with fail;go_ret2;exact ⟨⟨true,rfl,⟨fun _=>K.o,fun _=>rfl⟩,(fun q=>Bool.noConfusion q),fun _=>⟨_,_,_,_,_,aL.o w7 _ B7.o Q1.o (fun q hq=>by cases hq;exact NE.o),FP.o⟩⟩,((((Q2.o.set (.inl rfl) _ _).set (.inl rfl) _ _).set (.inl rfl) _ _).set (.inl rfl) _ _).set (.inl rfl) _ _⟩
theorem aao (h:RF w p v e n f a b c d) (x:Int) (x0:0<=x) (x1:x<18446744073709551616) (hn:n<=4000000) (hp:0<n) (hx:x<=f (n-1)) :
  Calls prog 108 #[BY p,By x] w fun ex w'=>ex=.returned (.tuple #[.bool false,AI 40])/\Gw w w':=by
 obtain ⟨c0,c1,_⟩:=h.cells;have hl:=h.lt;obtain ⟨ao,cap,ev,ks⟩:=h.ks;rw [ev] at c1;obtain ⟨bk,off,eo,hb,hc⟩:=ks.cells hp;subst eo;obtain ⟨pr,hpr⟩:∃ pr:Nat,(n:Int)-1=pr:=⟨n-1,by omega⟩
 have zL:pr<n:=by omega
 have hw:=qu pr (by omega)
 have k1:=hc pr zL;rw [show n-1=pr by omega] at hx
 clear h ks hc ev;generalize f pr=fp at k1 hx;go_enter func108,ntmps108;go_wp2_with fail;go_ret2;exact ⟨rfl,Gw.refl w⟩
def my (w:World) (p:Nat) (S:Nat->Prop) (e:Int) (n:Nat) (f:Nat->Int):Prop:=∃ v a b c d,RF w p v e n f a b c d/\∀ q,S q↔dH p v q
theorem Mw (h:my w p S e n f) (x:Int) (x0:0<=x) (x1:x<18446744073709551616) (hn:n<=4000000) :
  Calls prog 108 #[BY p,By x] w fun ex w' =>
   (∃ (ok:Bool) (err:Int) (S':Nat->Prop),ex=.returned (.tuple #[.bool ok,AI err])/\CS e n f x ok err/\my w' p S' e (if ok then n+1 else n) (if ok then aD f n x else f)/\∀ q,S' q->S q\/w.heap.size<=q)/\Gs S w w':=by
 obtain ⟨v,a,b,c,d,h,hS⟩:=h;by_cases hx:0<n/\x<=f (n-1)
 ·refine (aao h x x0 x1 hn hx.1 hx.2).mono ?_
  rintro ex w' ⟨rfl,g⟩;exact ⟨⟨false,40,S,rfl,.inl ⟨hx.1,hx.2,rfl,rfl⟩,⟨v,a,b,c,d,h.gw g,hS⟩,fun q hq=>.inl hq⟩,g.gs S⟩
 ·refine (aam h x x0 x1 hn (fun h0=>by
   rcases Int.lt_or_le (f (n-1)) x with q | q
   ·exact q
   ·exact absurd ⟨h0,q⟩ hx)).mono ?_
  rintro ex w' ⟨⟨ok,rfl,h1,h2,h3⟩,g⟩;have g':Gs S w w':=⟨g.os,g.tape,g.output,g.size,fun q hq hs=>g.block q hq (fun r=>hs ((hS q).2 r))⟩
  cases ok with
  | true =>
   obtain ⟨v',a',b',c',d',hr,hf⟩:=h3 rfl;exact ⟨⟨true,0,dH p v',rfl,.inr ⟨hx,rfl,h1⟩,⟨v',a',b',c',d',hr,fun q=>Iff.rfl⟩,fun q hq=>by
    rcases hf q hq with r | r
    ·exact .inl ((hS q).2 r)
    ·exact .inr r⟩,g'⟩
  | false=>exact ⟨⟨false,0,S,rfl,.inr ⟨hx,rfl,h1⟩,⟨v,a,b,c,d,h.gw (h2 rfl),hS⟩,fun q hq=>.inl hq⟩,g'⟩
theorem Gs.gw (h:Gw W w) (g:Gs S w w') (hS:∀ q,S q->W.heap.size<=q):Gw W w' :=
 ⟨⟨g.os.trans h.below.os,g.tape.trans h.below.tape,g.output.trans h.below.output,Nat.le_trans h.below.size g.size,fun q hq=>(g.block q (Nat.lt_of_lt_of_le hq h.below.size) (fun s=>by have:=hS q s;omega)).trans (h.below.block q hq)⟩⟩
structure nI (HF:World->Nat->(Nat->Prop)->Int->Nat->(Nat->Int)->Prop):Prop where
 keep:∀ {w w':World} {p:Nat} {S:Nat->Prop} {e:Int} {n:Nat} {f:Nat->Int},HF w p S e n f->(∀ q,S q->w'.heap[q]?=w.heap[q]?)->HF w' p S e n f
 lt:∀ {w:World} {p:Nat} {S:Nat->Prop} {e:Int} {n:Nat} {f:Nat->Int},HF w p S e n f->∀ q,S q->q<w.heap.size
 ext:∀ {w:World} {p:Nat} {S:Nat->Prop} {e:Int} {n:Nat} {f g:Nat->Int},HF w p S e n f->(∀ i,i<n->f i=g i)->HF w p S e n g
 facts:∀ {w:World} {p:Nat} {S:Nat->Prop} {e:Int} {n:Nat} {f:Nat->Int},HF w p S e n f->Up f n/\(∀ i,i<n->0<=f i/\f i<18446744073709551616)/\aY e f (aB n)/\1<=e/\e<=63
 bad:∀ (eps:Int),¬ (2<=eps/\eps<=64)->∀ w:World,Calls prog 120 #[AI eps] w fun ex w'=>ex=.returned (.tuple #[.pointer none,AI 1])/\Gw w w'
 new:∀ (eps:Int),2<=eps->eps<=64->∀ w:World,Calls prog 120 #[AI eps] w fun ex w'=>(∃ p S,ex=.returned (.tuple #[BY p,AI 0])/\(∀ q,S q->w.heap.size<=q)/\HF w' p S (eps-1) 0 (fun _=>0))/\Gw w w'
 add:∀ {w:World} {p:Nat} {S:Nat->Prop} {e:Int} {n:Nat} {f:Nat->Int},HF w p S e n f->∀ x:Int,0<=x->x<18446744073709551616->n<=3000000 ->
  Calls prog 142 #[BY p,By x] w fun ex w' =>
   (∃ (ok:Bool) (err:Int) (S':Nat->Prop),ex=.returned (.tuple #[.bool ok,AI err])/\CS e n f x ok err/\HF w' p S' e (if ok then n+1 else n) (if ok then aD f n x else f)/\∀ q,S' q->S q\/w.heap.size<=q)/\Gs S w w'
 least:∀ {w:World} {p:Nat} {S:Nat->Prop} {e:Int} {n:Nat} {f:Nat->Int},HF w p S e n f->n<=3000001->Calls prog 145 #[BY p] w fun ex w'=>(∃ a b,ex=.returned (.agg #[By a,By b])/\bK e f (aB n) a b/\a<18446744073709551616/\b<18446744073709551616)/\Gw w w'
theorem nI.gw {HF:World->Nat->(Nat->Prop)->Int->Nat->(Nat->Int)->Prop} (H:nI HF) (h:HF w p S e n f) (g:Gw w w'):HF w' p S e n f :=
 H.keep h fun q hq=>g.below.block q (H.lt h q hq)
theorem Mx:(prog.info? 3).map (fun i=>(i.zero,i.size,i.bytes))=some (some (AI 0),1,8):=by kernel_rfl
def IR (w:World) (base:Nat) (v:Value) (l:List Nat):Prop:=w.ownsRow base 3 1 v l.length (l.map fun (j:Nat)=>Value.int .i64 (j:Int))
variable {l:List Nat}
theorem zM (h:IR w base v l) (k:∀ q,v.ownBlock=some q->w'.heap[q]?=w.heap[q]?):IR w' base v l:=by
 refine ⟨h.1,?_⟩;rcases h.2 with q | ⟨g,cap,cur,rfl,hb,hh,r⟩
 ·exact .inl q
 ·exact .inr ⟨g,cap,cur,rfl,hb,(k g rfl).trans hh,r⟩
theorem ly (h:IR w base v l):∀ q,v.ownBlock=some q->base<=q/\q<w.heap.size:=fun q hq=>World.ownsRow.lt h q hq
theorem My (h:IR w base v l) (g:Gw w w'):IR w' base v l:=zM h fun q hq=>g.below.block q (ly h q hq).2
theorem vA (w:World) (base:Nat):IR w base (.slice none 0 0) []:=World.ownsRow_nil _ _ _ _
theorem aap (w:World) (base:Nat) (hb:base<=w.heap.size):IR (w.alloc (.cells #[] 3)) base (.slice (some ⟨w.heap.size,0,none⟩) 0 0) []:=World.ownsRow_made w #[] 0 hb (Nat.zero_le _) rfl
theorem Mz (h:IR w base v l):∃ ao cap,v=.slice ao l.length cap/\(ao=none->l=[]/\cap=0)/\(∀ ad,ao=some ad->∃ g,ad=⟨g,0,none⟩/\base<=g/\g<w.heap.size/\∀ i,i<l.length->w.cell? ⟨g,i,none⟩=some (AI ((l.getD i 0:Nat):Int))):=by
 rcases h.2 with ⟨rfl,q⟩ | ⟨g,cap,cur,rfl,hb,hh,r⟩
 ·have:l=[]:=List.eq_nil_of_length_eq_zero q
  subst this;exact ⟨none,0,rfl,fun _=>⟨rfl,rfl⟩,fun ad e=>by cases e⟩
 ·refine ⟨some ⟨g,0,none⟩,cap,rfl,(fun e=>by cases e),fun ad e=>⟨g,by cases e;rfl,hb,(Array.getElem?_eq_some_iff.1 hh).1,fun i hi=>?_⟩⟩
  have:=World.ownsRow.cellAt h i (by omega)
  rw [this];simp [hi,List.getD]
theorem zN (w:World) (x:Int):∀ j u,[Value.int .i64 x][j]?=some u->(w.alloc (.cells #[AI x] 3)).cell? ((⟨w.heap.size,0,none⟩:Addr).add j)=some u:=by
 intro j u hu;cases j with
 | zero =>
  simp only [List.getElem?_cons_zero,Option.some.injEq] at hu;subst hu;simp [Addr.add,go_sem]
 | succ j=>simp at hu
def nJ (f:Nat->Int) (m j:Nat):Int:=if j<m then f j else 0
theorem qS {m j:Nat} (h:j<m):nJ f m j=f j:=if_pos h
theorem zO (f:Nat->Int) (m:Nat):aD (nJ f m) m (f m)=nJ f (m+1):=by
 funext j
 by_cases e:j=m
 ·subst e;rw [dO,qS (by omega)]
 ·by_cases e':j<m
  ·rw [bH e',qS e',qS (by omega)]
  ·unfold aD
   rw [if_neg e];unfold nJ;rw [if_neg e',if_neg (by omega)]
theorem MA (f:Nat->Int):nJ f 0=fun _=>0:=by funext j;exact if_neg (by omega)
theorem DX (h:my w p S e n f):∀ q,S q->q<w.heap.size:=by
 obtain ⟨v,a,b,c,d,hR,hS⟩:=h;exact fun q hq=>hR.in q ((hS q).1 hq)
theorem MC (h:my w p S e n f) (k:∀ q,S q->w'.heap[q]?=w.heap[q]?):my w' p S e n f:=by
 obtain ⟨v,a,b,c,d,hR,hS⟩:=h;exact ⟨v,a,b,c,d,hR.keep fun q hq=>k q ((hS q).2 hq),hS⟩
theorem MD (h:Gw W w) (g:Gs S w w') (hS:∀ q,S q->W.heap.size<=q):Gw W w' :=
 ⟨⟨g.os.trans h.below.os,g.tape.trans h.below.tape,g.output.trans h.below.output,Nat.le_trans h.below.size g.size,fun q hq=>(g.block q (Nat.lt_of_lt_of_le hq h.below.size) (fun s=>by have:=hS q s;omega)).trans (h.below.block q hq)⟩⟩
structure tM (w0 w:World) (p:Nat) (S:Nat->Prop) (e:Int) (f:Nat->Int) (s i:Nat):Prop where
 fit:my w p S e (i-s) (nJ (sh f s) (i-s))
 new:∀ q,S q->w0.heap.size<=q
 on:aY e (sh f s) (aB (i-s))
theorem MF {w0:World} {s i:Nat} (h:tM w0 w p S e f s i) (g0:Gw w0 w) (hs:s<=i) (hi:i<n) (u:Up f n) (x:Int) (hx:f i=x) (x0:0<=x) (x1:x<18446744073709551616) (hn:n<=4000000) :
  Calls prog 108 #[BY p,By x] w fun ex w' =>
   ∃ (ok:Bool) (err:Int) (S':Nat->Prop),ex=.returned (.tuple #[.bool ok,AI err])/\(ok=true↔aY e (sh f s) (aB (i+1-s)))/\(ok=true->tM w0 w' p S' e f s (i+1))/\(∀ q,S' q->S q\/w.heap.size<=q)/\Gs S w w'/\Gw w0 w':=by
 refine (Mw h.fit x x0 x1 (by omega)).mono ?_
 rintro ex w' ⟨⟨ok,err,S',rfl,hA,hF,fV⟩,g⟩;have ei:i+1-s=i-s+1:=by omega
 have vB:sh f s (i-s)=x:=by show f (s+(i-s))=x;rw [show s+(i-s)=i by omega];exact hx
 have UF:∀ j,j<i-s+1->aD (nJ (sh f s) (i-s)) (i-s) x j=sh f s j:=fun j hj=>by
  rw [<-vB,zO,qS hj]
 have HC:ok=true↔aY e (sh f s) (aB (i+1-s)):=by
  rw [ei];rcases hA with ⟨q1,q2,_⟩ | ⟨_,_,q3⟩
  ·exfalso
   rw [qS (by omega)] at q2
   have q4:f (s+(i-s-1))<f i:=u.lt (by omega) hi
   have q5:sh f s (i-s-1)=f (s+(i-s-1)):=rfl;omega
  ·refine q3.trans ⟨fun q=>q.congr (fun _ _ s=>s) (fun a b s=>?_),fun q=>q.congr (fun _ _ s=>s) (fun a b s=>?_)⟩
   all_goals rw [UF b (by have:=s.2;omega),UF a (by have:=s.1;have:=s.2;omega)]
 refine ⟨ok,err,S',rfl,HC,fun q=>?_,fV,g,MD g0 g h.new⟩
 have on:=HC.1 q;subst q;refine ⟨?_,fun q hq=>?_,on⟩
 ·rw [if_pos rfl,if_pos rfl,<-vB,zO] at hF
  rw [ei];exact hF
 ·rcases fV q hq with r | r
  ·exact h.new q r
  ·have:=g0.size;omega
theorem MH (w0 w:World) (eps:Int) (e1:2<=eps) (e2:eps<=64) (f:Nat->Int) (s:Nat) (g0:Gw w0 w) :
  Calls prog 107 #[AI eps] w fun ex w'=>(∃ p S,ex=.returned (.tuple #[BY p,AI 0])/\tM w0 w' p S (eps-1) f s s/\(∀ q,S q->w.heap.size<=q))/\Gw w w':=by
 refine (Ku eps e1 e2 w).mono ?_;rintro ex w' ⟨⟨p,rfl,hp,hF⟩,g⟩;have hS:∀ q,dH p (.slice none 0 0) q->w.heap.size<=q:=fun q hq=>by
  rcases hq with rfl | hq
  ·exact hp
  ·simp [Value.ownBlock] at hq
 refine ⟨⟨p,dH p (.slice none 0 0),rfl,⟨?_,fun q hq=>?_,?_⟩,hS⟩,g⟩
 ·rw [Nat.sub_self,MA]
  exact ⟨_,_,_,_,_,hF,fun q=>Iff.rfl⟩
 ·have:=hS q hq;have:=g0.size;omega
 ·rw [Nat.sub_self]
  intro a b a' b' q;have:=q.1;have:=q.2;omega
def MI (base:Nat) (w':World) (ex:Ending) (eps:Int) (f:Nat->Int) (n:Nat):Prop:=∃ v l err,ex=.returned (.tuple #[v,AI err])/\oI eps f n l err/\IR w' base v l
theorem aaq (eps:Int) (ao:Option Addr) (n cp:Nat) (f:Nat->Int) (p0:-9223372036854775808<=eps) (p1:eps<9223372036854775808) (hn:n<=2000000) (w:World) (h:KS w ao n f) :
  Calls prog 72 #[.slice ao n cp,AI eps] w fun ex w'=>MI w.heap.size w' ex eps f n/\Gw w w':=by
 have HK:ag _:=h;clear h;obtain ⟨ii,aQ,hz,hs,aR⟩:=info_parts Mx;by_cases k0:¬ (2<=eps/\eps<=64)
 ·have R:ag (oI eps f n [] 1):=.inl ⟨k0,rfl,rfl⟩
  have vC:ag _:=fun W=>Xw eps k0 W
  clear k0;go_enter func72,ntmps72;go_wp2_with fail;refine (vC.o _).mono ?_;rintro ex w1 ⟨rfl,g1⟩;go_wp2_with fail;exact bodyPost_ret (v:=.tuple #[.slice none 0 0,AI 1]) (by simp [results,results72,go_sem]) rfl ⟨⟨_,[],1,rfl,R.o,vA _ _⟩,g1⟩
 ·have KE:ag (2<=eps/\eps<=64):=Classical.not_not.1 k0
  have k2:=KE.o.1;have k3:=KE.o.2;clear k0;go_enter func72,ntmps72;go_wp2_with fail;refine (MH w _ eps k2 k3 f 0 (Gw.refl w)).mono ?_;rintro ex w1 ⟨⟨p,S,rfl,hF,_⟩,g1⟩;have F1:ag _:=hF;have G1:ag _:=g1;clear hF g1;go_wp2_with fail;refine (CW ao n cp f (by omega) _ (HK.o.gw G1.o)).mono ?_
  rintro ex w2 ⟨⟨r,rfl,hr⟩,g2⟩;have HR:ag _:=hr;have G2:ag _:=G1.o.trans g2;have F2:ag (tM w w2 p S (eps-1) f 0 0):=⟨MC F1.o.fit fun q hq=>g2.below.block q (DX F1.o.fit q hq),F1.o.new,F1.o.on⟩
  clear hr g2 F1 G1;cases r with
  | false =>
   have R:ag (oI eps f n [] 60):=.inr (.inl ⟨KE.o,fun q=>by have:=HR.o.2 q;simp at this,rfl,rfl⟩)
   go_wp2_with fail;exact bodyPost_ret (v:=.tuple #[.slice none 0 0,AI 60]) (by simp [results,results72,go_sem]) rfl ⟨⟨_,[],60,rfl,R.o,vA _ _⟩,G2.o⟩
  | true =>
   have UP:ag _:=HR.o.1 rfl;clear HR;have I3:ag _:=aap w2 w.heap.size G2.o.size;have G3:ag (Gw w (w2.alloc (.cells #[] 3))):=G2.o.alloc _ _;have F3:ag (tM w (w2.alloc (.cells #[] 3)) p S (eps-1) f 0 0):=⟨MC F2.o.fit fun q hq=>((Gw.refl w2).alloc _ _).below.block q (DX F2.o.fit q hq),F2.o.new,F2.o.on⟩
   have N3:ag (¬ S w2.heap.size):=fun q=>by have:=DX F2.o.fit _ q;omega
   have B3:ag _:=G2.o.size;clear F2 G2;go_wp2_with fail;generalize w2.alloc (.cells #[] 3)=w3 at I3 G3 F3 ⊢;go_loopg [6,8,9] n (fun gg s6 s8 s9 wr=>∃ (i s p b cap:Nat) (S:Nat->Prop) (l:List Nat),s6=BY p/\s8=.slice (some ⟨b,0,none⟩) l.length cap/\s9=AI i/\s<=i/\i<=n/\n-i<=gg/\l.length<=i/\(s=i->i=0)/\ag (tM w wr p S (eps-1) f s i)/\ag (IR wr w.heap.size (.slice (some ⟨b,0,none⟩) l.length cap) l)/\ag (¬ S b)/\ag (w.heap.size<=b)/\ag (∀ l',cV (eps-1) f n s l'->cV (eps-1) f n 0 (l++l'))/\ag (Gw w wr))
   case atStart=>exact ⟨0,0,p,w2.heap.size,0,S,[],rfl,rfl,rfl,Nat.le_refl _,Nat.zero_le _,by omega,Nat.le_refl _,fun _=>rfl,F3,I3,N3,B3,(show ag _ from fun l' h=>h),G3⟩
   case round =>
    clear F3 I3 N3 B3 G3;obtain ⟨i,s,p,b,cap,S,l,rfl,rfl,rfl,h1,h2,h3,h4,h5,F,I,NB,BB,dX,G⟩:=hrel;by_cases ar:i<n
    ·obtain ⟨bk,off,rfl,fT,hc⟩:=(HK.o.gw G.o).cells (by omega)
     have q1:=hc i ar;obtain ⟨y0,y1⟩:=HK.o.bd i ar;obtain ⟨fi,eF⟩:∃ y,f i=y:=⟨_,rfl⟩;have FI:ag _:=eF;rw [eF] at q1 y0 y1;clear hc eF;go_wp2_with fail;refine (MF F.o G.o h1 ar UP.o fi FI.o y0 y1 (by omega)).mono ?_
     rintro ex w4 ⟨ok,err,S',rfl,eH,hF,fV,gs,g4⟩;have OK:ag _:=eH;have G4:ag _:=g4;have I4:ag _:=zM I.o fun q hq=>by
      cases hq
      exact gs.block b (ly I.o b rfl).2 NB.o
     cases ok with
     | true =>
      have F4:ag _:=hF rfl;have DY:ag (¬ S' b):=fun q=>by
       rcases fV b q with r | r
       ·exact NB.o r
       ·have:=(ly I.o b rfl).2;omega
      clear eH hF fV gs g4 F I NB G OK q1;go_wp2_with fail;go_roundg (n-(i+1))
      case measure=>omega
      case rel=>exact ⟨i+1,s,p,b,cap,S',l,rfl,rfl,by go_num,by omega,by omega,Nat.le_refl _,by omega,fun q=>by omega,F4,I4,DY,BB,dX,G4⟩
     | false =>
      have si:s<i:=by
       rcases Nat.lt_or_ge s i with q | q
       ·exact q
       ·exfalso
        have e:s=i:=by omega
        have:aY (eps-1) (sh f s) (aB (i+1-s)):=yW (by omega) (oJ UP.o (show i+1<=n by omega)) (by omega)
        have:=OK.o.2 this
        simp at this
      have ON:ag _:=F.o.on;have NX:ag (∀ l',cV (eps-1) f n i l'->cV (eps-1) f n 0 ((l++[i])++l')):=fun l' h=>by
       rw [List.append_assoc];exact dX.o (i::l') ⟨si,by omega,ON.o,fun _ q=>by have:=OK.o.2 q;simp at this,h⟩
      have q2:w4.cell? ⟨bk,off+i,none⟩=some (By fi):=by
       obtain ⟨vu,tJ,e,_,kC⟩:=(HK.o.gw G4.o).cells (by omega)
       cases e
       rw [kC i ar,FI.o]
      have zP:bk<w4.heap.size:=by
       have:=(HK.o.gw G4.o).cells (by omega)
       obtain ⟨vu,tJ,e,eP,_⟩:=this;cases e;exact eP
      clear eH hF fV gs g4 F I NB G OK dX ON q1;have z4:=G4.o.size;go_wp2_with (at_builtin;refine wpList_append_own _ rfl _ _ 50 rfl w.heap.size 3 ii (AI 0) 1 8 underlying50 aQ hz hs aR rfl (by decide) _ l.length _ rfl (I4.o.alloc _) ⟨w4.heap.size,0,none⟩ 1 1 [AI (i:Int)] rfl rfl (zN w4 i) (ints_oneCell .i64 [(i:Int)]) (by simp only [maxLen];omega) (by omega) (by simp;omega) ?_)
      intro v' w5 r1 r2 r3;obtain ⟨b5,dJ,rfl,fI,_,_⟩:=dh r1 (by simpa using r3)
      have I5:ag (IR w5 w.heap.size (.slice (some ⟨b5,0,none⟩) (l++[i]).length dJ) (l++[i])):=by
       have:=r1
       simp only [IR,List.length_append,List.length_cons,List.length_nil,List.map_append,List.map_cons,List.map_nil];show World.ownsRow _ _ _ _ _ _ _;simpa using this
      have G5:ag (Gw w w5):=(G4.o.alloc _ _).grown r2 (fun k hk=>by cases hk;exact BB.o)
      have B5:ag _:=fI;have e5:(l++[i]).length=l.length+1:=by simp
      have q5:w5.cell? ⟨bk,off+i,none⟩=some (By fi):=by
       obtain ⟨vu,tJ,e,_,kC⟩:=(HK.o.gw G5.o).cells (by omega)
       cases e
       rw [kC i ar,FI.o]
      clear r1 r2 r3 I4 BB fI q2 zP;go_wp2_with fail;refine (MH w _ eps k2 k3 f i G5.o).mono ?_;rintro ex w6 ⟨⟨p6,S6,rfl,MJ,MP⟩,g6⟩;have F6:ag _:=MJ;have G6:ag _:=G5.o.trans g6;have I6:ag _:=My I5.o g6;have DZ:ag (¬ S6 b5):=fun q=>by have:=MP b5 q;have:=(ly I5.o b5 rfl).2;omega
      have q6:w6.cell? ⟨bk,off+i,none⟩=some (By fi):=by
       obtain ⟨vu,tJ,e,_,kC⟩:=(HK.o.gw G6.o).cells (by omega)
       cases e
       rw [kC i ar,FI.o]
      clear MJ MP g6 G5 I5 q5;go_wp2_with fail;refine (MF F6.o G6.o (Nat.le_refl _) ar UP.o fi FI.o y0 y1 (by omega)).mono ?_
      rintro ex w7 ⟨ok7,af6,S7,rfl,MQ,MR,MU,MW,g7⟩;have o7:ok7=true:=MQ.2 (yW (by omega) (oJ UP.o (show i+1<=n by omega)) (by omega))
      have F7:ag _:=MR o7;have G7:ag _:=g7;have I7:ag _:=zM I6.o fun q hq=>by
       cases hq
       exact MW.block b5 (ly I6.o b5 rfl).2 DZ.o
      have NB7:ag (¬ S7 b5):=fun q=>by
       rcases MU b5 q with r | r
       ·exact DZ.o r
       ·have:=(ly I6.o b5 rfl).2;omega
      clear MQ MR MU MW g7 F6 G6 I6 DZ q6;go_wp2_with fail;go_roundg (n-(i+1))
      case measure=>omega
      case rel=>exact ⟨i+1,i,p6,b5,dJ,S7,l++[i],rfl,by rw [e5],by go_num,by omega,by omega,Nat.le_refl _,by omega,fun q=>by omega,F7,I7,NB7,B5,NX,G7⟩
    ·have e:i=n:=by omega
     subst e;by_cases n0:0<i
     ·have si:s<i:=by
       rcases Nat.lt_or_ge s i with q | q
       ·exact q
       ·have:=h5 (by omega);omega
      have R:ag (oI eps f i (l++[i]) 0):=.inr (.inr ⟨KE.o,UP.o,dX.o [i] ⟨si,Nat.le_refl _,F.o.on,fun q=>absurd q (Nat.lt_irrefl _),rfl⟩,rfl⟩)
      have tn:(0:Int)<(i:Int):=by omega
      have z4:=G.o.size;clear F dX NB;go_wp2_with (at_builtin;refine wpList_append_own _ rfl _ _ 50 rfl w.heap.size 3 ii (AI 0) 1 8 underlying50 aQ hz hs aR rfl (by decide) _ l.length _ rfl (I.o.alloc _) ⟨wr.heap.size,0,none⟩ 1 1 [AI (i:Int)] rfl rfl (zN wr i) (ints_oneCell .i64 [(i:Int)]) (by simp only [maxLen];omega) (by omega) (by simp;omega) ?_)
      intro v' w5 r1 r2 r3;have I5:ag (IR w5 w.heap.size v' (l++[i])):=by
       have:=r1
       simp only [IR,List.length_append,List.length_cons,List.length_nil,List.map_append,List.map_cons,List.map_nil];show World.ownsRow _ _ _ _ _ _ _;simpa using this
      have G5:ag (Gw w w5):=(G.o.alloc _ _).grown r2 (fun k hk=>by cases hk;exact BB.o)
      clear r1 r2 r3;go_wp2_with fail;exact bodyPost_ret (v:=.tuple #[v',AI 0]) (by simp [results,results72,go_sem]) rfl ⟨⟨_,_,0,rfl,R.o,I5.o⟩,G5.o⟩
     ·have ei:i=0:=by omega
      subst ei;have es:s=0:=by omega
      subst es;have R:ag (oI eps f 0 l 0):=.inr (.inr ⟨KE.o,UP.o,by simpa using dX.o [] rfl,rfl⟩)
      clear F dX NB;go_wp2_with fail;exact bodyPost_ret (v:=.tuple #[.slice (some ⟨b,0,none⟩) l.length cap,AI 0]) (by simp [results,results72,go_sem]) rfl ⟨⟨_,_,0,rfl,R.o,I.o⟩,G.o⟩
end Go.Proofs.YtcboobmfnmgldaaGreat
