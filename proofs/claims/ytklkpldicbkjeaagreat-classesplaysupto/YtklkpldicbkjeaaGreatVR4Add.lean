/- The document's Add. -/
import Derived.ArgAppend
import Derived.Deep.CutBlock
import Derived.Deep.DeepCutAuto
import Derived.Test.YtklkpldicbkjeaaGreatVR4
set_option linter.unusedVariables false
set_option maxHeartbeats 16000000
set_option maxRecDepth 100000
open Go.Proofs.Tryz
namespace Go.Proofs.YtklkpldicbkjeaaGreat
open Go.RowKit
structure Gs (S:Nat->Prop) (w w':World):Prop where
 os:w'.os=w.os
 tape:w'.tape=w.tape
 output:w'.output=w.output
 size:w.heap.size<=w'.heap.size
 block:∀ q,q<w.heap.size->¬ S q->w'.heap[q]?=w.heap[q]?
theorem Gw.gs {w w':World} (h:Gw w w') (S:Nat->Prop):Gs S w w':=⟨h.below.os,h.below.tape,h.below.output,h.below.size,fun q hq _=>h.below.block q hq⟩
theorem Gs.set {S:Nat->Prop} {w w':World} (h:Gs S w w') {q:Nat} (hq:S q) (o:Nat) (v:Value):Gs S w (w'.setCell ⟨q,o,none⟩ v) :=
 ⟨h.os,h.tape,h.output,by simpa [World.setCell] using h.size,fun k hk hs=>(Go.Deep.blk_setCell_other _ _ _ _ (fun e=>hs (by rw [e];exact hq))).trans (h.block k hk hs)⟩
theorem Gs.grown {S:Nat->Prop} {w w' dE:World} {row:Option Nat} (h:Gs S w w') (g:w'.grownBy dE row) (hr:∀ k,row=some k->S k):Gs S w dE :=
 ⟨g.os.trans h.os,g.tape.trans h.tape,g.output.trans h.output,Nat.le_trans h.size g.size,fun k hk hs=>(g.block k (Nat.lt_of_lt_of_le hk h.size) (fun e=>hs (hr k e.symm))).trans (h.block k hk hs)⟩
theorem Db {w:World} {base e size n:Nat} {v:Value} {xs:List Value} (h:w.ownsRow base e size v n xs):w.ownsRow 0 e size v n xs:=by
 refine ⟨h.1,?_⟩;rcases h.2 with q | ⟨g,cap,cur,rfl,_,r⟩
 ·exact .inl q
 ·exact .inr ⟨g,cap,cur,rfl,Nat.zero_le _,r⟩
theorem LF {w:World} {base e size n:Nat} {v:Value} {xs:List Value} (h:w.ownsRow base e size v (n+1) xs):∃ g cap,v=.slice (some ⟨g,0,none⟩) (n+1) cap/\base<=g/\g<w.heap.size:=by
 rcases h.2 with ⟨_,q⟩ | ⟨g,cap,cur,rfl,hg,hh,_⟩
 ·omega
 ·exact ⟨g,cap,rfl,hg,(Array.getElem?_eq_some_iff.1 hh).1⟩
theorem ZQ {W:World} {p:Nat} {v v0 x2 x3 x4 x5:Value} {e:Int} {n:Nat} {f:Nat->Int} {a b c d:Int}
  (blk:W.heap[p]?=some (.cells #[.int .i64 (e+1),v0,x2,x3,x4,x5] 191 (0,0)))
  (own:W.ownsRow 0 34 1 v n ((List.range n).map fun i=>Value.int .u64 (f i))) (ne:∀ q,v.ownBlock=some q->q≠p) (up:Up f n) (bd:∀ i,i<n->0<=f i/\f i<18446744073709551616)
  (low:bG e f (ay n) a b) (top:de e f (ay n) c d) (fit:aQ e f (ay n)) (e1:1<=e/\e<=63) (wd:(a<18446744073709551616/\b<18446744073709551616)/\(0<=c/\c<18446744073709551616)/\(0<=d/\d<18446744073709551616)) :
  RF (((((W.setCell ⟨p,1,none⟩ v).setCell ⟨p,2,none⟩ (.int .u64 a)).setCell ⟨p,3,none⟩ (.int .u64 b)).setCell ⟨p,4,none⟩ (.int .u64 c)).setCell ⟨p,5,none⟩ (.int .u64 d)) p v e n f a b c d:=by
 refine ⟨?_,⟨own.1,?_⟩,ne,up,bd,low,top,fit,e1,wd⟩
 ·simp [World.setCell,Array.getElem?_modify,blk]
 ·rcases own.2 with q | ⟨g,cap,cur,rfl,hb,hh,r⟩
  ·exact .inl q
  ·have uZ:=ne g rfl
   refine .inr ⟨g,cap,cur,rfl,hb,?_,r⟩;rw [Go.Deep.blk_setCell_other _ _ _ _ uZ,Go.Deep.blk_setCell_other _ _ _ _ uZ,Go.Deep.blk_setCell_other _ _ _ _ uZ,Go.Deep.blk_setCell_other _ _ _ _ uZ,Go.Deep.blk_setCell_other _ _ _ _ uZ];exact hh
theorem ZS {w:World} {p:Nat} {v:Value} {e:Int} {n:Nat} {f:Nat->Int} {a b c d:Int} (h:RF w p v e n f a b c d) (x:Int) (x0:0<=x) (x1:x<18446744073709551616) (hn:n<=4000000) (hx:0<n->f (n-1)<x) :
  Calls prog 106 #[.pointer (some ⟨p,0,none⟩),.int .u64 x] w fun ex w' =>
   (∃ ok:Bool,ex=.returned (.tuple #[.bool ok,.int .i64 0])/\(ok=true↔aQ e (aC f n x) (ay (n+1)))/\(ok=false->Gw w w')/\(ok=true->∃ v' a' b' c' d',RF w' p v' e (n+1) (aC f n x) a' b' c' d'/\∀ q,dI p v' q->dI p v q\/w.heap.size<=q))/\Gs (dI p v) w w':=by
 obtain ⟨c0,c1,c2,c3,c4,c5⟩:=h.cells;have hl:=h.lt;obtain ⟨e1,e2⟩:=h.e1;have HR:ag (RF w p v e n f a b c d):=h;have UP:ag (Up (aC f n x) (n+1)):=Cg h.up hx;have CM:ag (∀ M c g:Int,0<M->c*g=M->0<g->1<=c):=by
  show ∀ M c g:Int,0<M->c*g=M->0<g->1<=c;intro M c g h0 h1 h2;rcases Int.lt_or_le 0 c with q | q
  ·omega
  ·have:=Int.mul_le_mul_of_nonneg_right q (show 0<=g by omega)
   omega
 have HX:ag (∀ i,i<n->f i<x):=by
  show ∀ i,i<n->f i<x;intro i hi;have q1:=hx (by omega)
  have q2:=h.up.le (show i<=n-1 by omega) (by omega)
  omega
 have ST:ag (bG e (aC f n x) (fC n 0) a b/\de e (aC f n x) (fC n 0) c d/\(a<18446744073709551616/\b<18446744073709551616)/\(0<=c/\c<18446744073709551616)/\(0<=d/\d<18446744073709551616)) :=
  ⟨h.low.congr (Ka n) (fun i j s=>by rw [bu s.2,bu (by have:=s.1;have:=s.2;omega)]),h.top.congr (Ka n) (fun i j s=>by rw [bu s.2,bu (by have:=s.1;have:=s.2;omega)]),h.wd⟩
 obtain ⟨ao,cap,ev,ks⟩:=h.ks;rw [ev] at c1;clear h;go_enter func106,ntmps106;go_upto_region 2 with fail;go_cut [32] (fun ZT wc=>ZT=.bool false/\wc=w)
 case first =>
  by_cases hz:n=0
  ·have z0:¬ 0<n:=by omega
   have z1:decide ((0:Int)<n)=false:=by simp;omega
   clear hz ks hx;go_wp2_with fail;go_meet
   case rel=>exact ⟨rfl,rfl⟩
  ·obtain ⟨bk,off,eo,hb,hc⟩:=ks.cells (by omega)
   subst eo;obtain ⟨pr,ZU⟩:∃ pr:Nat,(n:Int)-1=pr:=⟨n-1,by omega⟩
   have qI:pr<n:=by omega
   have hw:=qm pr (by omega)
   have nL:0<n:=by omega
   have k1:=hc pr qI;have xk:¬ x<=f pr:=by
    have:=HX.o pr qI
    omega
   clear hz ks hx hc;generalize f pr=fp at k1 xk;go_wp2_with fail;go_meet
   case rel=>exact ⟨rfl,rfl⟩
 case rest =>
  obtain ⟨rfl,vd⟩:=hcut;have Dc:w=wc:=vd.symm;subst Dc;clear vd ks hx;go_wp2_with fail;clear c0 c1 c2 c3 c4 c5 ev;go_loopg [10] n (fun gg iV wr=>∃ (i:Nat) (a' b' c' d':Int),iV=.int .i64 i/\i<=n/\n-i<=gg/\ag (Bx wr (w.heap.size) 189 (.int .u64 a') (.int .u64 b'))/\ag (Bx wr (w.heap.size+1) 189 (.int .u64 c') (.int .u64 d'))/\ag (bG e (aC f n x) (fC n i) a' b'/\de e (aC f n x) (fC n i) c' d'/\(a'<18446744073709551616/\b'<18446744073709551616)/\(0<=c'/\c'<18446744073709551616)/\(0<=d'/\d'<18446744073709551616))/\ag (Gw w wr))
  case atStart=>exact ⟨0,a,b,c,d,rfl,Nat.zero_le _,by omega,(show ag _ from (Bx.new w _ _ _).alloc _),(show ag _ from (Bx.new _ _ _ _).at (by simp)),ST,(show ag _ from ((Gw.refl w).alloc _ _).alloc _ _)⟩
  case round =>
   obtain ⟨i,a',b',c',d',rfl,h1,h2,XL,XT,I,G⟩:=hrel;obtain ⟨⟨wa,wb⟩,⟨oT,nM⟩,⟨oU,oV⟩⟩:=I.o.2.2;have LG:=I.o.1.a0;have wb0:=I.o.1.b1;by_cases ak:i<n
   ·have hh:=HR.o.gw G.o
    obtain ⟨_,c1,_⟩:=hh.cells;obtain ⟨ao,cap,ev,ks⟩:=hh.ks;rw [ev] at c1;obtain ⟨bk,off,rfl,hb,hc⟩:=ks.cells (by omega)
    have k1:=hc i ak;have fb:=HR.o.bd i ak;have fx:f i<x:=HX.o i ak;clear hh ks hc ev;have TP:ag (de e (aC f n x) (fC n i) c' d'):=I.o.2.1;have LP:ag (bG e (aC f n x) (fC n i) a' b'):=I.o.1;have E0:ag (aC f n x n-aC f n x i=x-f i):=by show _=_;rw [dO,bu ak]
    obtain ⟨fi,eG⟩:∃ y,f i=y:=⟨_,rfl⟩;rw [eG] at k1 fb fx E0;clear eG;obtain ⟨D,hD⟩:∃ y,x-fi=y:=⟨_,rfl⟩;obtain ⟨m,hm⟩:∃ y,(n:Int)-i-2*e=y:=⟨_,rfl⟩;obtain ⟨M,hM⟩:∃ y,(n:Int)-i+2*e=y:=⟨_,rfl⟩;have EM:ag ((n:Int)-i+2*e=M/\aC f n x n-aC f n x i=D):=⟨hM,by rw [E0.o,hD]⟩
    have Em:ag ((n:Int)-i-2*e=m):=hm;have wM:=wu (x:=M) (by omega) (by omega)
    have D0:0<D:=by omega
    have D1:D<18446744073709551616:=by omega
    have M0:0<M:=by omega
    have M1:M<10000000:=by omega
    have m1:m<10000000:=by omega
    clear E0;by_cases Xr:0<m
    ·have wm:=wu (x:=m) (by omega) (by omega)
     go_wp2_with fail;refine (zf m D (by omega) (by omega) (by omega) (by omega) _).mono ?_
     rintro ex w1 ⟨⟨lc,ld,lg,rfl,oW⟩,g1⟩;obtain ⟨q0,q1⟩:=oW.c0,oW.d1;have q2:lc<18446744073709551616:=by have:=oW.cb;omega
     have q3:ld<18446744073709551616:=by have:=oW.db;omega
     have LH:ag (Bx (w1.alloc (.cells #[.int .u64 lc,.int .u64 ld] 189)) (w.heap.size) 189 (.int .u64 a') (.int .u64 b')):=(XL.o.gw g1).alloc _;have LM:ag (Bx (w1.alloc (.cells #[.int .u64 lc,.int .u64 ld] 189)) (w.heap.size+1) 189 (.int .u64 c') (.int .u64 d')):=(XT.o.gw g1).alloc _;have G2:ag (Gw w (w1.alloc (.cells #[.int .u64 lc,.int .u64 ld] 189))):=(G.o.trans g1).alloc _ _;have HL:ag (tu m D lc ld lg):=oW;have z1:=(XL.o.gw g1).c0;have z2:=(XL.o.gw g1).c1;have z3:=(XL.o.gw g1).lt;clear oW g1;go_wp2_with fail;refine (uY a' b' lc ld LG wa (by omega) wb q0 q2 (by omega) q3 _).mono ?_
     rintro ex w2 ⟨⟨r1,rfl,qJ⟩,g2⟩;have tv:ag (Bx w2 (w.heap.size) 189 (.int .u64 a') (.int .u64 b')):=LH.o.gw g2;have LR:ag (Bx w2 (w.heap.size+1) 189 (.int .u64 c') (.int .u64 d')):=LM.o.gw g2;have G4:ag (Gw w w2):=G2.o.trans g2;have y1:=(Bx.new w1 189 (.int .u64 lc) (.int .u64 ld)).gw g2;have y2:=y1.c0;have y3:=y1.c1;clear y1 LH LM G2 g2 z1 z2 z3;have z1:=tv.o.c0;have z2:=tv.o.c1;have z3:=tv.o.fz 0;have z4:=tv.o.fz 1;cases r1 with
     | true =>
      have K1:ag (eO a' b' lc ld):=qJ.1 rfl;clear qJ;have kU:ag (Bx ((w2.setCell ⟨w.heap.size,0,none⟩ (.int .u64 lc)).setCell ⟨w.heap.size,1,none⟩ (.int .u64 ld)) (w.heap.size) 189 (.int .u64 lc) (.int .u64 ld)):=tv.o.set _ _;have gF:ag (Bx ((w2.setCell ⟨w.heap.size,0,none⟩ (.int .u64 lc)).setCell ⟨w.heap.size,1,none⟩ (.int .u64 ld)) (w.heap.size+1) 189 (.int .u64 c') (.int .u64 d')):=(LR.o.far _ (by omega)).far _ (by omega)
      have G1:ag (Gw w (((w2.setCell ⟨w.heap.size,0,none⟩ (.int .u64 lc)).setCell ⟨w.heap.size,1,none⟩ (.int .u64 ld)))):=(G4.o.setCell (by simp) _).setCell (by simp) _
      have LW:ag (bG e (aC f n x) (fC n (i+1)) lc ld/\lc<18446744073709551616/\ld<18446744073709551616):=⟨bG.congr (bG.take (yx UP.o (by omega)) LP.o HL.o.g0 (CM.o m _ _ (by omega) HL.o.ec HL.o.g0) q1 HL.o.low (by rw [HL.o.ec,<-Em.o]) (by rw [HL.o.ed,<-EM.o.2]) K1.o) (nD n i) (fun _ _ _=>rfl),q2,q3⟩
      clear XL XT G I;go_wp2_with fail;refine (zf M D (by omega) (by omega) (by omega) (by omega) _).mono ?_
      rintro ex w3 ⟨⟨sc,sd,sg,rfl,hs⟩,g3⟩;obtain ⟨s0,s1⟩:=hs.c0,hs.d1;have s2:sc<18446744073709551616:=by have:=hs.cb;omega
      have s3:sd<18446744073709551616:=by have:=hs.db;omega
      have oX:ag (Bx (w3.alloc (.cells #[.int .u64 sc,.int .u64 sd] 189)) (w.heap.size) 189 (.int .u64 lc) (.int .u64 ld)):=(kU.o.gw g3).alloc _;have oY:ag (Bx (w3.alloc (.cells #[.int .u64 sc,.int .u64 sd] 189)) (w.heap.size+1) 189 (.int .u64 c') (.int .u64 d')):=(gF.o.gw g3).alloc _;have G3:ag (Gw w (w3.alloc (.cells #[.int .u64 sc,.int .u64 sd] 189))):=(G1.o.trans g3).alloc _ _;have HS:ag (tu M D sc sd sg):=hs;have z1:=(gF.o.gw g3).c0;have z2:=(gF.o.gw g3).c1;have z3:=(gF.o.gw g3).lt;have z4:w.heap.size<w3.heap.size:=(kU.o.gw g3).lt;clear hs kU gF G1 g3;go_wp2_with fail;refine (uY sc sd c' d' s0 s2 (by omega) s3 oT nM oU oV _).mono ?_
      rintro ex w5 ⟨⟨r2,rfl,fG⟩,g5⟩;have iE:ag (Bx w5 (w.heap.size) 189 (.int .u64 lc) (.int .u64 ld)):=oX.o.gw g5;have dx:ag (Bx w5 (w.heap.size+1) 189 (.int .u64 c') (.int .u64 d')):=oY.o.gw g5;have G5:ag (Gw w w5):=G3.o.trans g5;have y1:=(Bx.new w3 189 (.int .u64 sc) (.int .u64 sd)).gw g5;have y2:=y1.c0;have y3:=y1.c1;clear y1 oX oY G3 g5 z1 z2 z3 z4;have z1:=dx.o.c0;have z2:=dx.o.c1;have z3:=dx.o.fz 0;have z4:=dx.o.fz 1;cases r2 with
      | true =>
       have K:ag (eO sc sd c' d'):=fG.1 rfl;clear fG;go_wp2_with fail;go_roundg (n-(i+1))
       case measure=>omega
       case rel =>
        refine ⟨i+1,lc,ld,sc,sd,by go_num,by omega,Nat.le_refl _,(show ag _ from ((iE.o.far _ (by omega)).far _ (by omega))),(show ag _ from dx.o.set _ _),(show ag _ from ⟨LW.o.1,de.congr (de.take (yx UP.o (by omega)) TP.o HS.o.g0 (CM.o M _ _ (by omega) HS.o.ec HS.o.g0) s1 HS.o.low (by rw [HS.o.ec,<-EM.o.1]) (by rw [HS.o.ed,<-EM.o.2]) K.o) (nD n i) (fun _ _ _=>rfl),LW.o.2,⟨by omega,s2⟩,⟨by omega,s3⟩⟩),(show ag _ from (G5.o.setCell (by simp) _).setCell (by simp) _)⟩
      | false =>
       have K:ag (¬ eO sc sd c' d'):=fun hb=>Bool.noConfusion (fG.2 hb)
       clear fG;go_wp2_with fail;go_roundg (n-(i+1))
       case measure=>omega
       case rel =>
        refine ⟨i+1,lc,ld,c',d',by go_num,by omega,Nat.le_refl _,(show ag _ from iE.o),(show ag _ from dx.o),(show ag _ from ⟨LW.o.1,de.congr (de.keep TP.o HS.o.g0 (CM.o M _ _ (by omega) HS.o.ec HS.o.g0) s1 (by rw [HS.o.ec,<-EM.o.1]) (by rw [HS.o.ed,<-EM.o.2]) K.o) (nD n i) (fun _ _ _=>rfl),LW.o.2,⟨oT,nM⟩,⟨oU,oV⟩⟩),(show ag _ from G5.o)⟩
     | false =>
      have K1:ag (¬ eO a' b' lc ld):=fun hb=>Bool.noConfusion (qJ.2 hb)
      clear qJ z1 z2 z3 z4;have kU:ag (Bx w2 (w.heap.size) 189 (.int .u64 a') (.int .u64 b')):=tv.o;have gF:ag (Bx w2 (w.heap.size+1) 189 (.int .u64 c') (.int .u64 d')):=LR.o;have G1:ag (Gw w (w2)):=G4.o;have LW:ag (bG e (aC f n x) (fC n (i+1)) a' b'/\a'<18446744073709551616/\b'<18446744073709551616):=⟨bG.congr (bG.keep LP.o HL.o.g0 q1 (by rw [HL.o.ec,<-Em.o]) (by rw [HL.o.ed,<-EM.o.2]) K1.o) (nD n i) (fun _ _ _=>rfl),wa,wb⟩
      clear XL XT G I;go_wp2_with fail;refine (zf M D (by omega) (by omega) (by omega) (by omega) _).mono ?_
      rintro ex w3 ⟨⟨sc,sd,sg,rfl,hs⟩,g3⟩;obtain ⟨s0,s1⟩:=hs.c0,hs.d1;have s2:sc<18446744073709551616:=by have:=hs.cb;omega
      have s3:sd<18446744073709551616:=by have:=hs.db;omega
      have oX:ag (Bx (w3.alloc (.cells #[.int .u64 sc,.int .u64 sd] 189)) (w.heap.size) 189 (.int .u64 a') (.int .u64 b')):=(kU.o.gw g3).alloc _;have oY:ag (Bx (w3.alloc (.cells #[.int .u64 sc,.int .u64 sd] 189)) (w.heap.size+1) 189 (.int .u64 c') (.int .u64 d')):=(gF.o.gw g3).alloc _;have G3:ag (Gw w (w3.alloc (.cells #[.int .u64 sc,.int .u64 sd] 189))):=(G1.o.trans g3).alloc _ _;have HS:ag (tu M D sc sd sg):=hs;have z1:=(gF.o.gw g3).c0;have z2:=(gF.o.gw g3).c1;have z3:=(gF.o.gw g3).lt;have z4:w.heap.size<w3.heap.size:=(kU.o.gw g3).lt;clear hs kU gF G1 g3;go_wp2_with fail;refine (uY sc sd c' d' s0 s2 (by omega) s3 oT nM oU oV _).mono ?_
      rintro ex w5 ⟨⟨r2,rfl,fG⟩,g5⟩;have iE:ag (Bx w5 (w.heap.size) 189 (.int .u64 a') (.int .u64 b')):=oX.o.gw g5;have dx:ag (Bx w5 (w.heap.size+1) 189 (.int .u64 c') (.int .u64 d')):=oY.o.gw g5;have G5:ag (Gw w w5):=G3.o.trans g5;have y1:=(Bx.new w3 189 (.int .u64 sc) (.int .u64 sd)).gw g5;have y2:=y1.c0;have y3:=y1.c1;clear y1 oX oY G3 g5 z1 z2 z3 z4;have z1:=dx.o.c0;have z2:=dx.o.c1;have z3:=dx.o.fz 0;have z4:=dx.o.fz 1;cases r2 with
      | true =>
       have K:ag (eO sc sd c' d'):=fG.1 rfl;clear fG;go_wp2_with fail;go_roundg (n-(i+1))
       case measure=>omega
       case rel =>
        refine ⟨i+1,a',b',sc,sd,by go_num,by omega,Nat.le_refl _,(show ag _ from ((iE.o.far _ (by omega)).far _ (by omega))),(show ag _ from dx.o.set _ _),(show ag _ from ⟨LW.o.1,de.congr (de.take (yx UP.o (by omega)) TP.o HS.o.g0 (CM.o M _ _ (by omega) HS.o.ec HS.o.g0) s1 HS.o.low (by rw [HS.o.ec,<-EM.o.1]) (by rw [HS.o.ed,<-EM.o.2]) K.o) (nD n i) (fun _ _ _=>rfl),LW.o.2,⟨by omega,s2⟩,⟨by omega,s3⟩⟩),(show ag _ from (G5.o.setCell (by simp) _).setCell (by simp) _)⟩
      | false =>
       have K:ag (¬ eO sc sd c' d'):=fun hb=>Bool.noConfusion (fG.2 hb)
       clear fG;go_wp2_with fail;go_roundg (n-(i+1))
       case measure=>omega
       case rel =>
        refine ⟨i+1,a',b',c',d',by go_num,by omega,Nat.le_refl _,(show ag _ from iE.o),(show ag _ from dx.o),(show ag _ from ⟨LW.o.1,de.congr (de.keep TP.o HS.o.g0 (CM.o M _ _ (by omega) HS.o.ec HS.o.g0) s1 (by rw [HS.o.ec,<-EM.o.1]) (by rw [HS.o.ed,<-EM.o.2]) K.o) (nD n i) (fun _ _ _=>rfl),LW.o.2,⟨oT,nM⟩,⟨oU,oV⟩⟩),(show ag _ from G5.o)⟩
    ·have jB:m<=0:=by omega
     have kU:ag (Bx wr (w.heap.size) 189 (.int .u64 a') (.int .u64 b')):=XL.o;have gF:ag (Bx wr (w.heap.size+1) 189 (.int .u64 c') (.int .u64 d')):=XT.o;have G1:ag (Gw w (wr)):=G.o;have LW:ag (bG e (aC f n x) (fC n (i+1)) a' b'/\a'<18446744073709551616/\b'<18446744073709551616):=⟨bG.congr (bG.skip LP.o (by rw [EM.o.2];exact D0) (by rw [Em.o];exact jB)) (nD n i) (fun _ _ _=>rfl),wa,wb⟩
     clear XL XT G I;go_wp2_with fail;refine (zf M D (by omega) (by omega) (by omega) (by omega) _).mono ?_
     rintro ex w3 ⟨⟨sc,sd,sg,rfl,hs⟩,g3⟩;obtain ⟨s0,s1⟩:=hs.c0,hs.d1;have s2:sc<18446744073709551616:=by have:=hs.cb;omega
     have s3:sd<18446744073709551616:=by have:=hs.db;omega
     have oX:ag (Bx (w3.alloc (.cells #[.int .u64 sc,.int .u64 sd] 189)) (w.heap.size) 189 (.int .u64 a') (.int .u64 b')):=(kU.o.gw g3).alloc _;have oY:ag (Bx (w3.alloc (.cells #[.int .u64 sc,.int .u64 sd] 189)) (w.heap.size+1) 189 (.int .u64 c') (.int .u64 d')):=(gF.o.gw g3).alloc _;have G3:ag (Gw w (w3.alloc (.cells #[.int .u64 sc,.int .u64 sd] 189))):=(G1.o.trans g3).alloc _ _;have HS:ag (tu M D sc sd sg):=hs;have z1:=(gF.o.gw g3).c0;have z2:=(gF.o.gw g3).c1;have z3:=(gF.o.gw g3).lt;have z4:w.heap.size<w3.heap.size:=(kU.o.gw g3).lt;clear hs kU gF G1 g3;go_wp2_with fail;refine (uY sc sd c' d' s0 s2 (by omega) s3 oT nM oU oV _).mono ?_
     rintro ex w5 ⟨⟨r2,rfl,fG⟩,g5⟩;have iE:ag (Bx w5 (w.heap.size) 189 (.int .u64 a') (.int .u64 b')):=oX.o.gw g5;have dx:ag (Bx w5 (w.heap.size+1) 189 (.int .u64 c') (.int .u64 d')):=oY.o.gw g5;have G5:ag (Gw w w5):=G3.o.trans g5;have y1:=(Bx.new w3 189 (.int .u64 sc) (.int .u64 sd)).gw g5;have y2:=y1.c0;have y3:=y1.c1;clear y1 oX oY G3 g5 z1 z2 z3 z4;have z1:=dx.o.c0;have z2:=dx.o.c1;have z3:=dx.o.fz 0;have z4:=dx.o.fz 1;cases r2 with
     | true =>
      have K:ag (eO sc sd c' d'):=fG.1 rfl;clear fG;go_wp2_with fail;go_roundg (n-(i+1))
      case measure=>omega
      case rel =>
       refine ⟨i+1,a',b',sc,sd,by go_num,by omega,Nat.le_refl _,(show ag _ from ((iE.o.far _ (by omega)).far _ (by omega))),(show ag _ from dx.o.set _ _),(show ag _ from ⟨LW.o.1,de.congr (de.take (yx UP.o (by omega)) TP.o HS.o.g0 (CM.o M _ _ (by omega) HS.o.ec HS.o.g0) s1 HS.o.low (by rw [HS.o.ec,<-EM.o.1]) (by rw [HS.o.ed,<-EM.o.2]) K.o) (nD n i) (fun _ _ _=>rfl),LW.o.2,⟨by omega,s2⟩,⟨by omega,s3⟩⟩),(show ag _ from (G5.o.setCell (by simp) _).setCell (by simp) _)⟩
     | false =>
      have K:ag (¬ eO sc sd c' d'):=fun hb=>Bool.noConfusion (fG.2 hb)
      clear fG;go_wp2_with fail;go_roundg (n-(i+1))
      case measure=>omega
      case rel =>
       refine ⟨i+1,a',b',c',d',by go_num,by omega,Nat.le_refl _,(show ag _ from iE.o),(show ag _ from dx.o),(show ag _ from ⟨LW.o.1,de.congr (de.keep TP.o HS.o.g0 (CM.o M _ _ (by omega) HS.o.ec HS.o.g0) s1 (by rw [HS.o.ec,<-EM.o.1]) (by rw [HS.o.ed,<-EM.o.2]) K.o) (nD n i) (fun _ _ _=>rfl),LW.o.2,⟨oT,nM⟩,⟨oU,oV⟩⟩),(show ag _ from G5.o)⟩
   ·obtain rfl:i=n:=by omega
    have LO:ag (bG e (aC f i x) (ay (i+1)) a' b'):=I.o.1.congr (Kb i) (fun _ _ _=>rfl)
    have TO:ag (de e (aC f i x) (ay (i+1)) c' d'):=I.o.2.1.congr (Kb i) (fun _ _ _=>rfl)
    have PP:=sL UP.o;have FI:ag (¬ eO c' d' a' b'↔aQ e (aC f i x) (ay (i+1))):=J' (by omega) PP LO.o TO.o
    clear PP I;have z1:=XT.o.c0;have z2:=XT.o.c1;have z3:=XL.o.c0;have z4:=XL.o.c1;have LS:ag (Bx wr (w.heap.size) 189 (.int .u64 a') (.int .u64 b')):=XL.o;have LZ:ag (Bx wr (w.heap.size+1) 189 (.int .u64 c') (.int .u64 d')):=XT.o;have G':ag (Gw w wr):=G.o;clear XL XT G;go_wp2_with fail;refine (uY c' d' a' b' oT nM oU oV LG wa (by omega) wb _).mono ?_
    rintro ex w5 ⟨⟨r,rfl,hr⟩,g5⟩;have iE:ag (Bx w5 (w.heap.size) 189 (.int .u64 a') (.int .u64 b')):=LS.o.gw g5;have dx:ag (Bx w5 (w.heap.size+1) 189 (.int .u64 c') (.int .u64 d')):=LZ.o.gw g5;have G5:ag (Gw w w5):=G'.o.trans g5;clear LS LZ G' g5 z1 z2 z3 z4;cases r with
    | true =>
     have K:ag (eO c' d' a' b'):=hr.1 rfl;clear hr;go_wp2_with fail;go_ret2;exact ⟨⟨false,rfl,⟨fun q=>Bool.noConfusion q,fun q=>absurd K.o (FI.o.2 q)⟩,fun _=>G5.o,fun q=>Bool.noConfusion q⟩,G5.o.gs _⟩
    | false =>
     have K:ag (aQ e (aC f i x) (ay (i+1))):=FI.o.1 (fun hb=>Bool.noConfusion (hr.2 hb))
     clear hr FI;have R5:ag (RF w5 p v e i f a b c d):=HR.o.gw G5.o;obtain ⟨_,p1,_⟩:=R5.o.cells;have ve:=R5.o.own;have aJ:ag (∀ (W:World) (v':Value),W.heap[p]?=w5.heap[p]?->W.ownsRow 0 34 1 v' (i+1) ((List.range i).map (fun j=>Value.int .u64 (f j))++[.int .u64 x])->(∀ q,v'.ownBlock=some q->q≠p) ->
       RF (((((W.setCell ⟨p,1,none⟩ v').setCell ⟨p,2,none⟩ (.int .u64 a')).setCell ⟨p,3,none⟩ (.int .u64 b')).setCell ⟨p,4,none⟩ (.int .u64 c')).setCell ⟨p,5,none⟩ (.int .u64 d')) p v' e (i+1) (aC f i x) a' b' c' d'):=by
      intro W v' h1 h2 h3;refine ZQ (h1.trans R5.o.blk) ?_ h3 UP.o ?_ LO.o TO.o K.o ⟨e1,e2⟩ ⟨⟨wa,wb⟩,⟨oT,nM⟩,⟨oU,oV⟩⟩
      ·have e3:(List.range (i+1)).map (fun j=>Value.int .u64 (aC f i x j))=(List.range i).map (fun j=>Value.int .u64 (f j))++[.int .u64 x]:=by
        rw [List.range_succ,List.map_append];congr 1
        ·refine List.map_congr_left fun j hj=>?_
         rw [bu (List.mem_range.1 hj)]
        ·simp [dO]
       rw [e3];exact h2
      ·intro j hj
       by_cases q:j=i
       ·subst q;rw [dO];exact ⟨x0,x1⟩
       ·rw [bu (by omega)];exact HR.o.bd j (by omega)
     obtain ⟨ii,aM,hz,hs,aL⟩:=info_parts oF;rcases ve.2 with ⟨ev,i0⟩ | ⟨g,cp,cur,ev,_,hg,uA,L2,_⟩
     ·rw [ev] at p1
      subst i0;clear ev ve;go_wp2_with (at_builtin;refine wpList_append_grows _ rfl _ _ 90 rfl 34 ii (.int .u64 0) 1 8 underlying90 aM hz hs aL rfl (by decide) none 0 0 [] rfl (fun _=>⟨rfl,rfl⟩) rfl (fun _ q=>by cases q) ⟨w5.heap.size,0,none⟩ 1 1 [.int .u64 x] rfl rfl (sK w5 x) (ints_oneCell .u64 [x]) (by decide) (by simp [maxLen]) (by decide) ?_)
      intro v' w7 q1 q2;obtain ⟨g',fQ,uM,qK,L5⟩:=LF q1;subst uM;have B7:ag (w7.heap[p]?=w5.heap[p]?):=by
       show w7.heap[p]?=w5.heap[p]?;rw [q2.block p (by simp;have:=R5.o.lt;omega) (fun q=>by cases q)]
       exact heap_alloc_old _ _ R5.o.lt
      have R7:ag (w7.heap[p]?=some (.cells #[.int .i64 (e+1),v,.int .u64 a,.int .u64 b,.int .u64 c,.int .u64 d] 191 (0,0))):=B7.o.trans R5.o.blk;have eH:=R7.o;have t0:∀ o,w7.frozen? ⟨p,o,none⟩=false:=fun o=>by simp [World.frozen?,eH]
      have t1:w7.cell? ⟨p,1,none⟩=some v:=by simp [World.cell?,eH]
      have t2:w7.cell? ⟨p,2,none⟩=some (.int .u64 a):=by simp [World.cell?,eH]
      have t3:w7.cell? ⟨p,3,none⟩=some (.int .u64 b):=by simp [World.cell?,eH]
      have t4:w7.cell? ⟨p,4,none⟩=some (.int .u64 c):=by simp [World.cell?,eH]
      have t5:w7.cell? ⟨p,5,none⟩=some (.int .u64 d):=by simp [World.cell?,eH]
      clear eH;have YL:Bx w7 (w.heap.size) 189 (.int .u64 a') (.int .u64 b'):=(q2.block _ (by simp;have:=iE.o.lt;omega) (fun q=>by cases q)).trans (iE.o.alloc _)
      have YT:Bx w7 (w.heap.size+1) 189 (.int .u64 c') (.int .u64 d'):=(q2.block _ (by simp;have:=dx.o.lt;omega) (fun q=>by cases q)).trans (dx.o.alloc _)
      have y1:=YL.c0;have y2:=YL.c1;have y3:=YT.c0;have y4:=YT.c1;have L9:p≠w.heap.size:=by omega
      have Ma:p≠w.heap.size+1:=by omega
      have Q1:ag (w7.ownsRow 0 34 1 (.slice (some ⟨g',0,none⟩) 1 fQ) 1 ((List.range 0).map (fun j=>Value.int .u64 (f j))++[.int .u64 x])):=Db q1
      have Q2:ag (Gs (dI p v) w w7):=((G5.o.alloc _ _).gs _).grown q2 (fun k hk=>by cases hk)
      have FP:ag (∀ q,dI p (.slice (some ⟨g',0,none⟩) 1 fQ) q->dI p v q\/w.heap.size<=q):=by
       show ∀ q,dI p (.slice (some ⟨g',0,none⟩) 1 fQ) q->dI p v q\/w.heap.size<=q;intro q hq;rcases hq with rfl | hq
       ·exact .inl (.inl rfl)
       ·cases hq
        exact .inr (show w.heap.size<=g' by have:=G5.o.size;first | omega | (simp at qK;omega))
      have NE:ag (g'≠p):=by
       show g'≠p;have:=G5.o.size
       first | omega | (simp at qK;omega)
      clear q1 q2 YL YT aM hz hs aL;go_wp2_with fail;go_ret2;exact ⟨⟨true,rfl,⟨fun _=>K.o,fun _=>rfl⟩,(fun q=>Bool.noConfusion q),fun _=>⟨_,_,_,_,_,aJ.o w7 _ B7.o Q1.o (fun q hq=>by cases hq;exact NE.o),FP.o⟩⟩,((((Q2.o.set (.inl rfl) _ _).set (.inl rfl) _ _).set (.inl rfl) _ _).set (.inl rfl) _ _).set (.inl rfl) _ _⟩
     ·rw [ev] at p1 ve
      have EV:ag (v=.slice (some ⟨g,0,none⟩) i cp):=ev;have GP:ag (g≠p):=R5.o.ne g (by rw [ev];rfl)
      have GL:ag (g<w.heap.size):=(HR.o.own.lt g (by rw [ev];rfl)).2
      have O5:ag (w5.ownsRow 0 34 1 (.slice (some ⟨g,0,none⟩) i cp) i ((List.range i).map fun j=>Value.int .u64 (f j))):=ve
      clear ev ve hg;by_cases room:i+1<=cp
      ·go_wp2_with (at_builtin;refine wpList_append_fits _ rfl _ _ 90 rfl 0 34 ii 1 underlying90 aM hs g i cp _ rfl (O5.o.alloc _) ⟨w5.heap.size,0,none⟩ 1 1 [.int .u64 x] rfl rfl (sK w5 x) (ints_oneCell .u64 [x]) room ?_)
       intro w7 q1 q2;have L5:=(q1.lt g rfl).2;have B7:ag (w7.heap[p]?=w5.heap[p]?):=by
        show w7.heap[p]?=w5.heap[p]?;rw [q2.block p (by simp;have:=R5.o.lt;omega) (fun q=>by cases q;exact GP.o rfl)]
        exact heap_alloc_old _ _ R5.o.lt
       have R7:ag (w7.heap[p]?=some (.cells #[.int .i64 (e+1),v,.int .u64 a,.int .u64 b,.int .u64 c,.int .u64 d] 191 (0,0))):=B7.o.trans R5.o.blk;have eH:=R7.o;have t0:∀ o,w7.frozen? ⟨p,o,none⟩=false:=fun o=>by simp [World.frozen?,eH]
       have t1:w7.cell? ⟨p,1,none⟩=some v:=by simp [World.cell?,eH]
       have t2:w7.cell? ⟨p,2,none⟩=some (.int .u64 a):=by simp [World.cell?,eH]
       have t3:w7.cell? ⟨p,3,none⟩=some (.int .u64 b):=by simp [World.cell?,eH]
       have t4:w7.cell? ⟨p,4,none⟩=some (.int .u64 c):=by simp [World.cell?,eH]
       have t5:w7.cell? ⟨p,5,none⟩=some (.int .u64 d):=by simp [World.cell?,eH]
       clear eH;have YL:Bx w7 (w.heap.size) 189 (.int .u64 a') (.int .u64 b'):=(q2.block _ (by simp;have:=iE.o.lt;omega) (fun q=>by cases q;have:=GL.o;omega)).trans (iE.o.alloc _)
       have YT:Bx w7 (w.heap.size+1) 189 (.int .u64 c') (.int .u64 d'):=(q2.block _ (by simp;have:=dx.o.lt;omega) (fun q=>by cases q;have:=GL.o;omega)).trans (dx.o.alloc _)
       have y1:=YL.c0;have y2:=YL.c1;have y3:=YT.c0;have y4:=YT.c1;have L9:p≠w.heap.size:=by omega
       have Ma:p≠w.heap.size+1:=by omega
       have Q1:ag (w7.ownsRow 0 34 1 (.slice (some ⟨g,0,none⟩) (i+1) cp) (i+1) ((List.range i).map (fun j=>Value.int .u64 (f j))++[.int .u64 x])):=Db q1
       have Q2:ag (Gs (dI p v) w w7):=((G5.o.alloc _ _).gs _).grown q2 (fun k hk=>by cases hk;exact .inr (by rw [EV.o];rfl))
       have FP:ag (∀ q,dI p (.slice (some ⟨g,0,none⟩) (i+1) cp) q->dI p v q\/w.heap.size<=q):=by
        show ∀ q,dI p (.slice (some ⟨g,0,none⟩) (i+1) cp) q->dI p v q\/w.heap.size<=q;intro q hq;rcases hq with rfl | hq
        ·exact .inl (.inl rfl)
        ·cases hq
         exact .inl (.inr (by rw [EV.o];rfl))
       have NE:ag (g≠p):=GP.o;clear q1 q2 YL YT aM hz hs aL;go_wp2_with fail;go_ret2;exact ⟨⟨true,rfl,⟨fun _=>K.o,fun _=>rfl⟩,(fun q=>Bool.noConfusion q),fun _=>⟨_,_,_,_,_,aJ.o w7 _ B7.o Q1.o (fun q hq=>by cases hq;exact NE.o),FP.o⟩⟩,((((Q2.o.set (.inl rfl) _ _).set (.inl rfl) _ _).set (.inl rfl) _ _).set (.inl rfl) _ _).set (.inl rfl) _ _⟩
      ·go_wp2_with (at_builtin;refine wpList_append_grows _ rfl _ _ 90 rfl 34 ii (.int .u64 0) 1 8 underlying90 aM hz hs aL rfl (by decide) (some ⟨g,0,none⟩) i cp ((List.range i).map fun j=>Value.int .u64 (f j)) rfl (fun q=>by cases q) (by simp) (fun bb q=>by cases q;exact (O5.o.alloc _).cells rfl) ⟨w5.heap.size,0,none⟩ 1 1 [.int .u64 x] rfl rfl (sK w5 x) (ints_oneCell .u64 [x]) (by omega) (by simp only [maxLen];omega) (by omega) ?_)
       intro v' w7 q1 q2;obtain ⟨g',fQ,uM,qK,L5⟩:=LF q1;subst uM;have B7:ag (w7.heap[p]?=w5.heap[p]?):=by
        show w7.heap[p]?=w5.heap[p]?;rw [q2.block p (by simp;have:=R5.o.lt;omega) (fun q=>by cases q)]
        exact heap_alloc_old _ _ R5.o.lt
       have R7:ag (w7.heap[p]?=some (.cells #[.int .i64 (e+1),v,.int .u64 a,.int .u64 b,.int .u64 c,.int .u64 d] 191 (0,0))):=B7.o.trans R5.o.blk;have eH:=R7.o;have t0:∀ o,w7.frozen? ⟨p,o,none⟩=false:=fun o=>by simp [World.frozen?,eH]
       have t1:w7.cell? ⟨p,1,none⟩=some v:=by simp [World.cell?,eH]
       have t2:w7.cell? ⟨p,2,none⟩=some (.int .u64 a):=by simp [World.cell?,eH]
       have t3:w7.cell? ⟨p,3,none⟩=some (.int .u64 b):=by simp [World.cell?,eH]
       have t4:w7.cell? ⟨p,4,none⟩=some (.int .u64 c):=by simp [World.cell?,eH]
       have t5:w7.cell? ⟨p,5,none⟩=some (.int .u64 d):=by simp [World.cell?,eH]
       clear eH;have YL:Bx w7 (w.heap.size) 189 (.int .u64 a') (.int .u64 b'):=(q2.block _ (by simp;have:=iE.o.lt;omega) (fun q=>by cases q)).trans (iE.o.alloc _)
       have YT:Bx w7 (w.heap.size+1) 189 (.int .u64 c') (.int .u64 d'):=(q2.block _ (by simp;have:=dx.o.lt;omega) (fun q=>by cases q)).trans (dx.o.alloc _)
       have y1:=YL.c0;have y2:=YL.c1;have y3:=YT.c0;have y4:=YT.c1;have L9:p≠w.heap.size:=by omega
       have Ma:p≠w.heap.size+1:=by omega
       have Q1:ag (w7.ownsRow 0 34 1 (.slice (some ⟨g',0,none⟩) (i+1) fQ) (i+1) ((List.range i).map (fun j=>Value.int .u64 (f j))++[.int .u64 x])):=Db q1
       have Q2:ag (Gs (dI p v) w w7):=((G5.o.alloc _ _).gs _).grown q2 (fun k hk=>by cases hk)
       have FP:ag (∀ q,dI p (.slice (some ⟨g',0,none⟩) (i+1) fQ) q->dI p v q\/w.heap.size<=q):=by
        show ∀ q,dI p (.slice (some ⟨g',0,none⟩) (i+1) fQ) q->dI p v q\/w.heap.size<=q;intro q hq;rcases hq with rfl | hq
        ·exact .inl (.inl rfl)
        ·cases hq
         exact .inr (show w.heap.size<=g' by have:=G5.o.size;first | omega | (simp at qK;omega))
       have NE:ag (g'≠p):=by
        show g'≠p;have:=G5.o.size
        first | omega | (simp at qK;omega)
       clear q1 q2 YL YT aM hz hs aL;go_wp2_with fail;go_ret2;exact ⟨⟨true,rfl,⟨fun _=>K.o,fun _=>rfl⟩,(fun q=>Bool.noConfusion q),fun _=>⟨_,_,_,_,_,aJ.o w7 _ B7.o Q1.o (fun q hq=>by cases hq;exact NE.o),FP.o⟩⟩,((((Q2.o.set (.inl rfl) _ _).set (.inl rfl) _ _).set (.inl rfl) _ _).set (.inl rfl) _ _).set (.inl rfl) _ _⟩
theorem ZW {w:World} {p:Nat} {v:Value} {e:Int} {n:Nat} {f:Nat->Int} {a b c d:Int} (h:RF w p v e n f a b c d) (x:Int) (x0:0<=x) (x1:x<18446744073709551616) (hn:n<=4000000) (hp:0<n) (hx:x<=f (n-1)) :
  Calls prog 106 #[.pointer (some ⟨p,0,none⟩),.int .u64 x] w fun ex w'=>ex=.returned (.tuple #[.bool false,.int .i64 40])/\Gw w w':=by
 obtain ⟨c0,c1,_⟩:=h.cells;have hl:=h.lt;obtain ⟨ao,cap,ev,ks⟩:=h.ks;rw [ev] at c1;obtain ⟨bk,off,eo,hb,hc⟩:=ks.cells hp;subst eo;obtain ⟨pr,ZU⟩:∃ pr:Nat,(n:Int)-1=pr:=⟨n-1,by omega⟩
 have qI:pr<n:=by omega
 have hw:=qm pr (by omega)
 have k1:=hc pr qI;rw [show n-1=pr by omega] at hx
 clear h ks hc ev;generalize f pr=fp at k1 hx;go_enter func106,ntmps106;go_wp2_with fail;go_ret2;exact ⟨rfl,Gw.refl w⟩
def mu (w:World) (p:Nat) (S:Nat->Prop) (e:Int) (n:Nat) (f:Nat->Int):Prop:=∃ v a b c d,RF w p v e n f a b c d/\∀ q,S q↔dI p v q
theorem Mb {w:World} {p:Nat} {S:Nat->Prop} {e:Int} {n:Nat} {f:Nat->Int} (h:mu w p S e n f) (x:Int) (x0:0<=x) (x1:x<18446744073709551616) (hn:n<=4000000) :
  Calls prog 106 #[.pointer (some ⟨p,0,none⟩),.int .u64 x] w fun ex w' =>
   (∃ (ok:Bool) (err:Int) (S':Nat->Prop),ex=.returned (.tuple #[.bool ok,.int .i64 err])/\Ch e n f x ok err/\mu w' p S' e (if ok then n+1 else n) (if ok then aC f n x else f)/\∀ q,S' q->S q\/w.heap.size<=q)/\Gs S w w':=by
 obtain ⟨v,a,b,c,d,h,hS⟩:=h;by_cases hx:0<n/\x<=f (n-1)
 ·refine (ZW h x x0 x1 hn hx.1 hx.2).mono ?_
  rintro ex w' ⟨rfl,g⟩;exact ⟨⟨false,40,S,rfl,.inl ⟨hx.1,hx.2,rfl,rfl⟩,⟨v,a,b,c,d,h.gw g,hS⟩,fun q hq=>.inl hq⟩,g.gs S⟩
 ·refine (ZS h x x0 x1 hn (fun h0=>by
   rcases Int.lt_or_le (f (n-1)) x with q | q
   ·exact q
   ·exact absurd ⟨h0,q⟩ hx)).mono ?_
  rintro ex w' ⟨⟨ok,rfl,h1,h2,h3⟩,g⟩;have g':Gs S w w':=⟨g.os,g.tape,g.output,g.size,fun q hq hs=>g.block q hq (fun r=>hs ((hS q).2 r))⟩
  cases ok with
  | true =>
   obtain ⟨v',a',b',c',d',hr,hf⟩:=h3 rfl;exact ⟨⟨true,0,dI p v',rfl,.inr ⟨hx,rfl,h1⟩,⟨v',a',b',c',d',hr,fun q=>Iff.rfl⟩,fun q hq=>by
    rcases hf q hq with r | r
    ·exact .inl ((hS q).2 r)
    ·exact .inr r⟩,g'⟩
  | false=>exact ⟨⟨false,0,S,rfl,.inr ⟨hx,rfl,h1⟩,⟨v,a,b,c,d,h.gw (h2 rfl),hS⟩,fun q hq=>.inl hq⟩,g'⟩
theorem Gs.gw {S:Nat->Prop} {W w w':World} (h:Gw W w) (g:Gs S w w') (hS:∀ q,S q->W.heap.size<=q):Gw W w' :=
 ⟨⟨g.os.trans h.below.os,g.tape.trans h.below.tape,g.output.trans h.below.output,Nat.le_trans h.below.size g.size,fun q hq=>(g.block q (Nat.lt_of_lt_of_le hq h.below.size) (fun s=>by have:=hS q s;omega)).trans (h.below.block q hq)⟩⟩
structure nN (HF:World->Nat->(Nat->Prop)->Int->Nat->(Nat->Int)->Prop):Prop where
 keep:∀ {w w':World} {p:Nat} {S:Nat->Prop} {e:Int} {n:Nat} {f:Nat->Int},HF w p S e n f->(∀ q,S q->w'.heap[q]?=w.heap[q]?)->HF w' p S e n f
 lt:∀ {w:World} {p:Nat} {S:Nat->Prop} {e:Int} {n:Nat} {f:Nat->Int},HF w p S e n f->∀ q,S q->q<w.heap.size
 ext:∀ {w:World} {p:Nat} {S:Nat->Prop} {e:Int} {n:Nat} {f g:Nat->Int},HF w p S e n f->(∀ i,i<n->f i=g i)->HF w p S e n g
 facts:∀ {w:World} {p:Nat} {S:Nat->Prop} {e:Int} {n:Nat} {f:Nat->Int},HF w p S e n f->Up f n/\(∀ i,i<n->0<=f i/\f i<18446744073709551616)/\aQ e f (ay n)/\1<=e/\e<=63
 bad:∀ (eps:Int),¬ (2<=eps/\eps<=64)->∀ w:World,Calls prog 115 #[.int .i64 eps] w fun ex w'=>ex=.returned (.tuple #[.pointer none,.int .i64 1])/\Gw w w'
 new:∀ (eps:Int),2<=eps->eps<=64->∀ w:World,Calls prog 115 #[.int .i64 eps] w fun ex w'=>(∃ p S,ex=.returned (.tuple #[.pointer (some ⟨p,0,none⟩),.int .i64 0])/\(∀ q,S q->w.heap.size<=q)/\HF w' p S (eps-1) 0 (fun _=>0))/\Gw w w'
 add:∀ {w:World} {p:Nat} {S:Nat->Prop} {e:Int} {n:Nat} {f:Nat->Int},HF w p S e n f->∀ x:Int,0<=x->x<18446744073709551616->n<=3000000 ->
  Calls prog 136 #[.pointer (some ⟨p,0,none⟩),.int .u64 x] w fun ex w' =>
   (∃ (ok:Bool) (err:Int) (S':Nat->Prop),ex=.returned (.tuple #[.bool ok,.int .i64 err])/\Ch e n f x ok err/\HF w' p S' e (if ok then n+1 else n) (if ok then aC f n x else f)/\∀ q,S' q->S q\/w.heap.size<=q)/\Gs S w w'
 least:∀ {w:World} {p:Nat} {S:Nat->Prop} {e:Int} {n:Nat} {f:Nat->Int},HF w p S e n f->n<=3000001->Calls prog 139 #[.pointer (some ⟨p,0,none⟩)] w fun ex w'=>(∃ a b,ex=.returned (.agg #[.int .u64 a,.int .u64 b])/\bG e f (ay n) a b/\a<18446744073709551616/\b<18446744073709551616)/\Gw w w'
theorem nN.gw {HF:World->Nat->(Nat->Prop)->Int->Nat->(Nat->Int)->Prop} (H:nN HF) {w w':World} {p:Nat} {S:Nat->Prop} {e:Int} {n:Nat} {f:Nat->Int} (h:HF w p S e n f) (g:Gw w w'):HF w' p S e n f :=
 H.keep h fun q hq=>g.below.block q (H.lt h q hq)
theorem Dd:(prog.info? 3).map (fun i=>(i.zero,i.size,i.bytes))=some (some (.int .i64 0),1,8):=by kernel_rfl
def IR (w:World) (base:Nat) (v:Value) (l:List Nat):Prop:=w.ownsRow base 3 1 v l.length (l.map fun (j:Nat)=>Value.int .i64 (j:Int))
theorem zg {w w':World} {base:Nat} {v:Value} {l:List Nat} (h:IR w base v l) (k:∀ q,v.ownBlock=some q->w'.heap[q]?=w.heap[q]?):IR w' base v l:=by
 refine ⟨h.1,?_⟩;rcases h.2 with q | ⟨g,cap,cur,rfl,hb,hh,r⟩
 ·exact .inl q
 ·exact .inr ⟨g,cap,cur,rfl,hb,(k g rfl).trans hh,r⟩
theorem kV {w:World} {base:Nat} {v:Value} {l:List Nat} (h:IR w base v l):∀ q,v.ownBlock=some q->base<=q/\q<w.heap.size:=fun q hq=>World.ownsRow.lt h q hq
theorem Mc {w w':World} {base:Nat} {v:Value} {l:List Nat} (h:IR w base v l) (g:Gw w w'):IR w' base v l:=zg h fun q hq=>g.below.block q (kV h q hq).2
theorem vf (w:World) (base:Nat):IR w base (.slice none 0 0) []:=World.ownsRow_nil _ _ _ _
theorem ZX (w:World) (base:Nat) (hb:base<=w.heap.size):IR (w.alloc (.cells #[] 3)) base (.slice (some ⟨w.heap.size,0,none⟩) 0 0) []:=World.ownsRow_made w #[] 0 hb (Nat.zero_le _) rfl
theorem Md {w:World} {base:Nat} {v:Value} {l:List Nat} (h:IR w base v l):∃ ao cap,v=.slice ao l.length cap/\(ao=none->l=[]/\cap=0)/\(∀ ad,ao=some ad->∃ g,ad=⟨g,0,none⟩/\base<=g/\g<w.heap.size/\∀ i,i<l.length->w.cell? ⟨g,i,none⟩=some (.int .i64 ((l.getD i 0:Nat):Int))):=by
 rcases h.2 with ⟨rfl,q⟩ | ⟨g,cap,cur,rfl,hb,hh,r⟩
 ·have:l=[]:=List.eq_nil_of_length_eq_zero q
  subst this;exact ⟨none,0,rfl,fun _=>⟨rfl,rfl⟩,fun ad e=>by cases e⟩
 ·refine ⟨some ⟨g,0,none⟩,cap,rfl,(fun e=>by cases e),fun ad e=>⟨g,by cases e;rfl,hb,(Array.getElem?_eq_some_iff.1 hh).1,fun i hi=>?_⟩⟩
  have:=World.ownsRow.cellAt h i (by omega)
  rw [this];simp [hi,List.getD]
theorem zh (w:World) (x:Int):∀ j u,[Value.int .i64 x][j]?=some u->(w.alloc (.cells #[.int .i64 x] 3)).cell? ((⟨w.heap.size,0,none⟩:Addr).add j)=some u:=by
 intro j u hu;cases j with
 | zero =>
  simp only [List.getElem?_cons_zero,Option.some.injEq] at hu;subst hu;simp [Addr.add,go_sem]
 | succ j=>simp at hu
def nO (f:Nat->Int) (m j:Nat):Int:=if j<m then f j else 0
theorem qL {f:Nat->Int} {m j:Nat} (h:j<m):nO f m j=f j:=if_pos h
theorem zj (f:Nat->Int) (m:Nat):aC (nO f m) m (f m)=nO f (m+1):=by
 funext j
 by_cases e:j=m
 ·subst e;rw [dO,qL (by omega)]
 ·by_cases e':j<m
  ·rw [bu e',qL e',qL (by omega)]
  ·unfold aC
   rw [if_neg e];unfold nO;rw [if_neg e',if_neg (by omega)]
theorem Me (f:Nat->Int):nO f 0=fun _=>0:=by funext j;exact if_neg (by omega)
theorem De {w:World} {p:Nat} {S:Nat->Prop} {e:Int} {n:Nat} {f:Nat->Int} (h:mu w p S e n f):∀ q,S q->q<w.heap.size:=by
 obtain ⟨v,a,b,c,d,hR,hS⟩:=h;exact fun q hq=>hR.in q ((hS q).1 hq)
theorem Mf {w w':World} {p:Nat} {S:Nat->Prop} {e:Int} {n:Nat} {f:Nat->Int} (h:mu w p S e n f) (k:∀ q,S q->w'.heap[q]?=w.heap[q]?):mu w' p S e n f:=by
 obtain ⟨v,a,b,c,d,hR,hS⟩:=h;exact ⟨v,a,b,c,d,hR.keep fun q hq=>k q ((hS q).2 hq),hS⟩
theorem Mh {S:Nat->Prop} {W w w':World} (h:Gw W w) (g:Gs S w w') (hS:∀ q,S q->W.heap.size<=q):Gw W w' :=
 ⟨⟨g.os.trans h.below.os,g.tape.trans h.below.tape,g.output.trans h.below.output,Nat.le_trans h.below.size g.size,fun q hq=>(g.block q (Nat.lt_of_lt_of_le hq h.below.size) (fun s=>by have:=hS q s;omega)).trans (h.below.block q hq)⟩⟩
structure tz (w0 w:World) (p:Nat) (S:Nat->Prop) (e:Int) (f:Nat->Int) (s i:Nat):Prop where
 fit:mu w p S e (i-s) (nO (sh f s) (i-s))
 new:∀ q,S q->w0.heap.size<=q
 on:aQ e (sh f s) (ay (i-s))
theorem Mj {w0 w:World} {p:Nat} {S:Nat->Prop} {e:Int} {f:Nat->Int} {s i n:Nat} (h:tz w0 w p S e f s i) (g0:Gw w0 w) (hs:s<=i) (hi:i<n) (u:Up f n) (x:Int) (hx:f i=x) (x0:0<=x) (x1:x<18446744073709551616) (hn:n<=4000000) :
  Calls prog 106 #[.pointer (some ⟨p,0,none⟩),.int .u64 x] w fun ex w' =>
   ∃ (ok:Bool) (err:Int) (S':Nat->Prop),ex=.returned (.tuple #[.bool ok,.int .i64 err])/\(ok=true↔aQ e (sh f s) (ay (i+1-s)))/\(ok=true->tz w0 w' p S' e f s (i+1))/\(∀ q,S' q->S q\/w.heap.size<=q)/\Gs S w w'/\Gw w0 w':=by
 refine (Mb h.fit x x0 x1 (by omega)).mono ?_
 rintro ex w' ⟨⟨ok,err,S',rfl,hA,hF,fI⟩,g⟩;have ei:i+1-s=i-s+1:=by omega
 have vg:sh f s (i-s)=x:=by show f (s+(i-s))=x;rw [show s+(i-s)=i by omega];exact hx
 have UF:∀ j,j<i-s+1->aC (nO (sh f s) (i-s)) (i-s) x j=sh f s j:=fun j hj=>by
  rw [<-vg,zj,qL hj]
 have HC:ok=true↔aQ e (sh f s) (ay (i+1-s)):=by
  rw [ei];rcases hA with ⟨q1,q2,_⟩ | ⟨_,_,q3⟩
  ·exfalso
   rw [qL (by omega)] at q2
   have q4:f (s+(i-s-1))<f i:=u.lt (by omega) hi
   have q5:sh f s (i-s-1)=f (s+(i-s-1)):=rfl;omega
  ·refine q3.trans ⟨fun q=>q.congr (fun _ _ s=>s) (fun a b s=>?_),fun q=>q.congr (fun _ _ s=>s) (fun a b s=>?_)⟩
   all_goals rw [UF b (by have:=s.2;omega),UF a (by have:=s.1;have:=s.2;omega)]
 refine ⟨ok,err,S',rfl,HC,fun q=>?_,fI,g,Mh g0 g h.new⟩
 have on:=HC.1 q;subst q;refine ⟨?_,fun q hq=>?_,on⟩
 ·rw [if_pos rfl,if_pos rfl,<-vg,zj] at hF
  rw [ei];exact hF
 ·rcases fI q hq with r | r
  ·exact h.new q r
  ·have:=g0.size;omega
theorem Mk (w0 w:World) (eps:Int) (e1:2<=eps) (e2:eps<=64) (f:Nat->Int) (s:Nat) (g0:Gw w0 w) :
  Calls prog 105 #[.int .i64 eps] w fun ex w'=>(∃ p S,ex=.returned (.tuple #[.pointer (some ⟨p,0,none⟩),.int .i64 0])/\tz w0 w' p S (eps-1) f s s/\(∀ q,S q->w.heap.size<=q))/\Gw w w':=by
 refine (LC eps e1 e2 w).mono ?_;rintro ex w' ⟨⟨p,rfl,hp,hF⟩,g⟩;have hS:∀ q,dI p (.slice none 0 0) q->w.heap.size<=q:=fun q hq=>by
  rcases hq with rfl | hq
  ·exact hp
  ·simp [Value.ownBlock] at hq
 refine ⟨⟨p,dI p (.slice none 0 0),rfl,⟨?_,fun q hq=>?_,?_⟩,hS⟩,g⟩
 ·rw [Nat.sub_self,Me]
  exact ⟨_,_,_,_,_,hF,fun q=>Iff.rfl⟩
 ·have:=hS q hq;have:=g0.size;omega
 ·rw [Nat.sub_self]
  intro a b a' b' q;have:=q.1;have:=q.2;omega
def Ml (base:Nat) (w':World) (ex:Ending) (eps:Int) (f:Nat->Int) (n:Nat):Prop:=∃ v l err,ex=.returned (.tuple #[v,.int .i64 err])/\oI eps f n l err/\IR w' base v l
theorem Z' (eps:Int) (ao:Option Addr) (n cp:Nat) (f:Nat->Int) (p0:-9223372036854775808<=eps) (p1:eps<9223372036854775808) (hn:n<=2000000) (w:World) (h:KS w ao n f) :
  Calls prog 86 #[.slice ao n cp,.int .i64 eps] w fun ex w'=>Ml w.heap.size w' ex eps f n/\Gw w w':=by
 have HK:ag _:=h;clear h;obtain ⟨ii,aM,hz,hs,aL⟩:=info_parts Dd;by_cases k0:¬ (2<=eps/\eps<=64)
 ·have R:ag (oI eps f n [] 1):=.inl ⟨k0,rfl,rfl⟩
  have vh:ag _:=fun W=>ZO eps k0 W
  clear k0;go_enter func86,ntmps86;go_wp2_with fail;refine (vh.o _).mono ?_;rintro ex w1 ⟨rfl,g1⟩;go_wp2_with fail;exact bodyPost_ret (v:=.tuple #[.slice none 0 0,.int .i64 1]) (by simp [results,results86,go_sem]) rfl ⟨⟨_,[],1,rfl,R.o,vf _ _⟩,g1⟩
 ·have KE:ag (2<=eps/\eps<=64):=Classical.not_not.1 k0
  have k2:=KE.o.1;have k3:=KE.o.2;clear k0;go_enter func86,ntmps86;go_wp2_with fail;refine (Mk w _ eps k2 k3 f 0 (Gw.refl w)).mono ?_;rintro ex w1 ⟨⟨p,S,rfl,hF,_⟩,g1⟩;have F1:ag _:=hF;have G1:ag _:=g1;clear hF g1;go_wp2_with fail;refine (Cj ao n cp f (by omega) _ (HK.o.gw G1.o)).mono ?_
  rintro ex w2 ⟨⟨r,rfl,hr⟩,g2⟩;have HR:ag _:=hr;have G2:ag _:=G1.o.trans g2;have F2:ag (tz w w2 p S (eps-1) f 0 0):=⟨Mf F1.o.fit fun q hq=>g2.below.block q (De F1.o.fit q hq),F1.o.new,F1.o.on⟩
  clear hr g2 F1 G1;cases r with
  | false =>
   have R:ag (oI eps f n [] 60):=.inr (.inl ⟨KE.o,fun q=>by have:=HR.o.2 q;simp at this,rfl,rfl⟩)
   go_wp2_with fail;exact bodyPost_ret (v:=.tuple #[.slice none 0 0,.int .i64 60]) (by simp [results,results86,go_sem]) rfl ⟨⟨_,[],60,rfl,R.o,vf _ _⟩,G2.o⟩
  | true =>
   have UP:ag _:=HR.o.1 rfl;clear HR;have I3:ag _:=ZX w2 w.heap.size G2.o.size;have G3:ag (Gw w (w2.alloc (.cells #[] 3))):=G2.o.alloc _ _;have F3:ag (tz w (w2.alloc (.cells #[] 3)) p S (eps-1) f 0 0):=⟨Mf F2.o.fit fun q hq=>((Gw.refl w2).alloc _ _).below.block q (De F2.o.fit q hq),F2.o.new,F2.o.on⟩
   have N3:ag (¬ S w2.heap.size):=fun q=>by have:=De F2.o.fit _ q;omega
   have B3:ag _:=G2.o.size;clear F2 G2;go_wp2_with fail;generalize w2.alloc (.cells #[] 3)=w3 at I3 G3 F3 ⊢;go_loopg [6,8,9] n (fun gg s6 s8 s9 wr=>∃ (i s p b cap:Nat) (S:Nat->Prop) (l:List Nat),s6=.pointer (some ⟨p,0,none⟩)/\s8=.slice (some ⟨b,0,none⟩) l.length cap/\s9=.int .i64 i/\s<=i/\i<=n/\n-i<=gg/\l.length<=i/\(s=i->i=0)/\ag (tz w wr p S (eps-1) f s i)/\ag (IR wr w.heap.size (.slice (some ⟨b,0,none⟩) l.length cap) l)/\ag (¬ S b)/\ag (w.heap.size<=b)/\ag (∀ l',cT (eps-1) f n s l'->cT (eps-1) f n 0 (l++l'))/\ag (Gw w wr))
   case atStart=>exact ⟨0,0,p,w2.heap.size,0,S,[],rfl,rfl,rfl,Nat.le_refl _,Nat.zero_le _,by omega,Nat.le_refl _,fun _=>rfl,F3,I3,N3,B3,(show ag _ from fun l' h=>h),G3⟩
   case round =>
    clear F3 I3 N3 B3 G3;obtain ⟨i,s,p,b,cap,S,l,rfl,rfl,rfl,h1,h2,h3,h4,h5,F,I,NB,BB,dW,G⟩:=hrel;by_cases ak:i<n
    ·obtain ⟨bk,off,rfl,iD,hc⟩:=(HK.o.gw G.o).cells (by omega)
     have q1:=hc i ak;obtain ⟨y0,y1⟩:=HK.o.bd i ak;obtain ⟨fi,eG⟩:∃ y,f i=y:=⟨_,rfl⟩;have FI:ag _:=eG;rw [eG] at q1 y0 y1;clear hc eG;go_wp2_with fail;refine (Mj F.o G.o h1 ak UP.o fi FI.o y0 y1 (by omega)).mono ?_
     rintro ex w4 ⟨ok,err,S',rfl,eI,hF,fI,gs,g4⟩;have OK:ag _:=eI;have G4:ag _:=g4;have I4:ag _:=zg I.o fun q hq=>by
      cases hq
      exact gs.block b (kV I.o b rfl).2 NB.o
     cases ok with
     | true =>
      have F4:ag _:=hF rfl;have Df:ag (¬ S' b):=fun q=>by
       rcases fI b q with r | r
       ·exact NB.o r
       ·have:=(kV I.o b rfl).2;omega
      clear eI hF fI gs g4 F I NB G OK q1;go_wp2_with fail;go_roundg (n-(i+1))
      case measure=>omega
      case rel=>exact ⟨i+1,s,p,b,cap,S',l,rfl,rfl,by go_num,by omega,by omega,Nat.le_refl _,by omega,fun q=>by omega,F4,I4,Df,BB,dW,G4⟩
     | false =>
      have si:s<i:=by
       rcases Nat.lt_or_ge s i with q | q
       ·exact q
       ·exfalso
        have e:s=i:=by omega
        have:aQ (eps-1) (sh f s) (ay (i+1-s)):=yy (by omega) (oJ UP.o (show i+1<=n by omega)) (by omega)
        have:=OK.o.2 this
        simp at this
      have ON:ag _:=F.o.on;have NX:ag (∀ l',cT (eps-1) f n i l'->cT (eps-1) f n 0 ((l++[i])++l')):=fun l' h=>by
       rw [List.append_assoc];exact dW.o (i::l') ⟨si,by omega,ON.o,fun _ q=>by have:=OK.o.2 q;simp at this,h⟩
      have q2:w4.cell? ⟨bk,off+i,none⟩=some (.int .u64 fi):=by
       obtain ⟨uQ,sU,e,_,gY⟩:=(HK.o.gw G4.o).cells (by omega)
       cases e
       rw [gY i ak,FI.o]
      have oZ:bk<w4.heap.size:=by
       have:=(HK.o.gw G4.o).cells (by omega)
       obtain ⟨uQ,sU,e,cY,_⟩:=this;cases e;exact cY
      clear eI hF fI gs g4 F I NB G OK dW ON q1;have z4:=G4.o.size;go_wp2_with (at_builtin;refine wpList_append_own _ rfl _ _ 69 rfl w.heap.size 3 ii (.int .i64 0) 1 8 underlying69 aM hz hs aL rfl (by decide) _ l.length _ rfl (I4.o.alloc _) ⟨w4.heap.size,0,none⟩ 1 1 [.int .i64 (i:Int)] rfl rfl (zh w4 i) (ints_oneCell .i64 [(i:Int)]) (by simp only [maxLen];omega) (by omega) (by simp;omega) ?_)
      intro v' w5 r1 r2 r3;obtain ⟨b5,dw,rfl,dH,_,_⟩:=cS r1 (by simpa using r3)
      have I5:ag (IR w5 w.heap.size (.slice (some ⟨b5,0,none⟩) (l++[i]).length dw) (l++[i])):=by
       have:=r1
       simp only [IR,List.length_append,List.length_cons,List.length_nil,List.map_append,List.map_cons,List.map_nil];show World.ownsRow _ _ _ _ _ _ _;simpa using this
      have G5:ag (Gw w w5):=(G4.o.alloc _ _).grown r2 (fun k hk=>by cases hk;exact BB.o)
      have B5:ag _:=dH;have e5:(l++[i]).length=l.length+1:=by simp
      have q5:w5.cell? ⟨bk,off+i,none⟩=some (.int .u64 fi):=by
       obtain ⟨uQ,sU,e,_,gY⟩:=(HK.o.gw G5.o).cells (by omega)
       cases e
       rw [gY i ak,FI.o]
      clear r1 r2 r3 I4 BB dH q2 oZ;go_wp2_with fail;refine (Mk w _ eps k2 k3 f i G5.o).mono ?_;rintro ex w6 ⟨⟨p6,S6,rfl,Mm,Mn⟩,g6⟩;have F6:ag _:=Mm;have G6:ag _:=G5.o.trans g6;have I6:ag _:=Mc I5.o g6;have Dg:ag (¬ S6 b5):=fun q=>by have:=Mn b5 q;have:=(kV I5.o b5 rfl).2;omega
      have q6:w6.cell? ⟨bk,off+i,none⟩=some (.int .u64 fi):=by
       obtain ⟨uQ,sU,e,_,gY⟩:=(HK.o.gw G6.o).cells (by omega)
       cases e
       rw [gY i ak,FI.o]
      clear Mm Mn g6 G5 I5 q5;go_wp2_with fail;refine (Mj F6.o G6.o (Nat.le_refl _) ak UP.o fi FI.o y0 y1 (by omega)).mono ?_
      rintro ex w7 ⟨ok7,afY,S7,rfl,Mo,Mp,Mq,Mr,g7⟩;have o7:ok7=true:=Mo.2 (yy (by omega) (oJ UP.o (show i+1<=n by omega)) (by omega))
      have F7:ag _:=Mp o7;have G7:ag _:=g7;have I7:ag _:=zg I6.o fun q hq=>by
       cases hq
       exact Mr.block b5 (kV I6.o b5 rfl).2 Dg.o
      have vm:ag (¬ S7 b5):=fun q=>by
       rcases Mq b5 q with r | r
       ·exact Dg.o r
       ·have:=(kV I6.o b5 rfl).2;omega
      clear Mo Mp Mq Mr g7 F6 G6 I6 Dg q6;go_wp2_with fail;go_roundg (n-(i+1))
      case measure=>omega
      case rel=>exact ⟨i+1,i,p6,b5,dw,S7,l++[i],rfl,by rw [e5],by go_num,by omega,by omega,Nat.le_refl _,by omega,fun q=>by omega,F7,I7,vm,B5,NX,G7⟩
    ·have e:i=n:=by omega
     subst e;by_cases n0:0<i
     ·have si:s<i:=by
       rcases Nat.lt_or_ge s i with q | q
       ·exact q
       ·have:=h5 (by omega);omega
      have R:ag (oI eps f i (l++[i]) 0):=.inr (.inr ⟨KE.o,UP.o,dW.o [i] ⟨si,Nat.le_refl _,F.o.on,fun q=>absurd q (Nat.lt_irrefl _),rfl⟩,rfl⟩)
      have tn:(0:Int)<(i:Int):=by omega
      have z4:=G.o.size;clear F dW NB;go_wp2_with (at_builtin;refine wpList_append_own _ rfl _ _ 69 rfl w.heap.size 3 ii (.int .i64 0) 1 8 underlying69 aM hz hs aL rfl (by decide) _ l.length _ rfl (I.o.alloc _) ⟨wr.heap.size,0,none⟩ 1 1 [.int .i64 (i:Int)] rfl rfl (zh wr i) (ints_oneCell .i64 [(i:Int)]) (by simp only [maxLen];omega) (by omega) (by simp;omega) ?_)
      intro v' w5 r1 r2 r3;have I5:ag (IR w5 w.heap.size v' (l++[i])):=by
       have:=r1
       simp only [IR,List.length_append,List.length_cons,List.length_nil,List.map_append,List.map_cons,List.map_nil];show World.ownsRow _ _ _ _ _ _ _;simpa using this
      have G5:ag (Gw w w5):=(G.o.alloc _ _).grown r2 (fun k hk=>by cases hk;exact BB.o)
      clear r1 r2 r3;go_wp2_with fail;exact bodyPost_ret (v:=.tuple #[v',.int .i64 0]) (by simp [results,results86,go_sem]) rfl ⟨⟨_,_,0,rfl,R.o,I5.o⟩,G5.o⟩
     ·have ei:i=0:=by omega
      subst ei;have es:s=0:=by omega
      subst es;have R:ag (oI eps f 0 l 0):=.inr (.inr ⟨KE.o,UP.o,by simpa using dW.o [] rfl,rfl⟩)
      clear F dW NB;go_wp2_with fail;exact bodyPost_ret (v:=.tuple #[.slice (some ⟨b,0,none⟩) l.length cap,.int .i64 0]) (by simp [results,results86,go_sem]) rfl ⟨⟨_,_,0,rfl,R.o,I.o⟩,G.o⟩
end Go.Proofs.YtklkpldicbkjeaaGreat
