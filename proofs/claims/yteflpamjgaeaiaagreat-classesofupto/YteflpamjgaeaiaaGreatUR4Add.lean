/- The document's Add. -/
import Derived.ArgAppend
import Derived.Deep.CutBlock
import Derived.Deep.DeepCutAuto
import Derived.Test.YteflpamjgaeaiaaGreatUR4
set_option linter.unusedVariables false
set_option maxHeartbeats 16000000
set_option maxRecDepth 100000
open Go.Proofs.Tryz
namespace Go.Proofs.YteflpamjgaeaiaaGreat
open Go.RowKit
structure Gs (S:Nat->Prop) (w w':World):Prop where
 os:w'.os=w.os
 tape:w'.tape=w.tape
 output:w'.output=w.output
 size:w.heap.size<=w'.heap.size
 block:∀ q,q<w.heap.size->¬ S q->w'.heap[q]?=w.heap[q]?
theorem Gw.gs {w w':World} (h:Gw w w') (S:Nat->Prop):Gs S w w':=⟨h.below.os,h.below.tape,h.below.output,h.below.size,fun q hq _=>h.below.block q hq⟩
theorem Gs.set {S:Nat->Prop} {w w':World} (h:Gs S w w') {q:Nat} (hq:S q) (o:Nat) (v:Value):Gs S w (w'.setCell ⟨q,o,none⟩ v) :=
 ⟨h.os,h.tape,h.output,by simpa [World.setCell] using h.size,fun k hk hs=>(Go.Deep.blk_setCell_other _ _ _ _ (fun e=>hs (by rw [e];exact hq))).trans (h.block k hk hs)⟩
theorem Gs.grown {S:Nat->Prop} {w w' w'':World} {row:Option Nat} (h:Gs S w w') (g:w'.grownBy w'' row) (hr:∀ k,row=some k->S k):Gs S w w'' :=
 ⟨g.os.trans h.os,g.tape.trans h.tape,g.output.trans h.output,Nat.le_trans h.size g.size,fun k hk hs=>(g.block k (Nat.lt_of_lt_of_le hk h.size) (fun e=>hs (hr k e.symm))).trans (h.block k hk hs)⟩
theorem own_base {w:World} {base e size n:Nat} {v:Value} {xs:List Value} (h:w.ownsRow base e size v n xs):w.ownsRow 0 e size v n xs:=by
 refine ⟨h.1,?_⟩;rcases h.2 with q | ⟨g,cap,cur,rfl,_,r⟩
 ·exact .inl q
 ·exact .inr ⟨g,cap,cur,rfl,Nat.zero_le _,r⟩
theorem own_pos {w:World} {base e size n:Nat} {v:Value} {xs:List Value} (h:w.ownsRow base e size v (n+1) xs):∃ g cap,v=.slice (some ⟨g,0,none⟩) (n+1) cap/\base<=g/\g<w.heap.size:=by
 rcases h.2 with ⟨_,q⟩ | ⟨g,cap,cur,rfl,hg,hh,_⟩
 ·omega
 ·exact ⟨g,cap,rfl,hg,(Array.getElem?_eq_some_iff.1 hh).1⟩
theorem rf_store {W:World} {p:Nat} {v v0 x2 x3 x4 x5:Value} {e:Int} {n:Nat} {f:Nat->Int} {a b c d:Int}
  (blk:W.heap[p]?=some (.cells #[.int .i64 (e+1),v0,x2,x3,x4,x5] 252 (0,0)))
  (own:W.ownsRow 0 34 1 v n ((List.range n).map fun i=>Value.int .u64 (f i))) (ne:∀ q,v.ownBlock=some q->q≠p) (up:Up f n) (bd:∀ i,i<n->0<=f i/\f i<18446744073709551616)
  (low:LowOn e f (Prs n) a b) (top:TopOn e f (Prs n) c d) (fit:FitsOn e f (Prs n)) (e1:1<=e/\e<=63) (wd:(a<18446744073709551616/\b<18446744073709551616)/\(0<=c/\c<18446744073709551616)/\(0<=d/\d<18446744073709551616)) :
  RF (((((W.setCell ⟨p,1,none⟩ v).setCell ⟨p,2,none⟩ (.int .u64 a)).setCell ⟨p,3,none⟩ (.int .u64 b)).setCell ⟨p,4,none⟩ (.int .u64 c)).setCell ⟨p,5,none⟩ (.int .u64 d)) p v e n f a b c d:=by
 refine ⟨?_,⟨own.1,?_⟩,ne,up,bd,low,top,fit,e1,wd⟩
 ·simp [World.setCell,Array.getElem?_modify,blk]
 ·rcases own.2 with q | ⟨g,cap,cur,rfl,hb,hh,r⟩
  ·exact .inl q
  ·have hgp:=ne g rfl
   refine .inr ⟨g,cap,cur,rfl,hb,?_,r⟩;rw [Go.Deep.blk_setCell_other _ _ _ _ hgp,Go.Deep.blk_setCell_other _ _ _ _ hgp,Go.Deep.blk_setCell_other _ _ _ _ hgp,Go.Deep.blk_setCell_other _ _ _ _ hgp,Go.Deep.blk_setCell_other _ _ _ _ hgp];exact hh
theorem radd4_more {w:World} {p:Nat} {v:Value} {e:Int} {n:Nat} {f:Nat->Int} {a b c d:Int} (h:RF w p v e n f a b c d) (x:Int) (x0:0<=x) (x1:x<18446744073709551616) (hn:n<=4000000) (hx:0<n->f (n-1)<x) :
  Calls prog 158 #[.pointer (some ⟨p,0,none⟩),.int .u64 x] w fun ex w' =>
   (∃ ok:Bool,ex=.returned (.tuple #[.bool ok,.int .i64 0])/\(ok=true↔FitsOn e (upd f n x) (Prs (n+1)))/\(ok=false->Gw w w')/\(ok=true->∃ v' a' b' c' d',RF w' p v' e (n+1) (upd f n x) a' b' c' d'/\∀ q,rfp p v' q->rfp p v q\/w.heap.size<=q))/\Gs (rfp p v) w w':=by
 obtain ⟨c0,c1,c2,c3,c4,c5⟩:=h.cells;have hl:=h.lt;obtain ⟨e1,e2⟩:=h.e1;have HR:Aside (RF w p v e n f a b c d):=h;have UP:Aside (Up (upd f n x) (n+1)):=up_upd h.up hx;have CM:Hid (∀ M c g:Int,0<M->c*g=M->0<g->1<=c):=by
  show ∀ M c g:Int,0<M->c*g=M->0<g->1<=c;intro M c g h0 h1 h2;rcases Int.lt_or_le 0 c with q | q
  ·omega
  ·have:=Int.mul_le_mul_of_nonneg_right q (show 0<=g by omega)
   omega
 have HX:Aside (∀ i,i<n->f i<x):=by
  show ∀ i,i<n->f i<x;intro i hi;have q1:=hx (by omega)
  have q2:=h.up.le (show i<=n-1 by omega) (by omega)
  omega
 have ST:Aside (LowOn e (upd f n x) (Prs1 n 0) a b/\TopOn e (upd f n x) (Prs1 n 0) c d/\(a<18446744073709551616/\b<18446744073709551616)/\(0<=c/\c<18446744073709551616)/\(0<=d/\d<18446744073709551616)) :=
  ⟨h.low.congr (prs1_zero n) (fun i j s=>by rw [upd_lo s.2,upd_lo (by have:=s.1;have:=s.2;omega)]),h.top.congr (prs1_zero n) (fun i j s=>by rw [upd_lo s.2,upd_lo (by have:=s.1;have:=s.2;omega)]),h.wd⟩
 obtain ⟨ao,cap,ev,ks⟩:=h.ks;rw [ev] at c1;clear h;go_enter func158,ntmps158;go_upto_region 2 with fail;go_cut [32] (fun s32 wc=>s32=.bool false/\wc=w)
 case first =>
  by_cases hz:n=0
  ·have z0:¬ 0<n:=by omega
   have z1:decide ((0:Int)<n)=false:=by simp;omega
   clear hz ks hx;go_wp2_with fail;go_meet
   case rel=>exact ⟨rfl,rfl⟩
  ·obtain ⟨bk,off,eo,hb,hc⟩:=ks.cells (by omega)
   subst eo;obtain ⟨pr,hpr⟩:∃ pr:Nat,(n:Int)-1=pr:=⟨n-1,by omega⟩
   have hpn:pr<n:=by omega
   have hw:=wrap_nat pr (by omega)
   have hpos:0<n:=by omega
   have k1:=hc pr hpn;have xk:¬ x<=f pr:=by
    have:=HX.out pr hpn
    omega
   clear hz ks hx hc;generalize f pr=fp at k1 xk;go_wp2_with fail;go_meet
   case rel=>exact ⟨rfl,rfl⟩
 case rest =>
  obtain ⟨rfl,hwc⟩:=hcut;have hwc':w=wc:=hwc.symm;subst hwc';clear hwc ks hx;go_wp2_with fail;clear c0 c1 c2 c3 c4 c5 ev;go_loopg [10] n (fun gg s10 wr=>∃ (i:Nat) (a' b' c' d':Int),s10=.int .i64 i/\i<=n/\n-i<=gg/\Aside (Bx wr (w.heap.size) 250 (.int .u64 a') (.int .u64 b'))/\Aside (Bx wr (w.heap.size+1) 250 (.int .u64 c') (.int .u64 d'))/\Aside (LowOn e (upd f n x) (Prs1 n i) a' b'/\TopOn e (upd f n x) (Prs1 n i) c' d'/\(a'<18446744073709551616/\b'<18446744073709551616)/\(0<=c'/\c'<18446744073709551616)/\(0<=d'/\d'<18446744073709551616))/\Aside (Gw w wr))
  case atStart=>exact ⟨0,a,b,c,d,rfl,Nat.zero_le _,by omega,(show Aside _ from (Bx.new w _ _ _).alloc _),(show Aside _ from (Bx.new _ _ _ _).at (by simp)),ST,(show Aside _ from ((Gw.refl w).alloc _ _).alloc _ _)⟩
  case round =>
   obtain ⟨i,a',b',c',d',rfl,h1,h2,XL,XT,I,G⟩:=hrel;obtain ⟨⟨wa,wb⟩,⟨wc0,wc1⟩,⟨wd0,wd1⟩⟩:=I.out.2.2;have wa0:=I.out.1.a0;have wb0:=I.out.1.b1;by_cases hlt:i<n
   ·have hh:=HR.out.gw G.out
    obtain ⟨_,c1,_⟩:=hh.cells;obtain ⟨ao,cap,ev,ks⟩:=hh.ks;rw [ev] at c1;obtain ⟨bk,off,rfl,hb,hc⟩:=ks.cells (by omega)
    have k1:=hc i hlt;have fb:=HR.out.bd i hlt;have fx:f i<x:=HX.out i hlt;clear hh ks hc ev;have TP:Hid (TopOn e (upd f n x) (Prs1 n i) c' d'):=I.out.2.1;have LP:Hid (LowOn e (upd f n x) (Prs1 n i) a' b'):=I.out.1;have E0:Hid (upd f n x n-upd f n x i=x-f i):=by show _=_;rw [upd_at,upd_lo hlt]
    obtain ⟨fi,hfi⟩:∃ y,f i=y:=⟨_,rfl⟩;rw [hfi] at k1 fb fx E0;clear hfi;obtain ⟨D,hD⟩:∃ y,x-fi=y:=⟨_,rfl⟩;obtain ⟨m,hm⟩:∃ y,(n:Int)-i-2*e=y:=⟨_,rfl⟩;obtain ⟨M,hM⟩:∃ y,(n:Int)-i+2*e=y:=⟨_,rfl⟩;have EM:Hid ((n:Int)-i+2*e=M/\upd f n x n-upd f n x i=D):=⟨hM,by rw [E0.out,hD]⟩
    have Em:Hid ((n:Int)-i-2*e=m):=hm;have wM:=wu (x:=M) (by omega) (by omega)
    have D0:0<D:=by omega
    have D1:D<18446744073709551616:=by omega
    have M0:0<M:=by omega
    have M1:M<10000000:=by omega
    have m1:m<10000000:=by omega
    clear E0;by_cases hm0:0<m
    ·have wm:=wu (x:=m) (by omega) (by omega)
     go_wp2_with fail;refine (lowest4_any m D (by omega) (by omega) (by omega) (by omega) _).mono ?_
     rintro ex w1 ⟨⟨lc,ld,lg,rfl,hl4⟩,g1⟩;obtain ⟨q0,q1⟩:=hl4.c0,hl4.d1;have q2:lc<18446744073709551616:=by have:=hl4.cb;omega
     have q3:ld<18446744073709551616:=by have:=hl4.db;omega
     have XL2:Hid (Bx (w1.alloc (.cells #[.int .u64 lc,.int .u64 ld] 250)) (w.heap.size) 250 (.int .u64 a') (.int .u64 b')):=(XL.out.gw g1).alloc _;have XT2:Hid (Bx (w1.alloc (.cells #[.int .u64 lc,.int .u64 ld] 250)) (w.heap.size+1) 250 (.int .u64 c') (.int .u64 d')):=(XT.out.gw g1).alloc _;have G2:Hid (Gw w (w1.alloc (.cells #[.int .u64 lc,.int .u64 ld] 250))):=(G.out.trans g1).alloc _ _;have HL:Hid (LowF m D lc ld lg):=hl4;have z1:=(XL.out.gw g1).c0;have z2:=(XL.out.gw g1).c1;have z3:=(XL.out.gw g1).lt;clear hl4 g1;go_wp2_with fail;refine (below4_any a' b' lc ld wa0 wa (by omega) wb q0 q2 (by omega) q3 _).mono ?_
     rintro ex w2 ⟨⟨r1,rfl,hr1⟩,g2⟩;have XL4:Hid (Bx w2 (w.heap.size) 250 (.int .u64 a') (.int .u64 b')):=XL2.out.gw g2;have XT4:Hid (Bx w2 (w.heap.size+1) 250 (.int .u64 c') (.int .u64 d')):=XT2.out.gw g2;have G4:Hid (Gw w w2):=G2.out.trans g2;have y1:=(Bx.new w1 250 (.int .u64 lc) (.int .u64 ld)).gw g2;have y2:=y1.c0;have y3:=y1.c1;clear y1 XL2 XT2 G2 g2 z1 z2 z3;have z1:=XL4.out.c0;have z2:=XL4.out.c1;have z3:=XL4.out.fz 0;have z4:=XL4.out.fz 1;cases r1 with
     | true =>
      have K1:Hid (Blw a' b' lc ld):=hr1.1 rfl;clear hr1;have XL1:Hid (Bx ((w2.setCell ⟨w.heap.size,0,none⟩ (.int .u64 lc)).setCell ⟨w.heap.size,1,none⟩ (.int .u64 ld)) (w.heap.size) 250 (.int .u64 lc) (.int .u64 ld)):=XL4.out.set _ _;have XT1:Hid (Bx ((w2.setCell ⟨w.heap.size,0,none⟩ (.int .u64 lc)).setCell ⟨w.heap.size,1,none⟩ (.int .u64 ld)) (w.heap.size+1) 250 (.int .u64 c') (.int .u64 d')):=(XT4.out.far _ (by omega)).far _ (by omega)
      have G1:Hid (Gw w (((w2.setCell ⟨w.heap.size,0,none⟩ (.int .u64 lc)).setCell ⟨w.heap.size,1,none⟩ (.int .u64 ld)))):=(G4.out.setCell (by simp) _).setCell (by simp) _
      have LW:Hid (LowOn e (upd f n x) (Prs1 n (i+1)) lc ld/\lc<18446744073709551616/\ld<18446744073709551616):=⟨LowOn.congr (LowOn.take (prs1_pairs UP.out (by omega)) LP.out HL.out.g0 (CM.out m _ _ (by omega) HL.out.ec HL.out.g0) q1 HL.out.low (by rw [HL.out.ec,<-Em.out]) (by rw [HL.out.ed,<-EM.out.2]) K1.out) (prs1_succ n i) (fun _ _ _=>rfl),q2,q3⟩
      clear XL XT G I;go_wp2_with fail;refine (lowest4_any M D (by omega) (by omega) (by omega) (by omega) _).mono ?_
      rintro ex w3 ⟨⟨sc,sd,sg,rfl,hs⟩,g3⟩;obtain ⟨s0,s1⟩:=hs.c0,hs.d1;have s2:sc<18446744073709551616:=by have:=hs.cb;omega
      have s3:sd<18446744073709551616:=by have:=hs.db;omega
      have XL3:Hid (Bx (w3.alloc (.cells #[.int .u64 sc,.int .u64 sd] 250)) (w.heap.size) 250 (.int .u64 lc) (.int .u64 ld)):=(XL1.out.gw g3).alloc _;have XT3:Hid (Bx (w3.alloc (.cells #[.int .u64 sc,.int .u64 sd] 250)) (w.heap.size+1) 250 (.int .u64 c') (.int .u64 d')):=(XT1.out.gw g3).alloc _;have G3:Hid (Gw w (w3.alloc (.cells #[.int .u64 sc,.int .u64 sd] 250))):=(G1.out.trans g3).alloc _ _;have HS:Hid (LowF M D sc sd sg):=hs;have z1:=(XT1.out.gw g3).c0;have z2:=(XT1.out.gw g3).c1;have z3:=(XT1.out.gw g3).lt;have z4:w.heap.size<w3.heap.size:=(XL1.out.gw g3).lt;clear hs XL1 XT1 G1 g3;go_wp2_with fail;refine (below4_any sc sd c' d' s0 s2 (by omega) s3 wc0 wc1 wd0 wd1 _).mono ?_
      rintro ex w5 ⟨⟨r2,rfl,hr2⟩,g5⟩;have XL5:Hid (Bx w5 (w.heap.size) 250 (.int .u64 lc) (.int .u64 ld)):=XL3.out.gw g5;have XT5:Hid (Bx w5 (w.heap.size+1) 250 (.int .u64 c') (.int .u64 d')):=XT3.out.gw g5;have G5:Hid (Gw w w5):=G3.out.trans g5;have y1:=(Bx.new w3 250 (.int .u64 sc) (.int .u64 sd)).gw g5;have y2:=y1.c0;have y3:=y1.c1;clear y1 XL3 XT3 G3 g5 z1 z2 z3 z4;have z1:=XT5.out.c0;have z2:=XT5.out.c1;have z3:=XT5.out.fz 0;have z4:=XT5.out.fz 1;cases r2 with
      | true =>
       have K:Hid (Blw sc sd c' d'):=hr2.1 rfl;clear hr2;go_wp2_with fail;go_roundg (n-(i+1))
       case measure=>omega
       case rel =>
        refine ⟨i+1,lc,ld,sc,sd,by go_num,by omega,Nat.le_refl _,(show Aside _ from ((XL5.out.far _ (by omega)).far _ (by omega))),(show Aside _ from XT5.out.set _ _),(show Aside _ from ⟨LW.out.1,TopOn.congr (TopOn.take (prs1_pairs UP.out (by omega)) TP.out HS.out.g0 (CM.out M _ _ (by omega) HS.out.ec HS.out.g0) s1 HS.out.low (by rw [HS.out.ec,<-EM.out.1]) (by rw [HS.out.ed,<-EM.out.2]) K.out) (prs1_succ n i) (fun _ _ _=>rfl),LW.out.2,⟨by omega,s2⟩,⟨by omega,s3⟩⟩),(show Aside _ from (G5.out.setCell (by simp) _).setCell (by simp) _)⟩
      | false =>
       have K:Hid (¬ Blw sc sd c' d'):=fun hb=>Bool.noConfusion (hr2.2 hb)
       clear hr2;go_wp2_with fail;go_roundg (n-(i+1))
       case measure=>omega
       case rel =>
        refine ⟨i+1,lc,ld,c',d',by go_num,by omega,Nat.le_refl _,(show Aside _ from XL5.out),(show Aside _ from XT5.out),(show Aside _ from ⟨LW.out.1,TopOn.congr (TopOn.keep TP.out HS.out.g0 (CM.out M _ _ (by omega) HS.out.ec HS.out.g0) s1 (by rw [HS.out.ec,<-EM.out.1]) (by rw [HS.out.ed,<-EM.out.2]) K.out) (prs1_succ n i) (fun _ _ _=>rfl),LW.out.2,⟨wc0,wc1⟩,⟨wd0,wd1⟩⟩),(show Aside _ from G5.out)⟩
     | false =>
      have K1:Hid (¬ Blw a' b' lc ld):=fun hb=>Bool.noConfusion (hr1.2 hb)
      clear hr1 z1 z2 z3 z4;have XL1:Hid (Bx w2 (w.heap.size) 250 (.int .u64 a') (.int .u64 b')):=XL4.out;have XT1:Hid (Bx w2 (w.heap.size+1) 250 (.int .u64 c') (.int .u64 d')):=XT4.out;have G1:Hid (Gw w (w2)):=G4.out;have LW:Hid (LowOn e (upd f n x) (Prs1 n (i+1)) a' b'/\a'<18446744073709551616/\b'<18446744073709551616):=⟨LowOn.congr (LowOn.keep LP.out HL.out.g0 q1 (by rw [HL.out.ec,<-Em.out]) (by rw [HL.out.ed,<-EM.out.2]) K1.out) (prs1_succ n i) (fun _ _ _=>rfl),wa,wb⟩
      clear XL XT G I;go_wp2_with fail;refine (lowest4_any M D (by omega) (by omega) (by omega) (by omega) _).mono ?_
      rintro ex w3 ⟨⟨sc,sd,sg,rfl,hs⟩,g3⟩;obtain ⟨s0,s1⟩:=hs.c0,hs.d1;have s2:sc<18446744073709551616:=by have:=hs.cb;omega
      have s3:sd<18446744073709551616:=by have:=hs.db;omega
      have XL3:Hid (Bx (w3.alloc (.cells #[.int .u64 sc,.int .u64 sd] 250)) (w.heap.size) 250 (.int .u64 a') (.int .u64 b')):=(XL1.out.gw g3).alloc _;have XT3:Hid (Bx (w3.alloc (.cells #[.int .u64 sc,.int .u64 sd] 250)) (w.heap.size+1) 250 (.int .u64 c') (.int .u64 d')):=(XT1.out.gw g3).alloc _;have G3:Hid (Gw w (w3.alloc (.cells #[.int .u64 sc,.int .u64 sd] 250))):=(G1.out.trans g3).alloc _ _;have HS:Hid (LowF M D sc sd sg):=hs;have z1:=(XT1.out.gw g3).c0;have z2:=(XT1.out.gw g3).c1;have z3:=(XT1.out.gw g3).lt;have z4:w.heap.size<w3.heap.size:=(XL1.out.gw g3).lt;clear hs XL1 XT1 G1 g3;go_wp2_with fail;refine (below4_any sc sd c' d' s0 s2 (by omega) s3 wc0 wc1 wd0 wd1 _).mono ?_
      rintro ex w5 ⟨⟨r2,rfl,hr2⟩,g5⟩;have XL5:Hid (Bx w5 (w.heap.size) 250 (.int .u64 a') (.int .u64 b')):=XL3.out.gw g5;have XT5:Hid (Bx w5 (w.heap.size+1) 250 (.int .u64 c') (.int .u64 d')):=XT3.out.gw g5;have G5:Hid (Gw w w5):=G3.out.trans g5;have y1:=(Bx.new w3 250 (.int .u64 sc) (.int .u64 sd)).gw g5;have y2:=y1.c0;have y3:=y1.c1;clear y1 XL3 XT3 G3 g5 z1 z2 z3 z4;have z1:=XT5.out.c0;have z2:=XT5.out.c1;have z3:=XT5.out.fz 0;have z4:=XT5.out.fz 1;cases r2 with
      | true =>
       have K:Hid (Blw sc sd c' d'):=hr2.1 rfl;clear hr2;go_wp2_with fail;go_roundg (n-(i+1))
       case measure=>omega
       case rel =>
        refine ⟨i+1,a',b',sc,sd,by go_num,by omega,Nat.le_refl _,(show Aside _ from ((XL5.out.far _ (by omega)).far _ (by omega))),(show Aside _ from XT5.out.set _ _),(show Aside _ from ⟨LW.out.1,TopOn.congr (TopOn.take (prs1_pairs UP.out (by omega)) TP.out HS.out.g0 (CM.out M _ _ (by omega) HS.out.ec HS.out.g0) s1 HS.out.low (by rw [HS.out.ec,<-EM.out.1]) (by rw [HS.out.ed,<-EM.out.2]) K.out) (prs1_succ n i) (fun _ _ _=>rfl),LW.out.2,⟨by omega,s2⟩,⟨by omega,s3⟩⟩),(show Aside _ from (G5.out.setCell (by simp) _).setCell (by simp) _)⟩
      | false =>
       have K:Hid (¬ Blw sc sd c' d'):=fun hb=>Bool.noConfusion (hr2.2 hb)
       clear hr2;go_wp2_with fail;go_roundg (n-(i+1))
       case measure=>omega
       case rel =>
        refine ⟨i+1,a',b',c',d',by go_num,by omega,Nat.le_refl _,(show Aside _ from XL5.out),(show Aside _ from XT5.out),(show Aside _ from ⟨LW.out.1,TopOn.congr (TopOn.keep TP.out HS.out.g0 (CM.out M _ _ (by omega) HS.out.ec HS.out.g0) s1 (by rw [HS.out.ec,<-EM.out.1]) (by rw [HS.out.ed,<-EM.out.2]) K.out) (prs1_succ n i) (fun _ _ _=>rfl),LW.out.2,⟨wc0,wc1⟩,⟨wd0,wd1⟩⟩),(show Aside _ from G5.out)⟩
    ·have m0':m<=0:=by omega
     have XL1:Hid (Bx wr (w.heap.size) 250 (.int .u64 a') (.int .u64 b')):=XL.out;have XT1:Hid (Bx wr (w.heap.size+1) 250 (.int .u64 c') (.int .u64 d')):=XT.out;have G1:Hid (Gw w (wr)):=G.out;have LW:Hid (LowOn e (upd f n x) (Prs1 n (i+1)) a' b'/\a'<18446744073709551616/\b'<18446744073709551616):=⟨LowOn.congr (LowOn.skip LP.out (by rw [EM.out.2];exact D0) (by rw [Em.out];exact m0')) (prs1_succ n i) (fun _ _ _=>rfl),wa,wb⟩
     clear XL XT G I;go_wp2_with fail;refine (lowest4_any M D (by omega) (by omega) (by omega) (by omega) _).mono ?_
     rintro ex w3 ⟨⟨sc,sd,sg,rfl,hs⟩,g3⟩;obtain ⟨s0,s1⟩:=hs.c0,hs.d1;have s2:sc<18446744073709551616:=by have:=hs.cb;omega
     have s3:sd<18446744073709551616:=by have:=hs.db;omega
     have XL3:Hid (Bx (w3.alloc (.cells #[.int .u64 sc,.int .u64 sd] 250)) (w.heap.size) 250 (.int .u64 a') (.int .u64 b')):=(XL1.out.gw g3).alloc _;have XT3:Hid (Bx (w3.alloc (.cells #[.int .u64 sc,.int .u64 sd] 250)) (w.heap.size+1) 250 (.int .u64 c') (.int .u64 d')):=(XT1.out.gw g3).alloc _;have G3:Hid (Gw w (w3.alloc (.cells #[.int .u64 sc,.int .u64 sd] 250))):=(G1.out.trans g3).alloc _ _;have HS:Hid (LowF M D sc sd sg):=hs;have z1:=(XT1.out.gw g3).c0;have z2:=(XT1.out.gw g3).c1;have z3:=(XT1.out.gw g3).lt;have z4:w.heap.size<w3.heap.size:=(XL1.out.gw g3).lt;clear hs XL1 XT1 G1 g3;go_wp2_with fail;refine (below4_any sc sd c' d' s0 s2 (by omega) s3 wc0 wc1 wd0 wd1 _).mono ?_
     rintro ex w5 ⟨⟨r2,rfl,hr2⟩,g5⟩;have XL5:Hid (Bx w5 (w.heap.size) 250 (.int .u64 a') (.int .u64 b')):=XL3.out.gw g5;have XT5:Hid (Bx w5 (w.heap.size+1) 250 (.int .u64 c') (.int .u64 d')):=XT3.out.gw g5;have G5:Hid (Gw w w5):=G3.out.trans g5;have y1:=(Bx.new w3 250 (.int .u64 sc) (.int .u64 sd)).gw g5;have y2:=y1.c0;have y3:=y1.c1;clear y1 XL3 XT3 G3 g5 z1 z2 z3 z4;have z1:=XT5.out.c0;have z2:=XT5.out.c1;have z3:=XT5.out.fz 0;have z4:=XT5.out.fz 1;cases r2 with
     | true =>
      have K:Hid (Blw sc sd c' d'):=hr2.1 rfl;clear hr2;go_wp2_with fail;go_roundg (n-(i+1))
      case measure=>omega
      case rel =>
       refine ⟨i+1,a',b',sc,sd,by go_num,by omega,Nat.le_refl _,(show Aside _ from ((XL5.out.far _ (by omega)).far _ (by omega))),(show Aside _ from XT5.out.set _ _),(show Aside _ from ⟨LW.out.1,TopOn.congr (TopOn.take (prs1_pairs UP.out (by omega)) TP.out HS.out.g0 (CM.out M _ _ (by omega) HS.out.ec HS.out.g0) s1 HS.out.low (by rw [HS.out.ec,<-EM.out.1]) (by rw [HS.out.ed,<-EM.out.2]) K.out) (prs1_succ n i) (fun _ _ _=>rfl),LW.out.2,⟨by omega,s2⟩,⟨by omega,s3⟩⟩),(show Aside _ from (G5.out.setCell (by simp) _).setCell (by simp) _)⟩
     | false =>
      have K:Hid (¬ Blw sc sd c' d'):=fun hb=>Bool.noConfusion (hr2.2 hb)
      clear hr2;go_wp2_with fail;go_roundg (n-(i+1))
      case measure=>omega
      case rel =>
       refine ⟨i+1,a',b',c',d',by go_num,by omega,Nat.le_refl _,(show Aside _ from XL5.out),(show Aside _ from XT5.out),(show Aside _ from ⟨LW.out.1,TopOn.congr (TopOn.keep TP.out HS.out.g0 (CM.out M _ _ (by omega) HS.out.ec HS.out.g0) s1 (by rw [HS.out.ec,<-EM.out.1]) (by rw [HS.out.ed,<-EM.out.2]) K.out) (prs1_succ n i) (fun _ _ _=>rfl),LW.out.2,⟨wc0,wc1⟩,⟨wd0,wd1⟩⟩),(show Aside _ from G5.out)⟩
   ·obtain rfl:i=n:=by omega
    have LO:Hid (LowOn e (upd f i x) (Prs (i+1)) a' b'):=I.out.1.congr (prs1_all i) (fun _ _ _=>rfl)
    have TO:Hid (TopOn e (upd f i x) (Prs (i+1)) c' d'):=I.out.2.1.congr (prs1_all i) (fun _ _ _=>rfl)
    have PP:=prs_pairs UP.out;have FI:Hid (¬ Blw c' d' a' b'↔FitsOn e (upd f i x) (Prs (i+1))):=fits_iff (by omega) PP LO.out TO.out
    clear PP I;have z1:=XT.out.c0;have z2:=XT.out.c1;have z3:=XL.out.c0;have z4:=XL.out.c1;have XL':Hid (Bx wr (w.heap.size) 250 (.int .u64 a') (.int .u64 b')):=XL.out;have XT':Hid (Bx wr (w.heap.size+1) 250 (.int .u64 c') (.int .u64 d')):=XT.out;have G':Hid (Gw w wr):=G.out;clear XL XT G;go_wp2_with fail;refine (below4_any c' d' a' b' wc0 wc1 wd0 wd1 wa0 wa (by omega) wb _).mono ?_
    rintro ex w5 ⟨⟨r,rfl,hr⟩,g5⟩;have XL5:Hid (Bx w5 (w.heap.size) 250 (.int .u64 a') (.int .u64 b')):=XL'.out.gw g5;have XT5:Hid (Bx w5 (w.heap.size+1) 250 (.int .u64 c') (.int .u64 d')):=XT'.out.gw g5;have G5:Hid (Gw w w5):=G'.out.trans g5;clear XL' XT' G' g5 z1 z2 z3 z4;cases r with
    | true =>
     have K:Hid (Blw c' d' a' b'):=hr.1 rfl;clear hr;go_wp2_with fail;go_ret2;exact ⟨⟨false,rfl,⟨fun q=>Bool.noConfusion q,fun q=>absurd K.out (FI.out.2 q)⟩,fun _=>G5.out,fun q=>Bool.noConfusion q⟩,G5.out.gs _⟩
    | false =>
     have K:Hid (FitsOn e (upd f i x) (Prs (i+1))):=FI.out.1 (fun hb=>Bool.noConfusion (hr.2 hb))
     clear hr FI;have R5:Hid (RF w5 p v e i f a b c d):=HR.out.gw G5.out;obtain ⟨_,p1,_⟩:=R5.out.cells;have own5:=R5.out.own;have FIN:Hid (∀ (W:World) (v':Value),W.heap[p]?=w5.heap[p]?->W.ownsRow 0 34 1 v' (i+1) ((List.range i).map (fun j=>Value.int .u64 (f j))++[.int .u64 x])->(∀ q,v'.ownBlock=some q->q≠p) ->
       RF (((((W.setCell ⟨p,1,none⟩ v').setCell ⟨p,2,none⟩ (.int .u64 a')).setCell ⟨p,3,none⟩ (.int .u64 b')).setCell ⟨p,4,none⟩ (.int .u64 c')).setCell ⟨p,5,none⟩ (.int .u64 d')) p v' e (i+1) (upd f i x) a' b' c' d'):=by
      intro W v' h1 h2 h3;refine rf_store (h1.trans R5.out.blk) ?_ h3 UP.out ?_ LO.out TO.out K.out ⟨e1,e2⟩ ⟨⟨wa,wb⟩,⟨wc0,wc1⟩,⟨wd0,wd1⟩⟩
      ·have e3:(List.range (i+1)).map (fun j=>Value.int .u64 (upd f i x j))=(List.range i).map (fun j=>Value.int .u64 (f j))++[.int .u64 x]:=by
        rw [List.range_succ,List.map_append];congr 1
        ·refine List.map_congr_left fun j hj=>?_
         rw [upd_lo (List.mem_range.1 hj)]
        ·simp [upd_at]
       rw [e3];exact h2
      ·intro j hj
       by_cases q:j=i
       ·subst q;rw [upd_at];exact ⟨x0,x1⟩
       ·rw [upd_lo (by omega)];exact HR.out.bd j (by omega)
     obtain ⟨ii,hii,hz,hs,hby⟩:=info_parts info_k;rcases own5.2 with ⟨ev,i0⟩ | ⟨g,cp,cur,ev,_,hg,hnc,hcm,_⟩
     ·rw [ev] at p1
      subst i0;clear ev own5;go_wp2_with (at_builtin;refine wpList_append_grows _ rfl _ _ 112 rfl 34 ii (.int .u64 0) 1 8 underlying112 hii hz hs hby rfl (by decide) none 0 0 [] rfl (fun _=>⟨rfl,rfl⟩) rfl (fun _ q=>by cases q) ⟨w5.heap.size,0,none⟩ 1 1 [.int .u64 x] rfl rfl (new_one w5 x) (ints_oneCell .u64 [x]) (by decide) (by simp [maxLen]) (by decide) ?_)
      intro v' w7 q1 q2;obtain ⟨g',cap',ev',hg',hg7⟩:=own_pos q1;subst ev';have B7:Hid (w7.heap[p]?=w5.heap[p]?):=by
       show w7.heap[p]?=w5.heap[p]?;rw [q2.block p (by simp;have:=R5.out.lt;omega) (fun q=>by cases q)]
       exact heap_alloc_old _ _ R5.out.lt
      have R7:Hid (w7.heap[p]?=some (.cells #[.int .i64 (e+1),v,.int .u64 a,.int .u64 b,.int .u64 c,.int .u64 d] 252 (0,0))):=B7.out.trans R5.out.blk;have hR7:=R7.out;have t0:∀ o,w7.frozen? ⟨p,o,none⟩=false:=fun o=>by simp [World.frozen?,hR7]
      have t1:w7.cell? ⟨p,1,none⟩=some v:=by simp [World.cell?,hR7]
      have t2:w7.cell? ⟨p,2,none⟩=some (.int .u64 a):=by simp [World.cell?,hR7]
      have t3:w7.cell? ⟨p,3,none⟩=some (.int .u64 b):=by simp [World.cell?,hR7]
      have t4:w7.cell? ⟨p,4,none⟩=some (.int .u64 c):=by simp [World.cell?,hR7]
      have t5:w7.cell? ⟨p,5,none⟩=some (.int .u64 d):=by simp [World.cell?,hR7]
      clear hR7;have YL:Bx w7 (w.heap.size) 250 (.int .u64 a') (.int .u64 b'):=(q2.block _ (by simp;have:=XL5.out.lt;omega) (fun q=>by cases q)).trans (XL5.out.alloc _)
      have YT:Bx w7 (w.heap.size+1) 250 (.int .u64 c') (.int .u64 d'):=(q2.block _ (by simp;have:=XT5.out.lt;omega) (fun q=>by cases q)).trans (XT5.out.alloc _)
      have y1:=YL.c0;have y2:=YL.c1;have y3:=YT.c0;have y4:=YT.c1;have hpL:p≠w.heap.size:=by omega
      have hpT:p≠w.heap.size+1:=by omega
      have Q1:Hid (w7.ownsRow 0 34 1 (.slice (some ⟨g',0,none⟩) 1 cap') 1 ((List.range 0).map (fun j=>Value.int .u64 (f j))++[.int .u64 x])):=own_base q1
      have Q2:Hid (Gs (rfp p v) w w7):=((G5.out.alloc _ _).gs _).grown q2 (fun k hk=>by cases hk)
      have FP:Hid (∀ q,rfp p (.slice (some ⟨g',0,none⟩) 1 cap') q->rfp p v q\/w.heap.size<=q):=by
       show ∀ q,rfp p (.slice (some ⟨g',0,none⟩) 1 cap') q->rfp p v q\/w.heap.size<=q;intro q hq;rcases hq with rfl | hq
       ·exact .inl (.inl rfl)
       ·cases hq
        exact .inr (show w.heap.size<=g' by have:=G5.out.size;first | omega | (simp at hg';omega))
      have NE:Hid (g'≠p):=by
       show g'≠p;have:=G5.out.size
       first | omega | (simp at hg';omega)
      clear q1 q2 YL YT hii hz hs hby;go_wp2_with fail;go_ret2;exact ⟨⟨true,rfl,⟨fun _=>K.out,fun _=>rfl⟩,(fun q=>Bool.noConfusion q),fun _=>⟨_,_,_,_,_,FIN.out w7 _ B7.out Q1.out (fun q hq=>by cases hq;exact NE.out),FP.out⟩⟩,((((Q2.out.set (.inl rfl) _ _).set (.inl rfl) _ _).set (.inl rfl) _ _).set (.inl rfl) _ _).set (.inl rfl) _ _⟩
     ·rw [ev] at p1 own5
      have EV:Hid (v=.slice (some ⟨g,0,none⟩) i cp):=ev;have GP:Hid (g≠p):=R5.out.ne g (by rw [ev];rfl)
      have GL:Hid (g<w.heap.size):=(HR.out.own.lt g (by rw [ev];rfl)).2
      have O5:Hid (w5.ownsRow 0 34 1 (.slice (some ⟨g,0,none⟩) i cp) i ((List.range i).map fun j=>Value.int .u64 (f j))):=own5
      clear ev own5 hg;by_cases room:i+1<=cp
      ·go_wp2_with (at_builtin;refine wpList_append_fits _ rfl _ _ 112 rfl 0 34 ii 1 underlying112 hii hs g i cp _ rfl (O5.out.alloc _) ⟨w5.heap.size,0,none⟩ 1 1 [.int .u64 x] rfl rfl (new_one w5 x) (ints_oneCell .u64 [x]) room ?_)
       intro w7 q1 q2;have hg7:=(q1.lt g rfl).2;have B7:Hid (w7.heap[p]?=w5.heap[p]?):=by
        show w7.heap[p]?=w5.heap[p]?;rw [q2.block p (by simp;have:=R5.out.lt;omega) (fun q=>by cases q;exact GP.out rfl)]
        exact heap_alloc_old _ _ R5.out.lt
       have R7:Hid (w7.heap[p]?=some (.cells #[.int .i64 (e+1),v,.int .u64 a,.int .u64 b,.int .u64 c,.int .u64 d] 252 (0,0))):=B7.out.trans R5.out.blk;have hR7:=R7.out;have t0:∀ o,w7.frozen? ⟨p,o,none⟩=false:=fun o=>by simp [World.frozen?,hR7]
       have t1:w7.cell? ⟨p,1,none⟩=some v:=by simp [World.cell?,hR7]
       have t2:w7.cell? ⟨p,2,none⟩=some (.int .u64 a):=by simp [World.cell?,hR7]
       have t3:w7.cell? ⟨p,3,none⟩=some (.int .u64 b):=by simp [World.cell?,hR7]
       have t4:w7.cell? ⟨p,4,none⟩=some (.int .u64 c):=by simp [World.cell?,hR7]
       have t5:w7.cell? ⟨p,5,none⟩=some (.int .u64 d):=by simp [World.cell?,hR7]
       clear hR7;have YL:Bx w7 (w.heap.size) 250 (.int .u64 a') (.int .u64 b'):=(q2.block _ (by simp;have:=XL5.out.lt;omega) (fun q=>by cases q;have:=GL.out;omega)).trans (XL5.out.alloc _)
       have YT:Bx w7 (w.heap.size+1) 250 (.int .u64 c') (.int .u64 d'):=(q2.block _ (by simp;have:=XT5.out.lt;omega) (fun q=>by cases q;have:=GL.out;omega)).trans (XT5.out.alloc _)
       have y1:=YL.c0;have y2:=YL.c1;have y3:=YT.c0;have y4:=YT.c1;have hpL:p≠w.heap.size:=by omega
       have hpT:p≠w.heap.size+1:=by omega
       have Q1:Hid (w7.ownsRow 0 34 1 (.slice (some ⟨g,0,none⟩) (i+1) cp) (i+1) ((List.range i).map (fun j=>Value.int .u64 (f j))++[.int .u64 x])):=own_base q1
       have Q2:Hid (Gs (rfp p v) w w7):=((G5.out.alloc _ _).gs _).grown q2 (fun k hk=>by cases hk;exact .inr (by rw [EV.out];rfl))
       have FP:Hid (∀ q,rfp p (.slice (some ⟨g,0,none⟩) (i+1) cp) q->rfp p v q\/w.heap.size<=q):=by
        show ∀ q,rfp p (.slice (some ⟨g,0,none⟩) (i+1) cp) q->rfp p v q\/w.heap.size<=q;intro q hq;rcases hq with rfl | hq
        ·exact .inl (.inl rfl)
        ·cases hq
         exact .inl (.inr (by rw [EV.out];rfl))
       have NE:Hid (g≠p):=GP.out;clear q1 q2 YL YT hii hz hs hby;go_wp2_with fail;go_ret2;exact ⟨⟨true,rfl,⟨fun _=>K.out,fun _=>rfl⟩,(fun q=>Bool.noConfusion q),fun _=>⟨_,_,_,_,_,FIN.out w7 _ B7.out Q1.out (fun q hq=>by cases hq;exact NE.out),FP.out⟩⟩,((((Q2.out.set (.inl rfl) _ _).set (.inl rfl) _ _).set (.inl rfl) _ _).set (.inl rfl) _ _).set (.inl rfl) _ _⟩
      ·go_wp2_with (at_builtin;refine wpList_append_grows _ rfl _ _ 112 rfl 34 ii (.int .u64 0) 1 8 underlying112 hii hz hs hby rfl (by decide) (some ⟨g,0,none⟩) i cp ((List.range i).map fun j=>Value.int .u64 (f j)) rfl (fun q=>by cases q) (by simp) (fun bb q=>by cases q;exact (O5.out.alloc _).cells rfl) ⟨w5.heap.size,0,none⟩ 1 1 [.int .u64 x] rfl rfl (new_one w5 x) (ints_oneCell .u64 [x]) (by omega) (by simp only [maxLen];omega) (by omega) ?_)
       intro v' w7 q1 q2;obtain ⟨g',cap',ev',hg',hg7⟩:=own_pos q1;subst ev';have B7:Hid (w7.heap[p]?=w5.heap[p]?):=by
        show w7.heap[p]?=w5.heap[p]?;rw [q2.block p (by simp;have:=R5.out.lt;omega) (fun q=>by cases q)]
        exact heap_alloc_old _ _ R5.out.lt
       have R7:Hid (w7.heap[p]?=some (.cells #[.int .i64 (e+1),v,.int .u64 a,.int .u64 b,.int .u64 c,.int .u64 d] 252 (0,0))):=B7.out.trans R5.out.blk;have hR7:=R7.out;have t0:∀ o,w7.frozen? ⟨p,o,none⟩=false:=fun o=>by simp [World.frozen?,hR7]
       have t1:w7.cell? ⟨p,1,none⟩=some v:=by simp [World.cell?,hR7]
       have t2:w7.cell? ⟨p,2,none⟩=some (.int .u64 a):=by simp [World.cell?,hR7]
       have t3:w7.cell? ⟨p,3,none⟩=some (.int .u64 b):=by simp [World.cell?,hR7]
       have t4:w7.cell? ⟨p,4,none⟩=some (.int .u64 c):=by simp [World.cell?,hR7]
       have t5:w7.cell? ⟨p,5,none⟩=some (.int .u64 d):=by simp [World.cell?,hR7]
       clear hR7;have YL:Bx w7 (w.heap.size) 250 (.int .u64 a') (.int .u64 b'):=(q2.block _ (by simp;have:=XL5.out.lt;omega) (fun q=>by cases q)).trans (XL5.out.alloc _)
       have YT:Bx w7 (w.heap.size+1) 250 (.int .u64 c') (.int .u64 d'):=(q2.block _ (by simp;have:=XT5.out.lt;omega) (fun q=>by cases q)).trans (XT5.out.alloc _)
       have y1:=YL.c0;have y2:=YL.c1;have y3:=YT.c0;have y4:=YT.c1;have hpL:p≠w.heap.size:=by omega
       have hpT:p≠w.heap.size+1:=by omega
       have Q1:Hid (w7.ownsRow 0 34 1 (.slice (some ⟨g',0,none⟩) (i+1) cap') (i+1) ((List.range i).map (fun j=>Value.int .u64 (f j))++[.int .u64 x])):=own_base q1
       have Q2:Hid (Gs (rfp p v) w w7):=((G5.out.alloc _ _).gs _).grown q2 (fun k hk=>by cases hk)
       have FP:Hid (∀ q,rfp p (.slice (some ⟨g',0,none⟩) (i+1) cap') q->rfp p v q\/w.heap.size<=q):=by
        show ∀ q,rfp p (.slice (some ⟨g',0,none⟩) (i+1) cap') q->rfp p v q\/w.heap.size<=q;intro q hq;rcases hq with rfl | hq
        ·exact .inl (.inl rfl)
        ·cases hq
         exact .inr (show w.heap.size<=g' by have:=G5.out.size;first | omega | (simp at hg';omega))
       have NE:Hid (g'≠p):=by
        show g'≠p;have:=G5.out.size
        first | omega | (simp at hg';omega)
       clear q1 q2 YL YT hii hz hs hby;go_wp2_with fail;go_ret2;exact ⟨⟨true,rfl,⟨fun _=>K.out,fun _=>rfl⟩,(fun q=>Bool.noConfusion q),fun _=>⟨_,_,_,_,_,FIN.out w7 _ B7.out Q1.out (fun q hq=>by cases hq;exact NE.out),FP.out⟩⟩,((((Q2.out.set (.inl rfl) _ _).set (.inl rfl) _ _).set (.inl rfl) _ _).set (.inl rfl) _ _).set (.inl rfl) _ _⟩
theorem radd4_back {w:World} {p:Nat} {v:Value} {e:Int} {n:Nat} {f:Nat->Int} {a b c d:Int} (h:RF w p v e n f a b c d) (x:Int) (x0:0<=x) (x1:x<18446744073709551616) (hn:n<=4000000) (hp:0<n) (hx:x<=f (n-1)) :
  Calls prog 158 #[.pointer (some ⟨p,0,none⟩),.int .u64 x] w fun ex w'=>ex=.returned (.tuple #[.bool false,.int .i64 40])/\Gw w w':=by
 obtain ⟨c0,c1,_⟩:=h.cells;have hl:=h.lt;obtain ⟨ao,cap,ev,ks⟩:=h.ks;rw [ev] at c1;obtain ⟨bk,off,eo,hb,hc⟩:=ks.cells hp;subst eo;obtain ⟨pr,hpr⟩:∃ pr:Nat,(n:Int)-1=pr:=⟨n-1,by omega⟩
 have hpn:pr<n:=by omega
 have hw:=wrap_nat pr (by omega)
 have k1:=hc pr hpn;rw [show n-1=pr by omega] at hx
 clear h ks hc ev;generalize f pr=fp at k1 hx;go_enter func158,ntmps158;go_wp2_with fail;go_ret2;exact ⟨rfl,Gw.refl w⟩
def RFit (w:World) (p:Nat) (S:Nat->Prop) (e:Int) (n:Nat) (f:Nat->Int):Prop:=∃ v a b c d,RF w p v e n f a b c d/\∀ q,S q↔rfp p v q
theorem radd4_any {w:World} {p:Nat} {S:Nat->Prop} {e:Int} {n:Nat} {f:Nat->Int} (h:RFit w p S e n f) (x:Int) (x0:0<=x) (x1:x<18446744073709551616) (hn:n<=4000000) :
  Calls prog 158 #[.pointer (some ⟨p,0,none⟩),.int .u64 x] w fun ex w' =>
   (∃ (ok:Bool) (err:Int) (S':Nat->Prop),ex=.returned (.tuple #[.bool ok,.int .i64 err])/\AddR e n f x ok err/\RFit w' p S' e (if ok then n+1 else n) (if ok then upd f n x else f)/\∀ q,S' q->S q\/w.heap.size<=q)/\Gs S w w':=by
 obtain ⟨v,a,b,c,d,h,hS⟩:=h;by_cases hx:0<n/\x<=f (n-1)
 ·refine (radd4_back h x x0 x1 hn hx.1 hx.2).mono ?_
  rintro ex w' ⟨rfl,g⟩;exact ⟨⟨false,40,S,rfl,.inl ⟨hx.1,hx.2,rfl,rfl⟩,⟨v,a,b,c,d,h.gw g,hS⟩,fun q hq=>.inl hq⟩,g.gs S⟩
 ·refine (radd4_more h x x0 x1 hn (fun h0=>by
   rcases Int.lt_or_le (f (n-1)) x with q | q
   ·exact q
   ·exact absurd ⟨h0,q⟩ hx)).mono ?_
  rintro ex w' ⟨⟨ok,rfl,h1,h2,h3⟩,g⟩;have g':Gs S w w':=⟨g.os,g.tape,g.output,g.size,fun q hq hs=>g.block q hq (fun r=>hs ((hS q).2 r))⟩
  cases ok with
  | true =>
   obtain ⟨v',a',b',c',d',hr,hf⟩:=h3 rfl;exact ⟨⟨true,0,rfp p v',rfl,.inr ⟨hx,rfl,h1⟩,⟨v',a',b',c',d',hr,fun q=>Iff.rfl⟩,fun q hq=>by
    rcases hf q hq with r | r
    ·exact .inl ((hS q).2 r)
    ·exact .inr r⟩,g'⟩
  | false=>exact ⟨⟨false,0,S,rfl,.inr ⟨hx,rfl,h1⟩,⟨v,a,b,c,d,h.gw (h2 rfl),hS⟩,fun q hq=>.inl hq⟩,g'⟩
theorem Gs.gw {S:Nat->Prop} {W w w':World} (h:Gw W w) (g:Gs S w w') (hS:∀ q,S q->W.heap.size<=q):Gw W w' :=
 ⟨⟨g.os.trans h.below.os,g.tape.trans h.below.tape,g.output.trans h.below.output,Nat.le_trans h.below.size g.size,fun q hq=>(g.block q (Nat.lt_of_lt_of_le hq h.below.size) (fun s=>by have:=hS q s;omega)).trans (h.below.block q hq)⟩⟩
structure HullC (HF:World->Nat->(Nat->Prop)->Int->Nat->(Nat->Int)->Prop):Prop where
 keep:∀ {w w':World} {p:Nat} {S:Nat->Prop} {e:Int} {n:Nat} {f:Nat->Int},HF w p S e n f->(∀ q,S q->w'.heap[q]?=w.heap[q]?)->HF w' p S e n f
 lt:∀ {w:World} {p:Nat} {S:Nat->Prop} {e:Int} {n:Nat} {f:Nat->Int},HF w p S e n f->∀ q,S q->q<w.heap.size
 ext:∀ {w:World} {p:Nat} {S:Nat->Prop} {e:Int} {n:Nat} {f g:Nat->Int},HF w p S e n f->(∀ i,i<n->f i=g i)->HF w p S e n g
 facts:∀ {w:World} {p:Nat} {S:Nat->Prop} {e:Int} {n:Nat} {f:Nat->Int},HF w p S e n f->Up f n/\(∀ i,i<n->0<=f i/\f i<18446744073709551616)/\FitsOn e f (Prs n)/\1<=e/\e<=63
 bad:∀ (eps:Int),¬ (2<=eps/\eps<=64)->∀ w:World,Calls prog 174 #[.int .i64 eps] w fun ex w'=>ex=.returned (.tuple #[.pointer none,.int .i64 1])/\Gw w w'
 new:∀ (eps:Int),2<=eps->eps<=64->∀ w:World,Calls prog 174 #[.int .i64 eps] w fun ex w'=>(∃ p S,ex=.returned (.tuple #[.pointer (some ⟨p,0,none⟩),.int .i64 0])/\(∀ q,S q->w.heap.size<=q)/\HF w' p S (eps-1) 0 (fun _=>0))/\Gw w w'
 add:∀ {w:World} {p:Nat} {S:Nat->Prop} {e:Int} {n:Nat} {f:Nat->Int},HF w p S e n f->∀ x:Int,0<=x->x<18446744073709551616->n<=3000000 ->
  Calls prog 198 #[.pointer (some ⟨p,0,none⟩),.int .u64 x] w fun ex w' =>
   (∃ (ok:Bool) (err:Int) (S':Nat->Prop),ex=.returned (.tuple #[.bool ok,.int .i64 err])/\AddR e n f x ok err/\HF w' p S' e (if ok then n+1 else n) (if ok then upd f n x else f)/\∀ q,S' q->S q\/w.heap.size<=q)/\Gs S w w'
 least:∀ {w:World} {p:Nat} {S:Nat->Prop} {e:Int} {n:Nat} {f:Nat->Int},HF w p S e n f->n<=3000001->Calls prog 201 #[.pointer (some ⟨p,0,none⟩)] w fun ex w'=>(∃ a b,ex=.returned (.agg #[.int .u64 a,.int .u64 b])/\LowOn e f (Prs n) a b/\a<18446744073709551616/\b<18446744073709551616)/\Gw w w'
theorem HullC.gw {HF:World->Nat->(Nat->Prop)->Int->Nat->(Nat->Int)->Prop} (H:HullC HF) {w w':World} {p:Nat} {S:Nat->Prop} {e:Int} {n:Nat} {f:Nat->Int} (h:HF w p S e n f) (g:Gw w w'):HF w' p S e n f :=
 H.keep h fun q hq=>g.below.block q (H.lt h q hq)
theorem info_i:(prog.info? 3).map (fun i=>(i.zero,i.size,i.bytes))=some (some (.int .i64 0),1,8):=by kernel_rfl
def IR (w:World) (base:Nat) (v:Value) (l:List Nat):Prop:=w.ownsRow base 3 1 v l.length (l.map fun (j:Nat)=>Value.int .i64 (j:Int))
theorem ir_keep {w w':World} {base:Nat} {v:Value} {l:List Nat} (h:IR w base v l) (k:∀ q,v.ownBlock=some q->w'.heap[q]?=w.heap[q]?):IR w' base v l:=by
 refine ⟨h.1,?_⟩;rcases h.2 with q | ⟨g,cap,cur,rfl,hb,hh,r⟩
 ·exact .inl q
 ·exact .inr ⟨g,cap,cur,rfl,hb,(k g rfl).trans hh,r⟩
theorem ir_lt {w:World} {base:Nat} {v:Value} {l:List Nat} (h:IR w base v l):∀ q,v.ownBlock=some q->base<=q/\q<w.heap.size:=fun q hq=>World.ownsRow.lt h q hq
theorem ir_gw {w w':World} {base:Nat} {v:Value} {l:List Nat} (h:IR w base v l) (g:Gw w w'):IR w' base v l:=ir_keep h fun q hq=>g.below.block q (ir_lt h q hq).2
theorem ir_nil (w:World) (base:Nat):IR w base (.slice none 0 0) []:=World.ownsRow_nil _ _ _ _
theorem ir_new (w:World) (base:Nat) (hb:base<=w.heap.size):IR (w.alloc (.cells #[] 3)) base (.slice (some ⟨w.heap.size,0,none⟩) 0 0) []:=World.ownsRow_made w #[] 0 hb (Nat.zero_le _) rfl
theorem ir_slice {w:World} {base:Nat} {v:Value} {l:List Nat} (h:IR w base v l):∃ ao cap,v=.slice ao l.length cap/\(ao=none->l=[]/\cap=0)/\(∀ ad,ao=some ad->∃ g,ad=⟨g,0,none⟩/\base<=g/\g<w.heap.size/\∀ i,i<l.length->w.cell? ⟨g,i,none⟩=some (.int .i64 ((l.getD i 0:Nat):Int))):=by
 rcases h.2 with ⟨rfl,q⟩ | ⟨g,cap,cur,rfl,hb,hh,r⟩
 ·have:l=[]:=List.eq_nil_of_length_eq_zero q
  subst this;exact ⟨none,0,rfl,fun _=>⟨rfl,rfl⟩,fun ad e=>by cases e⟩
 ·refine ⟨some ⟨g,0,none⟩,cap,rfl,(fun e=>by cases e),fun ad e=>⟨g,by cases e;rfl,hb,(Array.getElem?_eq_some_iff.1 hh).1,fun i hi=>?_⟩⟩
  have:=World.ownsRow.cellAt h i (by omega)
  rw [this];simp [hi,List.getD]
theorem new_i (w:World) (x:Int):∀ j u,[Value.int .i64 x][j]?=some u->(w.alloc (.cells #[.int .i64 x] 3)).cell? ((⟨w.heap.size,0,none⟩:Addr).add j)=some u:=by
 intro j u hu;cases j with
 | zero =>
  simp only [List.getElem?_cons_zero,Option.some.injEq] at hu;subst hu;simp [Addr.add,go_sem]
 | succ j=>simp at hu
def cut0 (f:Nat->Int) (m j:Nat):Int:=if j<m then f j else 0
theorem cut0_lo {f:Nat->Int} {m j:Nat} (h:j<m):cut0 f m j=f j:=if_pos h
theorem cut0_next (f:Nat->Int) (m:Nat):upd (cut0 f m) m (f m)=cut0 f (m+1):=by
 funext j
 by_cases e:j=m
 ·subst e;rw [upd_at,cut0_lo (by omega)]
 ·by_cases e':j<m
  ·rw [upd_lo e',cut0_lo e',cut0_lo (by omega)]
  ·unfold upd
   rw [if_neg e];unfold cut0;rw [if_neg e',if_neg (by omega)]
theorem cut0_none (f:Nat->Int):cut0 f 0=fun _=>0:=by funext j;exact if_neg (by omega)
theorem rfit_lt {w:World} {p:Nat} {S:Nat->Prop} {e:Int} {n:Nat} {f:Nat->Int} (h:RFit w p S e n f):∀ q,S q->q<w.heap.size:=by
 obtain ⟨v,a,b,c,d,hR,hS⟩:=h;exact fun q hq=>hR.in q ((hS q).1 hq)
theorem rfit_keep {w w':World} {p:Nat} {S:Nat->Prop} {e:Int} {n:Nat} {f:Nat->Int} (h:RFit w p S e n f) (k:∀ q,S q->w'.heap[q]?=w.heap[q]?):RFit w' p S e n f:=by
 obtain ⟨v,a,b,c,d,hR,hS⟩:=h;exact ⟨v,a,b,c,d,hR.keep fun q hq=>k q ((hS q).2 hq),hS⟩
theorem gs_gw {S:Nat->Prop} {W w w':World} (h:Gw W w) (g:Gs S w w') (hS:∀ q,S q->W.heap.size<=q):Gw W w' :=
 ⟨⟨g.os.trans h.below.os,g.tape.trans h.below.tape,g.output.trans h.below.output,Nat.le_trans h.below.size g.size,fun q hq=>(g.block q (Nat.lt_of_lt_of_le hq h.below.size) (fun s=>by have:=hS q s;omega)).trans (h.below.block q hq)⟩⟩
structure FitAt (w0 w:World) (p:Nat) (S:Nat->Prop) (e:Int) (f:Nat->Int) (s i:Nat):Prop where
 fit:RFit w p S e (i-s) (cut0 (sh f s) (i-s))
 new:∀ q,S q->w0.heap.size<=q
 on:FitsOn e (sh f s) (Prs (i-s))
theorem fitat_add {w0 w:World} {p:Nat} {S:Nat->Prop} {e:Int} {f:Nat->Int} {s i n:Nat} (h:FitAt w0 w p S e f s i) (g0:Gw w0 w) (hs:s<=i) (hi:i<n) (u:Up f n) (x:Int) (hx:f i=x) (x0:0<=x) (x1:x<18446744073709551616) (hn:n<=4000000) :
  Calls prog 158 #[.pointer (some ⟨p,0,none⟩),.int .u64 x] w fun ex w' =>
   ∃ (ok:Bool) (err:Int) (S':Nat->Prop),ex=.returned (.tuple #[.bool ok,.int .i64 err])/\(ok=true↔FitsOn e (sh f s) (Prs (i+1-s)))/\(ok=true->FitAt w0 w' p S' e f s (i+1))/\(∀ q,S' q->S q\/w.heap.size<=q)/\Gs S w w'/\Gw w0 w':=by
 refine (radd4_any h.fit x x0 x1 (by omega)).mono ?_
 rintro ex w' ⟨⟨ok,err,S',rfl,hA,hF,hS'⟩,g⟩;have ei:i+1-s=i-s+1:=by omega
 have hxs:sh f s (i-s)=x:=by show f (s+(i-s))=x;rw [show s+(i-s)=i by omega];exact hx
 have UF:∀ j,j<i-s+1->upd (cut0 (sh f s) (i-s)) (i-s) x j=sh f s j:=fun j hj=>by
  rw [<-hxs,cut0_next,cut0_lo hj]
 have HC:ok=true↔FitsOn e (sh f s) (Prs (i+1-s)):=by
  rw [ei];rcases hA with ⟨q1,q2,_⟩ | ⟨_,_,q3⟩
  ·exfalso
   rw [cut0_lo (by omega)] at q2
   have q4:f (s+(i-s-1))<f i:=u.lt (by omega) hi
   have q5:sh f s (i-s-1)=f (s+(i-s-1)):=rfl;omega
  ·refine q3.trans ⟨fun q=>q.congr (fun _ _ s=>s) (fun a b s=>?_),fun q=>q.congr (fun _ _ s=>s) (fun a b s=>?_)⟩
   all_goals rw [UF b (by have:=s.2;omega),UF a (by have:=s.1;have:=s.2;omega)]
 refine ⟨ok,err,S',rfl,HC,fun q=>?_,hS',g,gs_gw g0 g h.new⟩
 have on:=HC.1 q;subst q;refine ⟨?_,fun q hq=>?_,on⟩
 ·rw [if_pos rfl,if_pos rfl,<-hxs,cut0_next] at hF
  rw [ei];exact hF
 ·rcases hS' q hq with r | r
  ·exact h.new q r
  ·have:=g0.size;omega
theorem fitat_new (w0 w:World) (eps:Int) (e1:2<=eps) (e2:eps<=64) (f:Nat->Int) (s:Nat) (g0:Gw w0 w) :
  Calls prog 157 #[.int .i64 eps] w fun ex w'=>(∃ p S,ex=.returned (.tuple #[.pointer (some ⟨p,0,none⟩),.int .i64 0])/\FitAt w0 w' p S (eps-1) f s s/\(∀ q,S q->w.heap.size<=q))/\Gw w w':=by
 refine (rnew_ok eps e1 e2 w).mono ?_;rintro ex w' ⟨⟨p,rfl,hp,hF⟩,g⟩;have hS:∀ q,rfp p (.slice none 0 0) q->w.heap.size<=q:=fun q hq=>by
  rcases hq with rfl | hq
  ·exact hp
  ·simp [Value.ownBlock] at hq
 refine ⟨⟨p,rfp p (.slice none 0 0),rfl,⟨?_,fun q hq=>?_,?_⟩,hS⟩,g⟩
 ·rw [Nat.sub_self,cut0_none]
  exact ⟨_,_,_,_,_,hF,fun q=>Iff.rfl⟩
 ·have:=hS q hq;have:=g0.size;omega
 ·rw [Nat.sub_self]
  intro a b a' b' q;have:=q.1;have:=q.2;omega
def EndsOut (base:Nat) (w':World) (ex:Ending) (eps:Int) (f:Nat->Int) (n:Nat):Prop:=∃ v l err,ex=.returned (.tuple #[v,.int .i64 err])/\EndsR eps f n l err/\IR w' base v l
theorem rends_any (eps:Int) (ao:Option Addr) (n cp:Nat) (f:Nat->Int) (p0:-9223372036854775808<=eps) (p1:eps<9223372036854775808) (hn:n<=2000000) (w:World) (h:KS w ao n f) :
  Calls prog 123 #[.slice ao n cp,.int .i64 eps] w fun ex w'=>EndsOut w.heap.size w' ex eps f n/\Gw w w':=by
 have HK:Aside _:=h;clear h;obtain ⟨ii,hii,hz,hs,hby⟩:=info_parts info_i;by_cases k0:¬ (2<=eps/\eps<=64)
 ·have R:Aside (EndsR eps f n [] 1):=.inl ⟨k0,rfl,rfl⟩
  have BAD:Hid _:=fun W=>rnew_bad eps k0 W
  clear k0;go_enter func123,ntmps123;go_wp2_with fail;refine (BAD.out _).mono ?_;rintro ex w1 ⟨rfl,g1⟩;go_wp2_with fail;exact bodyPost_ret (v:=.tuple #[.slice none 0 0,.int .i64 1]) (by simp [results,results123,go_sem]) rfl ⟨⟨_,[],1,rfl,R.out,ir_nil _ _⟩,g1⟩
 ·have KE:Aside (2<=eps/\eps<=64):=Classical.not_not.1 k0
  have k2:=KE.out.1;have k3:=KE.out.2;clear k0;go_enter func123,ntmps123;go_wp2_with fail;refine (fitat_new w _ eps k2 k3 f 0 (Gw.refl w)).mono ?_;rintro ex w1 ⟨⟨p,S,rfl,hF,_⟩,g1⟩;have F1:Aside _:=hF;have G1:Aside _:=g1;clear hF g1;go_wp2_with fail;refine (rrising_any ao n cp f (by omega) _ (HK.out.gw G1.out)).mono ?_
  rintro ex w2 ⟨⟨r,rfl,hr⟩,g2⟩;have HR:Aside _:=hr;have G2:Aside _:=G1.out.trans g2;have F2:Aside (FitAt w w2 p S (eps-1) f 0 0):=⟨rfit_keep F1.out.fit fun q hq=>g2.below.block q (rfit_lt F1.out.fit q hq),F1.out.new,F1.out.on⟩
  clear hr g2 F1 G1;cases r with
  | false =>
   have R:Aside (EndsR eps f n [] 60):=.inr (.inl ⟨KE.out,fun q=>by have:=HR.out.2 q;simp at this,rfl,rfl⟩)
   go_wp2_with fail;exact bodyPost_ret (v:=.tuple #[.slice none 0 0,.int .i64 60]) (by simp [results,results123,go_sem]) rfl ⟨⟨_,[],60,rfl,R.out,ir_nil _ _⟩,G2.out⟩
  | true =>
   have UP:Aside _:=HR.out.1 rfl;clear HR;have I3:Aside _:=ir_new w2 w.heap.size G2.out.size;have G3:Aside (Gw w (w2.alloc (.cells #[] 3))):=G2.out.alloc _ _;have F3:Aside (FitAt w (w2.alloc (.cells #[] 3)) p S (eps-1) f 0 0):=⟨rfit_keep F2.out.fit fun q hq=>((Gw.refl w2).alloc _ _).below.block q (rfit_lt F2.out.fit q hq),F2.out.new,F2.out.on⟩
   have N3:Aside (¬ S w2.heap.size):=fun q=>by have:=rfit_lt F2.out.fit _ q;omega
   have B3:Aside _:=G2.out.size;clear F2 G2;go_wp2_with fail;generalize w2.alloc (.cells #[] 3)=w3 at I3 G3 F3 ⊢;go_loopg [6,8,9] n (fun gg s6 s8 s9 wr=>∃ (i s p b cap:Nat) (S:Nat->Prop) (l:List Nat),s6=.pointer (some ⟨p,0,none⟩)/\s8=.slice (some ⟨b,0,none⟩) l.length cap/\s9=.int .i64 i/\s<=i/\i<=n/\n-i<=gg/\l.length<=i/\(s=i->i=0)/\Aside (FitAt w wr p S (eps-1) f s i)/\Aside (IR wr w.heap.size (.slice (some ⟨b,0,none⟩) l.length cap) l)/\Aside (¬ S b)/\Aside (w.heap.size<=b)/\Aside (∀ l',EndsAt (eps-1) f n s l'->EndsAt (eps-1) f n 0 (l++l'))/\Aside (Gw w wr))
   case atStart=>exact ⟨0,0,p,w2.heap.size,0,S,[],rfl,rfl,rfl,Nat.le_refl _,Nat.zero_le _,by omega,Nat.le_refl _,fun _=>rfl,F3,I3,N3,B3,(show Aside _ from fun l' h=>h),G3⟩
   case round =>
    clear F3 I3 N3 B3 G3;obtain ⟨i,s,p,b,cap,S,l,rfl,rfl,rfl,h1,h2,h3,h4,h5,F,I,NB,BB,PRE,G⟩:=hrel;by_cases hlt:i<n
    ·obtain ⟨bk,off,rfl,hbk,hc⟩:=(HK.out.gw G.out).cells (by omega)
     have q1:=hc i hlt;obtain ⟨y0,y1⟩:=HK.out.bd i hlt;obtain ⟨fi,hfi⟩:∃ y,f i=y:=⟨_,rfl⟩;have FI:Aside _:=hfi;rw [hfi] at q1 y0 y1;clear hc hfi;go_wp2_with fail;refine (fitat_add F.out G.out h1 hlt UP.out fi FI.out y0 y1 (by omega)).mono ?_
     rintro ex w4 ⟨ok,err,S',rfl,hok,hF,hS',gs,g4⟩;have OK:Aside _:=hok;have G4:Aside _:=g4;have I4:Aside _:=ir_keep I.out fun q hq=>by
      cases hq
      exact gs.block b (ir_lt I.out b rfl).2 NB.out
     cases ok with
     | true =>
      have F4:Aside _:=hF rfl;have NB4:Aside (¬ S' b):=fun q=>by
       rcases hS' b q with r | r
       ·exact NB.out r
       ·have:=(ir_lt I.out b rfl).2;omega
      clear hok hF hS' gs g4 F I NB G OK q1;go_wp2_with fail;go_roundg (n-(i+1))
      case measure=>omega
      case rel=>exact ⟨i+1,s,p,b,cap,S',l,rfl,rfl,by go_num,by omega,by omega,Nat.le_refl _,by omega,fun q=>by omega,F4,I4,NB4,BB,PRE,G4⟩
     | false =>
      have si:s<i:=by
       rcases Nat.lt_or_ge s i with q | q
       ·exact q
       ·exfalso
        have e:s=i:=by omega
        have:FitsOn (eps-1) (sh f s) (Prs (i+1-s)):=few_fit (by omega) (sh_up UP.out (show i+1<=n by omega)) (by omega)
        have:=OK.out.2 this
        simp at this
      have ON:Aside _:=F.out.on;have NX:Aside (∀ l',EndsAt (eps-1) f n i l'->EndsAt (eps-1) f n 0 ((l++[i])++l')):=fun l' h=>by
       rw [List.append_assoc];exact PRE.out (i::l') ⟨si,by omega,ON.out,fun _ q=>by have:=OK.out.2 q;simp at this,h⟩
      have q2:w4.cell? ⟨bk,off+i,none⟩=some (.int .u64 fi):=by
       obtain ⟨bk',off',e,_,hc'⟩:=(HK.out.gw G4.out).cells (by omega)
       cases e
       rw [hc' i hlt,FI.out]
      have hb4:bk<w4.heap.size:=by
       have:=(HK.out.gw G4.out).cells (by omega)
       obtain ⟨bk',off',e,hb',_⟩:=this;cases e;exact hb'
      clear hok hF hS' gs g4 F I NB G OK PRE ON q1;have z4:=G4.out.size;go_wp2_with (at_builtin;refine wpList_append_own _ rfl _ _ 94 rfl w.heap.size 3 ii (.int .i64 0) 1 8 underlying94 hii hz hs hby rfl (by decide) _ l.length _ rfl (I4.out.alloc _) ⟨w4.heap.size,0,none⟩ 1 1 [.int .i64 (i:Int)] rfl rfl (new_i w4 i) (ints_oneCell .i64 [(i:Int)]) (by simp only [maxLen];omega) (by omega) (by simp;omega) ?_)
      intro v' w5 r1 r2 r3;obtain ⟨b5,cap5,rfl,hb5,_,_⟩:=own_slice r1 (by simpa using r3)
      have I5:Aside (IR w5 w.heap.size (.slice (some ⟨b5,0,none⟩) (l++[i]).length cap5) (l++[i])):=by
       have:=r1
       simp only [IR,List.length_append,List.length_cons,List.length_nil,List.map_append,List.map_cons,List.map_nil];show World.ownsRow _ _ _ _ _ _ _;simpa using this
      have G5:Aside (Gw w w5):=(G4.out.alloc _ _).grown r2 (fun k hk=>by cases hk;exact BB.out)
      have B5:Aside _:=hb5;have e5:(l++[i]).length=l.length+1:=by simp
      have q5:w5.cell? ⟨bk,off+i,none⟩=some (.int .u64 fi):=by
       obtain ⟨bk',off',e,_,hc'⟩:=(HK.out.gw G5.out).cells (by omega)
       cases e
       rw [hc' i hlt,FI.out]
      clear r1 r2 r3 I4 BB hb5 q2 hb4;go_wp2_with fail;refine (fitat_new w _ eps k2 k3 f i G5.out).mono ?_;rintro ex w6 ⟨⟨p6,S6,rfl,hF6,hS6⟩,g6⟩;have F6:Aside _:=hF6;have G6:Aside _:=G5.out.trans g6;have I6:Aside _:=ir_gw I5.out g6;have NB6:Aside (¬ S6 b5):=fun q=>by have:=hS6 b5 q;have:=(ir_lt I5.out b5 rfl).2;omega
      have q6:w6.cell? ⟨bk,off+i,none⟩=some (.int .u64 fi):=by
       obtain ⟨bk',off',e,_,hc'⟩:=(HK.out.gw G6.out).cells (by omega)
       cases e
       rw [hc' i hlt,FI.out]
      clear hF6 hS6 g6 G5 I5 q5;go_wp2_with fail;refine (fitat_add F6.out G6.out (Nat.le_refl _) hlt UP.out fi FI.out y0 y1 (by omega)).mono ?_
      rintro ex w7 ⟨ok7,err7,S7,rfl,hok7,hF7,hS7,gs7,g7⟩;have o7:ok7=true:=hok7.2 (few_fit (by omega) (sh_up UP.out (show i+1<=n by omega)) (by omega))
      have F7:Aside _:=hF7 o7;have G7:Aside _:=g7;have I7:Aside _:=ir_keep I6.out fun q hq=>by
       cases hq
       exact gs7.block b5 (ir_lt I6.out b5 rfl).2 NB6.out
      have NB7:Aside (¬ S7 b5):=fun q=>by
       rcases hS7 b5 q with r | r
       ·exact NB6.out r
       ·have:=(ir_lt I6.out b5 rfl).2;omega
      clear hok7 hF7 hS7 gs7 g7 F6 G6 I6 NB6 q6;go_wp2_with fail;go_roundg (n-(i+1))
      case measure=>omega
      case rel=>exact ⟨i+1,i,p6,b5,cap5,S7,l++[i],rfl,by rw [e5],by go_num,by omega,by omega,Nat.le_refl _,by omega,fun q=>by omega,F7,I7,NB7,B5,NX,G7⟩
    ·have e:i=n:=by omega
     subst e;by_cases n0:0<i
     ·have si:s<i:=by
       rcases Nat.lt_or_ge s i with q | q
       ·exact q
       ·have:=h5 (by omega);omega
      have R:Aside (EndsR eps f i (l++[i]) 0):=.inr (.inr ⟨KE.out,UP.out,PRE.out [i] ⟨si,Nat.le_refl _,F.out.on,fun q=>absurd q (Nat.lt_irrefl _),rfl⟩,rfl⟩)
      have tn:(0:Int)<(i:Int):=by omega
      have z4:=G.out.size;clear F PRE NB;go_wp2_with (at_builtin;refine wpList_append_own _ rfl _ _ 94 rfl w.heap.size 3 ii (.int .i64 0) 1 8 underlying94 hii hz hs hby rfl (by decide) _ l.length _ rfl (I.out.alloc _) ⟨wr.heap.size,0,none⟩ 1 1 [.int .i64 (i:Int)] rfl rfl (new_i wr i) (ints_oneCell .i64 [(i:Int)]) (by simp only [maxLen];omega) (by omega) (by simp;omega) ?_)
      intro v' w5 r1 r2 r3;have I5:Aside (IR w5 w.heap.size v' (l++[i])):=by
       have:=r1
       simp only [IR,List.length_append,List.length_cons,List.length_nil,List.map_append,List.map_cons,List.map_nil];show World.ownsRow _ _ _ _ _ _ _;simpa using this
      have G5:Aside (Gw w w5):=(G.out.alloc _ _).grown r2 (fun k hk=>by cases hk;exact BB.out)
      clear r1 r2 r3;go_wp2_with fail;exact bodyPost_ret (v:=.tuple #[v',.int .i64 0]) (by simp [results,results123,go_sem]) rfl ⟨⟨_,_,0,rfl,R.out,I5.out⟩,G5.out⟩
     ·have ei:i=0:=by omega
      subst ei;have es:s=0:=by omega
      subst es;have R:Aside (EndsR eps f 0 l 0):=.inr (.inr ⟨KE.out,UP.out,by simpa using PRE.out [] rfl,rfl⟩)
      clear F PRE NB;go_wp2_with fail;exact bodyPost_ret (v:=.tuple #[.slice (some ⟨b,0,none⟩) l.length cap,.int .i64 0]) (by simp [results,results123,go_sem]) rfl ⟨⟨_,_,0,rfl,R.out,I.out⟩,G.out⟩
end Go.Proofs.YteflpamjgaeaiaaGreat
