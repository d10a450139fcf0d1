/- The document's Of, over what its 'down' does. -/
import Derived.Test.YtklkpldicbkjeaaGreatVR4Add
import Derived.Test.YtklkpldicbkjeaaGreatVXBase
set_option linter.unusedVariables false
set_option maxHeartbeats 8000000
set_option maxRecDepth 100000
open Go.Proofs.Tryz
namespace Go.Proofs.YtklkpldicbkjeaaGreat
open Go.RowKit
def Vw (ex:Ending) (eps:Int) (f:Nat->Int) (n:Nat):Prop:=∃ a b c err:Int,ex=.returned (.tuple #[.agg #[.int .u64 a,.int .u64 b,.int .i64 c],.int .i64 err])/\dP eps f n a b c err/\(0<=a/\a<18446744073709551616)/\(0<=b/\b<18446744073709551616)/\(-9223372036854775808<=c/\c<9223372036854775808)
theorem Gs.gw5 {S:Nat->Prop} {W w w':World} (h:Gw W w) (g:Gs S w w') (hS:∀ q,S q->W.heap.size<=q):Gw W w' :=
 ⟨⟨g.os.trans h.below.os,g.tape.trans h.below.tape,g.output.trans h.below.output,Nat.le_trans h.below.size g.size,fun q hq=>(g.block q (Nat.lt_of_lt_of_le hq h.below.size) (fun s=>by have:=hS q s;omega)).trans (h.below.block q hq)⟩⟩
theorem aQ.part {e:Int} {f:Nat->Int} {n m:Nat} (h:aQ e f (ay n)) (hm:m<=n):aQ e f (ay m):=fun i j i' j' s s'=>h i j i' j' ⟨s.1,by have:=s.2;omega⟩ ⟨s'.1,by have:=s'.2;omega⟩
theorem aeE {e:Int} {f:Nat->Int} {a b C C' Q:Int} {j:Nat} (EQ:a*(f j-f 0)/b=Q) (h:∀ x,x<j->(x:Int)-e<=a*(f x-f 0)/b+C) (h':0<j->∃ x,x<j/\(x:Int)-e=a*(f x-f 0)/b+C)
  (k1:(j:Int)-e-Q<=C') (k2:0<j->C<=C') (k3:C'=(j:Int)-e-Q\/(0<j/\C'=C)):(∀ x,x<j+1->(x:Int)-e<=a*(f x-f 0)/b+C')/\(0<j+1->∃ x,x<j+1/\(x:Int)-e=a*(f x-f 0)/b+C'):=by
 refine ⟨fun x hx=>?_,fun _=>?_⟩
 ·by_cases q:x=j
  ·rw [q,EQ];omega
  ·have:=h x (by omega)
   have:=k2 (by omega)
   omega
 ·rcases k3 with k3 | ⟨q,k3⟩
  ·exact ⟨j,by omega,by rw [EQ,k3];omega⟩
  ·obtain ⟨x,hx,ex⟩:=h' q
   exact ⟨x,by omega,by rw [k3];exact ex⟩
def Ln (w:World) (b:Nat) (x y z:Int):Prop:=w.heap[b]?=some (.cells #[.int .u64 x,.int .u64 y,.int .i64 z] 166 (0,0))
theorem Ln.lt {w:World} {b:Nat} {x y z:Int} (h:Ln w b x y z):b<w.heap.size:=(Array.getElem?_eq_some_iff.1 h).1
theorem Ln.c0 {w:World} {b:Nat} {x y z:Int} (h:Ln w b x y z):w.cell? ⟨b,0,none⟩=some (.int .u64 x):=by unfold Ln at h;simp [World.cell?,h]
theorem Ln.c1 {w:World} {b:Nat} {x y z:Int} (h:Ln w b x y z):w.cell? ⟨b,1,none⟩=some (.int .u64 y):=by unfold Ln at h;simp [World.cell?,h]
theorem Ln.c2 {w:World} {b:Nat} {x y z:Int} (h:Ln w b x y z):w.cell? ⟨b,2,none⟩=some (.int .i64 z):=by unfold Ln at h;simp [World.cell?,h]
theorem Ln.fz {w:World} {b:Nat} {x y z:Int} (h:Ln w b x y z) (o:Nat):w.frozen? ⟨b,o,none⟩=false:=by unfold Ln at h;simp [World.frozen?,h]
theorem Ln.gw {w w':World} {b:Nat} {x y z:Int} (h:Ln w b x y z) (g:Gw w w'):Ln w' b x y z:=(g.below.block b h.lt).trans h
theorem Ln.far {w:World} {b:Nat} {x y z:Int} (h:Ln w b x y z) {q o:Nat} (u:Value) (hq:b≠q):Ln (w.setCell ⟨q,o,none⟩ u) b x y z:=(Go.Deep.blk_setCell_other _ _ _ _ hq).trans h
theorem Ln.set2 {w:World} {b:Nat} {x y z:Int} (h:Ln w b x y z) (z':Int):Ln (w.setCell ⟨b,2,none⟩ (.int .i64 z')) b x y z':=by
 unfold Ln at h ⊢;simp [World.setCell,Array.getElem?_modify,h]
theorem Ln.gs {S:Nat->Prop} {w w':World} {b:Nat} {x y z:Int} (h:Ln w b x y z) (g:Gs S w w') (n:¬ S b):Ln w' b x y z:=(g.block b h.lt n).trans h
theorem aeF (DD:Xo) (eps:Int) (ao:Option Addr) (n cp:Nat) (f:Nat->Int) (p0:-9223372036854775808<=eps) (p1:eps<9223372036854775808) (hn:n<=2000000) (w:World) (h:KS w ao n f) :
  Calls prog 107 #[.slice ao n cp,.int .i64 eps] w fun ex w'=>Vw ex eps f n/\Gw w w':=by
 have HK:ag _:=h;clear h;have G0:ag (Gw w (w.alloc (.cells #[.int .u64 0,.int .u64 0,.int .i64 0] 166))):=(Gw.refl w).alloc _ _;have Z0:ag (Ln (w.alloc (.cells #[.int .u64 0,.int .u64 0,.int .i64 0] 166)) w.heap.size 0 0 0):=heap_alloc_new w _;by_cases k0:¬ (2<=eps/\eps<=64)
 ·have R:ag (dP eps f n 0 0 0 1):=.inl ⟨k0,rfl,rfl,rfl,rfl⟩
  by_cases k1:eps<2
  ·have t1:decide (eps<2)=true:=by simpa using k1
   clear k0;go_enter func107,ntmps107;go_wp2_with fail;refine bodyPost_ret (v:=.tuple #[.agg #[.int .u64 0,.int .u64 0,.int .i64 0],.int .i64 1]) (by simp [results,results107,go_sem]) rfl ⟨⟨0,0,0,1,rfl,R.o,by omega,by omega,by omega⟩,?_⟩
   first | exact G0.o | (refine Gw.setCell (Gw.setCell (Gw.setCell G0.o ?_ _) ?_ _) ?_ _<;>exact Nat.le_refl _)
  ·have t1:decide (eps<2)=false:=by simpa using k1
   have k2:64<eps:=by omega
   have t2:decide (64<eps)=true:=by simpa using k2
   clear k0;go_enter func107,ntmps107;go_wp2_with fail;refine bodyPost_ret (v:=.tuple #[.agg #[.int .u64 0,.int .u64 0,.int .i64 0],.int .i64 1]) (by simp [results,results107,go_sem]) rfl ⟨⟨0,0,0,1,rfl,R.o,by omega,by omega,by omega⟩,?_⟩
   first | exact G0.o | (refine Gw.setCell (Gw.setCell (Gw.setCell G0.o ?_ _) ?_ _) ?_ _<;>exact Nat.le_refl _)
 ·have k1:2<=eps/\eps<=64:=Classical.not_not.1 k0
  have KE:ag _:=k1;have t1:decide (eps<2)=false:=by simp;omega
  have t2:decide (64<eps)=false:=by simp;omega
  obtain ⟨k2,k3⟩:=k1;clear k0;by_cases hz:n=0
  ·have R:ag (dP eps f n 0 0 0 50):=.inr (.inl ⟨KE.o,fun q=>by omega,rfl,rfl,rfl,rfl⟩)
   subst hz;go_enter func107,ntmps107;go_wp2_with fail;refine bodyPost_ret (v:=.tuple #[.agg #[.int .u64 0,.int .u64 0,.int .i64 0],.int .i64 50]) (by simp [results,results107,go_sem]) rfl ⟨⟨0,0,0,50,rfl,R.o,by omega,by omega,by omega⟩,?_⟩
   first | exact G0.o | (refine Gw.setCell (Gw.setCell (Gw.setCell G0.o ?_ _) ?_ _) ?_ _<;>exact Nat.le_refl _)
  ·have t3:((n:Int) == 0)=false:=by simp;omega
   go_enter func107,ntmps107;go_wp2_with fail;generalize w.alloc (.cells #[.int .u64 0,.int .u64 0,.int .i64 0] 166)=wx at G0 Z0 ⊢;obtain ⟨N,hN⟩:∃ N,w.heap.size=N:=⟨_,rfl⟩;have NW:ag (w.heap.size<=N):=Nat.le_of_eq hN;rw [hN] at Z0 ⊢;clear hN;refine (Cj ao n cp f (by omega) _ (HK.o.gw G0.o)).mono ?_
   rintro ex w1 ⟨⟨r,rfl,hr⟩,g1⟩;have G1:ag _:=G0.o.trans g1;have Z1:ag (Ln w1 N 0 0 0):=Z0.o.gw g1;have HR:ag _:=hr;clear g1 hr G0 Z0;cases r with
   | false =>
    have R:ag (dP eps f n 0 0 0 50):=.inr (.inl ⟨KE.o,fun q=>by have:=HR.o.2 q.2;simp at this,rfl,rfl,rfl,rfl⟩)
    have z0:=Z1.o.c0;have z1:=Z1.o.c1;have z2:=Z1.o.c2;have z3:=Z1.o.fz 0;have z4:=Z1.o.fz 1;have z5:=Z1.o.fz 2;have z6:=Z1.o.lt;go_wp2_with fail;refine bodyPost_ret (v:=.tuple #[.agg #[.int .u64 0,.int .u64 0,.int .i64 0],.int .i64 50]) (by simp [results,results107,go_sem, *]) rfl ⟨⟨0,0,0,50,rfl,R.o,by omega,by omega,by omega⟩,?_⟩
    refine Gw.setCell (Gw.setCell (Gw.setCell G1.o ?_ _) ?_ _) ?_ _<;>exact NW.o
   | true =>
    have UP:ag (Up f n):=HR.o.1 rfl;clear HR;go_wp2_with fail;refine (LC eps k2 k3 _).mono ?_;rintro ex w2 ⟨⟨p,rfl,hp,hF⟩,g2⟩;have G2:ag _:=G1.o.trans g2;have Z2:ag _:=Z1.o.gw g2;have S2:ag (∀ q,dI p (.slice none 0 0) q->N<q):=fun q hq=>by
     have:=Z1.o.lt
     rcases hq with rfl | hq
     ·omega
     ·simp [Value.ownBlock] at hq
    have F2:ag (mu w2 p (dI p (.slice none 0 0)) (eps-1) 0 (fun _=>0)):=⟨_,_,_,_,_,hF,fun q=>Iff.rfl⟩
    clear g2 hF hp G1 Z1;go_wp2_with fail;go_loopg [8] n (fun gg s8 wr=>∃ (i:Nat) (S:Nat->Prop),s8=.int .i64 i/\i<=n/\n-i<=gg/\ag (mu wr p S (eps-1) i (fun j=>if j<i then f j else 0))/\ag (∀ q,S q->N<q)/\ag (Ln wr N 0 0 0)/\ag (Gw w wr))
    case atStart=>exact ⟨0,_,rfl,Nat.zero_le _,by omega,(by show mu _ _ _ _ _ _;simpa using F2.o),S2,Z2,G2⟩
    case round =>
     clear F2 S2 Z2 G2;obtain ⟨i,S,rfl,h1,h2,F,SN,Z,G⟩:=hrel;by_cases ak:i<n
     ·obtain ⟨bk,off,rfl,iD,hc⟩:=(HK.o.gw G.o).cells (by omega)
      have q1:=hc i ak;obtain ⟨y0,y1⟩:=HK.o.bd i ak;have SF:ag _:=F.o;have FI:ag (∀ j,j<=i->aC (fun j=>if j<i then f j else 0) i (f i) j=f j):=fun j hj=>by
       by_cases e:j=i
       ·subst e;exact dO _ _ _
       ·rw [bu (by omega)];exact if_pos (by omega)
      have FE:ag (aC (fun j=>if j<i then f j else 0) i (f i)=(fun j=>if j<i+1 then f j else 0)):=by
       show _=_;funext j;by_cases e:j=i
       ·subst e;rw [dO,if_pos (by omega)]
       ·by_cases e':j<i
        ·rw [bu e']
         show (if j<i then f j else 0)=_
         rw [if_pos e',if_pos (by omega)]
        ·unfold aC
         rw [if_neg e];show (if j<i then f j else 0)=_
         rw [if_neg e',if_neg (by omega)]
      obtain ⟨fi,eG⟩:∃ y,f i=y:=⟨_,rfl⟩;rw [eG] at q1 FI FE y0 y1;clear hc F;go_wp2_with fail;refine (Mb SF.o fi y0 y1 (by omega)).mono ?_
      rintro ex w3 ⟨⟨ok,err,S',rfl,hA,hF,fI⟩,g3⟩;have G3:ag _:=Gs.gw5 G.o g3 (fun q hq=>by have:=SN.o q hq;have:=NW.o;omega)
      have Z3:ag (Ln w3 N 0 0 0):=Z.o.gs g3 (fun q=>by have:=SN.o N q;omega)
      have Ju:ag (∀ q,S' q->N<q):=fun q hq=>by
       rcases fI q hq with r | r
       ·exact SN.o q r
       ·have:=Z.o.lt;omega
      have HA:ag _:=hA;have HF:ag _:=hF;have HC:ag (ok=true↔aQ (eps-1) f (ay (i+1))):=by
       rcases HA.o with ⟨q1,q2,_⟩ | ⟨_,_,q3⟩
       ·exfalso
        replace q2:fi<=if i-1<i then f (i-1) else 0:=q2
        rw [if_pos (by omega)] at q2
        have:=UP.o.lt (a:=i-1) (b:=i) (by omega) ak
        omega
       ·refine q3.trans ⟨fun q=>q.congr (fun _ _ s=>s) (fun a b s=>?_),fun q=>q.congr (fun _ _ s=>s) (fun a b s=>?_)⟩
        all_goals rw [FI.o b (by have:=s.2;omega),FI.o a (by have:=s.1;have:=s.2;omega)]
      clear hA hF fI g3 HA SF G Z SN q1;cases ok with
      | false =>
       have R:ag (dP eps f n 0 0 0 51):=.inr (.inr (.inl ⟨KE.o,⟨by omega,UP.o⟩,fun q=>by have:=HC.o.2 (q.part (by omega));simp at this,rfl,rfl,rfl,rfl⟩))
       have z0:=Z3.o.c0;have z1:=Z3.o.c1;have z2:=Z3.o.c2;have z3:=Z3.o.fz 0;have z4:=Z3.o.fz 1;have z5:=Z3.o.fz 2;have z6:=Z3.o.lt;go_wp2_with fail;refine bodyPost_ret (v:=.tuple #[.agg #[.int .u64 0,.int .u64 0,.int .i64 0],.int .i64 51]) (by simp [results,results107,go_sem, *]) rfl ⟨⟨0,0,0,51,rfl,R.o,by omega,by omega,by omega⟩,?_⟩
       refine Gw.setCell (Gw.setCell (Gw.setCell G3.o ?_ _) ?_ _) ?_ _<;>exact NW.o
      | true =>
       have Jv:ag (mu w3 p S' (eps-1) (i+1) (fun j=>if j<i+1 then f j else 0)):=by
        have:=HF.o
        rw [if_pos rfl,if_pos rfl,FE.o] at this;exact this
       go_wp2_with fail;go_roundg (n-(i+1))
       case measure=>omega
       case rel=>exact ⟨i+1,S',by go_num,by omega,Nat.le_refl _,Jv,Ju,Z3,G3⟩
     ·have e:i=n:=by omega
      subst e;obtain ⟨v,a,b,c,d,xV,hS⟩:=F.o;have LE:ag (∀ w',Gw wr w'->RF w' p v (eps-1) i (fun j=>if j<i then f j else 0) a b c d):=fun w' g=>xV.gw g
      have eq:∀ x y,ay i x y->(if y<i then f y else 0)-(if x<i then f x else 0)=f y-f x:=fun x y s=>by
       rw [if_pos s.2,if_pos (by have:=s.1;have:=s.2;omega)]
      have LO:ag (bG (eps-1) f (ay i) a b):=xV.low.congr (fun _ _=>Iff.rfl) eq
      have FO:ag (aQ (eps-1) f (ay i)):=xV.fit.congr (fun _ _ s=>s) eq
      have a0:=LO.o.a0;have b1:=LO.o.b1;have WD:=xV.wd;clear xV F hS SN eq;go_wp2_with fail;refine (ZP (LE.o wr (Gw.refl _))).mono ?_;rintro ex w3 ⟨rfl,g3⟩;have G3:ag _:=G.o.trans g3;have Z3:ag (Ln w3 N 0 0 0):=Z.o.gw g3;clear g3 G Z LE;go_wp2_with fail;have ML:ag (Ln ((w3.alloc (.cells #[.int .u64 a,.int .u64 b] 189)).alloc (.cells #[.int .u64 a,.int .u64 b,.int .i64 0] 166)) (w3.heap.size+1) a b 0):=by
       have:=heap_alloc_new (w3.alloc (.cells #[.int .u64 a,.int .u64 b] 189)) (.cells #[.int .u64 a,.int .u64 b,.int .i64 0] 166)
       show Ln _ _ _ _ _;simpa [Ln] using this
      have MG:ag (Gw w3 ((w3.alloc (.cells #[.int .u64 a,.int .u64 b] 189)).alloc (.cells #[.int .u64 a,.int .u64 b,.int .i64 0] 166))):=((Gw.refl w3).alloc _ _).alloc _ _;generalize (w3.alloc (.cells #[.int .u64 a,.int .u64 b] 189)).alloc (.cells #[.int .u64 a,.int .u64 b,.int .i64 0] 166)=w4 at ML MG ⊢;have Z4:ag _:=Z3.o.gw MG.o;have G4:ag _:=G3.o.trans MG.o;have NL:ag (N<w3.heap.size+1):=by have:=Z3.o.lt;exact Nat.lt_succ_of_lt this
      obtain ⟨L,hL⟩:∃ L,w3.heap.size+1=L:=⟨_,rfl⟩;rw [hL] at ML NL ⊢;rw [show w3.heap.size=L-1 by omega]
      clear hL MG Z3 G3;have QS:ag (∀ x,x<i->0<=a*(f x-f 0)/b/\a*(f x-f 0)/b<=(i:Int)+2*(eps-1)):=fun x hx=>uC (by omega) UP.o LO.o FO.o hx
      obtain ⟨⟨wa,wb⟩,_⟩:=WD;go_loopg [13] i (fun gg rG wq=>∃ (j:Nat) (C:Int),rG=.int .i64 j/\j<=i/\i-j<=gg/\ag (Ln wq L a b C)/\ag (Ln wq N 0 0 0)/\ag (Gw w wq)/\ag (∀ x,x<j->(x:Int)-(eps-1)<=a*(f x-f 0)/b+C)/\ag (0<j->∃ x,x<j/\(x:Int)-(eps-1)=a*(f x-f 0)/b+C)/\ag (-100000000<=C/\C<=100000000))
      case atStart=>exact ⟨0,0,rfl,Nat.zero_le _,by omega,ML,Z4,G4,(show ag _ from fun x hx=>by omega),(show ag _ from fun q=>by omega),(by show (-100000000:Int)<=0/\(0:Int)<=100000000;decide)⟩
      case round =>
       clear ML Z4 G4;obtain ⟨j,C,rfl,h3,h4,ML,Z4,G4,J1,J2,CB⟩:=hrel;by_cases Bq:j<i
       ·obtain ⟨bk,off,rfl,iD,hc⟩:=(HK.o.gw G4.o).cells (by omega)
        have q1:=hc j Bq;have q0:=hc 0 (by omega)
        simp only [Nat.add_zero] at q0;obtain ⟨y0,y1⟩:=HK.o.bd j Bq;obtain ⟨z0,z1⟩:=HK.o.bd 0 (by omega)
        have le0:=UP.o.le (Nat.zero_le j) Bq;obtain ⟨Vx,Vy⟩:=QS.o j Bq;obtain ⟨D,hD⟩:∃ D,f j-f 0=D:=⟨_,rfl⟩;have D0:0<=D:=by omega
        have D1:D<18446744073709551616:=by omega
        have ED:ag _:=hD;rw [hD] at Vx Vy;obtain ⟨fi,eG⟩:∃ y,f j=y:=⟨_,rfl⟩;obtain ⟨f0,Jt⟩:∃ y,f 0=y:=⟨_,rfl⟩;rw [eG] at q1 y0 y1 hD;rw [Jt] at q0 z0 z1 hD;clear eG Jt hc le0;have hDw:IntKind.u64.wrap D=D:=by rw [IntKind.wrap_u64];omega
        have Ob:0<i:=by omega
        have DC:ag (∀ W:World,Calls prog 127 #[.agg #[.int .u64 a,.int .u64 b,.int .i64 C],.int .u64 D] W fun ex w'=>ex=.returned (.tuple #[.int .i64 (a*D/b),.bool true])/\Gw W w'):=fun W=>by
         have:=DD a b C D a0 wa (by omega) wb D0 D1 W
         rw [if_neg (by omega),show (!decide (2305843009213693952<a*D/b))=true by simp;omega] at this
         exact this
        obtain ⟨Q,hQ⟩:∃ Q,a*D/b=Q:=⟨_,rfl⟩;have EQ:ag (a*(f j-f 0)/b=Q):=by rw [ED.o];exact hQ
        rw [hQ] at DC Vx Vy;clear hQ;have e0:=ML.o.c0;have e1:=ML.o.c1;have e2:=ML.o.c2;go_wp2_with fail;go_cut [14] (fun s w'=>s=.int .i64 Q/\ag (Gw wr w'))
        case first =>
         go_region_with (go_at_call 127;refine (DC.o _).mono ?_;rintro ex v4 ⟨rfl,g4⟩;have G5:ag (Gw wr v4):=(Gw.trans (by repeat (first | exact Gw.refl _ | refine Gw.drew ?_)) g4);clear g4)
         all_goals go_wp2_with fail
         all_goals go_meet
         all_goals
          case rel=>exact ⟨rfl,(show ag _ from (by first | exact G5.o | exact G5.o.drew | exact G5.o.drewN _))⟩
        case rest =>
         obtain ⟨wy,xW⟩:∃ wy,wy=wc:=⟨_,rfl⟩;subst xW;obtain ⟨rfl,gy⟩:=hcut;have GY:ag (Gw w wy):=G4.o.trans gy.o;have MY:ag (Ln wy L a b C):=ML.o.gw gy.o;have ZY:ag (Ln wy N 0 0 0):=Z4.o.gw gy.o;clear ML Z4 G4 gy DC q0 q1 e0 e1 e2;have wa1:IntKind.i64.wrap (eps-1)=eps-1:=by rw [IntKind.wrap_i64];omega
         have wb1:IntKind.i64.wrap ((j:Int)-(eps-1))=(j:Int)-(eps-1):=by rw [IntKind.wrap_i64];omega
         have nM:IntKind.i64.wrap ((j:Int)-(eps-1)-Q)=(j:Int)-(eps-1)-Q:=by rw [IntKind.wrap_i64];omega
         have m0:=MY.o.c2;have m1:=MY.o.fz 2;have m2:=MY.o.lt;have jU:ag _:=fun C' k1 k2 k3=>aeE (C':=C') EQ.o J1.o J2.o k1 k2 k3
         have cb:=CB.o;have Br:ag (Ln (wy.setCell ⟨L,2,none⟩ (.int .i64 ((j:Int)-(eps-1)-Q))) L a b ((j:Int)-(eps-1)-Q)/\Ln (wy.setCell ⟨L,2,none⟩ (.int .i64 ((j:Int)-(eps-1)-Q))) N 0 0 0/\Gw w (wy.setCell ⟨L,2,none⟩ (.int .i64 ((j:Int)-(eps-1)-Q)))) :=
          ⟨MY.o.set2 _,ZY.o.far _ (by have:=NL.o;omega),GY.o.setCell (by have:=NL.o;have:=NW.o;show _<=L;omega) _⟩
         clear J1 J2 CB EQ;by_cases hj:j=0
         ·have tj:((j:Int) == 0)=true:=by simp;omega
          have NX:=jU.o ((j:Int)-(eps-1)-Q) (Int.le_refl _) (fun q=>by omega) (.inl rfl)
          have X1:ag _:=NX.1;have X2:ag _:=NX.2;clear NX jU;have Jw:ag (Ln (wy.setCell ⟨L,2,none⟩ (.int .i64 (-(eps-1)-Q))) L a b ((j:Int)-(eps-1)-Q)/\Ln (wy.setCell ⟨L,2,none⟩ (.int .i64 (-(eps-1)-Q))) N 0 0 0/\Gw w (wy.setCell ⟨L,2,none⟩ (.int .i64 (-(eps-1)-Q)))):=by
           have h:=Br.o;rw [show (j:Int)-(eps-1)-Q=-(eps-1)-Q by omega] at h
           show _/\_;rw [show (j:Int)-(eps-1)-Q=-(eps-1)-Q by omega]
           exact h
          go_wp2_with fail;go_roundg (i-(j+1))
          case measure=>omega
          case rel=>exact ⟨j+1,(j:Int)-(eps-1)-Q,by go_num,by omega,Nat.le_refl _,Jw.o.1,Jw.o.2.1,Jw.o.2.2,X1,X2,(by show -100000000<=_/\_<=(100000000:Int);omega)⟩
         ·have tj:((j:Int) == 0)=false:=by simp;omega
          by_cases hC:C<(j:Int)-(eps-1)-Q
          ·have tC:decide (C<(j:Int)-(eps-1)-Q)=true:=by simpa using hC
           have NX:=jU.o ((j:Int)-(eps-1)-Q) (Int.le_refl _) (fun q=>by omega) (.inl rfl)
           have X1:ag _:=NX.1;have X2:ag _:=NX.2;clear NX jU;go_wp2_with fail;go_roundg (i-(j+1))
           case measure=>omega
           case rel=>exact ⟨j+1,(j:Int)-(eps-1)-Q,by go_num,by omega,Nat.le_refl _,Br.o.1,Br.o.2.1,Br.o.2.2,X1,X2,(by show -100000000<=_/\_<=(100000000:Int);omega)⟩
          ·have tC:decide (C<(j:Int)-(eps-1)-Q)=false:=by simpa using hC
           have NX:=jU.o C (by omega) (fun q=>Int.le_refl _) (.inr ⟨by omega,rfl⟩)
           have X1:ag _:=NX.1;have X2:ag _:=NX.2;clear NX jU;go_wp2_with fail;go_roundg (i-(j+1))
           case measure=>omega
           case rel=>exact ⟨j+1,C,by go_num,by omega,Nat.le_refl _,MY,ZY,GY,X1,X2,cb⟩
       ·have e:j=i:=by omega
        subst e;have R:ag (dP eps f j a b C 0):=.inr (.inr (.inr ⟨KE.o,⟨by omega,UP.o⟩,FO.o,LO.o,⟨J1.o,J2.o (by omega)⟩,rfl⟩))
        have cb:=CB.o;have m0:=ML.o.c0;have m1:=ML.o.c1;have m2:=ML.o.c2;have m3:=ML.o.lt;have z0:=Z4.o.c0;have z1:=Z4.o.c1;have z2:=Z4.o.c2;have z3:=Z4.o.fz 0;have z4:=Z4.o.fz 1;have z5:=Z4.o.fz 2;have z6:=Z4.o.lt;clear J1 J2 CB ML Z4;go_wp2_with fail;refine bodyPost_ret (v:=.tuple #[.agg #[.int .u64 a,.int .u64 b,.int .i64 C],.int .i64 0]) (by simp [results,results107,go_sem, *]) rfl ⟨⟨a,b,C,0,rfl,R.o,⟨a0,wa⟩,⟨by omega,wb⟩,by omega⟩,?_⟩
        refine Gw.setCell (Gw.setCell (Gw.setCell G4.o ?_ _) ?_ _) ?_ _<;>exact NW.o
theorem aQ.some {e:Int} {f:Nat->Int} {n m:Nat} (h:aQ e f (ay n)) (hm:m<=n):aQ e f (ay m):=fun i j i' j' s s'=>h i j i' j' ⟨s.1,by have:=s.2;omega⟩ ⟨s'.1,by have:=s'.2;omega⟩
def cutAt (f:Nat->Int) (i j:Nat):Int:=if j<i then f j else 0
theorem xX {f:Nat->Int} {i j:Nat} (h:j<i):cutAt f i j=f j:=if_pos h
theorem Vz (f:Nat->Int) (i:Nat) (x:Int) (hx:f i=x):∀ j,j<i+1->aC (cutAt f i) i x j=cutAt f (i+1) j:=by
 intro j hj;rw [xX hj];by_cases e:j=i
 ·subst e;rw [dO,hx]
 ·rw [bu (by omega),xX (by omega)]
theorem aeG {HF:World->Nat->(Nat->Prop)->Int->Nat->(Nat->Int)->Prop} (H:nN HF) {p:Nat} {S:Nat->Prop} {e:Int} (ao:Option Addr) (n cp:Nat) (f:Nat->Int) (w0 w:World) (h:HF w p S e 0 (fun _=>0)) (hS:∀ q,S q->w0.heap.size<=q) (g0:Gw w0 w) (hK:KS w0 ao n f) (u:Up f n) (hn:n<=2000000) :
  Calls prog 138 #[.pointer (some ⟨p,0,none⟩),.slice ao n cp] w fun ex w'=>(∃ ok:Bool,ex=.returned (.bool ok)/\(ok=true↔aQ e f (ay n))/\(ok=true->∃ S',HF w' p S' e n f))/\Gw w0 w':=by
 have HH:ag _:=H;have HK:ag _:=hK;have UP:ag (Up f n):=u;have F0:ag (HF w p S e 0 (cutAt f 0)):=H.ext h (fun i hi=>absurd hi (by omega))
 have S0:ag _:=hS;have G0:ag _:=g0;clear H hK u h hS g0;go_enter func138,ntmps138;go_wp2_with fail;go_loopg [11] n (fun gg s8 wr=>∃ (i:Nat) (S:Nat->Prop),s8=.int .i64 i/\i<=n/\n-i<=gg/\ag (HF wr p S e i (cutAt f i))/\ag (∀ q,S q->w0.heap.size<=q)/\ag (Gw w0 wr))
 case atStart=>exact ⟨0,_,rfl,Nat.zero_le _,by omega,F0,S0,G0⟩
 case round =>
  clear F0 S0 G0;obtain ⟨i,S,rfl,h1,h2,F,SN,G⟩:=hrel;by_cases ak:i<n
  ·obtain ⟨bk,off,rfl,iD,hc⟩:=(HK.o.gw G.o).cells (by omega)
   have q1:=hc i ak;obtain ⟨y0,y1⟩:=HK.o.bd i ak;obtain ⟨fi,eG⟩:∃ y,f i=y:=⟨_,rfl⟩;have FI:ag _:=eG;rw [eG] at q1 y0 y1;clear hc eG;go_wp2_with fail;refine (HH.o.add F.o fi y0 y1 (by omega)).mono ?_
   rintro ex w3 ⟨⟨ok,err,S',rfl,hA,hF,fI⟩,g3⟩;have G3:ag _:=Gs.gw G.o g3 SN.o;have Ju:ag (∀ q,S' q->w0.heap.size<=q):=fun q hq=>by
    rcases fI q hq with r | r
    ·exact SN.o q r
    ·have:=G.o.size;omega
   have HF3:ag _:=hF;have HC:ag (ok=true↔aQ e f (ay (i+1))):=by
    have UF:∀ j,j<i+1->aC (cutAt f i) i fi j=f j:=fun j hj=>by rw [Vz f i fi FI.o j hj,xX hj]
    rcases hA with ⟨q1,q2,_⟩ | ⟨_,_,q3⟩
    ·exfalso
     rw [xX (by omega)] at q2
     have:=UP.o.lt (a:=i-1) (b:=i) (by omega) ak
     have:=FI.o
     omega
    ·refine q3.trans ⟨fun q=>q.congr (fun _ _ s=>s) (fun a b s=>?_),fun q=>q.congr (fun _ _ s=>s) (fun a b s=>?_)⟩
     all_goals rw [UF b (by have:=s.2;omega),UF a (by have:=s.1;have:=s.2;omega)]
   clear hA hF fI g3 F G SN q1;cases ok with
   | false =>
    have R:ag (false=true↔aQ e f (ay n)):=⟨fun q=>by simp at q,fun q=>HC.o.2 (q.some (by omega))⟩
    go_wp2_with fail;go_ret
    exact ⟨⟨false,rfl,R.o,fun q=>by simp at q⟩,G3.o⟩
   | true =>
    have Jv:ag (HF w3 p S' e (i+1) (cutAt f (i+1))):=by
     have:=HF3.o
     rw [if_pos rfl,if_pos rfl] at this;exact HH.o.ext this (Vz f i fi FI.o)
    have FW:ag _:=HC.o.1 rfl;go_wp2_with fail;go_roundg (n-(i+1))
    case measure=>omega
    case rel=>exact ⟨i+1,S',by go_num,by omega,Nat.le_refl _,Jv,Ju,G3⟩
  ·have ei:i=n:=by omega
   subst ei;have FF:ag _:=HH.o.ext F.o (fun j hj=>xX hj)
   have FW:=(HH.o.facts FF.o).2.2.1;have FA:ag _:=FW;clear FW;go_wp2_with fail;go_ret;exact ⟨⟨true,rfl,⟨fun _=>FA.o,fun _=>rfl⟩,fun _=>⟨S,FF.o⟩⟩,G.o⟩
theorem aeH (CC:Ck) {HF:World->Nat->(Nat->Prop)->Int->Nat->(Nat->Int)->Prop} (H:nN HF) (eps:Int) (ao:Option Addr) (n cp:Nat) (f:Nat->Int) (p0:-9223372036854775808<=eps) (p1:eps<9223372036854775808) (hn:n<=2000000) (w:World) (h:KS w ao n f) :
  Calls prog 118 #[.slice ao n cp,.int .i64 eps] w fun ex w'=>Vw ex eps f n/\Gw w w':=by
 have HK:ag _:=h;have HH:ag _:=H;clear h H;have G0:ag (Gw w (w.alloc (.cells #[.int .u64 0,.int .u64 0,.int .i64 0] 166))):=(Gw.refl w).alloc _ _;have Z0:ag (Ln (w.alloc (.cells #[.int .u64 0,.int .u64 0,.int .i64 0] 166)) w.heap.size 0 0 0):=heap_alloc_new w _;by_cases k0:¬ (2<=eps/\eps<=64)
 ·have R:ag (dP eps f n 0 0 0 1):=.inl ⟨k0,rfl,rfl,rfl,rfl⟩
  have vh:ag _:=fun W=>HH.o.bad eps k0 W
  clear k0;go_enter func118,ntmps118;go_wp2_with fail;refine (vh.o _).mono ?_;rintro ex w1 ⟨rfl,g1⟩;have G1:ag _:=G0.o.trans g1;have Z1:ag (Ln w1 w.heap.size 0 0 0):=Z0.o.gw g1;have z0:=Z1.o.c0;have z1:=Z1.o.c1;have z2:=Z1.o.c2;have z3:=Z1.o.fz 0;have z4:=Z1.o.fz 1;have z5:=Z1.o.fz 2;have z6:=Z1.o.lt;clear g1;go_wp2_with fail;refine bodyPost_ret (v:=.tuple #[.agg #[.int .u64 0,.int .u64 0,.int .i64 0],.int .i64 1]) (by simp [results,results118,go_sem, *]) rfl ⟨⟨0,0,0,1,rfl,R.o,by omega,by omega,by omega⟩,?_⟩
  refine Gw.setCell (Gw.setCell (Gw.setCell G1.o ?_ _) ?_ _) ?_ _<;>exact Nat.le_refl _
 ·have KE:ag (2<=eps/\eps<=64):=Classical.not_not.1 k0
  have k2:=KE.o.1;have k3:=KE.o.2;clear k0;have Bi:ag _:=fun W=>HH.o.new eps k2 k3 W
  go_enter func118,ntmps118;go_wp2_with fail;generalize w.alloc (.cells #[.int .u64 0,.int .u64 0,.int .i64 0] 166)=w1 at G0 Z0 ⊢;refine (Bi.o _).mono ?_;rintro ex w2 ⟨⟨p,S,rfl,hS,hF⟩,g2⟩;have F2:ag _:=hF;have S2:ag _:=hS;have G2:ag _:=g2;clear hF hS g2 Bi;obtain ⟨N,hN⟩:∃ N,w.heap.size=N:=⟨_,rfl⟩;have NW:ag (w.heap.size<=N):=by show _<=_;omega
  rw [hN] at Z0 ⊢;clear hN;have K1:ag _:=HK.o.gw G0.o;have K2:ag _:=K1.o.gw G2.o;go_wp2_with fail;refine (aeD ao n cp f (by omega) _ K2.o).mono ?_
  rintro ex w3 ⟨⟨r,rfl,hr⟩,g3⟩;have HR:ag _:=hr;have G3:ag _:=G2.o.trans g3;have F3:ag _:=HH.o.gw F2.o g3;clear hr g3 F2 G2 K2;cases r with
  | false =>
   have R:ag (dP eps f n 0 0 0 50):=.inr (.inl ⟨KE.o,fun q=>by have:=HR.o.2 q;simp at this,rfl,rfl,rfl,rfl⟩)
   have Z1:ag (Ln w3 N 0 0 0):=Z0.o.gw G3.o;have z0:=Z1.o.c0;have z1:=Z1.o.c1;have z2:=Z1.o.c2;have z3:=Z1.o.fz 0;have z4:=Z1.o.fz 1;have z5:=Z1.o.fz 2;have z6:=Z1.o.lt;go_wp2_with fail;refine bodyPost_ret (v:=.tuple #[.agg #[.int .u64 0,.int .u64 0,.int .i64 0],.int .i64 50]) (by simp [results,results118,go_sem, *]) rfl ⟨⟨0,0,0,50,rfl,R.o,by omega,by omega,by omega⟩,?_⟩
   refine Gw.setCell (Gw.setCell (Gw.setCell (G0.o.trans G3.o) ?_ _) ?_ _) ?_ _<;>exact NW.o
  | true =>
   have UP:ag _:=HR.o.1 rfl;have n0:=UP.o.1;clear HR;go_wp2_with fail;refine (aeG HH.o ao n cp f w1 w3 F3.o S2.o G3.o K1.o UP.o.2 hn).mono ?_;rintro ex w4 ⟨⟨ok,rfl,eI,hF⟩,g4⟩;have OK:ag _:=eI;have F4:ag _:=hF;have G4:ag _:=g4;clear eI hF g4 F3 G3 S2;cases ok with
   | false =>
    have R:ag (dP eps f n 0 0 0 51):=.inr (.inr (.inl ⟨KE.o,UP.o,fun q=>by have:=OK.o.2 q;simp at this,rfl,rfl,rfl,rfl⟩))
    have Z1:ag (Ln w4 N 0 0 0):=Z0.o.gw G4.o;have z0:=Z1.o.c0;have z1:=Z1.o.c1;have z2:=Z1.o.c2;have z3:=Z1.o.fz 0;have z4:=Z1.o.fz 1;have z5:=Z1.o.fz 2;have z6:=Z1.o.lt;go_wp2_with fail;refine bodyPost_ret (v:=.tuple #[.agg #[.int .u64 0,.int .u64 0,.int .i64 0],.int .i64 51]) (by simp [results,results118,go_sem, *]) rfl ⟨⟨0,0,0,51,rfl,R.o,by omega,by omega,by omega⟩,?_⟩
    refine Gw.setCell (Gw.setCell (Gw.setCell (G0.o.trans G4.o) ?_ _) ?_ _) ?_ _<;>exact NW.o
   | true =>
    have FO:ag _:=OK.o.1 rfl;have LE:ag _:=F4.o rfl;clear OK F4;go_wp2_with fail;refine (HH.o.least LE.o.choose_spec (by omega)).mono ?_
    rintro ex w5 ⟨⟨a,b,rfl,yB,ha,hb⟩,g5⟩;have G5:ag _:=G4.o.trans g5;have LO:ag _:=yB;have a0:=LO.o.a0;have b1:=LO.o.b1;have Z5:ag (Ln w5 N 0 0 0):=Z0.o.gw G5.o;clear g5 yB G4 LE Z0;have we:IntKind.i64.wrap (eps-1)=eps-1:=by rw [IntKind.wrap_i64];omega
    go_wp2_with fail;have ML:ag (Ln ((w5.alloc (.cells #[.int .u64 a,.int .u64 b] 189)).alloc (.cells #[.int .u64 a,.int .u64 b,.int .i64 0] 166)) (w5.heap.size+1) a b 0):=by
     have:=heap_alloc_new (w5.alloc (.cells #[.int .u64 a,.int .u64 b] 189)) (.cells #[.int .u64 a,.int .u64 b,.int .i64 0] 166)
     show Ln _ _ _ _ _;simpa [Ln] using this
    have MG:ag (Gw w5 ((w5.alloc (.cells #[.int .u64 a,.int .u64 b] 189)).alloc (.cells #[.int .u64 a,.int .u64 b,.int .i64 0] 166))):=((Gw.refl w5).alloc _ _).alloc _ _;generalize (w5.alloc (.cells #[.int .u64 a,.int .u64 b] 189)).alloc (.cells #[.int .u64 a,.int .u64 b,.int .i64 0] 166)=w6 at ML MG ⊢;have Z6:ag (Ln w6 N 0 0 0):=Z5.o.gw MG.o;have G6:ag _:=(G0.o.trans G5.o).trans MG.o;have NL:ag (N<w5.heap.size+1):=by have:=Z5.o.lt;exact Nat.lt_succ_of_lt this
    obtain ⟨L,hL⟩:∃ L,w5.heap.size+1=L:=⟨_,rfl⟩;rw [hL] at ML NL ⊢
    (try rw [show w5.heap.size=L-1 by omega])
    clear hL MG Z5 G5;obtain ⟨bk,off,rfl,iD,hc⟩:=(HK.o.gw G6.o).cells n0;have BB:ag (Calls prog 140 #[.agg #[.int .u64 a,.int .u64 b,.int .i64 0],.slice (some ⟨bk,off,none⟩) n cp,.int .i64 (eps-1)] w6 fun ex w'=>(∃ z:Int,ex=.returned (.int .i64 z)/\lW (eps-1) f n a b z/\(-100<=z/\z<=4000000))/\Gw w6 w'):=by
     refine aeC CC a b 0 (eps-1) bk off n cp f a0 ha (by omega) hb (by omega) (by omega) n0 (by omega) w6 iD hc (fun i hi=>?_) (fun i hi q=>?_)
     ·have h1:=UP.o.2.le (Nat.zero_le i) hi
      have h2:=HK.o.bd i hi;have h3:=HK.o.bd 0 n0;omega
     ·have:=uC (by omega) UP.o.2 LO.o FO.o hi
      rcases q with q | q<;>omega
    clear hc iD;have e0:=ML.o.c0;have e1:=ML.o.c1;have e2:=ML.o.c2;have e6:=ML.o.lt;go_wp2_with fail;refine BB.o.mono ?_;rintro ex w7 ⟨⟨z,rfl,hB,zb⟩,g7⟩;have R:ag (dP eps f n a b z 0):=.inr (.inr (.inr ⟨KE.o,UP.o,FO.o,LO.o,hB,rfl⟩));have G7:ag _:=G6.o.trans g7;have M7:ag (Ln w7 L a b 0):=ML.o.gw g7;have Z7:ag (Ln w7 N 0 0 0):=Z6.o.gw g7;have y0:=M7.o.c0;have y1:=M7.o.c1;have y2:=M7.o.c2;have y3:=M7.o.fz 2;have y4:=M7.o.lt;have z0:=Z7.o.c0;have z1:=Z7.o.c1;have z2:=Z7.o.c2;have z3:=Z7.o.fz 0;have z4:=Z7.o.fz 1;have z5:=Z7.o.fz 2;have z6:=Z7.o.lt;have nl:¬ N=L:=by have:=NL.o;omega
    have ln:¬ L=N:=by omega
    clear g7 hB e0 e1 e2 e6 ML Z6 G6 BB M7 Z7;go_wp2_with fail;refine bodyPost_ret (v:=.tuple #[.agg #[.int .u64 a,.int .u64 b,.int .i64 z],.int .i64 0]) (by simp [results,results118,go_sem, *]) rfl ⟨⟨a,b,z,0,rfl,R.o,⟨a0,ha⟩,⟨by omega,hb⟩,by omega⟩,?_⟩
    refine Gw.setCell (Gw.setCell (Gw.setCell (Gw.setCell G7.o ?_ _) ?_ _) ?_ _) ?_ _
    ·have:=NL.o;have:=NW.o;show _<=L;omega
    all_goals exact NW.o
end Go.Proofs.YtklkpldicbkjeaaGreat
