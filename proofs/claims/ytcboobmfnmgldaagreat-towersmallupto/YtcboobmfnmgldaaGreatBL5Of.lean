/- The document's Of, over what its 'down' does. -/
import Derived.Test.YtcboobmfnmgldaaGreatBR4Add
import Derived.Test.YtcboobmfnmgldaaGreatBPLn
set_option linter.unusedVariables false
set_option maxHeartbeats 8000000
set_option maxRecDepth 100000
open Go.Proofs.Tryz
namespace Go.Proofs.YtcboobmfnmgldaaGreat
open Go.RowKit
def Vh (ex:Ending) (eps:Int) (f:Nat->Int) (n:Nat):Prop:=∃ a b c err:Int,ex=.returned (.tuple #[.agg #[By a,By b,AI c],AI err])/\dP eps f n a b c err/\(0<=a/\a<18446744073709551616)/\(0<=b/\b<18446744073709551616)/\(-9223372036854775808<=c/\c<9223372036854775808)
variable {w w':World}
theorem Gs.gw5 {S:Nat->Prop} {W:World} (h:Gw W w) (g:Gs S w w') (hS:∀ q,S q->W.heap.size<=q):Gw W w' :=
 ⟨⟨g.os.trans h.below.os,g.tape.trans h.below.tape,g.output.trans h.below.output,Nat.le_trans h.below.size g.size,fun q hq=>(g.block q (Nat.lt_of_lt_of_le hq h.below.size) (fun s=>by have:=hS q s;omega)).trans (h.below.block q hq)⟩⟩
theorem aY.part {e:Int} {f:Nat->Int} {n m:Nat} (h:aY e f (aB n)) (hm:m<=n):aY e f (aB m):=fun i j i' j' s s'=>h i j i' j' ⟨s.1,by have:=s.2;omega⟩ ⟨s'.1,by have:=s'.2;omega⟩
theorem aeV {e:Int} {f:Nat->Int} {a b C C' Q:Int} {j:Nat} (EQ:a*(f j-f 0)/b=Q) (h:∀ x,x<j->(x:Int)-e<=a*(f x-f 0)/b+C) (h':0<j->∃ x,x<j/\(x:Int)-e=a*(f x-f 0)/b+C)
  (k1:(j:Int)-e-Q<=C') (k2:0<j->C<=C') (k3:C'=(j:Int)-e-Q\/(0<j/\C'=C)):(∀ x,x<j+1->(x:Int)-e<=a*(f x-f 0)/b+C')/\(0<j+1->∃ x,x<j+1/\(x:Int)-e=a*(f x-f 0)/b+C'):=by
 refine ⟨fun x hx=>?_,fun _=>?_⟩
 ·by_cases q:x=j
  ·rw [q,EQ];omega
  ·have:=h x (by omega)
   have:=k2 (by omega)
   omega
 ·rcases k3 with k3 | ⟨q,k3⟩
  ·exact ⟨j,by omega,by rw [EQ,k3];omega⟩
  ·obtain ⟨x,hx,ex⟩:=h' q
   exact ⟨x,by omega,by rw [k3];exact ex⟩
def Ln (w:World) (b:Nat) (x y z:Int):Prop:=w.heap[b]?=some (.cells #[By x,By y,AI z] 180 (0,0))
variable {b:Nat} {x y z:Int}
theorem Ln.lt (h:Ln w b x y z):b<w.heap.size:=(Array.getElem?_eq_some_iff.1 h).1
theorem Ln.c0 (h:Ln w b x y z):w.cell? ⟨b,0,none⟩=some (By x):=by unfold Ln at h;simp [World.cell?,h]
theorem Ln.c1 (h:Ln w b x y z):w.cell? ⟨b,1,none⟩=some (By y):=by unfold Ln at h;simp [World.cell?,h]
theorem Ln.c2 (h:Ln w b x y z):w.cell? ⟨b,2,none⟩=some (AI z):=by unfold Ln at h;simp [World.cell?,h]
theorem Ln.fz (h:Ln w b x y z) (o:Nat):w.frozen? ⟨b,o,none⟩=false:=by unfold Ln at h;simp [World.frozen?,h]
theorem Ln.gw (h:Ln w b x y z) (g:Gw w w'):Ln w' b x y z:=(g.below.block b h.lt).trans h
theorem Ln.far (h:Ln w b x y z) {q o:Nat} (u:Value) (hq:b≠q):Ln (w.setCell ⟨q,o,none⟩ u) b x y z:=(Go.Deep.blk_setCell_other _ _ _ _ hq).trans h
theorem Ln.set2 (h:Ln w b x y z) (z':Int):Ln (w.setCell ⟨b,2,none⟩ (AI z')) b x y z':=by
 unfold Ln at h ⊢;simp [World.setCell,Array.getElem?_modify,h]
theorem Ln.gs {S:Nat->Prop} (h:Ln w b x y z) (g:Gs S w w') (n:¬ S b):Ln w' b x y z:=(g.block b h.lt n).trans h
theorem aeW (DD:aeT) (eps:Int) (ao:Option Addr) (n cp:Nat) (f:Nat->Int) (p0:-9223372036854775808<=eps) (p1:eps<9223372036854775808) (hn:n<=2000000) (w:World) (h:KS w ao n f) :
  Calls prog 109 #[.slice ao n cp,AI eps] w fun ex w'=>Vh ex eps f n/\Gw w w':=by
 have HK:ag _:=h;clear h;have G0:ag (Gw w (w.alloc (.cells #[By 0,By 0,AI 0] 180))):=(Gw.refl w).alloc _ _;have Z0:ag (Ln (w.alloc (.cells #[By 0,By 0,AI 0] 180)) w.heap.size 0 0 0):=heap_alloc_new w _;by_cases k0:¬ (2<=eps/\eps<=64)
 ·have R:ag (dP eps f n 0 0 0 1):=.inl ⟨k0,rfl,rfl,rfl,rfl⟩
  by_cases k1:eps<2
  ·have t1:decide (eps<2)=true:=by simpa using k1
   clear k0;go_enter func109,ntmps109;go_wp2_with fail;refine bodyPost_ret (v:=.tuple #[.agg #[By 0,By 0,AI 0],AI 1]) (by simp [results,results109,go_sem]) rfl ⟨⟨0,0,0,1,rfl,R.o,by omega,by omega,by omega⟩,?_⟩
   first | exact G0.o | (refine Gw.setCell (Gw.setCell (Gw.setCell G0.o ?_ _) ?_ _) ?_ _<;>exact Nat.le_refl _)
  ·have t1:decide (eps<2)=false:=by simpa using k1
   have k2:64<eps:=by omega
   have t2:decide (64<eps)=true:=by simpa using k2
   clear k0;go_enter func109,ntmps109;go_wp2_with fail;refine bodyPost_ret (v:=.tuple #[.agg #[By 0,By 0,AI 0],AI 1]) (by simp [results,results109,go_sem]) rfl ⟨⟨0,0,0,1,rfl,R.o,by omega,by omega,by omega⟩,?_⟩
   first | exact G0.o | (refine Gw.setCell (Gw.setCell (Gw.setCell G0.o ?_ _) ?_ _) ?_ _<;>exact Nat.le_refl _)
 ·have k1:2<=eps/\eps<=64:=Classical.not_not.1 k0
  have KE:ag _:=k1;have t1:decide (eps<2)=false:=by simp;omega
  have t2:decide (64<eps)=false:=by simp;omega
  obtain ⟨k2,k3⟩:=k1;clear k0;by_cases hz:n=0
  ·have R:ag (dP eps f n 0 0 0 50):=.inr (.inl ⟨KE.o,fun q=>by omega,rfl,rfl,rfl,rfl⟩)
   subst hz;go_enter func109,ntmps109;go_wp2_with fail;refine bodyPost_ret (v:=.tuple #[.agg #[By 0,By 0,AI 0],AI 50]) (by simp [results,results109,go_sem]) rfl ⟨⟨0,0,0,50,rfl,R.o,by omega,by omega,by omega⟩,?_⟩
   first | exact G0.o | (refine Gw.setCell (Gw.setCell (Gw.setCell G0.o ?_ _) ?_ _) ?_ _<;>exact Nat.le_refl _)
  ·have t3:((n:Int) == 0)=false:=by simp;omega
   go_enter func109,ntmps109;go_wp2_with fail;generalize w.alloc (.cells #[By 0,By 0,AI 0] 180)=wx at G0 Z0 ⊢;obtain ⟨N,hN⟩:∃ N,w.heap.size=N:=⟨_,rfl⟩;have NW:ag (w.heap.size<=N):=Nat.le_of_eq hN;rw [hN] at Z0 ⊢;clear hN;refine (CW ao n cp f (by omega) _ (HK.o.gw G0.o)).mono ?_
   rintro ex w1 ⟨⟨r,rfl,hr⟩,g1⟩;have G1:ag _:=G0.o.trans g1;have Z1:ag (Ln w1 N 0 0 0):=Z0.o.gw g1;have HR:ag _:=hr;clear g1 hr G0 Z0;cases r with
   | false =>
    have R:ag (dP eps f n 0 0 0 50):=.inr (.inl ⟨KE.o,fun q=>by have:=HR.o.2 q.2;simp at this,rfl,rfl,rfl,rfl⟩)
    have z0:=Z1.o.c0;have z1:=Z1.o.c1;have z2:=Z1.o.c2;have z3:=Z1.o.fz 0;have z4:=Z1.o.fz 1;have z5:=Z1.o.fz 2;have z6:=Z1.o.lt;go_wp2_with fail;refine bodyPost_ret (v:=.tuple #[.agg #[By 0,By 0,AI 0],AI 50]) (by simp [results,results109,go_sem, *]) rfl ⟨⟨0,0,0,50,rfl,R.o,by omega,by omega,by omega⟩,?_⟩
    refine Gw.setCell (Gw.setCell (Gw.setCell G1.o ?_ _) ?_ _) ?_ _<;>exact NW.o
   | true =>
    have UP:ag (Up f n):=HR.o.1 rfl;clear HR;go_wp2_with fail;refine (Ku eps k2 k3 _).mono ?_;rintro ex w2 ⟨⟨p,rfl,hp,hF⟩,g2⟩;have G2:ag _:=G1.o.trans g2;have Z2:ag _:=Z1.o.gw g2;have S2:ag (∀ q,dH p (.slice none 0 0) q->N<q):=fun q hq=>by
     have:=Z1.o.lt
     rcases hq with rfl | hq
     ·omega
     ·simp [Value.ownBlock] at hq
    have F2:ag (my w2 p (dH p (.slice none 0 0)) (eps-1) 0 (fun _=>0)):=⟨_,_,_,_,_,hF,fun q=>Iff.rfl⟩
    clear g2 hF hp G1 Z1;go_wp2_with fail;go_loopg [8] n (fun gg s8 wr=>∃ (i:Nat) (S:Nat->Prop),s8=AI i/\i<=n/\n-i<=gg/\ag (my wr p S (eps-1) i (fun j=>if j<i then f j else 0))/\ag (∀ q,S q->N<q)/\ag (Ln wr N 0 0 0)/\ag (Gw w wr))
    case atStart=>exact ⟨0,_,rfl,Nat.zero_le _,by omega,(by show my _ _ _ _ _ _;simpa using F2.o),S2,Z2,G2⟩
    case round =>
     clear F2 S2 Z2 G2;obtain ⟨i,S,rfl,h1,h2,F,SN,Z,G⟩:=hrel;by_cases ar:i<n
     ·obtain ⟨bk,off,rfl,fT,hc⟩:=(HK.o.gw G.o).cells (by omega)
      have q1:=hc i ar;obtain ⟨y0,y1⟩:=HK.o.bd i ar;have SF:ag _:=F.o;have FI:ag (∀ j,j<=i->aD (fun j=>if j<i then f j else 0) i (f i) j=f j):=fun j hj=>by
       by_cases e:j=i
       ·subst e;exact dO _ _ _
       ·rw [bH (by omega)];exact if_pos (by omega)
      have FE:ag (aD (fun j=>if j<i then f j else 0) i (f i)=(fun j=>if j<i+1 then f j else 0)):=by
       show _=_;funext j;by_cases e:j=i
       ·subst e;rw [dO,if_pos (by omega)]
       ·by_cases e':j<i
        ·rw [bH e']
         show (if j<i then f j else 0)=_
         rw [if_pos e',if_pos (by omega)]
        ·unfold aD
         rw [if_neg e];show (if j<i then f j else 0)=_
         rw [if_neg e',if_neg (by omega)]
      obtain ⟨fi,eF⟩:∃ y,f i=y:=⟨_,rfl⟩;rw [eF] at q1 FI FE y0 y1;clear hc F;go_wp2_with fail;refine (Mw SF.o fi y0 y1 (by omega)).mono ?_
      rintro ex w3 ⟨⟨ok,err,S',rfl,hA,hF,fV⟩,g3⟩;have G3:ag _:=Gs.gw5 G.o g3 (fun q hq=>by have:=SN.o q hq;have:=NW.o;omega)
      have Z3:ag (Ln w3 N 0 0 0):=Z.o.gs g3 (fun q=>by have:=SN.o N q;omega)
      have Jw:ag (∀ q,S' q->N<q):=fun q hq=>by
       rcases fV q hq with r | r
       ·exact SN.o q r
       ·have:=Z.o.lt;omega
      have HA:ag _:=hA;have HF:ag _:=hF;have HC:ag (ok=true↔aY (eps-1) f (aB (i+1))):=by
       rcases HA.o with ⟨q1,q2,_⟩ | ⟨_,_,q3⟩
       ·exfalso
        replace q2:fi<=if i-1<i then f (i-1) else 0:=q2
        rw [if_pos (by omega)] at q2
        have:=UP.o.lt (a:=i-1) (b:=i) (by omega) ar
        omega
       ·refine q3.trans ⟨fun q=>q.congr (fun _ _ s=>s) (fun a b s=>?_),fun q=>q.congr (fun _ _ s=>s) (fun a b s=>?_)⟩
        all_goals rw [FI.o b (by have:=s.2;omega),FI.o a (by have:=s.1;have:=s.2;omega)]
      clear hA hF fV g3 HA SF G Z SN q1;cases ok with
      | false =>
       have R:ag (dP eps f n 0 0 0 51):=.inr (.inr (.inl ⟨KE.o,⟨by omega,UP.o⟩,fun q=>by have:=HC.o.2 (q.part (by omega));simp at this,rfl,rfl,rfl,rfl⟩))
       have z0:=Z3.o.c0;have z1:=Z3.o.c1;have z2:=Z3.o.c2;have z3:=Z3.o.fz 0;have z4:=Z3.o.fz 1;have z5:=Z3.o.fz 2;have z6:=Z3.o.lt;go_wp2_with fail;refine bodyPost_ret (v:=.tuple #[.agg #[By 0,By 0,AI 0],AI 51]) (by simp [results,results109,go_sem, *]) rfl ⟨⟨0,0,0,51,rfl,R.o,by omega,by omega,by omega⟩,?_⟩
       refine Gw.setCell (Gw.setCell (Gw.setCell G3.o ?_ _) ?_ _) ?_ _<;>exact NW.o
      | true =>
       have Jy:ag (my w3 p S' (eps-1) (i+1) (fun j=>if j<i+1 then f j else 0)):=by
        have:=HF.o
        rw [if_pos rfl,if_pos rfl,FE.o] at this;exact this
       go_wp2_with fail;go_roundg (n-(i+1))
       case measure=>omega
       case rel=>exact ⟨i+1,S',by go_num,by omega,Nat.le_refl _,Jy,Jw,Z3,G3⟩
     ·have e:i=n:=by omega
      subst e;obtain ⟨v,a,b,c,d,yz,hS⟩:=F.o;have LE:ag (∀ w',Gw wr w'->RF w' p v (eps-1) i (fun j=>if j<i then f j else 0) a b c d):=fun w' g=>yz.gw g
      have eq:∀ x y,aB i x y->(if y<i then f y else 0)-(if x<i then f x else 0)=f y-f x:=fun x y s=>by
       rw [if_pos s.2,if_pos (by have:=s.1;have:=s.2;omega)]
      have LO:ag (bK (eps-1) f (aB i) a b):=yz.low.congr (fun _ _=>Iff.rfl) eq
      have FO:ag (aY (eps-1) f (aB i)):=yz.fit.congr (fun _ _ s=>s) eq
      have a0:=LO.o.a0;have b1:=LO.o.b1;have WD:=yz.wd;clear yz F hS SN eq;go_wp2_with fail;refine (Xx (LE.o wr (Gw.refl _))).mono ?_;rintro ex w3 ⟨rfl,g3⟩;have G3:ag _:=G.o.trans g3;have Z3:ag (Ln w3 N 0 0 0):=Z.o.gw g3;clear g3 G Z LE;go_wp2_with fail;have ML:ag (Ln ((w3.alloc (.cells #[By a,By b] 198)).alloc (.cells #[By a,By b,AI 0] 180)) (w3.heap.size+1) a b 0):=by
       have:=heap_alloc_new (w3.alloc (.cells #[By a,By b] 198)) (.cells #[By a,By b,AI 0] 180)
       show Ln _ _ _ _ _;simpa [Ln] using this
      have MG:ag (Gw w3 ((w3.alloc (.cells #[By a,By b] 198)).alloc (.cells #[By a,By b,AI 0] 180))):=((Gw.refl w3).alloc _ _).alloc _ _;generalize (w3.alloc (.cells #[By a,By b] 198)).alloc (.cells #[By a,By b,AI 0] 180)=w4 at ML MG ⊢;have Z4:ag _:=Z3.o.gw MG.o;have G4:ag _:=G3.o.trans MG.o;have NL:ag (N<w3.heap.size+1):=by have:=Z3.o.lt;exact Nat.lt_succ_of_lt this
      obtain ⟨L,hL⟩:∃ L,w3.heap.size+1=L:=⟨_,rfl⟩;rw [hL] at ML NL ⊢;rw [show w3.heap.size=L-1 by omega]
      clear hL MG Z3 G3;have QS:ag (∀ x,x<i->0<=a*(f x-f 0)/b/\a*(f x-f 0)/b<=(i:Int)+2*(eps-1)):=fun x hx=>uO (by omega) UP.o LO.o FO.o hx
      obtain ⟨⟨wa,wb⟩,_⟩:=WD;go_loopg [13] i (fun gg rJ wq=>∃ (j:Nat) (C:Int),rJ=AI j/\j<=i/\i-j<=gg/\ag (Ln wq L a b C)/\ag (Ln wq N 0 0 0)/\ag (Gw w wq)/\ag (∀ x,x<j->(x:Int)-(eps-1)<=a*(f x-f 0)/b+C)/\ag (0<j->∃ x,x<j/\(x:Int)-(eps-1)=a*(f x-f 0)/b+C)/\ag (-100000000<=C/\C<=100000000))
      case atStart=>exact ⟨0,0,rfl,Nat.zero_le _,by omega,ML,Z4,G4,(show ag _ from fun x hx=>by omega),(show ag _ from fun q=>by omega),(by show (-100000000:Int)<=0/\(0:Int)<=100000000;decide)⟩
      case round =>
       clear ML Z4 G4;obtain ⟨j,C,rfl,h3,h4,ML,Z4,G4,J1,J2,CB⟩:=hrel;by_cases Cg:j<i
       ·obtain ⟨bk,off,rfl,fT,hc⟩:=(HK.o.gw G4.o).cells (by omega)
        have q1:=hc j Cg;have q0:=hc 0 (by omega)
        simp only [Nat.add_zero] at q0;obtain ⟨y0,y1⟩:=HK.o.bd j Cg;obtain ⟨z0,z1⟩:=HK.o.bd 0 (by omega)
        have Jz:=UP.o.le (Nat.zero_le j) Cg;obtain ⟨Vi,Vj⟩:=QS.o j Cg;obtain ⟨D,hD⟩:∃ D,f j-f 0=D:=⟨_,rfl⟩;have D0:0<=D:=by omega
        have D1:D<18446744073709551616:=by omega
        have ED:ag _:=hD;rw [hD] at Vi Vj;obtain ⟨fi,eF⟩:∃ y,f j=y:=⟨_,rfl⟩;obtain ⟨f0,Ds⟩:∃ y,f 0=y:=⟨_,rfl⟩;rw [eF] at q1 y0 y1 hD;rw [Ds] at q0 z0 z1 hD;clear eF Ds hc Jz;have hDw:IntKind.u64.wrap D=D:=by rw [IntKind.wrap_u64];omega
        have Oq:0<i:=by omega
        have DC:ag (∀ W:World,Calls prog 133 #[.agg #[By a,By b,AI C],By D] W fun ex w'=>ex=.returned (.tuple #[AI (a*D/b),.bool true])/\Gw W w'):=fun W=>by
         have:=DD a b C D a0 wa (by omega) wb D0 D1 W
         rw [if_neg (by omega),show (!decide (2305843009213693952<a*D/b))=true by simp;omega] at this
         exact this
        obtain ⟨Q,hQ⟩:∃ Q,a*D/b=Q:=⟨_,rfl⟩;have EQ:ag (a*(f j-f 0)/b=Q):=by rw [ED.o];exact hQ
        rw [hQ] at DC Vi Vj;clear hQ;have e0:=ML.o.c0;have e1:=ML.o.c1;have e2:=ML.o.c2;go_wp2_with fail;go_cut [14] (fun s w'=>s=AI Q/\ag (Gw wr w'))
        case first =>
         go_region_with (go_at_call 133;refine (DC.o _).mono ?_;rintro ex v4 ⟨rfl,g4⟩;have G5:ag (Gw wr v4):=(Gw.trans (by repeat (first | exact Gw.refl _ | refine Gw.drew ?_)) g4);clear g4)
         all_goals go_wp2_with fail
         all_goals go_meet
         all_goals
          case rel=>exact ⟨rfl,(show ag _ from (by first | exact G5.o | exact G5.o.drew | exact G5.o.drewN _))⟩
        case rest =>
         obtain ⟨wy,yA⟩:∃ wy,wy=wc:=⟨_,rfl⟩;subst yA;obtain ⟨rfl,gy⟩:=hcut;have GY:ag (Gw w wy):=G4.o.trans gy.o;have MY:ag (Ln wy L a b C):=ML.o.gw gy.o;have ZY:ag (Ln wy N 0 0 0):=Z4.o.gw gy.o;clear ML Z4 G4 gy DC q0 q1 e0 e1 e2;have wa1:IntKind.i64.wrap (eps-1)=eps-1:=by rw [IntKind.wrap_i64];omega
         have wb1:IntKind.i64.wrap ((j:Int)-(eps-1))=(j:Int)-(eps-1):=by rw [IntKind.wrap_i64];omega
         have nH:IntKind.i64.wrap ((j:Int)-(eps-1)-Q)=(j:Int)-(eps-1)-Q:=by rw [IntKind.wrap_i64];omega
         have m0:=MY.o.c2;have m1:=MY.o.fz 2;have m2:=MY.o.lt;have ox:ag _:=fun C' k1 k2 k3=>aeV (C':=C') EQ.o J1.o J2.o k1 k2 k3
         have cb:=CB.o;have Ch:ag (Ln (wy.setCell ⟨L,2,none⟩ (AI ((j:Int)-(eps-1)-Q))) L a b ((j:Int)-(eps-1)-Q)/\Ln (wy.setCell ⟨L,2,none⟩ (AI ((j:Int)-(eps-1)-Q))) N 0 0 0/\Gw w (wy.setCell ⟨L,2,none⟩ (AI ((j:Int)-(eps-1)-Q)))) :=
          ⟨MY.o.set2 _,ZY.o.far _ (by have:=NL.o;omega),GY.o.setCell (by have:=NL.o;have:=NW.o;show _<=L;omega) _⟩
         clear J1 J2 CB EQ;by_cases hj:j=0
         ·have tj:((j:Int) == 0)=true:=by simp;omega
          have NX:=ox.o ((j:Int)-(eps-1)-Q) (Int.le_refl _) (fun q=>by omega) (.inl rfl)
          have X1:ag _:=NX.1;have X2:ag _:=NX.2;clear NX ox;have JA:ag (Ln (wy.setCell ⟨L,2,none⟩ (AI (-(eps-1)-Q))) L a b ((j:Int)-(eps-1)-Q)/\Ln (wy.setCell ⟨L,2,none⟩ (AI (-(eps-1)-Q))) N 0 0 0/\Gw w (wy.setCell ⟨L,2,none⟩ (AI (-(eps-1)-Q)))):=by
           have h:=Ch.o;rw [show (j:Int)-(eps-1)-Q=-(eps-1)-Q by omega] at h
           show _/\_;rw [show (j:Int)-(eps-1)-Q=-(eps-1)-Q by omega]
           exact h
          go_wp2_with fail;go_roundg (i-(j+1))
          case measure=>omega
          case rel=>exact ⟨j+1,(j:Int)-(eps-1)-Q,by go_num,by omega,Nat.le_refl _,JA.o.1,JA.o.2.1,JA.o.2.2,X1,X2,(by show -100000000<=_/\_<=(100000000:Int);omega)⟩
         ·have tj:((j:Int) == 0)=false:=by simp;omega
          by_cases hC:C<(j:Int)-(eps-1)-Q
          ·have tC:decide (C<(j:Int)-(eps-1)-Q)=true:=by simpa using hC
           have NX:=ox.o ((j:Int)-(eps-1)-Q) (Int.le_refl _) (fun q=>by omega) (.inl rfl)
           have X1:ag _:=NX.1;have X2:ag _:=NX.2;clear NX ox;go_wp2_with fail;go_roundg (i-(j+1))
           case measure=>omega
           case rel=>exact ⟨j+1,(j:Int)-(eps-1)-Q,by go_num,by omega,Nat.le_refl _,Ch.o.1,Ch.o.2.1,Ch.o.2.2,X1,X2,(by show -100000000<=_/\_<=(100000000:Int);omega)⟩
          ·have tC:decide (C<(j:Int)-(eps-1)-Q)=false:=by simpa using hC
           have NX:=ox.o C (by omega) (fun q=>Int.le_refl _) (.inr ⟨by omega,rfl⟩)
           have X1:ag _:=NX.1;have X2:ag _:=NX.2;clear NX ox;go_wp2_with fail;go_roundg (i-(j+1))
           case measure=>omega
           case rel=>exact ⟨j+1,C,by go_num,by omega,Nat.le_refl _,MY,ZY,GY,X1,X2,cb⟩
       ·have e:j=i:=by omega
        subst e;have R:ag (dP eps f j a b C 0):=.inr (.inr (.inr ⟨KE.o,⟨by omega,UP.o⟩,FO.o,LO.o,⟨J1.o,J2.o (by omega)⟩,rfl⟩))
        have cb:=CB.o;have m0:=ML.o.c0;have m1:=ML.o.c1;have m2:=ML.o.c2;have m3:=ML.o.lt;have z0:=Z4.o.c0;have z1:=Z4.o.c1;have z2:=Z4.o.c2;have z3:=Z4.o.fz 0;have z4:=Z4.o.fz 1;have z5:=Z4.o.fz 2;have z6:=Z4.o.lt;clear J1 J2 CB ML Z4;go_wp2_with fail;refine bodyPost_ret (v:=.tuple #[.agg #[By a,By b,AI C],AI 0]) (by simp [results,results109,go_sem, *]) rfl ⟨⟨a,b,C,0,rfl,R.o,⟨a0,wa⟩,⟨by omega,wb⟩,by omega⟩,?_⟩
        refine Gw.setCell (Gw.setCell (Gw.setCell G4.o ?_ _) ?_ _) ?_ _<;>exact NW.o
end Go.Proofs.YtcboobmfnmgldaaGreat
