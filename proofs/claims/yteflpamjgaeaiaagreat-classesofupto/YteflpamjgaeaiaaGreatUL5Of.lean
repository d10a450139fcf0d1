/- The document's Of, over what its 'down' does. -/
import Derived.Test.YteflpamjgaeaiaaGreatUR4Add
import Derived.Test.YteflpamjgaeaiaaGreatUXBase
set_option linter.unusedVariables false
set_option maxHeartbeats 8000000
set_option maxRecDepth 100000
open Go.Proofs.Tryz
namespace Go.Proofs.YteflpamjgaeaiaaGreat
open Go.RowKit
def OfOut (ex:Ending) (eps:Int) (f:Nat->Int) (n:Nat):Prop:=∃ a b c err:Int,ex=.returned (.tuple #[.agg #[.int .u64 a,.int .u64 b,.int .i64 c],.int .i64 err])/\OfR eps f n a b c err/\(0<=a/\a<18446744073709551616)/\(0<=b/\b<18446744073709551616)/\(-9223372036854775808<=c/\c<9223372036854775808)
theorem Gs.gw5 {S:Nat->Prop} {W w w':World} (h:Gw W w) (g:Gs S w w') (hS:∀ q,S q->W.heap.size<=q):Gw W w' :=
 ⟨⟨g.os.trans h.below.os,g.tape.trans h.below.tape,g.output.trans h.below.output,Nat.le_trans h.below.size g.size,fun q hq=>(g.block q (Nat.lt_of_lt_of_le hq h.below.size) (fun s=>by have:=hS q s;omega)).trans (h.below.block q hq)⟩⟩
theorem FitsOn.part {e:Int} {f:Nat->Int} {n m:Nat} (h:FitsOn e f (Prs n)) (hm:m<=n):FitsOn e f (Prs m):=fun i j i' j' s s'=>h i j i' j' ⟨s.1,by have:=s.2;omega⟩ ⟨s'.1,by have:=s'.2;omega⟩
theorem base_next {e:Int} {f:Nat->Int} {a b C C' Q:Int} {j:Nat} (EQ:a*(f j-f 0)/b=Q) (h:∀ x,x<j->(x:Int)-e<=a*(f x-f 0)/b+C) (h':0<j->∃ x,x<j/\(x:Int)-e=a*(f x-f 0)/b+C)
  (k1:(j:Int)-e-Q<=C') (k2:0<j->C<=C') (k3:C'=(j:Int)-e-Q\/(0<j/\C'=C)):(∀ x,x<j+1->(x:Int)-e<=a*(f x-f 0)/b+C')/\(0<j+1->∃ x,x<j+1/\(x:Int)-e=a*(f x-f 0)/b+C'):=by
 refine ⟨fun x hx=>?_,fun _=>?_⟩
 ·by_cases q:x=j
  ·rw [q,EQ];omega
  ·have:=h x (by omega)
   have:=k2 (by omega)
   omega
 ·rcases k3 with k3 | ⟨q,k3⟩
  ·exact ⟨j,by omega,by rw [EQ,k3];omega⟩
  ·obtain ⟨x,hx,ex⟩:=h' q
   exact ⟨x,by omega,by rw [k3];exact ex⟩
def Ln (w:World) (b:Nat) (x y z:Int):Prop:=w.heap[b]?=some (.cells #[.int .u64 x,.int .u64 y,.int .i64 z] 218 (0,0))
theorem Ln.lt {w:World} {b:Nat} {x y z:Int} (h:Ln w b x y z):b<w.heap.size:=(Array.getElem?_eq_some_iff.1 h).1
theorem Ln.c0 {w:World} {b:Nat} {x y z:Int} (h:Ln w b x y z):w.cell? ⟨b,0,none⟩=some (.int .u64 x):=by unfold Ln at h;simp [World.cell?,h]
theorem Ln.c1 {w:World} {b:Nat} {x y z:Int} (h:Ln w b x y z):w.cell? ⟨b,1,none⟩=some (.int .u64 y):=by unfold Ln at h;simp [World.cell?,h]
theorem Ln.c2 {w:World} {b:Nat} {x y z:Int} (h:Ln w b x y z):w.cell? ⟨b,2,none⟩=some (.int .i64 z):=by unfold Ln at h;simp [World.cell?,h]
theorem Ln.fz {w:World} {b:Nat} {x y z:Int} (h:Ln w b x y z) (o:Nat):w.frozen? ⟨b,o,none⟩=false:=by unfold Ln at h;simp [World.frozen?,h]
theorem Ln.gw {w w':World} {b:Nat} {x y z:Int} (h:Ln w b x y z) (g:Gw w w'):Ln w' b x y z:=(g.below.block b h.lt).trans h
theorem Ln.far {w:World} {b:Nat} {x y z:Int} (h:Ln w b x y z) {q o:Nat} (u:Value) (hq:b≠q):Ln (w.setCell ⟨q,o,none⟩ u) b x y z:=(Go.Deep.blk_setCell_other _ _ _ _ hq).trans h
theorem Ln.set2 {w:World} {b:Nat} {x y z:Int} (h:Ln w b x y z) (z':Int):Ln (w.setCell ⟨b,2,none⟩ (.int .i64 z')) b x y z':=by
 unfold Ln at h ⊢;simp [World.setCell,Array.getElem?_modify,h]
theorem Ln.gs {S:Nat->Prop} {w w':World} {b:Nat} {x y z:Int} (h:Ln w b x y z) (g:Gs S w w') (n:¬ S b):Ln w' b x y z:=(g.block b h.lt n).trans h
theorem of5_any (DD:DownC) (eps:Int) (ao:Option Addr) (n cp:Nat) (f:Nat->Int) (p0:-9223372036854775808<=eps) (p1:eps<9223372036854775808) (hn:n<=2000000) (w:World) (h:KS w ao n f) :
  Calls prog 159 #[.slice ao n cp,.int .i64 eps] w fun ex w'=>OfOut ex eps f n/\Gw w w':=by
 have HK:Aside (KS w ao n f):=h;clear h;have G0:Aside (Gw w (w.alloc (.cells #[.int .u64 0,.int .u64 0,.int .i64 0] 218))):=(Gw.refl w).alloc _ _;have Z0:Aside (Ln (w.alloc (.cells #[.int .u64 0,.int .u64 0,.int .i64 0] 218)) w.heap.size 0 0 0):=heap_alloc_new w _;by_cases k0:¬ (2<=eps/\eps<=64)
 ·have R:Aside (OfR eps f n 0 0 0 1):=.inl ⟨k0,rfl,rfl,rfl,rfl⟩
  by_cases k1:eps<2
  ·have t1:decide (eps<2)=true:=by simpa using k1
   clear k0;go_enter func159,ntmps159;go_wp2_with fail;refine bodyPost_ret (v:=.tuple #[.agg #[.int .u64 0,.int .u64 0,.int .i64 0],.int .i64 1]) (by simp [results,results159,go_sem]) rfl ⟨⟨0,0,0,1,rfl,R.out,by omega,by omega,by omega⟩,?_⟩
   first | exact G0.out | (refine Gw.setCell (Gw.setCell (Gw.setCell G0.out ?_ _) ?_ _) ?_ _<;>exact Nat.le_refl _)
  ·have t1:decide (eps<2)=false:=by simpa using k1
   have k2:64<eps:=by omega
   have t2:decide (64<eps)=true:=by simpa using k2
   clear k0;go_enter func159,ntmps159;go_wp2_with fail;refine bodyPost_ret (v:=.tuple #[.agg #[.int .u64 0,.int .u64 0,.int .i64 0],.int .i64 1]) (by simp [results,results159,go_sem]) rfl ⟨⟨0,0,0,1,rfl,R.out,by omega,by omega,by omega⟩,?_⟩
   first | exact G0.out | (refine Gw.setCell (Gw.setCell (Gw.setCell G0.out ?_ _) ?_ _) ?_ _<;>exact Nat.le_refl _)
 ·have k1:2<=eps/\eps<=64:=Classical.not_not.1 k0
  have KE:Aside (2<=eps/\eps<=64):=k1;have t1:decide (eps<2)=false:=by simp;omega
  have t2:decide (64<eps)=false:=by simp;omega
  obtain ⟨k2,k3⟩:=k1;clear k0;by_cases hz:n=0
  ·have R:Aside (OfR eps f n 0 0 0 50):=.inr (.inl ⟨KE.out,fun q=>by omega,rfl,rfl,rfl,rfl⟩)
   subst hz;go_enter func159,ntmps159;go_wp2_with fail;refine bodyPost_ret (v:=.tuple #[.agg #[.int .u64 0,.int .u64 0,.int .i64 0],.int .i64 50]) (by simp [results,results159,go_sem]) rfl ⟨⟨0,0,0,50,rfl,R.out,by omega,by omega,by omega⟩,?_⟩
   first | exact G0.out | (refine Gw.setCell (Gw.setCell (Gw.setCell G0.out ?_ _) ?_ _) ?_ _<;>exact Nat.le_refl _)
  ·have t3:((n:Int) == 0)=false:=by simp;omega
   go_enter func159,ntmps159;go_wp2_with fail;generalize w.alloc (.cells #[.int .u64 0,.int .u64 0,.int .i64 0] 218)=wx at G0 Z0 ⊢;obtain ⟨N,hN⟩:∃ N,w.heap.size=N:=⟨_,rfl⟩;have NW:Aside (w.heap.size<=N):=Nat.le_of_eq hN;rw [hN] at Z0 ⊢;clear hN;refine (rrising_any ao n cp f (by omega) _ (HK.out.gw G0.out)).mono ?_
   rintro ex w1 ⟨⟨r,rfl,hr⟩,g1⟩;have G1:Aside (Gw w w1):=G0.out.trans g1;have Z1:Aside (Ln w1 N 0 0 0):=Z0.out.gw g1;have HR:Aside (r=true↔Up f n):=hr;clear g1 hr G0 Z0;cases r with
   | false =>
    have R:Aside (OfR eps f n 0 0 0 50):=.inr (.inl ⟨KE.out,fun q=>by have:=HR.out.2 q.2;simp at this,rfl,rfl,rfl,rfl⟩)
    have z0:=Z1.out.c0;have z1:=Z1.out.c1;have z2:=Z1.out.c2;have z3:=Z1.out.fz 0;have z4:=Z1.out.fz 1;have z5:=Z1.out.fz 2;have z6:=Z1.out.lt;go_wp2_with fail;refine bodyPost_ret (v:=.tuple #[.agg #[.int .u64 0,.int .u64 0,.int .i64 0],.int .i64 50]) (by simp [results,results159,go_sem, *]) rfl ⟨⟨0,0,0,50,rfl,R.out,by omega,by omega,by omega⟩,?_⟩
    refine Gw.setCell (Gw.setCell (Gw.setCell G1.out ?_ _) ?_ _) ?_ _<;>exact NW.out
   | true =>
    have UP:Aside (Up f n):=HR.out.1 rfl;clear HR;go_wp2_with fail;refine (rnew_ok eps k2 k3 _).mono ?_;rintro ex w2 ⟨⟨p,rfl,hp,hF⟩,g2⟩;have G2:Aside (Gw w w2):=G1.out.trans g2;have Z2:Aside (Ln w2 N 0 0 0):=Z1.out.gw g2;have S2:Aside (∀ q,rfp p (.slice none 0 0) q->N<q):=fun q hq=>by
     have:=Z1.out.lt
     rcases hq with rfl | hq
     ·omega
     ·simp [Value.ownBlock] at hq
    have F2:Aside (RFit w2 p (rfp p (.slice none 0 0)) (eps-1) 0 (fun _=>0)):=⟨_,_,_,_,_,hF,fun q=>Iff.rfl⟩
    clear g2 hF hp G1 Z1;go_wp2_with fail;go_loopg [8] n (fun gg s8 wr=>∃ (i:Nat) (S:Nat->Prop),s8=.int .i64 i/\i<=n/\n-i<=gg/\Aside (RFit wr p S (eps-1) i (fun j=>if j<i then f j else 0))/\Aside (∀ q,S q->N<q)/\Aside (Ln wr N 0 0 0)/\Aside (Gw w wr))
    case atStart=>exact ⟨0,_,rfl,Nat.zero_le _,by omega,(by show RFit _ _ _ _ _ _;simpa using F2.out),S2,Z2,G2⟩
    case round =>
     clear F2 S2 Z2 G2;obtain ⟨i,S,rfl,h1,h2,F,SN,Z,G⟩:=hrel;by_cases hlt:i<n
     ·obtain ⟨bk,off,rfl,hbk,hc⟩:=(HK.out.gw G.out).cells (by omega)
      have q1:=hc i hlt;obtain ⟨y0,y1⟩:=HK.out.bd i hlt;have SF:Aside (RFit wr p S (eps-1) i (fun j=>if j<i then f j else 0)):=F.out
      have FI:Aside (∀ j,j<=i->upd (fun j=>if j<i then f j else 0) i (f i) j=f j):=fun j hj=>by
       by_cases e:j=i
       ·subst e;exact upd_at _ _ _
       ·rw [upd_lo (by omega)];exact if_pos (by omega)
      have FE:Aside (upd (fun j=>if j<i then f j else 0) i (f i)=(fun j=>if j<i+1 then f j else 0)):=by
       show _=_;funext j;by_cases e:j=i
       ·subst e;rw [upd_at,if_pos (by omega)]
       ·by_cases e':j<i
        ·rw [upd_lo e']
         show (if j<i then f j else 0)=_
         rw [if_pos e',if_pos (by omega)]
        ·unfold upd
         rw [if_neg e];show (if j<i then f j else 0)=_
         rw [if_neg e',if_neg (by omega)]
      obtain ⟨fi,hfi⟩:∃ y,f i=y:=⟨_,rfl⟩;rw [hfi] at q1 FI FE y0 y1;clear hc F;go_wp2_with fail;refine (radd4_any SF.out fi y0 y1 (by omega)).mono ?_
      rintro ex w3 ⟨⟨ok,err,S',rfl,hA,hF,hS'⟩,g3⟩;have G3:Aside (Gw w w3):=Gs.gw5 G.out g3 (fun q hq=>by have:=SN.out q hq;have:=NW.out;omega)
      have Z3:Aside (Ln w3 N 0 0 0):=Z.out.gs g3 (fun q=>by have:=SN.out N q;omega)
      have SN3:Aside (∀ q,S' q->N<q):=fun q hq=>by
       rcases hS' q hq with r | r
       ·exact SN.out q r
       ·have:=Z.out.lt;omega
      have HA:Aside (AddR (eps-1) i (fun j=>if j<i then f j else 0) fi ok err):=hA
      have HF:Aside (RFit w3 p S' (eps-1) (if ok then i+1 else i) (if ok then upd (fun j=>if j<i then f j else 0) i fi else (fun j=>if j<i then f j else 0))):=hF
      have HC:Aside (ok=true↔FitsOn (eps-1) f (Prs (i+1))):=by
       rcases HA.out with ⟨q1,q2,_⟩ | ⟨_,_,q3⟩
       ·exfalso
        replace q2:fi<=if i-1<i then f (i-1) else 0:=q2
        rw [if_pos (by omega)] at q2
        have:=UP.out.lt (a:=i-1) (b:=i) (by omega) hlt
        omega
       ·refine q3.trans ⟨fun q=>q.congr (fun _ _ s=>s) (fun a b s=>?_),fun q=>q.congr (fun _ _ s=>s) (fun a b s=>?_)⟩
        all_goals rw [FI.out b (by have:=s.2;omega),FI.out a (by have:=s.1;have:=s.2;omega)]
      clear hA hF hS' g3 HA SF G Z SN q1;cases ok with
      | false =>
       have R:Aside (OfR eps f n 0 0 0 51):=.inr (.inr (.inl ⟨KE.out,⟨by omega,UP.out⟩,fun q=>by have:=HC.out.2 (q.part (by omega));simp at this,rfl,rfl,rfl,rfl⟩))
       have z0:=Z3.out.c0;have z1:=Z3.out.c1;have z2:=Z3.out.c2;have z3:=Z3.out.fz 0;have z4:=Z3.out.fz 1;have z5:=Z3.out.fz 2;have z6:=Z3.out.lt;go_wp2_with fail;refine bodyPost_ret (v:=.tuple #[.agg #[.int .u64 0,.int .u64 0,.int .i64 0],.int .i64 51]) (by simp [results,results159,go_sem, *]) rfl ⟨⟨0,0,0,51,rfl,R.out,by omega,by omega,by omega⟩,?_⟩
       refine Gw.setCell (Gw.setCell (Gw.setCell G3.out ?_ _) ?_ _) ?_ _<;>exact NW.out
      | true =>
       have HF':Aside (RFit w3 p S' (eps-1) (i+1) (fun j=>if j<i+1 then f j else 0)):=by
        have:=HF.out
        rw [if_pos rfl,if_pos rfl,FE.out] at this;exact this
       go_wp2_with fail;go_roundg (n-(i+1))
       case measure=>omega
       case rel=>exact ⟨i+1,S',by go_num,by omega,Nat.le_refl _,HF',SN3,Z3,G3⟩
     ·have e:i=n:=by omega
      subst e;obtain ⟨v,a,b,c,d,hRF,hS⟩:=F.out;have LE:Aside (∀ w',Gw wr w'->RF w' p v (eps-1) i (fun j=>if j<i then f j else 0) a b c d):=fun w' g=>hRF.gw g
      have eq:∀ x y,Prs i x y->(if y<i then f y else 0)-(if x<i then f x else 0)=f y-f x:=fun x y s=>by
       rw [if_pos s.2,if_pos (by have:=s.1;have:=s.2;omega)]
      have LO:Aside (LowOn (eps-1) f (Prs i) a b):=hRF.low.congr (fun _ _=>Iff.rfl) eq
      have FO:Aside (FitsOn (eps-1) f (Prs i)):=hRF.fit.congr (fun _ _ s=>s) eq
      have a0:=LO.out.a0;have b1:=LO.out.b1;have WD:=hRF.wd;clear hRF F hS SN eq;go_wp2_with fail;refine (rleast_any (LE.out wr (Gw.refl _))).mono ?_;rintro ex w3 ⟨rfl,g3⟩;have G3:Aside (Gw w w3):=G.out.trans g3;have Z3:Aside (Ln w3 N 0 0 0):=Z.out.gw g3;clear g3 G Z LE;go_wp2_with fail;have ML:Aside (Ln ((w3.alloc (.cells #[.int .u64 a,.int .u64 b] 250)).alloc (.cells #[.int .u64 a,.int .u64 b,.int .i64 0] 218)) (w3.heap.size+1) a b 0):=by
       have:=heap_alloc_new (w3.alloc (.cells #[.int .u64 a,.int .u64 b] 250)) (.cells #[.int .u64 a,.int .u64 b,.int .i64 0] 218)
       show Ln _ _ _ _ _;simpa [Ln] using this
      have MG:Aside (Gw w3 ((w3.alloc (.cells #[.int .u64 a,.int .u64 b] 250)).alloc (.cells #[.int .u64 a,.int .u64 b,.int .i64 0] 218))):=((Gw.refl w3).alloc _ _).alloc _ _;generalize (w3.alloc (.cells #[.int .u64 a,.int .u64 b] 250)).alloc (.cells #[.int .u64 a,.int .u64 b,.int .i64 0] 218)=w4 at ML MG ⊢;have Z4:Aside (Ln w4 N 0 0 0):=Z3.out.gw MG.out;have G4:Aside (Gw w w4):=G3.out.trans MG.out;have NL:Aside (N<w3.heap.size+1):=by have:=Z3.out.lt;exact Nat.lt_succ_of_lt this
      obtain ⟨L,hL⟩:∃ L,w3.heap.size+1=L:=⟨_,rfl⟩;rw [hL] at ML NL ⊢;rw [show w3.heap.size=L-1 by omega]
      clear hL MG Z3 G3;have QS:Aside (∀ x,x<i->0<=a*(f x-f 0)/b/\a*(f x-f 0)/b<=(i:Int)+2*(eps-1)):=fun x hx=>line_small (by omega) UP.out LO.out FO.out hx
      obtain ⟨⟨wa,wb⟩,_⟩:=WD;go_loopg [13] i (fun gg s13 wq=>∃ (j:Nat) (C:Int),s13=.int .i64 j/\j<=i/\i-j<=gg/\Aside (Ln wq L a b C)/\Aside (Ln wq N 0 0 0)/\Aside (Gw w wq)/\Aside (∀ x,x<j->(x:Int)-(eps-1)<=a*(f x-f 0)/b+C)/\Aside (0<j->∃ x,x<j/\(x:Int)-(eps-1)=a*(f x-f 0)/b+C)/\Aside (-100000000<=C/\C<=100000000))
      case atStart=>exact ⟨0,0,rfl,Nat.zero_le _,by omega,ML,Z4,G4,(show Aside _ from fun x hx=>by omega),(show Aside _ from fun q=>by omega),(by show (-100000000:Int)<=0/\(0:Int)<=100000000;decide)⟩
      case round =>
       clear ML Z4 G4;obtain ⟨j,C,rfl,h3,h4,ML,Z4,G4,J1,J2,CB⟩:=hrel;by_cases hjt:j<i
       ·obtain ⟨bk,off,rfl,hbk,hc⟩:=(HK.out.gw G4.out).cells (by omega)
        have q1:=hc j hjt;have q0:=hc 0 (by omega)
        simp only [Nat.add_zero] at q0;obtain ⟨y0,y1⟩:=HK.out.bd j hjt;obtain ⟨z0,z1⟩:=HK.out.bd 0 (by omega)
        have le0:=UP.out.le (Nat.zero_le j) hjt;obtain ⟨qs0,qs1⟩:=QS.out j hjt;obtain ⟨D,hD⟩:∃ D,f j-f 0=D:=⟨_,rfl⟩;have D0:0<=D:=by omega
        have D1:D<18446744073709551616:=by omega
        have ED:Aside (f j-f 0=D):=hD;rw [hD] at qs0 qs1;obtain ⟨fi,hfi⟩:∃ y,f j=y:=⟨_,rfl⟩;obtain ⟨f0,hf0⟩:∃ y,f 0=y:=⟨_,rfl⟩;rw [hfi] at q1 y0 y1 hD;rw [hf0] at q0 z0 z1 hD;clear hfi hf0 hc le0;have hDw:IntKind.u64.wrap D=D:=by rw [IntKind.wrap_u64];omega
        have hl0:0<i:=by omega
        have DC:Hid (∀ W:World,Calls prog 186 #[.agg #[.int .u64 a,.int .u64 b,.int .i64 C],.int .u64 D] W fun ex w'=>ex=.returned (.tuple #[.int .i64 (a*D/b),.bool true])/\Gw W w'):=fun W=>by
         have:=DD a b C D a0 wa (by omega) wb D0 D1 W
         rw [if_neg (by omega),show (!decide (2305843009213693952<a*D/b))=true by simp;omega] at this
         exact this
        obtain ⟨Q,hQ⟩:∃ Q,a*D/b=Q:=⟨_,rfl⟩;have EQ:Aside (a*(f j-f 0)/b=Q):=by rw [ED.out];exact hQ
        rw [hQ] at DC qs0 qs1;clear hQ;have e0:=ML.out.c0;have e1:=ML.out.c1;have e2:=ML.out.c2;go_wp2_with fail;go_cut [14] (fun s w'=>s=.int .i64 Q/\Aside (Gw wr w'))
        case first =>
         go_region_with (go_at_call 186;refine (DC.out _).mono ?_;rintro ex v4 ⟨rfl,g4⟩;have G5:Hid (Gw wr v4):=(Gw.trans (by repeat (first | exact Gw.refl _ | refine Gw.drew ?_)) g4);clear g4)
         all_goals go_wp2_with fail
         all_goals go_meet
         all_goals
          case rel=>exact ⟨rfl,(show Aside _ from (by first | exact G5.out | exact G5.out.drew | exact G5.out.drewN _))⟩
        case rest =>
         obtain ⟨wy,hwy⟩:∃ wy,wy=wc:=⟨_,rfl⟩;subst hwy;obtain ⟨rfl,gy⟩:=hcut;have GY:Aside (Gw w wy):=G4.out.trans gy.out;have MY:Aside (Ln wy L a b C):=ML.out.gw gy.out;have ZY:Aside (Ln wy N 0 0 0):=Z4.out.gw gy.out;clear ML Z4 G4 gy DC q0 q1 e0 e1 e2;have wa1:IntKind.i64.wrap (eps-1)=eps-1:=by rw [IntKind.wrap_i64];omega
         have wb1:IntKind.i64.wrap ((j:Int)-(eps-1))=(j:Int)-(eps-1):=by rw [IntKind.wrap_i64];omega
         have wc1:IntKind.i64.wrap ((j:Int)-(eps-1)-Q)=(j:Int)-(eps-1)-Q:=by rw [IntKind.wrap_i64];omega
         have m0:=MY.out.c2;have m1:=MY.out.fz 2;have m2:=MY.out.lt;have NXT:Aside _:=fun C' k1 k2 k3=>base_next (C':=C') EQ.out J1.out J2.out k1 k2 k3
         have cb:=CB.out;have SET:Aside (Ln (wy.setCell ⟨L,2,none⟩ (.int .i64 ((j:Int)-(eps-1)-Q))) L a b ((j:Int)-(eps-1)-Q)/\Ln (wy.setCell ⟨L,2,none⟩ (.int .i64 ((j:Int)-(eps-1)-Q))) N 0 0 0/\Gw w (wy.setCell ⟨L,2,none⟩ (.int .i64 ((j:Int)-(eps-1)-Q)))) :=
          ⟨MY.out.set2 _,ZY.out.far _ (by have:=NL.out;omega),GY.out.setCell (by have:=NL.out;have:=NW.out;show _<=L;omega) _⟩
         clear J1 J2 CB EQ;by_cases hj:j=0
         ·have tj:((j:Int) == 0)=true:=by simp;omega
          have NX:=NXT.out ((j:Int)-(eps-1)-Q) (Int.le_refl _) (fun q=>by omega) (.inl rfl)
          have X1:Aside _:=NX.1;have X2:Aside _:=NX.2;clear NX NXT;have SET0:Aside (Ln (wy.setCell ⟨L,2,none⟩ (.int .i64 (-(eps-1)-Q))) L a b ((j:Int)-(eps-1)-Q)/\Ln (wy.setCell ⟨L,2,none⟩ (.int .i64 (-(eps-1)-Q))) N 0 0 0/\Gw w (wy.setCell ⟨L,2,none⟩ (.int .i64 (-(eps-1)-Q)))):=by
           have h:=SET.out;rw [show (j:Int)-(eps-1)-Q=-(eps-1)-Q by omega] at h
           show _/\_;rw [show (j:Int)-(eps-1)-Q=-(eps-1)-Q by omega]
           exact h
          go_wp2_with fail;go_roundg (i-(j+1))
          case measure=>omega
          case rel=>exact ⟨j+1,(j:Int)-(eps-1)-Q,by go_num,by omega,Nat.le_refl _,SET0.out.1,SET0.out.2.1,SET0.out.2.2,X1,X2,(by show -100000000<=_/\_<=(100000000:Int);omega)⟩
         ·have tj:((j:Int) == 0)=false:=by simp;omega
          by_cases hC:C<(j:Int)-(eps-1)-Q
          ·have tC:decide (C<(j:Int)-(eps-1)-Q)=true:=by simpa using hC
           have NX:=NXT.out ((j:Int)-(eps-1)-Q) (Int.le_refl _) (fun q=>by omega) (.inl rfl)
           have X1:Aside _:=NX.1;have X2:Aside _:=NX.2;clear NX NXT;go_wp2_with fail;go_roundg (i-(j+1))
           case measure=>omega
           case rel=>exact ⟨j+1,(j:Int)-(eps-1)-Q,by go_num,by omega,Nat.le_refl _,SET.out.1,SET.out.2.1,SET.out.2.2,X1,X2,(by show -100000000<=_/\_<=(100000000:Int);omega)⟩
          ·have tC:decide (C<(j:Int)-(eps-1)-Q)=false:=by simpa using hC
           have NX:=NXT.out C (by omega) (fun q=>Int.le_refl _) (.inr ⟨by omega,rfl⟩)
           have X1:Aside _:=NX.1;have X2:Aside _:=NX.2;clear NX NXT;go_wp2_with fail;go_roundg (i-(j+1))
           case measure=>omega
           case rel=>exact ⟨j+1,C,by go_num,by omega,Nat.le_refl _,MY,ZY,GY,X1,X2,cb⟩
       ·have e:j=i:=by omega
        subst e;have R:Aside (OfR eps f j a b C 0):=.inr (.inr (.inr ⟨KE.out,⟨by omega,UP.out⟩,FO.out,LO.out,⟨J1.out,J2.out (by omega)⟩,rfl⟩))
        have cb:=CB.out;have m0:=ML.out.c0;have m1:=ML.out.c1;have m2:=ML.out.c2;have m3:=ML.out.lt;have z0:=Z4.out.c0;have z1:=Z4.out.c1;have z2:=Z4.out.c2;have z3:=Z4.out.fz 0;have z4:=Z4.out.fz 1;have z5:=Z4.out.fz 2;have z6:=Z4.out.lt;clear J1 J2 CB ML Z4;go_wp2_with fail;refine bodyPost_ret (v:=.tuple #[.agg #[.int .u64 a,.int .u64 b,.int .i64 C],.int .i64 0]) (by simp [results,results159,go_sem, *]) rfl ⟨⟨a,b,C,0,rfl,R.out,⟨a0,wa⟩,⟨by omega,wb⟩,by omega⟩,?_⟩
        refine Gw.setCell (Gw.setCell (Gw.setCell G4.out ?_ _) ?_ _) ?_ _<;>exact NW.out
theorem FitsOn.some {e:Int} {f:Nat->Int} {n m:Nat} (h:FitsOn e f (Prs n)) (hm:m<=n):FitsOn e f (Prs m):=fun i j i' j' s s'=>h i j i' j' ⟨s.1,by have:=s.2;omega⟩ ⟨s'.1,by have:=s'.2;omega⟩
def cutAt (f:Nat->Int) (i j:Nat):Int:=if j<i then f j else 0
theorem cutAt_lo {f:Nat->Int} {i j:Nat} (h:j<i):cutAt f i j=f j:=if_pos h
theorem cutAt_upd (f:Nat->Int) (i:Nat) (x:Int) (hx:f i=x):∀ j,j<i+1->upd (cutAt f i) i x j=cutAt f (i+1) j:=by
 intro j hj;rw [cutAt_lo hj];by_cases e:j=i
 ·subst e;rw [upd_at,hx]
 ·rw [upd_lo (by omega),cutAt_lo (by omega)]
theorem takes_any {HF:World->Nat->(Nat->Prop)->Int->Nat->(Nat->Int)->Prop} (H:HullC HF) {p:Nat} {S:Nat->Prop} {e:Int} (ao:Option Addr) (n cp:Nat) (f:Nat->Int) (w0 w:World) (h:HF w p S e 0 (fun _=>0)) (hS:∀ q,S q->w0.heap.size<=q) (g0:Gw w0 w) (hK:KS w0 ao n f) (u:Up f n) (hn:n<=2000000) :
  Calls prog 200 #[.pointer (some ⟨p,0,none⟩),.slice ao n cp] w fun ex w'=>(∃ ok:Bool,ex=.returned (.bool ok)/\(ok=true↔FitsOn e f (Prs n))/\(ok=true->∃ S',HF w' p S' e n f))/\Gw w0 w':=by
 have HH:Aside _:=H;have HK:Aside _:=hK;have UP:Aside (Up f n):=u;have F0:Aside (HF w p S e 0 (cutAt f 0)):=H.ext h (fun i hi=>absurd hi (by omega))
 have S0:Aside _:=hS;have G0:Aside _:=g0;clear H hK u h hS g0;go_enter func200,ntmps200;go_wp2_with fail;go_loopg [11] n (fun gg s8 wr=>∃ (i:Nat) (S:Nat->Prop),s8=.int .i64 i/\i<=n/\n-i<=gg/\Aside (HF wr p S e i (cutAt f i))/\Aside (∀ q,S q->w0.heap.size<=q)/\Aside (Gw w0 wr))
 case atStart=>exact ⟨0,_,rfl,Nat.zero_le _,by omega,F0,S0,G0⟩
 case round =>
  clear F0 S0 G0;obtain ⟨i,S,rfl,h1,h2,F,SN,G⟩:=hrel;by_cases hlt:i<n
  ·obtain ⟨bk,off,rfl,hbk,hc⟩:=(HK.out.gw G.out).cells (by omega)
   have q1:=hc i hlt;obtain ⟨y0,y1⟩:=HK.out.bd i hlt;obtain ⟨fi,hfi⟩:∃ y,f i=y:=⟨_,rfl⟩;have FI:Aside _:=hfi;rw [hfi] at q1 y0 y1;clear hc hfi;go_wp2_with fail;refine (HH.out.add F.out fi y0 y1 (by omega)).mono ?_
   rintro ex w3 ⟨⟨ok,err,S',rfl,hA,hF,hS'⟩,g3⟩;have G3:Aside _:=Gs.gw G.out g3 SN.out;have SN3:Aside (∀ q,S' q->w0.heap.size<=q):=fun q hq=>by
    rcases hS' q hq with r | r
    ·exact SN.out q r
    ·have:=G.out.size;omega
   have HF3:Aside _:=hF;have HC:Aside (ok=true↔FitsOn e f (Prs (i+1))):=by
    have UF:∀ j,j<i+1->upd (cutAt f i) i fi j=f j:=fun j hj=>by rw [cutAt_upd f i fi FI.out j hj,cutAt_lo hj]
    rcases hA with ⟨q1,q2,_⟩ | ⟨_,_,q3⟩
    ·exfalso
     rw [cutAt_lo (by omega)] at q2
     have:=UP.out.lt (a:=i-1) (b:=i) (by omega) hlt
     have:=FI.out
     omega
    ·refine q3.trans ⟨fun q=>q.congr (fun _ _ s=>s) (fun a b s=>?_),fun q=>q.congr (fun _ _ s=>s) (fun a b s=>?_)⟩
     all_goals rw [UF b (by have:=s.2;omega),UF a (by have:=s.1;have:=s.2;omega)]
   clear hA hF hS' g3 F G SN q1;cases ok with
   | false =>
    have R:Aside (false=true↔FitsOn e f (Prs n)):=⟨fun q=>by simp at q,fun q=>HC.out.2 (q.some (by omega))⟩
    go_wp2_with fail;go_ret
    exact ⟨⟨false,rfl,R.out,fun q=>by simp at q⟩,G3.out⟩
   | true =>
    have HF':Aside (HF w3 p S' e (i+1) (cutAt f (i+1))):=by
     have:=HF3.out
     rw [if_pos rfl,if_pos rfl] at this;exact HH.out.ext this (cutAt_upd f i fi FI.out)
    have FW:Aside _:=HC.out.1 rfl;go_wp2_with fail;go_roundg (n-(i+1))
    case measure=>omega
    case rel=>exact ⟨i+1,S',by go_num,by omega,Nat.le_refl _,HF',SN3,G3⟩
  ·have ei:i=n:=by omega
   subst ei;have FF:Aside _:=HH.out.ext F.out (fun j hj=>cutAt_lo hj)
   have FW:=(HH.out.facts FF.out).2.2.1;have FA:Aside _:=FW;clear FW;go_wp2_with fail;go_ret;exact ⟨⟨true,rfl,⟨fun _=>FA.out,fun _=>rfl⟩,fun _=>⟨S,FF.out⟩⟩,G.out⟩
theorem xof_any (CC:ClimbC) {HF:World->Nat->(Nat->Prop)->Int->Nat->(Nat->Int)->Prop} (H:HullC HF) (eps:Int) (ao:Option Addr) (n cp:Nat) (f:Nat->Int) (p0:-9223372036854775808<=eps) (p1:eps<9223372036854775808) (hn:n<=2000000) (w:World) (h:KS w ao n f) :
  Calls prog 177 #[.slice ao n cp,.int .i64 eps] w fun ex w'=>OfOut ex eps f n/\Gw w w':=by
 have HK:Aside _:=h;have HH:Aside _:=H;clear h H;have G0:Aside (Gw w (w.alloc (.cells #[.int .u64 0,.int .u64 0,.int .i64 0] 218))):=(Gw.refl w).alloc _ _;have Z0:Aside (Ln (w.alloc (.cells #[.int .u64 0,.int .u64 0,.int .i64 0] 218)) w.heap.size 0 0 0):=heap_alloc_new w _;by_cases k0:¬ (2<=eps/\eps<=64)
 ·have R:Aside (OfR eps f n 0 0 0 1):=.inl ⟨k0,rfl,rfl,rfl,rfl⟩
  have BAD:Hid _:=fun W=>HH.out.bad eps k0 W
  clear k0;go_enter func177,ntmps177;go_wp2_with fail;refine (BAD.out _).mono ?_;rintro ex w1 ⟨rfl,g1⟩;have G1:Aside _:=G0.out.trans g1;have Z1:Aside (Ln w1 w.heap.size 0 0 0):=Z0.out.gw g1;have z0:=Z1.out.c0;have z1:=Z1.out.c1;have z2:=Z1.out.c2;have z3:=Z1.out.fz 0;have z4:=Z1.out.fz 1;have z5:=Z1.out.fz 2;have z6:=Z1.out.lt;clear g1;go_wp2_with fail;refine bodyPost_ret (v:=.tuple #[.agg #[.int .u64 0,.int .u64 0,.int .i64 0],.int .i64 1]) (by simp [results,results177,go_sem, *]) rfl ⟨⟨0,0,0,1,rfl,R.out,by omega,by omega,by omega⟩,?_⟩
  refine Gw.setCell (Gw.setCell (Gw.setCell G1.out ?_ _) ?_ _) ?_ _<;>exact Nat.le_refl _
 ·have KE:Aside (2<=eps/\eps<=64):=Classical.not_not.1 k0
  have k2:=KE.out.1;have k3:=KE.out.2;clear k0;have NEW:Hid _:=fun W=>HH.out.new eps k2 k3 W
  go_enter func177,ntmps177;go_wp2_with fail;generalize w.alloc (.cells #[.int .u64 0,.int .u64 0,.int .i64 0] 218)=w1 at G0 Z0 ⊢;refine (NEW.out _).mono ?_;rintro ex w2 ⟨⟨p,S,rfl,hS,hF⟩,g2⟩;have F2:Aside _:=hF;have S2:Aside _:=hS;have G2:Aside _:=g2;clear hF hS g2 NEW;obtain ⟨N,hN⟩:∃ N,w.heap.size=N:=⟨_,rfl⟩;have NW:Aside (w.heap.size<=N):=by show _<=_;omega
  rw [hN] at Z0 ⊢;clear hN;have K1:Aside _:=HK.out.gw G0.out;have K2:Aside _:=K1.out.gw G2.out;go_wp2_with fail;refine (xstretch_any ao n cp f (by omega) _ K2.out).mono ?_
  rintro ex w3 ⟨⟨r,rfl,hr⟩,g3⟩;have HR:Aside _:=hr;have G3:Aside _:=G2.out.trans g3;have F3:Aside _:=HH.out.gw F2.out g3;clear hr g3 F2 G2 K2;cases r with
  | false =>
   have R:Aside (OfR eps f n 0 0 0 50):=.inr (.inl ⟨KE.out,fun q=>by have:=HR.out.2 q;simp at this,rfl,rfl,rfl,rfl⟩)
   have Z1:Aside (Ln w3 N 0 0 0):=Z0.out.gw G3.out;have z0:=Z1.out.c0;have z1:=Z1.out.c1;have z2:=Z1.out.c2;have z3:=Z1.out.fz 0;have z4:=Z1.out.fz 1;have z5:=Z1.out.fz 2;have z6:=Z1.out.lt;go_wp2_with fail;refine bodyPost_ret (v:=.tuple #[.agg #[.int .u64 0,.int .u64 0,.int .i64 0],.int .i64 50]) (by simp [results,results177,go_sem, *]) rfl ⟨⟨0,0,0,50,rfl,R.out,by omega,by omega,by omega⟩,?_⟩
   refine Gw.setCell (Gw.setCell (Gw.setCell (G0.out.trans G3.out) ?_ _) ?_ _) ?_ _<;>exact NW.out
  | true =>
   have UP:Aside _:=HR.out.1 rfl;have n0:=UP.out.1;clear HR;go_wp2_with fail;refine (takes_any HH.out ao n cp f w1 w3 F3.out S2.out G3.out K1.out UP.out.2 hn).mono ?_;rintro ex w4 ⟨⟨ok,rfl,hok,hF⟩,g4⟩;have OK:Aside _:=hok;have F4:Aside _:=hF;have G4:Aside _:=g4;clear hok hF g4 F3 G3 S2;cases ok with
   | false =>
    have R:Aside (OfR eps f n 0 0 0 51):=.inr (.inr (.inl ⟨KE.out,UP.out,fun q=>by have:=OK.out.2 q;simp at this,rfl,rfl,rfl,rfl⟩))
    have Z1:Aside (Ln w4 N 0 0 0):=Z0.out.gw G4.out;have z0:=Z1.out.c0;have z1:=Z1.out.c1;have z2:=Z1.out.c2;have z3:=Z1.out.fz 0;have z4:=Z1.out.fz 1;have z5:=Z1.out.fz 2;have z6:=Z1.out.lt;go_wp2_with fail;refine bodyPost_ret (v:=.tuple #[.agg #[.int .u64 0,.int .u64 0,.int .i64 0],.int .i64 51]) (by simp [results,results177,go_sem, *]) rfl ⟨⟨0,0,0,51,rfl,R.out,by omega,by omega,by omega⟩,?_⟩
    refine Gw.setCell (Gw.setCell (Gw.setCell (G0.out.trans G4.out) ?_ _) ?_ _) ?_ _<;>exact NW.out
   | true =>
    have FO:Aside _:=OK.out.1 rfl;have LE:Hid _:=F4.out rfl;clear OK F4;go_wp2_with fail;refine (HH.out.least LE.out.choose_spec (by omega)).mono ?_
    rintro ex w5 ⟨⟨a,b,rfl,hlow,ha,hb⟩,g5⟩;have G5:Aside _:=G4.out.trans g5;have LO:Aside _:=hlow;have a0:=LO.out.a0;have b1:=LO.out.b1;have Z5:Aside (Ln w5 N 0 0 0):=Z0.out.gw G5.out;clear g5 hlow G4 LE Z0;have we:IntKind.i64.wrap (eps-1)=eps-1:=by rw [IntKind.wrap_i64];omega
    go_wp2_with fail;have ML:Aside (Ln ((w5.alloc (.cells #[.int .u64 a,.int .u64 b] 250)).alloc (.cells #[.int .u64 a,.int .u64 b,.int .i64 0] 218)) (w5.heap.size+1) a b 0):=by
     have:=heap_alloc_new (w5.alloc (.cells #[.int .u64 a,.int .u64 b] 250)) (.cells #[.int .u64 a,.int .u64 b,.int .i64 0] 218)
     show Ln _ _ _ _ _;simpa [Ln] using this
    have MG:Aside (Gw w5 ((w5.alloc (.cells #[.int .u64 a,.int .u64 b] 250)).alloc (.cells #[.int .u64 a,.int .u64 b,.int .i64 0] 218))):=((Gw.refl w5).alloc _ _).alloc _ _;generalize (w5.alloc (.cells #[.int .u64 a,.int .u64 b] 250)).alloc (.cells #[.int .u64 a,.int .u64 b,.int .i64 0] 218)=w6 at ML MG ⊢;have Z6:Aside (Ln w6 N 0 0 0):=Z5.out.gw MG.out;have G6:Aside _:=(G0.out.trans G5.out).trans MG.out;have NL:Aside (N<w5.heap.size+1):=by have:=Z5.out.lt;exact Nat.lt_succ_of_lt this
    obtain ⟨L,hL⟩:∃ L,w5.heap.size+1=L:=⟨_,rfl⟩;rw [hL] at ML NL ⊢
    (try rw [show w5.heap.size=L-1 by omega])
    clear hL MG Z5 G5;obtain ⟨bk,off,rfl,hbk,hc⟩:=(HK.out.gw G6.out).cells n0;have BB:Hid (Calls prog 202 #[.agg #[.int .u64 a,.int .u64 b,.int .i64 0],.slice (some ⟨bk,off,none⟩) n cp,.int .i64 (eps-1)] w6 fun ex w'=>(∃ z:Int,ex=.returned (.int .i64 z)/\BaseR (eps-1) f n a b z/\(-100<=z/\z<=4000000))/\Gw w6 w'):=by
     refine xbase_any CC a b 0 (eps-1) bk off n cp f a0 ha (by omega) hb (by omega) (by omega) n0 (by omega) w6 hbk hc (fun i hi=>?_) (fun i hi q=>?_)
     ·have h1:=UP.out.2.le (Nat.zero_le i) hi
      have h2:=HK.out.bd i hi;have h3:=HK.out.bd 0 n0;omega
     ·have:=line_small (by omega) UP.out.2 LO.out FO.out hi
      rcases q with q | q<;>omega
    clear hc hbk;have e0:=ML.out.c0;have e1:=ML.out.c1;have e2:=ML.out.c2;have e6:=ML.out.lt;go_wp2_with fail;refine BB.out.mono ?_;rintro ex w7 ⟨⟨z,rfl,hB,zb⟩,g7⟩;have R:Aside (OfR eps f n a b z 0):=.inr (.inr (.inr ⟨KE.out,UP.out,FO.out,LO.out,hB,rfl⟩));have G7:Aside _:=G6.out.trans g7;have M7:Aside (Ln w7 L a b 0):=ML.out.gw g7;have Z7:Aside (Ln w7 N 0 0 0):=Z6.out.gw g7;have y0:=M7.out.c0;have y1:=M7.out.c1;have y2:=M7.out.c2;have y3:=M7.out.fz 2;have y4:=M7.out.lt;have z0:=Z7.out.c0;have z1:=Z7.out.c1;have z2:=Z7.out.c2;have z3:=Z7.out.fz 0;have z4:=Z7.out.fz 1;have z5:=Z7.out.fz 2;have z6:=Z7.out.lt;have nl:¬ N=L:=by have:=NL.out;omega
    have ln:¬ L=N:=by omega
    clear g7 hB e0 e1 e2 e6 ML Z6 G6 BB M7 Z7;go_wp2_with fail;refine bodyPost_ret (v:=.tuple #[.agg #[.int .u64 a,.int .u64 b,.int .i64 z],.int .i64 0]) (by simp [results,results177,go_sem, *]) rfl ⟨⟨a,b,z,0,rfl,R.out,⟨a0,ha⟩,⟨by omega,hb⟩,by omega⟩,?_⟩
    refine Gw.setCell (Gw.setCell (Gw.setCell (Gw.setCell G7.out ?_ _) ?_ _) ?_ _) ?_ _
    ·have:=NL.out;have:=NW.out;show _<=L;omega
    all_goals exact NW.out
end Go.Proofs.YteflpamjgaeaiaaGreat
