/- Package line's 'takesAll', over what package hull does. Package line's Of, over what its 'climb' and package hull do. -/
import Derived.Test.YtemijdhemdhclaaGreatNXFits
import Derived.Test.YtemijdhemdhclaaGreatNL5Of
set_option linter.unusedVariables false
set_option maxHeartbeats 4000000
set_option maxRecDepth 100000
open Go.Proofs.Tryz
namespace Go.Proofs.YtemijdhemdhclaaGreat
open Go.RowKit
theorem FitsOn.some {e:Int} {f:Nat->Int} {n m:Nat} (h:FitsOn e f (Prs n)) (hm:m<=n):FitsOn e f (Prs m):=fun i j i' j' s s'=>h i j i' j' ⟨s.1,by have:=s.2;omega⟩ ⟨s'.1,by have:=s'.2;omega⟩
def cutAt (f:Nat->Int) (i j:Nat):Int:=if j<i then f j else 0
theorem cutAt_lo {f:Nat->Int} {i j:Nat} (h:j<i):cutAt f i j=f j:=if_pos h
theorem cutAt_upd (f:Nat->Int) (i:Nat) (x:Int) (hx:f i=x):∀ j,j<i+1->upd (cutAt f i) i x j=cutAt f (i+1) j:=by
 intro j hj;rw [cutAt_lo hj];by_cases e:j=i
 ·subst e;rw [upd_at,hx]
 ·rw [upd_lo (by omega),cutAt_lo (by omega)]
theorem takes_any {HF:World->Nat->(Nat->Prop)->Int->Nat->(Nat->Int)->Prop} (H:HullC HF) {p:Nat} {S:Nat->Prop} {e:Int} (ao:Option Addr) (n cp:Nat) (f:Nat->Int) (w0 w:World) (h:HF w p S e 0 (fun _=>0)) (hS:∀ q,S q->w0.heap.size<=q) (g0:Gw w0 w) (hK:KS w0 ao n f) (u:Up f n) (hn:n<=2000000) :
  Calls prog 145 #[.pointer (some ⟨p,0,none⟩),.slice ao n cp] w fun ex w'=>(∃ ok:Bool,ex=.returned (.bool ok)/\(ok=true↔FitsOn e f (Prs n))/\(ok=true->∃ S',HF w' p S' e n f))/\Gw w0 w':=by
 have HH:Aside _:=H;have HK:Aside _:=hK;have UP:Aside (Up f n):=u;have F0:Aside (HF w p S e 0 (cutAt f 0)):=H.ext h (fun i hi=>absurd hi (by omega))
 have S0:Aside _:=hS;have G0:Aside _:=g0;clear H hK u h hS g0;go_enter func145,ntmps145;go_wp2_with fail;go_loopg [11] n (fun gg s8 wr=>∃ (i:Nat) (S:Nat->Prop),s8=.int .i64 i/\i<=n/\n-i<=gg/\Aside (HF wr p S e i (cutAt f i))/\Aside (∀ q,S q->w0.heap.size<=q)/\Aside (Gw w0 wr))
 case atStart=>exact ⟨0,_,rfl,Nat.zero_le _,by omega,F0,S0,G0⟩
 case round =>
  clear F0 S0 G0;obtain ⟨i,S,rfl,h1,h2,F,SN,G⟩:=hrel;by_cases hlt:i<n
  ·obtain ⟨bk,off,rfl,hbk,hc⟩:=(HK.out.gw G.out).cells (by omega)
   have q1:=hc i hlt;obtain ⟨y0,y1⟩:=HK.out.bd i hlt;obtain ⟨fi,hfi⟩:∃ y,f i=y:=⟨_,rfl⟩;have FI:Aside _:=hfi;rw [hfi] at q1 y0 y1;clear hc hfi;go_wp2_with fail;refine (HH.out.add F.out fi y0 y1 (by omega)).mono ?_
   rintro ex w3 ⟨⟨ok,err,S',rfl,hA,hF,hS'⟩,g3⟩;have G3:Aside _:=Gs.gw G.out g3 SN.out;have SN3:Aside (∀ q,S' q->w0.heap.size<=q):=fun q hq=>by
    rcases hS' q hq with r | r
    ·exact SN.out q r
    ·have:=G.out.size;omega
   have HF3:Aside _:=hF;have HC:Aside (ok=true↔FitsOn e f (Prs (i+1))):=by
    have UF:∀ j,j<i+1->upd (cutAt f i) i fi j=f j:=fun j hj=>by rw [cutAt_upd f i fi FI.out j hj,cutAt_lo hj]
    rcases hA with ⟨q1,q2,_⟩ | ⟨_,_,q3⟩
    ·exfalso
     rw [cutAt_lo (by omega)] at q2
     have:=UP.out.lt (a:=i-1) (b:=i) (by omega) hlt
     have:=FI.out
     omega
    ·refine q3.trans ⟨fun q=>q.congr (fun _ _ s=>s) (fun a b s=>?_),fun q=>q.congr (fun _ _ s=>s) (fun a b s=>?_)⟩
     all_goals rw [UF b (by have:=s.2;omega),UF a (by have:=s.1;have:=s.2;omega)]
   clear hA hF hS' g3 F G SN q1;cases ok with
   | false =>
    have R:Aside (false=true↔FitsOn e f (Prs n)):=⟨fun q=>by simp at q,fun q=>HC.out.2 (q.some (by omega))⟩
    go_wp2_with fail;go_ret
    exact ⟨⟨false,rfl,R.out,fun q=>by simp at q⟩,G3.out⟩
   | true =>
    have HF':Aside (HF w3 p S' e (i+1) (cutAt f (i+1))):=by
     have:=HF3.out
     rw [if_pos rfl,if_pos rfl] at this;exact HH.out.ext this (cutAt_upd f i fi FI.out)
    have FW:Aside _:=HC.out.1 rfl;go_wp2_with fail;go_roundg (n-(i+1))
    case measure=>omega
    case rel=>exact ⟨i+1,S',by go_num,by omega,Nat.le_refl _,HF',SN3,G3⟩
  ·have ei:i=n:=by omega
   subst ei;have FF:Aside _:=HH.out.ext F.out (fun j hj=>cutAt_lo hj)
   have FW:=(HH.out.facts FF.out).2.2.1;have FA:Aside _:=FW;clear FW;go_wp2_with fail;go_ret;exact ⟨⟨true,rfl,⟨fun _=>FA.out,fun _=>rfl⟩,fun _=>⟨S,FF.out⟩⟩,G.out⟩
theorem xof_any (CC:ClimbC) {HF:World->Nat->(Nat->Prop)->Int->Nat->(Nat->Int)->Prop} (H:HullC HF) (eps:Int) (ao:Option Addr) (n cp:Nat) (f:Nat->Int) (p0:-9223372036854775808<=eps) (p1:eps<9223372036854775808) (hn:n<=2000000) (w:World) (h:KS w ao n f) :
  Calls prog 130 #[.slice ao n cp,.int .i64 eps] w fun ex w'=>OfOut ex eps f n/\Gw w w':=by
 have HK:Aside _:=h;have HH:Aside _:=H;clear h H;have G0:Aside (Gw w (w.alloc (.cells #[.int .u64 0,.int .u64 0,.int .i64 0] 194))):=(Gw.refl w).alloc _ _;have Z0:Aside (Ln (w.alloc (.cells #[.int .u64 0,.int .u64 0,.int .i64 0] 194)) w.heap.size 0 0 0):=heap_alloc_new w _;by_cases k0:¬ (2<=eps/\eps<=64)
 ·have R:Aside (OfR eps f n 0 0 0 1):=.inl ⟨k0,rfl,rfl,rfl,rfl⟩
  have BAD:Hid _:=fun W=>HH.out.bad eps k0 W
  clear k0;go_enter func130,ntmps130;go_wp2_with fail;refine (BAD.out _).mono ?_;rintro ex w1 ⟨rfl,g1⟩;have G1:Aside _:=G0.out.trans g1;have Z1:Aside (Ln w1 w.heap.size 0 0 0):=Z0.out.gw g1;have z0:=Z1.out.c0;have z1:=Z1.out.c1;have z2:=Z1.out.c2;have z3:=Z1.out.fz 0;have z4:=Z1.out.fz 1;have z5:=Z1.out.fz 2;have z6:=Z1.out.lt;clear g1;go_wp2_with fail;refine bodyPost_ret (v:=.tuple #[.agg #[.int .u64 0,.int .u64 0,.int .i64 0],.int .i64 1]) (by simp [results,results130,go_sem, *]) rfl ⟨⟨0,0,0,1,rfl,R.out,by omega,by omega,by omega⟩,?_⟩
  refine Gw.setCell (Gw.setCell (Gw.setCell G1.out ?_ _) ?_ _) ?_ _<;>exact Nat.le_refl _
 ·have KE:Aside (2<=eps/\eps<=64):=Classical.not_not.1 k0
  have k2:=KE.out.1;have k3:=KE.out.2;clear k0;have NEW:Hid _:=fun W=>HH.out.new eps k2 k3 W
  go_enter func130,ntmps130;go_wp2_with fail;generalize w.alloc (.cells #[.int .u64 0,.int .u64 0,.int .i64 0] 194)=w1 at G0 Z0 ⊢;refine (NEW.out _).mono ?_;rintro ex w2 ⟨⟨p,S,rfl,hS,hF⟩,g2⟩;have F2:Aside _:=hF;have S2:Aside _:=hS;have G2:Aside _:=g2;clear hF hS g2 NEW;obtain ⟨N,hN⟩:∃ N,w.heap.size=N:=⟨_,rfl⟩;have NW:Aside (w.heap.size<=N):=by show _<=_;omega
  rw [hN] at Z0 ⊢;clear hN;have K1:Aside _:=HK.out.gw G0.out;have K2:Aside _:=K1.out.gw G2.out;go_wp2_with fail;refine (xstretch_any ao n cp f (by omega) _ K2.out).mono ?_
  rintro ex w3 ⟨⟨r,rfl,hr⟩,g3⟩;have HR:Aside _:=hr;have G3:Aside _:=G2.out.trans g3;have F3:Aside _:=HH.out.gw F2.out g3;clear hr g3 F2 G2 K2;cases r with
  | false =>
   have R:Aside (OfR eps f n 0 0 0 50):=.inr (.inl ⟨KE.out,fun q=>by have:=HR.out.2 q;simp at this,rfl,rfl,rfl,rfl⟩)
   have Z1:Aside (Ln w3 N 0 0 0):=Z0.out.gw G3.out;have z0:=Z1.out.c0;have z1:=Z1.out.c1;have z2:=Z1.out.c2;have z3:=Z1.out.fz 0;have z4:=Z1.out.fz 1;have z5:=Z1.out.fz 2;have z6:=Z1.out.lt;go_wp2_with fail;refine bodyPost_ret (v:=.tuple #[.agg #[.int .u64 0,.int .u64 0,.int .i64 0],.int .i64 50]) (by simp [results,results130,go_sem, *]) rfl ⟨⟨0,0,0,50,rfl,R.out,by omega,by omega,by omega⟩,?_⟩
   refine Gw.setCell (Gw.setCell (Gw.setCell (G0.out.trans G3.out) ?_ _) ?_ _) ?_ _<;>exact NW.out
  | true =>
   have UP:Aside _:=HR.out.1 rfl;have n0:=UP.out.1;clear HR;go_wp2_with fail;refine (takes_any HH.out ao n cp f w1 w3 F3.out S2.out G3.out K1.out UP.out.2 hn).mono ?_;rintro ex w4 ⟨⟨ok,rfl,hok,hF⟩,g4⟩;have OK:Aside _:=hok;have F4:Aside _:=hF;have G4:Aside _:=g4;clear hok hF g4 F3 G3 S2;cases ok with
   | false =>
    have R:Aside (OfR eps f n 0 0 0 51):=.inr (.inr (.inl ⟨KE.out,UP.out,fun q=>by have:=OK.out.2 q;simp at this,rfl,rfl,rfl,rfl⟩))
    have Z1:Aside (Ln w4 N 0 0 0):=Z0.out.gw G4.out;have z0:=Z1.out.c0;have z1:=Z1.out.c1;have z2:=Z1.out.c2;have z3:=Z1.out.fz 0;have z4:=Z1.out.fz 1;have z5:=Z1.out.fz 2;have z6:=Z1.out.lt;go_wp2_with fail;refine bodyPost_ret (v:=.tuple #[.agg #[.int .u64 0,.int .u64 0,.int .i64 0],.int .i64 51]) (by simp [results,results130,go_sem, *]) rfl ⟨⟨0,0,0,51,rfl,R.out,by omega,by omega,by omega⟩,?_⟩
    refine Gw.setCell (Gw.setCell (Gw.setCell (G0.out.trans G4.out) ?_ _) ?_ _) ?_ _<;>exact NW.out
   | true =>
    have FO:Aside _:=OK.out.1 rfl;have LE:Hid _:=F4.out rfl;clear OK F4;go_wp2_with fail;refine (HH.out.least LE.out.choose_spec (by omega)).mono ?_
    rintro ex w5 ⟨⟨a,b,rfl,hlow,ha,hb⟩,g5⟩;have G5:Aside _:=G4.out.trans g5;have LO:Aside _:=hlow;have a0:=LO.out.a0;have b1:=LO.out.b1;have Z5:Aside (Ln w5 N 0 0 0):=Z0.out.gw G5.out;clear g5 hlow G4 LE Z0;have we:IntKind.i64.wrap (eps-1)=eps-1:=by rw [IntKind.wrap_i64];omega
    go_wp2_with fail;have ML:Aside (Ln ((w5.alloc (.cells #[.int .u64 a,.int .u64 b] 219)).alloc (.cells #[.int .u64 a,.int .u64 b,.int .i64 0] 194)) (w5.heap.size+1) a b 0):=by
     have:=heap_alloc_new (w5.alloc (.cells #[.int .u64 a,.int .u64 b] 219)) (.cells #[.int .u64 a,.int .u64 b,.int .i64 0] 194)
     show Ln _ _ _ _ _;simpa [Ln] using this
    have MG:Aside (Gw w5 ((w5.alloc (.cells #[.int .u64 a,.int .u64 b] 219)).alloc (.cells #[.int .u64 a,.int .u64 b,.int .i64 0] 194))):=((Gw.refl w5).alloc _ _).alloc _ _;generalize (w5.alloc (.cells #[.int .u64 a,.int .u64 b] 219)).alloc (.cells #[.int .u64 a,.int .u64 b,.int .i64 0] 194)=w6 at ML MG ⊢;have Z6:Aside (Ln w6 N 0 0 0):=Z5.out.gw MG.out;have G6:Aside _:=(G0.out.trans G5.out).trans MG.out;have NL:Aside (N<w5.heap.size+1):=by have:=Z5.out.lt;exact Nat.lt_succ_of_lt this
    obtain ⟨L,hL⟩:∃ L,w5.heap.size+1=L:=⟨_,rfl⟩;rw [hL] at ML NL ⊢
    (try rw [show w5.heap.size=L-1 by omega])
    clear hL MG Z5 G5;obtain ⟨bk,off,rfl,hbk,hc⟩:=(HK.out.gw G6.out).cells n0;have BB:Hid (Calls prog 147 #[.agg #[.int .u64 a,.int .u64 b,.int .i64 0],.slice (some ⟨bk,off,none⟩) n cp,.int .i64 (eps-1)] w6 fun ex w'=>(∃ z:Int,ex=.returned (.int .i64 z)/\BaseR (eps-1) f n a b z/\(-100<=z/\z<=4000000))/\Gw w6 w'):=by
     refine xbase_any CC a b 0 (eps-1) bk off n cp f a0 ha (by omega) hb (by omega) (by omega) n0 (by omega) w6 hbk hc (fun i hi=>?_) (fun i hi q=>?_)
     ·have h1:=UP.out.2.le (Nat.zero_le i) hi
      have h2:=HK.out.bd i hi;have h3:=HK.out.bd 0 n0;omega
     ·have:=line_small (by omega) UP.out.2 LO.out FO.out hi
      rcases q with q | q<;>omega
    clear hc hbk;have e0:=ML.out.c0;have e1:=ML.out.c1;have e2:=ML.out.c2;have e6:=ML.out.lt;go_wp2_with fail;refine BB.out.mono ?_;rintro ex w7 ⟨⟨z,rfl,hB,zb⟩,g7⟩;have R:Aside (OfR eps f n a b z 0):=.inr (.inr (.inr ⟨KE.out,UP.out,FO.out,LO.out,hB,rfl⟩));have G7:Aside _:=G6.out.trans g7;have M7:Aside (Ln w7 L a b 0):=ML.out.gw g7;have Z7:Aside (Ln w7 N 0 0 0):=Z6.out.gw g7;have y0:=M7.out.c0;have y1:=M7.out.c1;have y2:=M7.out.c2;have y3:=M7.out.fz 2;have y4:=M7.out.lt;have z0:=Z7.out.c0;have z1:=Z7.out.c1;have z2:=Z7.out.c2;have z3:=Z7.out.fz 0;have z4:=Z7.out.fz 1;have z5:=Z7.out.fz 2;have z6:=Z7.out.lt;have nl:¬ N=L:=by have:=NL.out;omega
    have ln:¬ L=N:=by omega
    clear g7 hB e0 e1 e2 e6 ML Z6 G6 BB M7 Z7;go_wp2_with fail;refine bodyPost_ret (v:=.tuple #[.agg #[.int .u64 a,.int .u64 b,.int .i64 z],.int .i64 0]) (by simp [results,results130,go_sem, *]) rfl ⟨⟨a,b,z,0,rfl,R.out,⟨a0,ha⟩,⟨by omega,hb⟩,by omega⟩,?_⟩
    refine Gw.setCell (Gw.setCell (Gw.setCell (Gw.setCell G7.out ?_ _) ?_ _) ?_ _) ?_ _
    ·have:=NL.out;have:=NW.out;show _<=L;omega
    all_goals exact NW.out
end Go.Proofs.YtemijdhemdhclaaGreat
