/- ClassesPlays' walk. -/
import Derived.Test.YtklkpldicbkjeaaGreatVUDoc5
import Derived.Test.YtklkpldicbkjeaaGreatVUDoc4
set_option linter.unusedVariables false
set_option maxHeartbeats 16000000
set_option maxRecDepth 20000
open Go.Proofs.Tryz
namespace Go.Proofs.YtklkpldicbkjeaaGreat
open Go.RowKit
theorem aP.cell {HR:aV} {w0 wr:World} {ab ac:Nat} {eps buf:Int} {Q:List Pq} {k s:Nat} (h:aP HR w0 wr ab ac eps buf Q k s) {j:Nat} {q:Pq} (hq:Q[j]?=some q):wr.cell? ⟨ab,j*2,none⟩=some (.pointer (some ⟨q.p,0,none⟩))/\wr.cell? ⟨ab,j*2+1,none⟩=some (.pointer (some ⟨q.px,0,none⟩))/\ab<wr.heap.size:=by
 have hj:=(List.getElem?_eq_some_iff.1 hq).1;have fl:∀ (Q:List Pq) (j:Nat) (q:Pq),Q[j]?=some q->∀ i,i<2->(Q.flatMap lN)[j*2+i]?=(lN q)[i]?:=fun Q=>by
  induction Q with
  | nil=>intro j q h;simp at h
  | cons a Q ih =>
   intro j q h i hi;rw [List.flatMap_cons]
   match j,h with
   | 0,h =>
    have e:a=q:=by simpa using h
    rw [<-e,Nat.zero_mul,Nat.zero_add,List.getElem?_append_left (by show i<2;exact hi)]
   | j+1,h =>
    rw [List.getElem?_append_right (by show 2<=_;omega),show (j+1)*2+i-(lN a).length=j*2+i by show (j+1)*2+i-2=_;omega]
    exact ih j q (by simpa using h) i hi
 refine ⟨?_,?_,(World.ownsRow.lt h.own ab rfl).2⟩
 ·rw [World.ownsRow.cellAt h.own (j*2) (by omega)]
  have:=fl Q j q hq 0 (by omega)
  rw [Nat.add_zero] at this;rw [this];rfl
 ·rw [World.ownsRow.cellAt h.own (j*2+1) (by omega),fl Q j q hq 1 (by omega)];rfl
theorem acM {l:List (Option Rn)} (h:l.length=40):aT l=l:=by
 unfold aT;rw [List.take_of_length_le (by omega),h]
 simp
theorem acN {w:World} {base e n lb lc:Nat} {xs:List Value} (h:w.ownsRow base e 1 (.slice (some ⟨lb,0,none⟩) n lc) n xs) {j:Nat} (hj:j<n):(∃ v,w.cell? ⟨lb,j,none⟩=some v)/\w.frozen? ⟨lb,j,none⟩=false/\lb<w.heap.size:=by
 refine ⟨?_,?_,(World.ownsRow.lt h lb rfl).2⟩
 ·rw [World.ownsRow.cellAt h j (by omega)]
  exact ⟨_,List.getElem?_eq_getElem (by have:=h.1;omega)⟩
 ·rcases h.2 with ⟨x,_⟩ | ⟨b,cap,cur,e,hb,hh,_⟩
  ·cases x
  ·cases e;exact dR hh
theorem acO:(prog.info? 32).map (fun i=>(i.zero,i.size,i.bytes))=some (some (.agg #[.pointer none,.pointer none]),2,16):=by kernel_rfl
theorem acP {HR:aV} (H:cV HR) (O5:l6) (eps buf:Int) (ao:Option Addr) (c:Nat) (hs:List ua) (hn:hs.length<=2000000) (w:World) (h:Fz w ao hs) :
  Calls prog 3 #[.int .i64 eps,.int .i64 buf,.slice ao hs.length c] w fun e w'=>e=.returned (.bool true)/\Gw w w':=by
 have HH:ag (cV HR):=H;have OO:ag l6:=O5;have SL:ag (Fz w ao hs):=h;have SH:ag (Calls prog 5 #[] w fun e w'=>e=.returned (.bool true)/\Gw w w'):=acC H w
 obtain ⟨n,aA⟩:∃ n,hs.length=n:=⟨_,rfl⟩;have LN:ag (hs.length=n):=aA;rw [aA] at hn ⊢;obtain ⟨ip,ip1,ip2,ip3,ip4⟩:=info_parts acO;clear h H O5 aA;go_enter func3,ntmps3;go_wp2_with fail;refine Calls.mono SH.o ?_;rintro e w1 ⟨rfl,g1⟩;have G1:ag (Gw w w1):=g1;clear g1 SH;go_wp2_with fail;refine Calls.mono (zS (HR:=HR) eps buf w1) ?_;rintro e w2 ⟨⟨no,rfl⟩ | ⟨ok,p,rfl,hp,hc⟩,g2⟩
 ·have NO:ag (¬ dM eps buf):=no
  have G2:ag (Gw w w2):=G1.o.trans g2;clear no g2 G1;go_wp2_with fail;refine Calls.mono (Fp eps buf w2) ?_;rintro e w3 ⟨⟨_,rfl⟩ | ⟨ok,_⟩,g3⟩
  ·have G3:ag (Gw w w3):=G2.o.trans g3
   clear g3;go_wp2_with fail;go_ret;exact ⟨rfl,G3.o⟩
  ·exact absurd ok NO.o
 have AJ:ag (au HR w2 p (List.replicate 40 none) eps buf 0 0/\w1.heap.size<=p):=⟨hc,hp⟩;have OK:ag (dM eps buf):=ok;have G2:ag (Gw w w2):=G1.o.trans g2;have G12:ag (Gw w1 w2):=g2;clear hc hp ok g2;go_wp2_with fail;refine Calls.mono (Fp eps buf w2) ?_;rintro e w3 ⟨⟨no,_⟩ | ⟨_,px,rb,rfl,hpx,ly,hd⟩,g3⟩
 ·exact absurd OK.o no
 have I0:ag (aP HR w (w3.alloc (.cells #[.pointer (some ⟨p,0,none⟩),.pointer (some ⟨px,0,none⟩)] 32)) w3.heap.size 1 eps buf [⟨p,px,rb,List.replicate 40 none,List.replicate 40 none,0,0⟩] 0 0):=by
  have gA:Gw w3 (w3.alloc (.cells #[.pointer (some ⟨p,0,none⟩),.pointer (some ⟨px,0,none⟩)] 32)):=(Gw.refl w3).alloc _ _;have pl:=AJ.o.1.lt;have l3:=g3.size;have s1:=G1.o.size;have s2:=G2.o.size;have xl:=hd.plt;have bl:=hd.blt;have hp:=AJ.o.2;have ne:=hd.ne;have t0:tot (List.replicate 40 (none:Option Rn))=0:=by decide
  refine ⟨⟨rfl,.inr ⟨w3.heap.size,1,_,rfl,by omega,heap_alloc_new w3 _,Nat.le_refl _,(by simp only [maxLen];omega),rfl,rfl⟩⟩,fun q hq=>?_,fun q hq=>?_,fun x hx=>?_,fun i j a b ha hb jI=>?_,fun q hq=>?_,fun q hq r hr=>?_,Nat.le_refl _,by show 1<=3;omega,(G2.o.trans g3).alloc _ _⟩
  ·rw [List.mem_singleton.1 hq]
   exact ⟨(AJ.o.1.gw HH.o.kp g3).gw HH.o.kp gA,hd.gw gA,rfl⟩
  ·rw [List.mem_singleton.1 hq]
   exact ⟨by show tot _<=0;rw [t0];exact Nat.le_refl _,⟨Int.le_refl _,Int.le_refl _⟩,Int.le_refl _,by show (0:Int)<=800*0;omega⟩
  ·have gX:x=p\/x=px\/x=rb:=by simpa [jk,Pq.cb] using hx
   rcases gX with e | e | e<;>rw [e]<;>exact ⟨by omega,by omega⟩
  ·have e1:=(List.getElem?_eq_some_iff.1 ha).1
   have e2:=(List.getElem?_eq_some_iff.1 hb).1;simp at e1 e2;omega
  ·rw [List.mem_singleton.1 hq]
   exact ⟨by show p≠px;omega,by show p≠rb;omega,fun e=>ne e.symm⟩
  ·rw [List.mem_singleton.1 hq] at hr
   simp at hr
 clear g3 hd hpx ly G1 G2 G12 AJ;go_wp2_with fail;generalize w3.alloc (.cells #[.pointer (some ⟨p,0,none⟩),.pointer (some ⟨px,0,none⟩)] 32)=w4 at I0 ⊢;generalize w3.heap.size=ab0 at I0 ⊢;go_loopg [12,13,14] n (fun gg vy rG vY wr=>∃ (i nq ab ac s:Nat) (Q:List Pq),vy=.slice (some ⟨ab,0,none⟩) nq ac/\rG=.int .i64 (s:Int)/\vY=.int .i64 (i:Int)/\i<=n/\n-i<=gg/\s<=400/\ag (Q.length=nq)/\ag (aP HR w wr ab ac eps buf Q i s))
 case atStart=>exact ⟨0,1,ab0,1,0,[⟨p,px,rb,List.replicate 40 none,List.replicate 40 none,0,0⟩],rfl,rfl,rfl,Nat.zero_le _,by omega,by omega,(show ag _ from rfl),I0⟩
 case round =>
  clear I0;obtain ⟨i,nq,ab,ac,s,Q,rfl,rfl,rfl,a1,a2,lO,NQ,PP⟩:=hrel;obtain ⟨wS,aZ⟩:∃ wx,wx=wr:=⟨_,rfl⟩;subst aZ;have ws:IntKind.i64.wrap (400-(s:Int))=400-(s:Int):=by rw [IntKind.wrap_i64];omega
  by_cases ak:i<n
  ·have dG:(i:Int)<(n:Int):=by omega
   have q1:=PP.o.n1;have q3:=PP.o.n3;rw [NQ.o] at q1 q3;obtain ⟨hb,ho,rfl,aX,gI⟩:=SL.o.cells (by rw [LN.o];omega)
   obtain ⟨bo,bc,d0,d1,d2,d3,d4,del,Hq,dz,k0,k1,k2,k3,k4⟩:=gI i (by rw [LN.o];exact ak)
   clear gI;generalize hs.getD i iv=x at d0 d1 d2 d3 d4 del Hq dz k0 k1 k2 k3 k4;obtain ⟨kd,on,nm,ky,lx⟩:=x;have c0:wS.cell? ⟨hb,ho+i*5,none⟩=some (.int .i64 kd):=(PP.o.g0.cell _ _ aX).trans d0;have c1:wS.cell? ⟨hb,ho+i*5+1,none⟩=some (.int .i64 on):=(PP.o.g0.cell _ _ aX).trans d1;have c2:wS.cell? ⟨hb,ho+i*5+2,none⟩=some (.int .i64 nm):=(PP.o.g0.cell _ _ aX).trans d2;have c3:wS.cell? ⟨hb,ho+i*5+3,none⟩=some (.int .u64 ky):=(PP.o.g0.cell _ _ aX).trans d3;obtain ⟨ln,Hr⟩:∃ ln,lx.length=ln:=⟨_,rfl⟩;have LX:ag (lx.length=ln):=Hr;have c4:wS.cell? ⟨hb,ho+i*5+4,none⟩=some (.slice bo ln bc):=by rw [<-Hr];exact (PP.o.g0.cell _ _ aX).trans d4
   have EX:ag (EL w bo lx/\lx.length<=bc/\(bo=none->lx.length=0/\bc=0)):=⟨del,Hq,dz⟩;have KB:ag (mT kd/\mT on/\mT nm/\0<=ky/\ky<18446744073709551616):=⟨k0,k1,k2,k3,k4⟩;have Hs:=Rd on (n:=nq) (by omega)
   have PK:ag (∀ V,Calls prog 8 #[.int .i64 on,.int .i64 (nq:Int)] V fun e w'=>e=.returned (.int .i64 (kI on nq:Nat))/\w'=V):=fun V=>Re on nq k1.1 k1.2 (by omega) q3 V
   obtain ⟨pn,qI⟩:∃ pn,kI on nq=pn:=⟨_,rfl⟩;rw [qI] at Hs PK;obtain ⟨q,hq⟩:∃ q,Q[pn]?=some q:=⟨_,List.getElem?_eq_getElem (by rw [NQ.o];exact Hs)⟩
   have QQ:ag (Q[pn]?=some q):=hq;obtain ⟨eu,Ht⟩:∃ b,wS.heap.size=b:=⟨_,rfl⟩;have Hu:ag (wS.heap.size=eu):=Ht;have P5:ag (aP HR w (wS.alloc (.cells #[.int .i64 kd,.int .i64 on,.int .i64 nm,.int .u64 ky,.slice bo ln bc] 37)) ab ac eps buf Q i s/\(wS.alloc (.cells #[.int .i64 kd,.int .i64 on,.int .i64 nm,.int .u64 ky,.slice bo ln bc] 37)).heap[eu]?=some (.cells #[.int .i64 kd,.int .i64 on,.int .i64 nm,.int .u64 ky,.slice bo ln bc] 37 (0,0))/\Gw wS (wS.alloc (.cells #[.int .i64 kd,.int .i64 on,.int .i64 nm,.int .u64 ky,.slice bo ln bc] 37))):=⟨PP.o.gw HH.o.kp ((Gw.refl _).alloc _ _),by rw [<-Ht];exact heap_alloc_new _ _,(Gw.refl _).alloc _ _⟩
   have acQ:hb<wS.heap.size:=Nat.lt_of_lt_of_le aX PP.o.g0.size;clear d0 d1 d2 d3 d4 del Hq dz k0 k1 k2 k3 k4 Hr qI hq Ht aX;go_upto_region 16 with fail;rw [Hu.o];generalize wS.alloc (.cells #[.int .i64 kd,.int .i64 on,.int .i64 nm,.int .u64 ky,.slice bo ln bc] 37)=w5 at P5 ⊢;clear c0 c1 c2 c3 c4;have e1:w5.cell? ⟨eu,1,none⟩=some (.int .i64 on):=aD P5.o.2.1 rfl;have uh:=aE P5.o.2.1;go_wp2_with fail;refine Calls.mono (PK.o w5) ?_;rintro e w6 ⟨rfl,hw⟩;have cR:w5=w6:=hw.symm;subst cR;obtain ⟨f0,f1,fl⟩:=P5.o.1.cell QQ.o;have agC:(pn:Int)<(nq:Int):=by omega
   clear hw PK e1;obtain ⟨qp,Hv⟩:∃ x,q.p=x:=⟨_,rfl⟩;obtain ⟨qx,Hw⟩:∃ x,q.px=x:=⟨_,rfl⟩;have QP:ag (q.p=qp/\q.px=qx):=⟨Hv,Hw⟩;rw [Hv] at f0;rw [Hw] at f1;obtain ⟨fN,Hx⟩:∃ b,w5.heap.size=b:=⟨_,rfl⟩;have Hy:ag (w5.heap.size=fN):=Hx;have P6:ag (aP HR w (w5.alloc (.cells #[.pointer (some ⟨qp,0,none⟩),.pointer (some ⟨qx,0,none⟩)] 32)) ab ac eps buf Q i s/\(w5.alloc (.cells #[.pointer (some ⟨qp,0,none⟩),.pointer (some ⟨qx,0,none⟩)] 32)).heap[eu]?=some (.cells #[.int .i64 kd,.int .i64 on,.int .i64 nm,.int .u64 ky,.slice bo ln bc] 37 (0,0))/\(w5.alloc (.cells #[.pointer (some ⟨qp,0,none⟩),.pointer (some ⟨qx,0,none⟩)] 32)).heap[fN]?=some (.cells #[.pointer (some ⟨qp,0,none⟩),.pointer (some ⟨qx,0,none⟩)] 32 (0,0))/\Gw wS (w5.alloc (.cells #[.pointer (some ⟨qp,0,none⟩),.pointer (some ⟨qx,0,none⟩)] 32))):=⟨P5.o.1.gw HH.o.kp ((Gw.refl _).alloc _ _),(heap_alloc_old _ _ uh).trans P5.o.2.1,by rw [<-Hx];exact heap_alloc_new _ _,P5.o.2.2.alloc _ _⟩
   clear Hv Hw Hx;go_upto_region 18 with fail;rw [Hy.o];generalize w5.alloc (.cells #[.pointer (some ⟨qp,0,none⟩),.pointer (some ⟨qx,0,none⟩)] 32)=w6 at P6 ⊢;have G5:ag (Gw wS w5):=P5.o.2.2;clear f0 f1 fl uh P5;have e0:w6.cell? ⟨eu,0,none⟩=some (.int .i64 kd):=aD P6.o.2.1 rfl;have uh:=aE P6.o.2.1;have RD:ag (∀ V:World,V.heap[eu]?=w6.heap[eu]?->V.heap[fN]?=w6.heap[fN]?->(V.cell? ⟨eu,2,none⟩=some (.int .i64 nm)/\V.cell? ⟨eu,3,none⟩=some (.int .u64 ky)/\V.cell? ⟨eu,4,none⟩=some (.slice bo ln bc)/\eu<V.heap.size)/\V.cell? ⟨fN,0,none⟩=some (.pointer (some ⟨qp,0,none⟩))/\V.cell? ⟨fN,1,none⟩=some (.pointer (some ⟨qx,0,none⟩))/\fN<V.heap.size):=fun V h1 h2=>by
    have x:=h1.trans P6.o.2.1;have y:=h2.trans P6.o.2.2.1;exact ⟨⟨aD x rfl,aD x rfl,aD x rfl,aE x⟩,aD y rfl,aD y rfl,aE y⟩
   have KK:ag (∀ V,Gw w6 V->V.heap[eu]?=w6.heap[eu]?/\V.heap[fN]?=w6.heap[fN]?):=fun V g=>⟨g.below.block _ (aE P6.o.2.1),g.below.block _ (aE P6.o.2.2.1)⟩
   have NB:ag (eu≠ab/\fN≠ab):=⟨fun e=>by have:=(World.ownsRow.lt PP.o.own ab rfl).2;have:=Hu.o;omega,fun e=>by have:=(World.ownsRow.lt PP.o.own ab rfl).2;have:=Hy.o;have:=G5.o.size;omega⟩
   have OF:ag (mU Q ab eu/\mU Q ab fN):=⟨PP.o.off HH.o.kp (Nat.le_of_eq Hu.o),PP.o.off HH.o.kp (by have:=Hy.o;have:=G5.o.size;omega)⟩
   have II:ag (aP HR w w6 ab ac eps buf Q i s):=P6.o.1;have G6:ag (Gw wS w6):=P6.o.2.2.2;have QM:ag (q∈Q):=List.mem_of_getElem? QQ.o;clear P6 PP acQ;by_cases K1:kd=1
   rotate_left
   by_cases K2:kd=2
   rotate_left
   by_cases K3:kd=3
   rotate_left
   by_cases K4:kd=4
   rotate_left
   focus
    have t1:(kd == 1)=false:=by simpa using K1
    have t2:(kd == 2)=false:=by simpa using K2
    have t3:(kd == 3)=false:=by simpa using K3
    have t4:(kd == 4)=false:=by simpa using K4
    have PZ:ag (aP HR w w6 ab ac eps buf Q (i+1) s):=II.o.more (by omega) (Nat.le_refl _)
    have NZ:ag (Q.length=nq):=NQ;clear K1 K2 K3 K4 II QQ RD KK QM;generalize Q=QZ at PZ NZ;generalize ab=oi at PZ ⊢;generalize ac=oj at PZ ⊢;generalize s=sZ at PZ lO ⊢;generalize nq=nz at NZ q3 ⊢
   rotate_left
   focus
    subst K1;obtain ⟨⟨_,_,x4,x5⟩,_⟩:=RD.o w6 rfl rfl;by_cases iC:400-(s:Int)<(ln:Int)
    focus
     have PZ:ag (aP HR w w6 ab ac eps buf Q (i+1) s):=II.o.more (by omega) (Nat.le_refl _)
     clear II QQ RD KK QM OF;go_wp2_with fail;go_roundg (n-(i+1))
     case measure=>omega
     case rel=>exact ⟨i+1,nq,ab,ac,s,Q,rfl,rfl,by go_num,by omega,Nat.le_refl _,lO,NQ,PZ⟩
    have ui:s+ln<=400:=by omega
    have wl:IntKind.i64.wrap ((s:Int)+(ln:Int))=((s+ln:Nat):Int):=by rw [IntKind.wrap_i64];omega
    obtain ⟨ie,Tg,Th,Ti,Tj⟩:=info_parts qN;have O0:ag ((w6.alloc (.cells #[] 40)).ownsRow w6.heap.size 40 3 (.slice (some ⟨w6.heap.size,0,none⟩) 0 0) 0 []):=World.ownsRow_made w6 #[] 0 (Nat.le_refl _) (Nat.zero_le _) rfl;have NS:ag (∀ ad,bo=some ad->∀ j u,(lx.flatMap bB)[j]?=some u->(w6.alloc (.cells #[] 40)).cell? (ad.add j)=some u):=aaT (EX.o.1.gw (II.o.g0.alloc _ _));have EZ:ag (bo=none->ln=0/\bc=0):=by show _->_;rw [<-LX.o];exact EX.o.2.2
    have FN:ag ((lx.flatMap bB).length=ln*3):=by show _=_;rw [Ns,LX.o]
    go_wp2_with (at_builtin;refine sJ _ rfl _ _ 35 rfl w6.heap.size 40 ie (.agg #[.int .u64 0,.int .u64 0,.bool false]) 3 24 underlying35 Tg Th Ti Tj rfl (by decide) _ 0 [] rfl O0.o bo ln bc (lx.flatMap bB) rfl EZ.o FN.o NS.o (aaS lx) (by simp only [maxLen];omega) (by omega) (by simp) ?_)
    intro v' wA eP iI ug;have OA:ag (wA.ownsRow w6.heap.size 40 3 v' ln (lx.flatMap bB)):=by show World.ownsRow _ _ _ _ _ _ _;simpa using eP
    have GA:ag (Gw w6 wA):=((Gw.refl w6).alloc _ _).grown iI (fun j hj=>by cases hj;exact Nat.le_refl _)
    clear eP iI ug O0 NS x4 x5;go_wp2_with (at_builtin;refine wpList_append_own_at _ rfl _ _ 35 rfl w6.heap.size 40 ie (.agg #[.int .u64 0,.int .u64 0,.bool false]) 3 24 underlying35 Tg Th Ti Tj rfl (by decide) _ ln _ rfl (World.ownsRow.alloc OA.o _) ⟨wA.heap.size,0,none⟩ 1 1 [.int .u64 77,.int .u64 0,.bool false] rfl rfl (World.news_of_block (heap_alloc_new wA _)) (fun u hu=>by simp at hu;rcases hu with rfl | rfl | rfl<;>rfl) (by simp only [maxLen];omega) (by omega) (by have:=GA.o.size;simp;omega) ?_)
    intro v2 wB r1 r2 r3 r4;obtain ⟨ob,oc,rfl,vv,hoc,kA⟩:=cS r1 (by simpa using r3)
    have Tk:ag (wB.cell? ⟨ob,ln*3,none⟩=some (.int .u64 77)):=by
     have:=World.ownsRow.cellAt r1 (ln*3) (by omega)
     rw [List.getElem?_append_right (by rw [FN.o];omega),FN.o,Nat.sub_self] at this
     exact this
    obtain ⟨lm,AM⟩:∃ lm,lm=ln+1:=⟨_,rfl⟩;rw [<-AM] at r1 hoc ⊢;have GB:ag (Gw w6 wB):=(GA.o.alloc _ _).grown r2 (fun j hj=>(OA.o.lt j hj).1)
    have EB:ag (EO wB w6.heap.size (.slice (some ⟨ob,0,none⟩) lm oc) (lx++[⟨77,0,false⟩])/\w6.heap.size<=ob/\ob<wB.heap.size/\mU Q ab ob):=by
     refine ⟨?_,vv,kA,II.o.off HH.o.kp vv⟩;show World.ownsRow _ _ _ _ _ _ _;rw [List.length_append,LX.o,List.flatMap_append];show World.ownsRow _ _ _ _ _ (ln+1) _;rw [<-AM];exact r1
    have LB:ag (EL wB (some ⟨ob,0,none⟩) lx):=by
     refine EL.front (e:=⟨77,0,false⟩) (vJ (base:=w6.heap.size) (c:=oc) ?_ fun e he=>?_)
     ·rw [List.length_append,LX.o]
      show EO _ _ (.slice _ (ln+1) _) _;rw [<-AM];exact EB.o.1
     ·rcases List.mem_append.1 he with y | y
      ·exact EX.o.1.all e y
      ·rw [List.mem_singleton.1 y];exact ⟨⟨by decide,by decide⟩,by decide,by decide⟩
    have IB:ag (aP HR w wB ab ac eps buf Q i s):=II.o.gw HH.o.kp GB.o;clear r1 r2 r3 r4 OA GA EZ FN kA vv;have ocl:ln<=oc:=by omega
    have OBL:ag (w6.heap.size<=ob):=EB.o.2.1;have QC:ag (q.p∈q.cb/\q.px∈q.cb/\q.rb∈q.cb):=by show _/\_;unfold Pq.cb;simp
    have TK:ag (∀ V,Gw wB V->Calls prog 9 #[.pointer (some ⟨qp,0,none⟩),.slice (some ⟨ob,0,none⟩) ln oc] V fun e w'=>dp HR (fun w' rs B W=>au HR w' q.p rs eps buf B W) (fun x=>x=q.p) V w' e q.rs lx eps buf q.B q.W):=fun V g=>by
     have:=IB.o.pt HH.o QM.o g (LB.o.gw g) (by rw [LX.o];omega) (fun x=>by cases x) (by rw [LX.o];exact ui) (by omega)
     rw [LX.o] at this;rw [<-QP.o.1];exact this
    have HW:ag (∀ V,Gx (fun x=>x=q.p) wB V->Gx (fun x=>x=q.p) wB V/\V.cell? ⟨fN,0,none⟩=some (.pointer (some ⟨qp,0,none⟩))/\V.cell? ⟨eu,4,none⟩=some (.slice bo ln bc)):=fun V g=>by
     have k:=KK.o wB GB.o;have r:=RD.o wB k.1 k.2;have y:=RD.o V ((g.block eu r.1.2.2.2 (fun e=>OF.o.1.2.1 (by rw [e];exact dh QM.o QC.o.1))).trans k.1) ((g.block fN r.2.2.2 (fun e=>OF.o.2.2.1 (by rw [e];exact dh QM.o QC.o.1))).trans k.2)
     exact ⟨g,y.2.1,y.1.2.2.1⟩
    have NN:ag (∀ u e',dp HR (fun w' rs B W=>au HR w' q.p rs eps buf B W) (fun x=>x=q.p) (wB.drew.alloc (.cells #[.int .i64 0,.int .i64 0,.int .i64 0] 42)) u e' q.rs lx eps buf q.B q.W->u.heap[wB.heap.size]?=some (.cells #[.int .i64 0,.int .i64 0,.int .i64 0] 42 (0,0))):=fun u e' h=>(h.2.block _ (by simp) (fun x=>by have:=IB.o.lt _ (dh QM.o QC.o.1);omega)).trans (heap_alloc_new _ _)
    have BF:ag (∀ (V u U:World) (S:Nat->Prop) (e':Ending),Gw wB V->dp HR (fun w' rs B W=>au HR w' q.p rs eps buf B W) (fun x=>x=q.p) V u e' q.rs lx eps buf q.B q.W->Gx S u U->(∀ x,S x->wB.heap.size<=x/\x<V.heap.size)->dp HR (fun w' rs B W=>au HR w' q.p rs eps buf B W) (fun x=>x=q.p) wB U e' q.rs lx eps buf q.B q.W):=fun V u U S e' g h gx hS=>acr HH.o.kp g (IB.o.lt _ (dh QM.o QC.o.1)) (fun r hr x hx=>IB.o.rl HH.o.kp q QM.o r (.inl hr) x hx) h gx hS
    go_upto_region 23 with fail;go_region_held3 (fun V=>Gx (fun x=>x=q.p) wB V/\V.cell? ⟨fN,0,none⟩=some (.pointer (some ⟨qp,0,none⟩))/\V.cell? ⟨eu,4,none⟩=some (.slice bo ln bc))
     ((refine HW.o _ ?_;(repeat (first | exact Gx.refl _ _ | exact And.left (by assumption) | exact ag.o (by assumption) | refine Gx.drew ?_ | refine Gx.alloc ?_ _ _ | refine Gx.set ?_ (Or.inr (Nat.le_refl _)) _ _));done))
     ((go_at_call 9;refine (TK.o _ (by repeat (first | exact Gw.refl _ | exact ag.o (by assumption) | refine Gw.drew ?_ | refine Gw.drewN ?_ _ | refine Gw.alloc ?_ _ _))).mono ?_;intro ex u5 tk;obtain ⟨ta,tb,tc,tE,he⟩:=ab7 tk;subst he;(first | (have n4:=NN.o u5 _ tk;have N5:ag (u5.heap[wB.heap.size]?=some (.cells #[.int .i64 0,.int .i64 0,.int .i64 0] 42 (0,0))):=n4;have T5:ag (dp HR (fun w' rs B W=>au HR w' q.p rs eps buf B W) (fun x=>x=q.p) (wB.drew.alloc (.cells #[.int .i64 0,.int .i64 0,.int .i64 0] 42)) u5 (.returned (.tuple #[.agg #[.int .i64 ta,.int .i64 tb,.int .i64 tc],.int .i64 tE])) q.rs lx eps buf q.B q.W):=tk;obtain ⟨m0,m1,m2,f0,f1,f2,nl,_⟩:=mP n4;have G5:ag (Gx (fun x=>x=q.p) wB u5):=((((Gw.refl wB).drew.alloc _ _).gx _).trans tk.2 (fun x hx=>Or.inl hx));clear n4 tk) | (have T5:ag (dp HR (fun w' rs B W=>au HR w' q.p rs eps buf B W) (fun x=>x=q.p) wB.drew u5 (.returned (.tuple #[.agg #[.int .i64 ta,.int .i64 tb,.int .i64 tc],.int .i64 tE])) q.rs lx eps buf q.B q.W):=tk;have G5:ag (Gx (fun x=>x=q.p) wB u5):=((((Gw.refl wB).drew).gx _).trans tk.2 (fun x hx=>Or.inl hx));clear tk))))
    focus
     have BX:ag (dp HR (fun w' rs B W=>au HR w' q.p rs eps buf B W) (fun x=>x=q.p) wB (u5.alloc (.cells #[.int .i64 ta,.int .i64 tb,.int .i64 tc] 42)) (.returned (.tuple #[.agg #[.int .i64 ta,.int .i64 tb,.int .i64 tc],.int .i64 tE])) q.rs lx eps buf q.B q.W/\(u5.alloc (.cells #[.int .i64 ta,.int .i64 tb,.int .i64 tc] 42)).heap[u5.heap.size]?=some (.cells #[.int .i64 ta,.int .i64 tb,.int .i64 tc] 42 (0,0))/\wB.heap.size<=u5.heap.size):=⟨BF.o _ _ _ (fun _=>False) _ (Gw.refl wB).drew T5.o (((Gw.refl _).alloc _ _).gx _) (fun x hx=>hx.elim),heap_alloc_new _ _,G5.o.size⟩
     clear T5 G5 HW TK NN BF;go_upto_region 24 with fail;generalize u5.heap.size=bx at BX ⊢;generalize u5.alloc (.cells #[.int .i64 ta,.int .i64 tb,.int .i64 tc] 42)=U at BX ⊢
    rotate_left
    focus
     have BX:ag (dp HR (fun w' rs B W=>au HR w' q.p rs eps buf B W) (fun x=>x=q.p) wB (((u5.setCell ⟨wB.heap.size,0,none⟩ (.int .i64 ta)).setCell ⟨wB.heap.size,1,none⟩ (.int .i64 tb)).setCell ⟨wB.heap.size,2,none⟩ (.int .i64 tc)) (.returned (.tuple #[.agg #[.int .i64 ta,.int .i64 tb,.int .i64 tc],.int .i64 tE])) q.rs lx eps buf q.B q.W/\(((u5.setCell ⟨wB.heap.size,0,none⟩ (.int .i64 ta)).setCell ⟨wB.heap.size,1,none⟩ (.int .i64 tb)).setCell ⟨wB.heap.size,2,none⟩ (.int .i64 tc)).heap[wB.heap.size]?=some (.cells #[.int .i64 ta,.int .i64 tb,.int .i64 tc] 42 (0,0))/\wB.heap.size<=wB.heap.size):=⟨BF.o _ _ _ (fun x=>x=wB.heap.size) _ ((Gw.refl wB).drew.alloc _ _) T5.o ((((Gx.refl (fun x=>x=wB.heap.size) u5).set (.inl rfl) _ _).set (.inl rfl) _ _).set (.inl rfl) _ _) (fun x hx=>by rw [hx];exact ⟨Nat.le_refl _,by simp⟩),jP (jP (jP N5.o _) _) _,Nat.le_refl _⟩
     clear T5 G5 HW TK NN BF N5 m0 m1 m2 f0 f1 f2 nl;go_upto_region 24 with fail;obtain ⟨bx,eV⟩:∃ x,wB.heap.size=x:=⟨_,rfl⟩;rw [eV] at BX ⊢;have Hz:ag (dp HR (fun w' rs B W=>au HR w' q.p rs eps buf B W) (fun x=>x=q.p) wB (((u5.setCell ⟨bx,0,none⟩ (.int .i64 ta)).setCell ⟨bx,1,none⟩ (.int .i64 tb)).setCell ⟨bx,2,none⟩ (.int .i64 tc)) (.returned (.tuple #[.agg #[.int .i64 ta,.int .i64 tb,.int .i64 tc],.int .i64 tE])) q.rs lx eps buf q.B q.W/\(((u5.setCell ⟨bx,0,none⟩ (.int .i64 ta)).setCell ⟨bx,1,none⟩ (.int .i64 tb)).setCell ⟨bx,2,none⟩ (.int .i64 tc)).heap[bx]?=some (.cells #[.int .i64 ta,.int .i64 tb,.int .i64 tc] 42 (0,0))/\wB.heap.size<=bx):=⟨BX.o.1,BX.o.2.1,Nat.le_of_eq eV⟩
     clear BX eV;generalize (((u5.setCell ⟨bx,0,none⟩ (.int .i64 ta)).setCell ⟨bx,1,none⟩ (.int .i64 tb)).setCell ⟨bx,2,none⟩ (.int .i64 tc))=U at Hz ⊢;have BX:=Hz;clear Hz
    rotate_left
    all_goals
     have TD:ag (Calls prog 10 #[.pointer (some ⟨qx,0,none⟩),.slice bo ln bc] U fun e w'=>dp aR (fun w' rs B W=>aG w' q.px q.rb rs eps buf B W) (fun x=>x=q.px\/x=q.rb) U w' e q.ds lx eps buf q.B q.W):=by
      have:=IB.o.rt OO.o QM.o BX.o.1.2 EX.o.1 EX.o.2.1 EX.o.2.2 (by rw [LX.o];exact ui) (by omega)
      rw [LX.o] at this;rw [<-QP.o.2];exact this
     have kB:=KK.o wB GB.o;have rB:=RD.o wB kB.1 kB.2;have Tm:=fun (V:World) (g:Gx (fun x=>x∈q.cb) wB V)=>(OF.o.1.keep QM.o g rB.1.2.2.2).trans kB.1
     have Tn:=fun (V:World) (g:Gx (fun x=>x∈q.cb) wB V)=>(OF.o.2.keep QM.o g rB.2.2.2).trans kB.2
     have R5:ag (∀ V,Gx (fun x=>x∈q.cb) wB V->V.cell? ⟨eu,4,none⟩=some (.slice bo ln bc)/\V.cell? ⟨fN,1,none⟩=some (.pointer (some ⟨qx,0,none⟩))/\eu<V.heap.size/\fN<V.heap.size):=fun V g=>by
      have y:=RD.o V (Tm V g) (Tn V g);exact ⟨y.1.2.2.1,y.2.2.1,y.1.2.2.2,y.2.2.2⟩
     clear kB rB Tm Tn RD KK;obtain ⟨x4,p1,x5,p2⟩:=R5.o U (BX.o.1.2.mono (fun x hx=>.inl (by rw [hx];exact QC.o.1)))
     go_wp2_with fail;refine Calls.mono TD.o ?_
     intro e u3 td;obtain ⟨ee,q',P3,N3,O3⟩:=IB.o.take HH.o QQ.o BX.o.1 (Gw.refl _) td (by rw [LX.o];exact ui)
     subst ee;have A3:ag (aP HR w (u3.alloc (.cells #[.int .i64 ta,.int .i64 tb,.int .i64 tc] 42)) ab ac eps buf (Q.set pn q') (i+1) (s+ln)/\(Q.set pn q').length=nq/\mU (Q.set pn q') ab ob/\Gx (fun x=>x∈q.cb) wB (u3.alloc (.cells #[.int .i64 ta,.int .i64 tb,.int .i64 tc] 42))/\(u3.alloc (.cells #[.int .i64 ta,.int .i64 tb,.int .i64 tc] 42)).heap[bx]?=some (.cells #[.int .i64 ta,.int .i64 tb,.int .i64 tc] 42 (0,0))/\(u3.alloc (.cells #[.int .i64 ta,.int .i64 tb,.int .i64 tc] 42)).heap[u3.heap.size]?=some (.cells #[.int .i64 ta,.int .i64 tb,.int .i64 tc] 42 (0,0))):=by
      have b3:u3.heap[bx]?=some (.cells #[.int .i64 ta,.int .i64 tb,.int .i64 tc] 42 (0,0)):=(td.2.block bx (aE BX.o.2.1) (fun y=>by
       have h1:=IB.o.lt _ (dh QM.o QC.o.2.1);have h2:=IB.o.lt _ (dh QM.o QC.o.2.2);have h3:=BX.o.2.2;rcases y with y | y<;>omega)).trans BX.o.2.1
      refine ⟨?_,N3.trans NQ.o,O3 ob EB.o.2.2.1 EB.o.2.2.2,(acy BX.o.1.2 td.2).alloc _ _,(heap_alloc_old _ _ (aE b3)).trans b3,heap_alloc_new _ _⟩;rw [<-LX.o];exact P3.gw HH.o.kp ((Gw.refl _).alloc _ _)
     clear P3 N3 O3 td TD x4 p1 x5 p2 BX;go_upto_region 25 with fail;generalize u3.heap.size=by' at A3 ⊢
     generalize u3.alloc (.cells #[.int .i64 ta,.int .i64 tb,.int .i64 tc] 42)=U2 at A3 ⊢;obtain ⟨m0,m1,m2,_,_,_,ml,_⟩:=mP A3.o.2.2.2.2.1;obtain ⟨n0,n1,n2,_,_,_,nl,_⟩:=mP A3.o.2.2.2.2.2;obtain ⟨x4,_,x5,_⟩:=R5.o U2 A3.o.2.2.2.1;have ko:=EB.o.2.2.2.keep QM.o A3.o.2.2.2.1 EB.o.2.2.1;have ol:ob<U2.heap.size:=Nat.lt_of_lt_of_le EB.o.2.2.1 A3.o.2.2.2.1.size;have To:U2.cell? ⟨ob,ln*3,none⟩=some (.int .u64 77):=by rw [<-Tk.o];simp only [World.cell?,ko]
     have E2:ag (EO U2 w6.heap.size (.slice (some ⟨ob,0,none⟩) lm oc) (lx++[⟨77,0,false⟩])):=oR EB.o.1 fun x hx=>by
      have e:ob=x:=by simpa [Value.ownBlock] using hx
      rw [<-e];exact ko
     have SM:ag (∀ g:GX U2,Calls prog 11 #[.slice (some ⟨ob,0,none⟩) ln oc,.slice bo ln bc] g.1 fun e w'=>e=.returned (.bool true)/\Gw g.1 w'):=fun g=>by
      have:=OM (some ⟨ob,0,none⟩) bo oc bc lx (by rw [LX.o];omega) g.1 ((LB.o.keep ol ko).gw g.gw) (EX.o.1.gw ((IB.o.g0x QM.o A3.o.2.2.2.1).trans g.gw))
      rw [LX.o] at this;exact this
     have xm0:=GX.cell m0 ml;have xm1:=GX.cell m1 ml;have xm2:=GX.cell m2 ml;have xn0:=GX.cell n0 nl;have xn1:=GX.cell n1 nl;have xn2:=GX.cell n2 nl;have xx4:=GX.cell x4 x5;have x77:=GX.cell To ol;have lmn:ln<lm:=by omega
     have lmi:(ln:Int)<(lm:Int):=by omega
     have ne:=GX.some U2;clear m0 m1 m2 n0 n1 n2 ml nl x4 x5 ko To R5 Tk LB EB;refine fO (by kernel_rfl) (by kernel_rfl) ?_
     repeat (go_big_quiet_step (fail))
     go_big_quiet_want;go_big_quiet_op
     go_big_quiet_call (exact dQ (SM.o _))
     repeat (go_big_quiet_step (fail))
     refine wpQuiet_nil ?_;rintro _ ⟨gv,rfl⟩;have L0:ag (Gx (fun x=>x=ob) U2 gv.1/\∃ l,l.length=lm/\EO gv.1 w6.heap.size (.slice (some ⟨ob,0,none⟩) lm oc) l):=⟨gv.gw.gx _,_,by rw [List.length_append,LX.o];exact AM.symm,oR E2.o fun x hx=>gv.gw.below.block x (World.ownsRow.lt E2.o x hx).2⟩
     clear xm0 xm1 xm2 xn0 xn1 xn2 xx4 x77 ne SM E2;go_wp2_with fail;go_loopg [23] lm (fun gg s23 wr=>∃ j:Nat,s23=.int .i64 (j:Int)/\j<=lm/\lm-j<=gg/\ag (Gx (fun x=>x=ob) U2 wr/\∃ l,l.length=lm/\EO wr w6.heap.size (.slice (some ⟨ob,0,none⟩) lm oc) l))
     case atStart=>exact ⟨0,rfl,Nat.zero_le _,by omega,L0⟩
     case' round =>
      clear L0;obtain ⟨j,rfl,j1,j2,LL⟩:=hrel;obtain ⟨wV,HU⟩:∃ wx,wx=wr:=⟨_,rfl⟩;subst HU;by_cases dB:j<lm
      ·have qZ:(j:Int)<(lm:Int):=by omega
       obtain ⟨gL,l,hl,oL⟩:=LL.o;obtain ⟨b',eb,_,tY,fz,cc⟩:=aa' oL hl (by omega)
       cases eb
       obtain ⟨c0,c1,c2⟩:=cc j dB;have z0:=fz (j*3);have z1:=fz (j*3+1);have z2:=fz (j*3+2);have AN:ag (Gx (fun x=>x=ob) U2 (put3 wV ob (j*3) ⟨5,5,false⟩)/\∃ l,l.length=lm/\EO (put3 wV ob (j*3) ⟨5,5,false⟩) w6.heap.size (.slice (some ⟨ob,0,none⟩) lm oc) l):=⟨((gL.set (.inl rfl) _ _).set (.inl rfl) _ _).set (.inl rfl) _ _,_,by rw [List.length_set];exact hl,aa9 oL hl (by rw [hl];exact dB) _⟩
       unfold put3 at AN;clear gL oL LL hl cc fz;go_wp2_with fail;go_roundg (lm-(j+1))
       case measure=>omega
       case rel=>exact ⟨j+1,by go_num,by omega,Nat.le_refl _,AN⟩
      have ej:j=lm:=by omega
      subst ej;have PZ:ag (aP HR w wV ab ac eps buf (Q.set pn q') (i+1) (s+ln)):=A3.o.1.gx HH.o.kp LL.o.1 (by have:=II.o.g0.size;have:=OBL.o;omega) A3.o.2.2.1
      have NZ:ag ((Q.set pn q').length=nq):=A3.o.2.1;clear A3 LL II QQ QM IB GB OF;generalize Q.set pn q'=QZ at PZ NZ;generalize ab=oi at PZ ⊢;generalize ac=oj at PZ ⊢;clear lO ws wl iC;have lO:=ui;have ec:(s:Int)+(ln:Int)=((s+ln:Nat):Int):=by omega
      rw [ec];clear ec;generalize s+ln=sZ at PZ lO ⊢;generalize nq=nz at NZ q3 ⊢
   rotate_left 2
   focus
    subst K2;obtain ⟨x,y,z,t,f1,_,_⟩:=ri (nw ky q.rs);have GP:ag (∀ V,Gw w6 V->Calls prog 12 #[.pointer (some ⟨qp,0,none⟩),.int .u64 ky] V fun e w'=>e=.returned (.tuple #[.agg #[.int .u64 x,.int .u64 y,.bool z],.bool t])/\Gw V w'):=fun V g=>by
     have:=Ep HH.o ((II.o.ok q QM.o).1.gw HH.o.kp g) ky KB.o.2.2.2.1 KB.o.2.2.2.2
     rw [f1,QP.o.1] at this;exact this
    have GD:ag (∀ V,Gw w6 V->Calls prog 13 #[.pointer (some ⟨qx,0,none⟩),.int .u64 ky] V fun e w'=>e=.returned (.tuple #[.agg #[.int .u64 x,.int .u64 y,.bool z],.bool t])/\Gw V w'):=fun V g=>by
     have:=ab' ((II.o.ok q QM.o).2.1.gw g) ky
     rw [<-(II.o.ok q QM.o).2.2.nw ky,f1,QP.o.2] at this;exact this
    obtain ⟨⟨_,x3,_,_⟩,p0,_,p2⟩:=RD.o w6 rfl rfl;clear f1 K1;go_wp2_with fail;refine Calls.mono (GP.o w6 (Gw.refl _)) ?_;rintro e w7 ⟨rfl,g7⟩;have A7:ag (Gw w6 (w7.alloc (.cells #[.int .u64 x,.int .u64 y,.bool z] 40))/\(w7.alloc (.cells #[.int .u64 x,.int .u64 y,.bool z] 40)).heap[w7.heap.size]?=some (.cells #[.int .u64 x,.int .u64 y,.bool z] 40 (0,0))):=⟨g7.alloc _ _,heap_alloc_new _ _⟩;clear e0 uh x3 p0 p2 g7 GP;go_upto_region 33 with fail;generalize w7.heap.size=b24 at A7 ⊢;generalize w7.alloc (.cells #[.int .u64 x,.int .u64 y,.bool z] 40)=w8 at A7 ⊢;obtain ⟨⟨_,x3,_,x4⟩,_,p1,p2⟩:=RD.o w8 (KK.o _ A7.o.1).1 (KK.o _ A7.o.1).2;go_wp2_with fail;refine Calls.mono (GD.o w8 A7.o.1) ?_;rintro e w9 ⟨rfl,g9⟩;have A9:ag (Gw w6 (w9.alloc (.cells #[.int .u64 x,.int .u64 y,.bool z] 40))/\(w9.alloc (.cells #[.int .u64 x,.int .u64 y,.bool z] 40)).heap[b24]?=some (.cells #[.int .u64 x,.int .u64 y,.bool z] 40 (0,0))/\(w9.alloc (.cells #[.int .u64 x,.int .u64 y,.bool z] 40)).heap[w9.heap.size]?=some (.cells #[.int .u64 x,.int .u64 y,.bool z] 40 (0,0))):=⟨(A7.o.1.trans g9).alloc _ _,(((Gw.refl w9).alloc _ _).below.block _ (Nat.lt_of_lt_of_le (aE A7.o.2) g9.size)).trans ((g9.below.block _ (aE A7.o.2)).trans A7.o.2),heap_alloc_new _ _⟩;clear x3 x4 p1 p2 g9 GD A7;go_upto_region 34 with fail;generalize w9.heap.size=b26 at A9 ⊢;generalize w9.alloc (.cells #[.int .u64 x,.int .u64 y,.bool z] 40)=wA at A9 ⊢;obtain ⟨m0,m1,m2,_,_,_,m3,_⟩:=lG A9.o.2.1;obtain ⟨n0,n1,n2,_,_,_,n3,_⟩:=lG A9.o.2.2;have PZ:ag (aP HR w wA ab ac eps buf Q (i+1) s):=(II.o.gw HH.o.kp A9.o.1).more (by omega) (Nat.le_refl _)
    have NZ:ag (Q.length=nq):=NQ;clear A9 II QQ RD KK QM;generalize Q=QZ at PZ NZ;generalize ab=oi at PZ ⊢;generalize ac=oj at PZ ⊢;generalize s=sZ at PZ lO ⊢;generalize nq=nz at NZ q3 ⊢
   rotate_left
   focus
    subst K3;have CP:ag (Calls prog 14 #[.pointer (some ⟨qp,0,none⟩)] w6 fun e w'=>(∃ p',e=.returned (.pointer (some ⟨p',0,none⟩))/\w6.heap.size<=p'/\au HR w' p' q.rs eps buf q.B q.W)/\Gw w6 w'):=by
     have:=abx HH.o (II.o.ok q QM.o).1
     rw [QP.o.1] at this;exact this
    have CD:ag (∀ V,Gw w6 V->Calls prog 15 #[.pointer (some ⟨qx,0,none⟩)] V fun e w'=>(∃ p' b',e=.returned (.pointer (some ⟨p',0,none⟩))/\V.heap.size<=p'/\V.heap.size<=b'/\aG w' p' b' q.ds eps buf q.B q.W)/\Gw V w'):=fun V g=>by
     have:=acg ((II.o.ok q QM.o).2.1.gw g)
     rw [QP.o.2] at this;exact this
    obtain ⟨_,p0,_,p2⟩:=RD.o w6 rfl rfl;clear K1 K2;go_wp2_with fail;refine Calls.mono CP.o ?_;rintro e w7 ⟨⟨p',rfl,qB,gY⟩,g7⟩;have C7:ag (w6.heap.size<=p'/\au HR w7 p' q.rs eps buf q.B q.W/\Gw w6 w7):=⟨qB,gY,g7⟩;clear e0 uh p0 p2 qB gY CP;obtain ⟨_,_,p1,p2⟩:=RD.o w7 (KK.o _ g7).1 (KK.o _ g7).2;clear g7;go_wp2_with fail;refine Calls.mono (CD.o w7 C7.o.2.2) ?_;rintro e w8 ⟨⟨bO,b',rfl,gX,cY,mq⟩,g8⟩;have N9:ag (kK HR w6 (w8.alloc (.cells #[.pointer (some ⟨p',0,none⟩),.pointer (some ⟨bO,0,none⟩)] 32)) eps buf Q i s ⟨p',bO,b',q.rs,q.ds,q.B,q.W⟩/\Gw w6 (w8.alloc (.cells #[.pointer (some ⟨p',0,none⟩),.pointer (some ⟨bO,0,none⟩)] 32))/\(w8.alloc (.cells #[.pointer (some ⟨p',0,none⟩),.pointer (some ⟨bO,0,none⟩)] 32)).heap[w8.heap.size]?=some (.cells #[.pointer (some ⟨p',0,none⟩),.pointer (some ⟨bO,0,none⟩)] 32 (0,0))/\w6.heap.size<=w8.heap.size):=⟨(II.o.like HH.o.kp QQ.o (Gw.refl _) C7.o.2.1 C7.o.1 g8 mq gX cY (II.o.few q QM.o).2).gw HH.o.kp ((Gw.refl _).alloc _ _),(C7.o.2.2.trans g8).alloc _ _,heap_alloc_new _ _,(C7.o.2.2.trans g8).size⟩;clear p1 p2 gX cY mq g8 CD C7;go_upto_region 41 with fail;generalize w8.heap.size=pP at N9 ⊢;generalize w8.alloc (.cells #[.pointer (some ⟨p',0,none⟩),.pointer (some ⟨bO,0,none⟩)] 32)=w9 at N9 ⊢;have m0:w9.cell? ⟨pP,0,none⟩=some (.pointer (some ⟨p',0,none⟩)):=aD N9.o.2.2.1 rfl;have m1:w9.cell? ⟨pP,1,none⟩=some (.pointer (some ⟨bO,0,none⟩)):=aD N9.o.2.2.1 rfl;have m2:=aE N9.o.2.2.1;by_cases c3:nq<3
    focus
     have c3':(nq:Int)<3:=by omega
     have OW:ag (w9.ownsRow w.heap.size 32 2 (.slice (some ⟨ab,0,none⟩) nq ac) nq (Q.flatMap lN)):=by
      have:=(II.o.gw HH.o.kp N9.o.2.1).own
      rw [NQ.o] at this;exact this
     go_wp2_with (at_builtin;refine wpList_append_own_at _ rfl _ _ 33 rfl w.heap.size 32 ip (.agg #[.pointer none,.pointer none]) 2 16 underlying33 ip1 ip2 ip3 ip4 rfl (by decide) _ nq _ rfl (OW.o.alloc _) ⟨w9.heap.size,0,none⟩ 1 1 [.pointer (some ⟨p',0,none⟩),.pointer (some ⟨bO,0,none⟩)] rfl rfl (World.news_of_block (heap_alloc_new w9 _)) (fun u hu=>by simp at hu;rcases hu with rfl | rfl<;>rfl) (by simp only [maxLen];omega) (by omega) (by have:=OW.o.lt ab rfl;simp;omega) ?_)
     intro v8 wA r1 r2 r3 r4;obtain ⟨b8,c8,rfl,_,_,_⟩:=cS r1 (by simpa using r3)
     have o8:b8=ab\/w9.heap.size<=b8:=by
      rcases r4 with q | q
      ·have q':b8=ab:=by simpa [Value.ownBlock] using q
       exact .inl q'
      ·have q':b8=w9.heap.size+1:=by simpa [Value.ownBlock] using q
       exact .inr (by omega)
     have PZ:ag (aP HR w wA b8 c8 eps buf (Q++[⟨p',bO,b',q.rs,q.ds,q.B,q.W⟩]) (i+1) s):=(II.o.add HH.o.kp N9.o.2.1 (by rw [NQ.o];exact c3) N9.o.1 (by rw [NQ.o];exact r1) r2 o8).more (by omega) (Nat.le_refl _)
     have NZ:ag ((Q++[Pq.mk p' bO b' q.rs q.ds q.B q.W]).length=nq+1):=by show _=_;rw [List.length_append,NQ.o];rfl
     clear r1 r2 r3 r4 o8 m0 m1 m2 OW N9 II QQ RD KK QM q1 q3;generalize Q++[Pq.mk p' bO b' q.rs q.ds q.B q.W]=QZ at PZ NZ;generalize b8=oi at PZ ⊢;generalize c8=oj at PZ ⊢;generalize s=sZ at PZ lO ⊢;generalize nq+1=nz at NZ ⊢
    rotate_left
    focus
     have N3:ag (nq=3):=by show nq=3;omega
     have c3':¬ (nq:Int)<3:=by omega
     have dB:=Rd nm (n:=3) (by omega)
     have Ia:ag (∀ V,Calls prog 8 #[.int .i64 nm,.int .i64 3] V fun e w'=>e=.returned (.int .i64 (kI nm 3:Nat))/\w'=V):=fun V=>Re nm 3 KB.o.2.2.1.1 KB.o.2.2.1.2 (by omega) (by omega) V
     have F9:=(II.o.gw HH.o.kp N9.o.2.1).fz;have I9:ag (∀ j,j<3->aP HR w ((w9.setCell ⟨ab,j*2,none⟩ (.pointer (some ⟨p',0,none⟩))).setCell ⟨ab,j*2+1,none⟩ (.pointer (some ⟨bO,0,none⟩))) ab ac eps buf (Q.set j ⟨p',bO,b',q.rs,q.ds,q.B,q.W⟩) (i+1) s):=fun j hj=>(II.o.put HH.o.kp N9.o.2.1 (by rw [NQ.o,N3.o];exact hj) N9.o.1).more (by omega) (Nat.le_refl _)
     obtain ⟨qj,Tp⟩:∃ x,Q[kI nm 3]?=some x:=⟨_,List.getElem?_eq_getElem (by rw [NQ.o,N3.o];exact dB)⟩
     obtain ⟨z0,z1,z2⟩:=(II.o.gw HH.o.kp N9.o.2.1).cell Tp;clear Tp;generalize kI nm 3=j at dB Ia z0 z1;have qZ:(j:Int)<(nq:Int):=by have:=N3.o;omega
     have j0:(0:Int)<=(j:Int):=by omega
     have Tq:eu≠ab/\pP≠ab:=⟨NB.o.1,fun e=>by have:=(World.ownsRow.lt II.o.own ab rfl).2;have:=N9.o.2.2.2;omega⟩
     have vm:ag (fN<w9.heap.size/\fN≠ab):=⟨(RD.o w9 (KK.o _ N9.o.2.1).1 (KK.o _ N9.o.2.1).2).2.2.2,NB.o.2⟩;obtain ⟨⟨x2,_,_,x3⟩,_⟩:=RD.o w9 (KK.o _ N9.o.2.1).1 (KK.o _ N9.o.2.1).2;have HW:ag (∀ V,Gx (fun x=>x=ab) w9 V->Gx (fun x=>x=ab) w9 V/\V.cell? ⟨eu,2,none⟩=some (.int .i64 nm)/\V.cell? ⟨pP,0,none⟩=some (.pointer (some ⟨p',0,none⟩))/\V.cell? ⟨pP,1,none⟩=some (.pointer (some ⟨bO,0,none⟩))):=fun V g=>by
      have y5:=(g.block eu x3 Tq.1).trans (KK.o _ N9.o.2.1).1;have y9:=(g.block pP m2 Tq.2).trans N9.o.2.2.1;exact ⟨g,(RD.o V y5 ((g.block fN vm.o.1 vm.o.2).trans (KK.o _ N9.o.2.1).2)).1.1,aD y9 rfl,aD y9 rfl⟩
     have KP:ag (∀ (V:World) (o o':Nat) (v v':Value),Gx (fun x=>x=ab) w9 V->Gx (fun x=>x=ab) w9 ((V.setCell ⟨ab,o,none⟩ v).setCell ⟨ab,o',none⟩ v')):=fun V o o' v v' g=>(g.set (.inl rfl) _ _).set (.inl rfl) _ _
     have G9:ag (Gx (fun x=>x=ab) w9 w9):=Gx.refl _ _
     go_upto_region 43 with fail;clear x2 m0 m1
     go_region_held3 (fun V=>Gx (fun x=>x=ab) w9 V/\V.cell? ⟨eu,2,none⟩=some (.int .i64 nm)/\V.cell? ⟨pP,0,none⟩=some (.pointer (some ⟨p',0,none⟩))/\V.cell? ⟨pP,1,none⟩=some (.pointer (some ⟨bO,0,none⟩)))
      ((refine HW.o _ ?_;(repeat (first | refine Gx.drew ?_ | refine KP.o _ _ _ _ _ ?_ | exact ag.o (by assumption) | exact And.left (by assumption)));done))
      ((first | (go_at_call 8;refine (Ia.o _).mono ?_;rintro ex u ⟨rfl,rfl⟩)))
     have PZ:ag (aP HR w ((w9.setCell ⟨ab,j*2,none⟩ (.pointer (some ⟨p',0,none⟩))).setCell ⟨ab,j*2+1,none⟩ (.pointer (some ⟨bO,0,none⟩))).drew ab ac eps buf (Q.set j ⟨p',bO,b',q.rs,q.ds,q.B,q.W⟩) (i+1) s):=(I9.o j dB).gw HH.o.kp (Gw.refl _).drew;have NZ:ag ((Q.set j ⟨p',bO,b',q.rs,q.ds,q.B,q.W⟩).length=nq):=by show _=_;rw [List.length_set,NQ.o]
     clear HW KP G9 F9 I9 z0 z1 z2 x3 vm N9 II QQ RD KK QM Ia;generalize Q.set j (Pq.mk p' bO b' q.rs q.ds q.B q.W)=QZ at PZ NZ;generalize World.drew _=wZ at PZ ⊢;generalize ab=oi at PZ ⊢;generalize ac=oj at PZ ⊢;generalize s=sZ at PZ lO ⊢;generalize nq=nz at NZ q3 ⊢
   rotate_left 2
   focus
    subst K4;have RP:ag (Calls prog 16 #[.pointer (some ⟨qp,0,none⟩)] w6 fun e w'=>(∃ (t b c:Nat),e=.returned (.slice (some ⟨b,0,none⟩) t c)/\dq q.rs t/\RO w' w6.heap.size (.slice (some ⟨b,0,none⟩) t c) (q.rs.take t))/\Gw w6 w'):=by
     have:=OT (II.o.ok q QM.o).1
     rw [QP.o.1] at this;exact this
    obtain ⟨_,p0,_,p2⟩:=RD.o w6 rfl rfl;clear K1 K2 K3;go_wp2_with fail;refine Calls.mono RP.o ?_;rintro e w7 ⟨⟨t,lb,lc,rfl,tp,ro⟩,g7⟩;have rK:=(II.o.ok q QM.o).1.len;have t40:t<=40:=by have:=tp.le;omega
    have uj:(q.rs.take t).length=t:=by rw [List.length_take];omega
    have Ib:w7.ownsRow w6.heap.size 57 1 (.slice (some ⟨lb,0,none⟩) t lc) t ((q.rs.take t).map ptr):=by have:=ro;unfold RO at this;rw [uj] at this;exact this
    have cap:t<=lc/\w6.heap.size<=lb/\lb<w7.heap.size:=by
     obtain ⟨x,y,e,h1,h2,h3⟩:=cS Ib (by simp)
     cases e
     exact ⟨h2,h1,h3⟩
    have Tr:ag (Calls prog 17 #[.int .i64 eps,.int .i64 buf,.slice (some ⟨lb,0,none⟩) t lc] w7 fun e w'=>kH (fun w' p rs=>au HR w' p rs eps buf 0 0) w7 w' e eps buf (q.rs.take t)/\Gw w7 w'):=by
     have:=abU HH.o eps buf (some ⟨lb,0,none⟩) lc (q.rs.take t) (by rw [uj];omega) (by rw [uj];exact cap.1) (fun x=>by cases x) w7 (RO.pr (HR:=HR) (c:=lc) (by rw [uj];exact ro) (fun r hr=>((II.o.ok q QM.o).1.runs r (List.mem_of_mem_take hr)).1.gw HH.o.kp g7))
     rw [uj] at this;exact this
    have R7:ag (w7.ownsRow w6.heap.size 57 1 (.slice (some ⟨lb,0,none⟩) t lc) t ((q.rs.take t).map ptr)/\dq q.rs t/\Gw w6 w7/\w6.heap.size<=lb/\lb<w7.heap.size/\q.rs.length=40):=⟨Ib,tp,g7,cap.2.1,cap.2.2,rK⟩;clear e0 uh p0 p2 g7 ro Ib tp uj cap RP rK;go_wp2_with fail;refine Calls.mono Tr.o ?_;rintro e w8 ⟨⟨E,Ts,x1⟩,g8⟩;obtain ⟨od,he,Tt⟩:∃ od:Option Addr,e=.returned (.tuple #[.pointer od,.int .i64 E])/\((E≠0/\od=none)\/(E=0/\∃ p',od=some ⟨p',0,none⟩/\w7.heap.size<=p'/\au HR w8 p' q.rs eps buf 0 0)):=by
     rcases x1 with ⟨e0,h⟩ | ⟨e0,p',h,hp,hc⟩
     ·exact ⟨none,h,.inl ⟨e0,rfl⟩⟩
     ·subst e0
      exact ⟨_,h,.inr ⟨rfl,p',rfl,hp,by rw [QA R7.o.2.2.2.2.2 R7.o.2.1] at hc;exact hc⟩⟩
    subst he;have O8:ag (kG eps buf q.rs E/\Gw w6 w8/\Gw w7 w8/\((E≠0/\od=none)\/(E=0/\∃ p',od=some ⟨p',0,none⟩/\w7.heap.size<=p'/\au HR w8 p' q.rs eps buf 0 0))):=⟨kG.top R7.o.2.2.2.2.2 R7.o.2.1 Ts,R7.o.2.2.1.trans g8,g8,Tt⟩;clear Ts x1 g8 Tt Tr;have hd:=(II.o.ok q QM.o).2.1.gw O8.o.2.1;obtain ⟨qc,qE,AO⟩:=hd.c2;have ql:=hd.plt;have Ic:ag (Calls prog 18 #[.int .i64 eps,.int .i64 buf,.slice (some ⟨q.rb,0,none⟩) 40 qc] w8 fun e w'=>kH (fun w' p rs=>∃ b,aG w' p b rs eps buf 0 0/\w8.heap.size<=b) w8 w' e eps buf q.ds/\Gw w8 w'):=by
     have:=acJ eps buf (some ⟨q.rb,0,none⟩) qc q.ds (by rw [hd.len];omega) w8 ⟨fun _=>⟨q.rb,0,rfl,hd.blt,fun i hi=>by rw [Nat.zero_add];exact hd.cell (by rw [hd.len] at hi;exact hi)⟩,fun r hr=>(hd.runs r hr).1⟩
     rw [hd.len] at this;exact this
    have d40:ag (q.ds.length=40):=hd.len;clear hd;rw [QP.o.2] at AO ql;generalize q.rb=qrb at Ic AO;obtain ⟨_,_,p1,p2⟩:=RD.o w8 (KK.o _ O8.o.2.1).1 (KK.o _ O8.o.2.1).2;go_wp2_with fail;refine Calls.mono Ic.o ?_;rintro e w9 ⟨⟨E',Tu,x2⟩,g9⟩;obtain rfl:E=E':=((II.o.ok q QM.o).2.2.of O8.o.1).one Tu;obtain ⟨oy,he,Tv⟩:∃ oy:Option Addr,e=.returned (.tuple #[.pointer oy,.int .i64 E])/\((E≠0/\oy=none)\/(E=0/\∃ bO b',oy=some ⟨bO,0,none⟩/\w8.heap.size<=bO/\w8.heap.size<=b'/\aG w9 bO b' q.ds eps buf 0 0)):=by
     rcases x2 with ⟨e0,h⟩ | ⟨e0,p',h,hp,b',mq,cY⟩
     ·exact ⟨none,h,.inl ⟨e0,rfl⟩⟩
     ·subst e0
      exact ⟨_,h,.inr ⟨rfl,p',b',rfl,hp,cY,by rw [acM d40.o] at mq;exact mq⟩⟩
    subst he;have O9:ag (Gw w8 w9/\((E≠0/\oy=none)\/(E=0/\∃ bO b',oy=some ⟨bO,0,none⟩/\w8.heap.size<=bO/\w8.heap.size<=b'/\aG w9 bO b' q.ds eps buf 0 0))):=⟨g9,Tv⟩;clear Tu x2 g9 Tv Ic qE AO ql p1 p2 d40;go_wp2_with fail;have L0:ag (Gx (fun x=>x=lb) w9 w9/\∃ xs,w9.ownsRow w6.heap.size 57 1 (.slice (some ⟨lb,0,none⟩) t lc) t xs):=⟨Gx.refl _ _,_,oR R7.o.1 fun x hx=>(O8.o.2.2.1.trans O9.o.1).below.block x (World.ownsRow.lt R7.o.1 x hx).2⟩
    go_loopg [35] t (fun gg s35 wr=>∃ j:Nat,s35=.int .i64 (j:Int)/\j<=t/\t-j<=gg/\ag (Gx (fun x=>x=lb) w9 wr/\∃ xs,wr.ownsRow w6.heap.size 57 1 (.slice (some ⟨lb,0,none⟩) t lc) t xs))
    case atStart=>exact ⟨0,rfl,Nat.zero_le _,by omega,L0⟩
    case' round =>
     clear L0;obtain ⟨j,rfl,j1,j2,LL⟩:=hrel;obtain ⟨wV,HU⟩:∃ wx,wx=wr:=⟨_,rfl⟩;subst HU;by_cases dB:j<t
     ·have qZ:(j:Int)<(t:Int):=by omega
      obtain ⟨gL,xs,oL⟩:=LL.o;obtain ⟨⟨v0,c0⟩,c1,c2⟩:=acN oL dB;have AN:ag (Gx (fun x=>x=lb) w9 (wV.setCell ⟨lb,j,none⟩ (.pointer none))/\∃ xs,(wV.setCell ⟨lb,j,none⟩ (.pointer none)).ownsRow w6.heap.size 57 1 (.slice (some ⟨lb,0,none⟩) t lc) t xs):=⟨gL.set (.inl rfl) _ _,_,(oL.stored j (.pointer none)).1⟩
      clear gL oL LL;go_wp2_with fail;go_roundg (t-(j+1))
      case measure=>omega
      case rel=>exact ⟨j+1,by go_num,by omega,Nat.le_refl _,AN⟩
     have ej:j=t:=by omega
     subst ej;have gV:Gw w6 wV:=Gx.gw (O8.o.2.1.trans O9.o.1) LL.o.1 (fun x hx=>by rw [hx];exact R7.o.2.2.2.1)
     rcases O8.o.2.2.2 with ⟨z,rfl⟩ | ⟨z,p',rfl,qB,gY⟩
     rotate_left
     focus
      subst z;rcases O9.o.2 with ⟨y,_⟩ | ⟨_,bO,b',rfl,gX,cY,mq⟩
      ·exact absurd rfl y
      have NY:kK HR w6 wV eps buf Q i s ⟨p',bO,b',q.rs,q.ds,0,0⟩:=(II.o.like HH.o.kp QQ.o R7.o.2.2.1 gY qB O9.o.1 mq gX cY ⟨⟨by omega,by omega⟩,by omega,by omega⟩).gx HH.o.kp II.o LL.o.1 R7.o.2.2.2.1 (fun e=>by
       have e':lb=p'\/lb=bO\/lb=b':=by simpa [Pq.cb] using e
       have h1:=R7.o.2.2.2.2.1;have h2:=O8.o.2.2.1.size;omega)
      have PZ:ag (aP HR w ((wV.setCell ⟨ab,pn*2,none⟩ (.pointer (some ⟨p',0,none⟩))).setCell ⟨ab,pn*2+1,none⟩ (.pointer (some ⟨bO,0,none⟩))) ab ac eps buf (Q.set pn ⟨p',bO,b',q.rs,q.ds,0,0⟩) (i+1) s):=(II.o.put HH.o.kp gV (by rw [NQ.o];exact Hs) NY).more (by omega) (Nat.le_refl _)
      have NZ:ag ((Q.set pn ⟨p',bO,b',q.rs,q.ds,0,0⟩).length=nq):=by show _=_;rw [List.length_set,NQ.o]
      obtain ⟨z0,z1,z2⟩:=(II.o.gw HH.o.kp gV).cell QQ.o;have z3:=(II.o.gw HH.o.kp gV).fz;clear NY gY qB gX cY mq gV O8 O9 R7 LL II QQ RD KK QM;go_upto_region 55 with fail;go_wp2_with fail;generalize (wV.setCell ⟨ab,pn*2,none⟩ (.pointer (some ⟨p',0,none⟩))).setCell ⟨ab,pn*2+1,none⟩ (.pointer (some ⟨bO,0,none⟩))=wZ at PZ ⊢;clear z0 z1 z2 z3;generalize Q.set pn (Pq.mk p' bO b' q.rs q.ds 0 0)=QZ at PZ NZ;generalize ab=oi at PZ ⊢;generalize ac=oj at PZ ⊢;generalize s=sZ at PZ lO ⊢;generalize nq=nz at NZ q3 ⊢
     rotate_left
     focus
      rcases O9.o.2 with ⟨_,rfl⟩ | ⟨y,_⟩
      rotate_left
      ·exact absurd y z
      have PZ:ag (aP HR w wV ab ac eps buf Q (i+1) s):=(II.o.gw HH.o.kp gV).more (by omega) (Nat.le_refl _)
      have NZ:ag (Q.length=nq):=NQ;clear z gV O8 O9 R7 LL II QQ RD KK QM;generalize Q=QZ at PZ NZ;generalize ab=oi at PZ ⊢;generalize ac=oj at PZ ⊢;generalize s=sZ at PZ lO ⊢;generalize nq=nz at NZ q3 ⊢
   rotate_left 2
   all_goals as_aux_lemma =>
    have nq3:=PZ.o.n3;rw [NZ.o] at nq3;go_wp2_with fail;go_loopg [36] nz (fun gg s36 wr=>∃ j:Nat,s36=.int .i64 (j:Int)/\j<=nz/\nz-j<=gg/\ag (aP HR w wr oi oj eps buf QZ (i+1) sZ))
    case atStart=>exact ⟨0,rfl,Nat.zero_le _,by omega,PZ⟩
    case round =>
     clear PZ;obtain ⟨j,rfl,j1,j2,PZ⟩:=hrel;obtain ⟨wT,vL⟩:∃ wx,wx=wr:=⟨_,rfl⟩;subst vL;by_cases dB:j<nz
     ·have qZ:(j:Int)<(nz:Int):=by omega
      obtain ⟨q,hq⟩:∃ q,QZ[j]?=some q:=⟨_,List.getElem?_eq_getElem (by rw [NZ.o];exact dB)⟩
      have hm:=List.mem_of_getElem? hq;obtain ⟨o1,o2,o3⟩:=PZ.o.ok q hm;obtain ⟨d0,d1,dl⟩:=PZ.o.cell hq;have AK:ag (∀ g:GX wT,Calls prog 19 #[.pointer (some ⟨q.p,0,none⟩),.pointer (some ⟨q.px,0,none⟩)] g.1 fun e w'=>e=.returned (.bool true)/\Gw g.1 w'):=fun g=>ack HH.o (o1.gw HH.o.kp g.gw) (o2.gw g.gw) o3
      generalize q.p=qp at d0 AK;generalize q.px=qx at d1 AK;have x0:=GX.cell d0 dl;have x1:=GX.cell d1 dl;have ne:=GX.some wT;clear o1 o2 o3 hq hm d0 d1;go_upto_region 59 with fail;refine fO (by kernel_rfl) (by kernel_rfl) ?_
      repeat (go_big_quiet_step (fail))
      go_big_quiet_want;go_big_quiet_op
      go_big_quiet_call (exact dQ (AK.o _))
      repeat (go_big_quiet_step (fail))
      refine wpQuiet_nil ?_;rintro _ ⟨gv,rfl⟩;have PZ':ag (aP HR w gv.1 oi oj eps buf QZ (i+1) sZ):=PZ.o.gw HH.o.kp gv.gw;clear x0 x1 ne AK PZ;go_wp2_with fail;go_roundg (nz-(j+1))
      case measure=>omega
      case rel=>exact ⟨j+1,by go_num,by omega,Nat.le_refl _,PZ'⟩
     ·have ej:j=nz:=by omega
      subst ej;go_wp2_with fail;go_roundg (n-(i+1))
      case measure=>omega
      case rel=>exact ⟨i+1,j,oi,oj,sZ,QZ,rfl,rfl,by go_num,by omega,Nat.le_refl _,lO,NZ,PZ⟩
  ·have ei:i=n:=by omega
   subst ei;go_wp2_with fail;go_ret;exact ⟨rfl,PP.o.g0⟩
end Go.Proofs.YtklkpldicbkjeaaGreat
