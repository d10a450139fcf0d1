/- ClassesLittle: the walk. -/
import Derived.Deep.CutBlock
import Derived.Deep.DeepCutAuto
import Derived.Test.YtepcddmkfdlcjaaGreatLUInv
import Derived.Test.YtepcddmkfdlcjaaGreatLULaw
import Derived.Test.YtepcddmkfdlcjaaGreatLUShown
namespace Go.Proofs.YtepcddmkfdlcjaaGreat
open Go.RowKit
set_option linter.unusedVariables false
theorem eqO_same (o:Option Rn):eqO o o:=by
 cases o with
 | none=>exact .inl ⟨rfl,rfl⟩
 | some r=>exact .inr ⟨r,r,rfl,rfl,rfl⟩
theorem top_same {rs rs':List (Option Rn)} {t t':Nat} (tp:TopR rs t) (tp':TopR rs' t') (j:Int) (e:∀ i:Nat,j<(i:Int)→rs.getD i none=rs'.getD i none) (i:Nat) (hi:j<(i:Int)) (h:i<t∨i<t'):i<t∧i<t':=by
 have key:∀ {a b:List (Option Rn)} {x y:Nat},TopR a x→TopR b y→(∀ i:Nat,j<(i:Int)→a.getD i none=b.getD i none)→i<x→i<y:=fun {a b x y} ha hb he hx=>by
  refine Nat.lt_of_not_le fun q=>?_
  rcases ha.is with z | ⟨r,z⟩
  ·omega
  ·rw [he (x-1) (by omega),hb.no (x-1) (by omega)] at z
   cases z
 rcases h with h | h
 ·exact ⟨h,key tp tp' e h⟩
 ·exact ⟨key tp' tp (fun i hi=>(e i hi).symm) h,h⟩
theorem take_get {rs:List (Option Rn)} {t i:Nat} (h:i<t):(rs.take t).getD i none=rs.getD i none:=by
 rw [List.getD_eq_getElem?_getD,List.getD_eq_getElem?_getD,List.getElem?_take,if_pos h]
theorem little15 {HR:HRt} (H:RunC HR) {w:World} {p:Nat} {rs:List (Option Rn)} {eps buf B W:Int} {t:Nat} (h:HCl HR w p rs eps buf B W) (inv:HInv eps buf rs t) (ht:t≤199) (ao:Option Addr) (c:Nat) (l:List Ent) (hl:EL w ao l) (hc:l.length≤c) (hz:ao=none→l.length=0∧c=0) (hs:l.length+tot rs≤2000000) (hB:0≤B∧B<4611686018427387904) (hW:0≤W∧W<4611686018427387904) :
  Calls Tryz.prog 13 #[.pointer (some ⟨p,0,none⟩), .slice ao l.length c] w fun e w'=>(
   (∃ er:Int,e=.returned (.tuple #[.agg #[.int .i64 0, .int .i64 0, .int .i64 0], .int .i64 er])∧(er != 0)=true∧HCl HR w' p rs eps buf B W) ∨
   (∃ (kl:Nat) (rs':List (Option Rn)) (B':Int),e=.returned (.tuple #[.agg #[.int .i64 (free rs:Int), .int .i64 ((buf+(tot (rs.take (free rs)):Nat):Int)), .int .i64 (kl:Int)], .int .i64 0])∧HCl HR w' p rs' eps buf B' (W+kl)∧B'=B+(if 0<kl then 1 else 0)∧HInv eps buf rs' (t+1)∧tot rs'≤tot rs+l.length∧(kl:Int)≤buf+(tot (rs.take (free rs)):Nat)∧buf+(tot (rs.take (free rs)):Nat)≤buf*2^free rs∧free rs<8∧(∀ i,i<free rs→rs'.getD i none=none)∧sizeO (rs'.getD (free rs) none)=kl∧(∀ i,free rs<i→rs.getD i none=rs'.getD i none)∧kl≤2000000))∧Gx (fun q=>q=p) w w' :=
 (take15 H h ao c l hl hc hz hs hB hW).mono fun e w' ⟨⟨r0,cr,x⟩,g⟩=>by
  refine ⟨?_,g⟩
  rcases x with ⟨_,he,h1,_⟩ | ⟨_,_,he,h1,_⟩ | ⟨_,hb,o,kept,rn,tr,he,ld,h1⟩
  ·exact .inl ⟨150,he,rfl,h1⟩
  ·exact .inl ⟨151,he,rfl,h1⟩
  ·obtain ⟨f1,f2,f3⟩:=inv.free (by omega)
   have tk:=inv.took (by omega) h.b0 hb
   have few:=tr.few.1
   have tt:=tot_take rs (freeC rs+1)
   have ft:=tr.few.1
   unfold took at ft
   refine .inr ⟨kept.length,laid rs rn,B+one15 kept,?_,h1,?_,inv.step (by omega) h.b0 hb tr ld,laid_tot tr ld,by have:=tk.1;omega,by have:=tk.1;have:=tk.2;omega,f1,fun i hi=>?_,?_,fun i hi=>?_,by omega⟩
   ·rw [he]
    unfold builtV
    rw [f2,tk.1,show ((l.length+tot (rs.take (free rs)):Nat):Int)=buf+(tot (rs.take (free rs)):Nat) by omega]
   ·unfold one15
    by_cases q:kept=[]
    ·rw [if_pos q,q];rfl
    ·rw [if_neg q,if_pos (List.length_pos_iff.2 q)]
   ·rw [laid_get inv.len,f2,if_pos hi]
   ·rw [laid_get inv.len,f2,if_neg (Nat.lt_irrefl _),if_pos rfl]
    rcases ld with ⟨a,b⟩ | ⟨_,r,b,_,b2,_⟩
    ·rw [b,a];rfl
    ·rw [b,←b2];rfl
   ·rw [laid_get inv.len,f2,if_neg (by omega),if_neg (by omega)]
set_option maxRecDepth 20000 in
set_option maxHeartbeats 16000000 in
theorem little_walk {HR:HRt} (H:RunC HR) (eps:Int) (ao:Option Addr) (c:Nat) (L:List (List Ent)) (hN:sizes L≤2000000) (w:World) (h:EV w ao L) :
  Calls Tryz.prog 7 #[.int .i64 eps, .slice ao L.length c] w fun e w'=>e=.returned (.bool true)∧Gw w w':=by
 have SH:Hid (Calls Tryz.prog 9 #[] w fun e w'=>e=.returned (.bool true)∧Gw w w'):=shown15 H w
 have HE:Aside (EV w ao L):=h
 have HH:Aside (RunC HR):=H
 have HS:Aside (sizes L≤2000000):=hN
 obtain ⟨n,hn⟩:∃ n,L.length=n:=⟨_,rfl⟩
 have LN:Aside (L.length=n):=hn
 rw [hn]
 clear h H hN hn
 go_enter Tryz.func7,Tryz.ntmps7
 go_wp2_with fail
 refine Calls.mono SH.out ?_
 rintro e w1 ⟨rfl,g1⟩
 have G1:Aside (Gw w w1):=g1
 clear g1 SH
 by_cases n0:n=0
 ·subst n0
  go_wp2_with fail
  go_ret
  exact ⟨rfl,G1.out⟩
 by_cases n100:100<n
 ·have n100':(100:Int)<(n:Int):=by omega
  go_wp2_with fail
  go_ret
  exact ⟨rfl,G1.out⟩
 have n100':decide ((100:Int)<(n:Int))=false:=by simp;omega
 have n0b:((n:Int) == 0)=false:=by simp;omega
 have n0':0<n:=by omega
 have n0'':(0:Int)<(n:Int):=by omega
 obtain ⟨lb,lf,rfl,hlb,hlc⟩:=HE.out.cells (by rw [LN.out];omega)
 have CEL:Hid (∀ W,Gw w W→∀ i,i<n→∃ bo cc,W.cell? ⟨lb,lf+i,none⟩=some (.slice bo (L.getD i []).length cc)∧lb<W.heap.size∧(L.getD i []).length≤cc∧EL W bo (L.getD i [])∧(bo=none→(L.getD i []).length=0∧cc=0)):=fun W gg i hi=>by
  obtain ⟨bo,cc,q1,q2,q3,q4⟩:=hlc i (by rw [LN.out];exact hi)
  exact ⟨bo,cc,(gg.cell _ _ hlb).trans q1,Nat.lt_of_lt_of_le hlb gg.size,q2,q3.gw gg,q4⟩
 obtain ⟨bo0,cc0,p1,p2,_,_,_⟩:=CEL.out w1 G1.out 0 n0'
 have m1:(L.getD 0 []).length≤2000000:=Nat.le_trans (rows_le (by rw [LN.out];omega)) HS.out
 obtain ⟨m0,hm0⟩:∃ m,(L.getD 0 []).length=m:=⟨_,rfl⟩
 rw [hm0] at p1 m1
 rw [Nat.add_zero] at p1
 have NW:Hid (Calls Tryz.prog 10 #[.int .i64 eps, .int .i64 (m0:Int)] w1 fun e w'=>((¬ NewOk eps (m0:Int)∧e=.returned (.tuple #[.pointer none, .int .i64 1]))∨(NewOk eps (m0:Int)∧∃ p,e=.returned (.tuple #[.pointer (some ⟨p,0,none⟩), .int .i64 0])∧w1.heap.size≤p∧HCl HR w' p (List.replicate 40 none) eps (m0:Int) 0 0))∧Gw w1 w'):=new15 eps (m0:Int) w1
 clear hlc hm0 hlb
 go_wp2_with fail
 refine Calls.mono NW.out ?_
 rintro e w2 ⟨x,g2⟩
 have G2:Aside (Gw w w2):=G1.out.trans g2
 rcases x with ⟨nok,rfl⟩ | ⟨nok,p,rfl,hp,hcl⟩
 ·have cs:eps<2∨(¬ eps<2∧64<eps)∨(¬ eps<2∧¬ 64<eps∧m0=0):=by unfold NewOk at nok;omega
  clear nok g2 NW p1 p2
  rcases cs with a | ⟨a,b⟩ | ⟨a,b,rfl⟩
  ·have t1:decide (eps<2)=true:=by simpa using a
   clear a
   go_wp2_with fail
   go_ret
   exact ⟨rfl,G2.out⟩
  ·have t1:decide (eps<2)=false:=by simpa using a
   have t2:decide (64<eps)=true:=by simpa using b
   clear a b
   go_wp2_with fail
   go_ret
   exact ⟨rfl,G2.out⟩
  ·have t1:decide (eps<2)=false:=by simpa using a
   have t2:decide (64<eps)=false:=by simpa using b
   clear a b
   go_wp2_with fail
   go_ret
   exact ⟨rfl,G2.out⟩
 have PW:Aside (w.heap.size≤p):=Nat.le_trans G1.out.size hp
 have HC0:Aside (HCl HR w2 p (List.replicate 40 none) eps (m0:Int) 0 0):=hcl
 have NOK:Aside (NewOk eps (m0:Int)):=nok
 have GWX:Hid (∀ a b,Gw w a→Gx (fun q=>q=p) a b→Gw w b):=fun a b g gx=>Gx.gw g gx (fun q hq=>by rw [hq];exact PW.out)
 clear nok g2 NW hcl hp p1 p2
 go_wp2_with fail
 go_loopg [9] n (fun gg s9 wr=>∃ (i:Nat) (rs:List (Option Rn)) (B W:Int),s9=.int .i64 (i:Int)∧i≤n∧n-i≤gg∧Aside (HCl HR wr p rs eps (m0:Int) B W)∧Aside (HInv eps (m0:Int) rs i∧tot rs≤sizes (L.take i))∧Aside ((0≤B∧B≤i)∧0≤W∧W≤2000000*i)∧Aside (Gw w wr))
 case atStart=>exact ⟨0,_,0,0,rfl,Nat.zero_le _,by omega,HC0,(show Aside _ from ⟨HInv.none _ _,Nat.zero_le _⟩),(show Aside _ from ⟨⟨by omega,by omega⟩,by omega,by omega⟩),G2⟩
 case round =>
  clear HC0 G2
  obtain ⟨i,rs,B,W,rfl,a1,a2,HC,INV,BW,G⟩:=hrel
  obtain ⟨wS,hwS⟩:∃ wx,wx=wr:=⟨_,rfl⟩
  subst hwS
  by_cases hlt:i<n
  ·have hlt':(i:Int)<(n:Int):=by omega
   have RU:Hid (Calls Tryz.prog 20 #[.pointer (some ⟨p,0,none⟩)] wS fun e w'=>(∃ (t b c:Nat),e=.returned (.slice (some ⟨b,0,none⟩) t c)∧TopR rs t∧RO w' wS.heap.size (.slice (some ⟨b,0,none⟩) t c) (rs.take t))∧Gw wS w'):=runs15 HC.out
   go_wp2_with fail
   refine Calls.mono RU.out ?_
   rintro e w3 ⟨⟨t,rb,rc,rfl,tp,ro⟩,g3⟩
   have t40:t≤40:=by have:=tp.le;have:=HC.out.len;omega
   have TL:(rs.take t).length=t:=by rw [List.length_take,HC.out.len];omega
   have HC3:Aside (HCl HR w3 p rs eps (m0:Int) B W):=HC.out.gw HH.out.kp g3
   have TP:Aside (TopR rs t):=tp
   have G3:Aside (Gw w w3):=G.out.trans g3
   have GS3:Aside (Gw wS w3):=g3
   have ROA:Aside (RO w3 wS.heap.size (.slice (some ⟨rb,0,none⟩) t rc) (rs.take t)):=ro
   have TLA:Aside ((rs.take t).length=t):=TL
   have RBP:Aside (rb≠p∧rb<w3.heap.size):=⟨by have:=(World.ownsRow.lt ro rb rfl).1;have:=HC.out.lt;omega,(World.ownsRow.lt ro rb rfl).2⟩
   have B1:Hid (Calls Tryz.prog 30 #[.pointer (some ⟨p,0,none⟩)] w3 fun e w'=>e=.returned (.int .i64 B)∧w'=w3):=builds15 HC3.out
   have W1:Hid (Calls Tryz.prog 31 #[.pointer (some ⟨p,0,none⟩)] w3 fun e w'=>e=.returned (.int .i64 W)∧w'=w3):=written15 HC3.out
   clear tp ro g3 RU TL
   go_wp2_with fail
   refine Calls.mono B1.out ?_
   rintro e w4 ⟨rfl,hw⟩
   have hw':w3=w4:=hw.symm
   subst hw'
   go_wp2_with fail
   refine Calls.mono W1.out ?_
   rintro e w4 ⟨rfl,hw⟩
   have hw':w3=w4:=hw.symm
   subst hw'
   obtain ⟨bo,cc,q1,q2,q3,q4,q5⟩:=CEL.out w3 G3.out i hlt
   obtain ⟨s1,s2⟩:=sizes_take15 (L:=L) (i:=i) (by rw [LN.out];exact hlt)
   have TS:Aside (tot rs+(L.getD i []).length≤sizes (L.take (i+1))∧sizes (L.take (i+1))≤2000000):=⟨by have:=INV.out.2;omega,Nat.le_trans s2 HS.out⟩
   have ST:=little15 HH.out HC3.out INV.out.1 (by omega) bo cc (L.getD i []) q4 q3 q5 (by have:=TS.out;omega) (by have:=BW.out;omega) (by have:=BW.out;omega)
   obtain ⟨li,hli⟩:∃ m,(L.getD i []).length=m:=⟨_,rfl⟩
   rw [hli] at q1 ST TS
   have STH:Hid (Calls Tryz.prog 13 #[.pointer (some ⟨p,0,none⟩), .slice bo li cc] w3 fun e w'=>(
    (∃ er:Int,e=.returned (.tuple #[.agg #[.int .i64 0, .int .i64 0, .int .i64 0], .int .i64 er])∧(er != 0)=true∧HCl HR w' p rs eps (m0:Int) B W) ∨
    (∃ (kl:Nat) (rs':List (Option Rn)) (B':Int),e=.returned (.tuple #[.agg #[.int .i64 (free rs:Int), .int .i64 (((m0:Int)+(tot (rs.take (free rs)):Nat):Int)), .int .i64 (kl:Int)], .int .i64 0])∧HCl HR w' p rs' eps (m0:Int) B' (W+kl)∧B'=B+(if 0<kl then 1 else 0)∧HInv eps (m0:Int) rs' (i+1)∧tot rs'≤tot rs+li∧(kl:Int)≤(m0:Int)+(tot (rs.take (free rs)):Nat)∧(m0:Int)+(tot (rs.take (free rs)):Nat)≤(m0:Int)*2^free rs∧free rs<8∧(∀ i,i<free rs→rs'.getD i none=none)∧sizeO (rs'.getD (free rs) none)=kl∧(∀ i,free rs<i→rs.getD i none=rs'.getD i none)∧kl≤2000000))∧Gx (fun q=>q=p) w3 w'):=ST
   clear q3 q4 q5 s1 s2 hli ST hw B1 W1
   go_wp2_with fail
   refine Calls.mono STH.out ?_
   rintro e u1 ⟨x,gx⟩
   have G5:Aside (Gw w u1):=GWX.out _ _ G3.out gx
   have ROU:Aside (RO u1 wS.heap.size (.slice (some ⟨rb,0,none⟩) t rc) (rs.take t)):=⟨ROA.out.1,by
    rcases ROA.out.2 with q | ⟨b,cap,cur,q,hb,hh,r⟩
    ·exact .inl q
    ·refine .inr ⟨b,cap,cur,q,hb,(gx.block b (blkl hh) (fun e=>?_)).trans hh,r⟩
     injection q with q1
     injection q1 with q1
     injection q1 with q1
     exact RBP.out.1 (q1.trans e)⟩
   have OLD:Aside (∀ r,some r∈rs→RA HR u1 r):=fun r hr=>(HC3.out.runs r hr).1.gx HH.out.kp gx (fun q hq=>by rw [hq];exact (HC3.out.runs r hr).2)
   have PRU:Aside (PR HR u1 (some ⟨rb,0,none⟩) (rs.take t)):=RO.pr (c:=rc) (by rw [TLA.out];exact ROU.out) (fun r hr=>OLD.out r (List.mem_of_mem_take hr))
   clear gx STH q1 q2
   rcases x with ⟨er,rfl,her,hc1⟩ | ⟨kl,rs',B',rfl,hc1,hB',inv',tot',k1,k2,k3,k4,k5,k6,k7⟩
   ·
    obtain ⟨wT,hwT⟩:∃ wT,u1.alloc (.cells #[.int .i64 0, .int .i64 0, .int .i64 0] 42)=wT:=⟨_,rfl⟩
    have GT:Aside (Gw u1 wT):=by rw [←hwT];exact (Gw.refl u1).alloc _ _
    have EWT:Hid (u1.alloc (.cells #[.int .i64 0, .int .i64 0, .int .i64 0] 42)=wT):=hwT
    have HCT:Aside (HCl HR wT p rs eps (m0:Int) B W):=hc1.gw HH.out.kp GT.out
    have B2:Hid (Calls Tryz.prog 30 #[.pointer (some ⟨p,0,none⟩)] wT fun e w'=>e=.returned (.int .i64 B)∧w'=wT):=builds15 HCT.out
    have W2:Hid (Calls Tryz.prog 31 #[.pointer (some ⟨p,0,none⟩)] wT fun e w'=>e=.returned (.int .i64 W)∧w'=wT):=written15 HCT.out
    have RU2:Hid (Calls Tryz.prog 20 #[.pointer (some ⟨p,0,none⟩)] wT fun e w'=>(∃ (t b c:Nat),e=.returned (.slice (some ⟨b,0,none⟩) t c)∧TopR rs t∧RO w' wT.heap.size (.slice (some ⟨b,0,none⟩) t c) (rs.take t))∧Gw wT w'):=runs15 HCT.out
    clear hwT hc1
    go_upto_region 17 with fail
    rw [EWT.out]
    clear EWT
    go_wp2_with fail
    refine Calls.mono B2.out ?_
    rintro e z1 ⟨rfl,hw⟩
    have hw':wT=z1:=hw.symm
    subst hw'
    go_wp2_with fail
    refine Calls.mono W2.out ?_
    rintro e z1 ⟨rfl,hw⟩
    have hw':wT=z1:=hw.symm
    subst hw'
    go_wp2_with fail
    refine Calls.mono RU2.out ?_
    rintro e w6 ⟨⟨t',rb',rc',rfl,tp',ro'⟩,g6⟩
    have et:=tp'.one TP.out
    subst et
    have HC6:Aside (HCl HR w6 p rs eps (m0:Int) B W):=HCT.out.gw HH.out.kp g6
    have G6:Aside (Gw u1 w6):=GT.out.trans g6
    have AB:Hid (Calls Tryz.prog 32 #[.slice (some ⟨rb,0,none⟩) t' rc, .slice (some ⟨rb',0,none⟩) t' rc', .int .i64 (-1)] w6 fun e w'=>e=.returned (.bool true)∧Gw w6 w'):=by
     have:=aboveL15 HH.out (some ⟨rb,0,none⟩) (some ⟨rb',0,none⟩) rc rc' (rs.take t') (rs.take t') (-1) (by omega) (by omega) (by rw [TLA.out];exact t40) (by rw [TLA.out];exact t40) w6 (PRU.out.gw HH.out.kp G6.out) (RO.pr (c:=rc') (by rw [TLA.out];exact ro') (fun r hr=>(HC6.out.runs r (List.mem_of_mem_take hr)).1)) (fun i _ hi=>⟨by omega,by omega,eqO_same _⟩)
     rw [TLA.out] at this
     exact this
    clear tp' ro' g6 RU2 HCT B2 W2
    go_wp2_with fail
    refine Calls.mono AB.out ?_
    rintro e w7 ⟨rfl,g7⟩
    have HCN:Aside (HCl HR w7 p rs eps (m0:Int) B W):=HC6.out.gw HH.out.kp g7
    have GN:Aside (Gw w w7):=G5.out.trans (G6.out.trans g7)
    have INVN:Aside (HInv eps (m0:Int) rs (i+1)∧tot rs≤sizes (L.take (i+1))):=⟨INV.out.1.mono (Nat.le_succ _),by have:=TS.out;omega⟩
    have BWN:Aside ((0≤B∧B≤((i+1:Nat):Int))∧0≤W∧W≤2000000*((i+1:Nat):Int)):=by have:=BW.out;exact ⟨⟨by omega,by omega⟩,by omega,by omega⟩
    clear g7 AB HC6 G6
    go_wp2_with fail
    go_roundg (n-(i+1))
    case measure=>omega
    case rel=>exact ⟨i+1,rs,B,W,by go_num,by omega,Nat.le_refl _,HCN,INVN,BWN,GN⟩
   ·
    obtain ⟨fr,hfr⟩:∃ f,free rs=f:=⟨_,rfl⟩
    have FR:Aside (free rs=fr):=hfr
    obtain ⟨tk,htk⟩:∃ x,tot (rs.take (free rs))=x:=⟨_,rfl⟩
    have TKA:Aside (tot (rs.take fr)=tk):=by rw [←hfr];exact htk
    rw [htk] at k1 k2 ⊢
    rw [hfr] at k2 k3 k4 k5 k6 ⊢
    have HC1:Aside (HCl HR u1 p rs' eps (m0:Int) B' (W+kl)):=hc1
    have INV':Aside (HInv eps (m0:Int) rs' (i+1)∧tot rs'≤sizes (L.take (i+1))):=⟨inv',by have:=TS.out;omega⟩
    have K4:Aside ((∀ i,i<fr→rs'.getD i none=none)∧sizeO (rs'.getD fr none)=kl∧∀ i,fr<i→rs.getD i none=rs'.getD i none):=⟨k4,k5,k6⟩
    have tkb:tk≤2000000:=by
     have:=tot_take rs fr
     have:=TKA.out
     have:=TS.out
     omega
    have BWN:Aside ((0≤B'∧B'≤((i+1:Nat):Int))∧0≤W+kl∧W+kl≤2000000*((i+1:Nat):Int)):=by
     have:=BW.out
     have:0≤(if 0<kl then (1:Int) else 0)∧(if 0<kl then (1:Int) else 0)≤1:=by split<;>omega
     exact ⟨⟨by omega,by omega⟩,by omega,by omega⟩
    have HB':Aside (B'=B+(if 0<kl then 1 else 0)):=hB'
    have BWV:Aside ((0≤B∧B≤1000)∧0≤W∧W≤2000000000):=by have:=BW.out;exact ⟨⟨by omega,by omega⟩,by omega,by omega⟩
    have TR:Aside (fr≤t∧(∀ i,i<fr→∃ r,rs.getD i none=some r)∧(fr<t→rs.getD fr none=none)):=by
     have f3:=(INV.out.1.free (by omega)).2.2
     rw [hfr] at f3
     have f4:rs.getD fr none=none:=by rw [List.getD_eq_getElem?_getD,f3];rfl
     have f5:∀ i,i<fr→∃ r,rs.getD i none=some r:=fun i hi=>by
      obtain ⟨r,hr⟩:=free_lt (rs:=rs) (j:=i) (by rw [hfr];exact hi)
      exact ⟨r,by rw [List.getD_eq_getElem?_getD,hr];rfl⟩
     refine ⟨Nat.le_of_not_lt fun q=>?_,f5,fun _=>f4⟩
     obtain ⟨r,hr⟩:=f5 t q
     rw [TP.out.no t (Nat.le_refl _)] at hr
     cases hr
    clear hfr htk hc1 inv' tot' k4 k5 k6 hB'
    obtain ⟨bx,hbx⟩:∃ b,u1.heap.size=b:=⟨_,rfl⟩
    obtain ⟨wT,hwT⟩:∃ wT,u1.alloc (.cells #[.int .i64 (fr:Int), .int .i64 ((m0:Int)+(tk:Int)), .int .i64 (kl:Int)] 42)=wT:=⟨_,rfl⟩
    have GT:Aside (Gw u1 wT):=by rw [←hwT];exact (Gw.refl u1).alloc _ _
    have EWT:Hid (u1.alloc (.cells #[.int .i64 (fr:Int), .int .i64 ((m0:Int)+(tk:Int)), .int .i64 (kl:Int)] 42)=wT):=hwT
    have BXQ:Hid (u1.heap.size=bx):=hbx
    have BXT:Aside (wT.heap[bx]?=some (.cells #[.int .i64 (fr:Int), .int .i64 ((m0:Int)+(tk:Int)), .int .i64 (kl:Int)] 42 (0,0))):=by rw [←hwT,←hbx];exact heap_alloc_new _ _
    have HCT:Aside (HCl HR wT p rs' eps (m0:Int) B' (W+kl)):=HC1.out.gw HH.out.kp GT.out
    have PRT:Aside (PR HR wT (some ⟨rb,0,none⟩) (rs.take t)):=PRU.out.gw HH.out.kp GT.out
    have GWT:Aside (Gw w wT):=G5.out.trans GT.out
    have CLK:Hid (∀ W,Gw wT W→∀ k,k<t→W.cell? ⟨rb,k,none⟩=some (ptr (rs.getD k none))∧rb<W.heap.size):=fun W gg k hk=>by
     obtain ⟨b,off,e,hb,hcc⟩:=PRT.out.cells (by rw [TLA.out];omega)
     cases e
     have:=hcc k (by rw [TLA.out];exact hk)
     rw [Nat.zero_add] at this
     exact ⟨by rw [gg.cell _ _ hb,this,take_get hk],Nat.lt_of_lt_of_le hb gg.size⟩
    have OLT:Hid (∀ W,Gw wT W→∀ r,some r∈rs→RA HR W r):=fun W gg r hr=>(OLD.out r hr).gw HH.out.kp (GT.out.trans gg)
    clear hwT hbx GT HC1 OLD PRU ROU
    go_upto_region 17 with fail
    rw [EWT.out,BXQ.out]
    clear EWT BXQ
    go_upto_block 2 with fail
    go_cut [15,16] from 102 to 121 (fun s15 s16 wc=>s15=.int .i64 (fr:Int)∧s16=.int .i64 ((m0:Int)+(tk:Int))∧Aside (Gw wT wc))
    case first=>as_aux_lemma =>
     go_wp2_with fail
     go_loopg [15,16] (fr+1) (fun gg s15 s16 wr=>∃ (k x:Nat),s15=.int .i64 (k:Int)∧s16=.int .i64 ((m0:Int)+(x:Int))∧k≤fr∧fr+1-k≤gg∧x≤tk∧Aside (tot (rs.take k)=x)∧Aside (Gw wT wr))
     case atStart=>exact ⟨0,0,rfl,by go_num,Nat.zero_le _,by omega,Nat.zero_le _,(show Aside _ from rfl),(show Aside _ from Gw.refl wT)⟩
     case round=>as_aux_lemma =>
      obtain ⟨k,x,rfl,rfl,y1,y2,y3,TX,GK⟩:=hrel
      obtain ⟨wK,hwK⟩:∃ wx,wx=wr:=⟨_,rfl⟩
      subst hwK
      by_cases klt:k<fr
      ·obtain ⟨r,hr⟩:=TR.out.2.1 k klt
       have kt:k<t:=Nat.lt_of_lt_of_le klt TR.out.1
       have kt':(k:Int)<(t:Int):=by omega
       obtain ⟨ck,rbl⟩:=CLK.out wK GK.out k kt
       rw [hr] at ck
       have ck':wK.cell? ⟨rb,k,none⟩=some (.pointer (some ⟨r.p,0,none⟩)):=ck
       have kl40:k<rs.length:=by rw [HC.out.len];omega
       have RR:=OLT.out wK GK.out r (mem_rs kl40 hr)
       have LE:Hid (Calls Tryz.prog 33 #[.pointer (some ⟨r.p,0,none⟩)] wK fun e w'=>e=.returned (.int .i64 (r.l.length:Int))∧Gw wK w'):=HH.out.len RR.h
       have TX':tot (rs.take (k+1))=x+r.l.length:=by
        rw [take_rs kl40,tot_app,TX.out,hr,tot_some]
        rfl
       have xb:x+r.l.length≤tk:=by
        have h1:=tot_take (rs.take fr) (k+1)
        rw [List.take_take,Nat.min_eq_left (by omega)] at h1
        have h2:=TKA.out
        omega
       generalize r.p=rp at ck' LE
       obtain ⟨rn,hrn⟩:∃ m,r.l.length=m:=⟨_,rfl⟩
       rw [hrn] at LE TX' xb
       have TXA:Aside (tot (rs.take (k+1))=x+rn):=TX'
       have wx:IntKind.i64.wrap ((m0:Int)+(x:Int)+(rn:Int))=(m0:Int)+((x+rn:Nat):Int):=by rw [IntKind.wrap_i64];omega
       clear ck RR TX TX' hr hrn kl40
       go_wp2_with fail
       refine Calls.mono LE.out ?_
       rintro e u2 ⟨rfl,gg⟩
       have G2':Aside (Gw wT u2):=GK.out.trans gg
       clear gg LE
       go_wp2_with fail
       go_roundg (fr+1-(k+1))
       case measure=>omega
       case rel=>exact ⟨k+1,x+rn,by go_num,by first | rfl | go_num,by omega,Nat.le_refl _,xb,TXA,G2'⟩
      ·have ek:k=fr:=by omega
       subst ek
       have ex:x=tk:=by rw [←TX.out,TKA.out]
       subst ex
       by_cases kt:k<t
       ·have kt':(k:Int)<(t:Int):=by omega
        obtain ⟨ck,rbl⟩:=CLK.out wK GK.out k kt
        rw [TR.out.2.2 kt] at ck
        have ck':wK.cell? ⟨rb,k,none⟩=some (.pointer none):=ck
        clear ck
        go_wp2_with fail
        go_meet
        case rel=>exact ⟨rfl,rfl,GK⟩
       ·have kt':¬ (k:Int)<(t:Int):=by omega
        go_wp2_with fail
        go_meet
        case rel=>exact ⟨rfl,rfl,GK⟩
    case rest=>as_aux_lemma =>
     obtain ⟨rfl,rfl,GC⟩:=hcut
     obtain ⟨wC,hwC⟩:∃ wx,wx=wc:=⟨_,rfl⟩
     subst hwC
     have BXC:Aside (wC.heap[bx]?=some (.cells #[.int .i64 (fr:Int), .int .i64 ((m0:Int)+(tk:Int)), .int .i64 (kl:Int)] 42 (0,0))):=(GC.out.below.block bx (blkl BXT.out)).trans BXT.out
     have HCC:Aside (HCl HR wC p rs' eps (m0:Int) B' (W+kl)):=HCT.out.gw HH.out.kp GC.out
     obtain ⟨M,hM⟩:∃ M,mostV (m0:Int) (fr:Int)=M:=⟨_,rfl⟩
     have nk:=NOK.out
     unfold NewOk at nk
     have ML:(m0:Int)+(tk:Int)≤M:=by
      rw [←hM]
      unfold mostV
      rw [if_pos ⟨nk.2,by omega,by omega⟩]
      simp only [Int.toNat_natCast]
      omega
     have MO:Hid (∀ g:GX wC,Calls Tryz.prog 26 #[.int .i64 (m0:Int), .int .i64 (fr:Int)] g.1 fun e w'=>e=.returned (.int .i64 M)∧Gw g.1 w'):=fun g=>(most15 (m0:Int) (fr:Int) g.1).mono fun e w' ⟨a,b⟩=>⟨by rw [a,hM],by rw [b];exact Gw.refl _⟩
     clear hM nk
     go_upto_region 25 with fail
     have ne:=GX.some wC
     have bxc:=blkl BXC.out
     have x0:=GX.cell (blkc BXC.out (show (#[Value.int .i64 (fr:Int), .int .i64 ((m0:Int)+(tk:Int)), .int .i64 (kl:Int)])[0]?=some (.int .i64 (fr:Int)) from rfl)) bxc
     have x1:=GX.cell (blkc BXC.out (show (#[Value.int .i64 (fr:Int), .int .i64 ((m0:Int)+(tk:Int)), .int .i64 (kl:Int)])[1]?=some (.int .i64 ((m0:Int)+(tk:Int))) from rfl)) bxc
     have x2:=GX.cell (blkc BXC.out (show (#[Value.int .i64 (fr:Int), .int .i64 ((m0:Int)+(tk:Int)), .int .i64 (kl:Int)])[2]?=some (.int .i64 (kl:Int)) from rfl)) bxc
     have d1:decide (M<(m0:Int)+(tk:Int))=false:=by simp;omega
     have d2:decide ((kl:Int)<0)=false:=by simp
     have d3:decide ((m0:Int)+(tk:Int)<(kl:Int))=false:=by simp;omega
     have b1:((fr:Int) != (fr:Int))=false:=by simp
     have b2:((m0:Int)+(tk:Int) != (m0:Int)+(tk:Int))=false:=by simp
     refine wp_region_growx (by kernel_rfl) (by kernel_rfl) ?_
     repeat (go_big_quiet_step (fail))
     go_big_quiet_want
     go_big_quiet_op
     go_big_quiet_call (exact growx_of (MO.out _))
     repeat (go_big_quiet_step (fail))
     refine wpQuiet_nil ?_
     rintro _ ⟨gw,rfl⟩
     have GD:Aside (Gw wT gw.1):=GC.out.trans gw.gw
     clear x0 x1 x2 d1 d2 d3 b1 b2 ne MO ML bxc
     have HCD:Aside (HCl HR gw.1 p rs' eps (m0:Int) B' (W+kl)):=HCC.out.gw HH.out.kp gw.gw
     have SZ:Hid (Calls Tryz.prog 34 #[.pointer (some ⟨p,0,none⟩)] gw.1 fun e w'=>(∃ (t b:Nat),e=.returned (.slice (some ⟨b,0,none⟩) t t)∧TopR rs' t∧w'.rowIs b 3 t (fun i=>.int .i64 (sizeO (rs'.getD i none):Int))∧gw.1.heap.size≤b)∧Gw gw.1 w'):=sizes15 HH.out HCD.out
     obtain ⟨wD,hwD⟩:∃ wD,gw.1=wD:=⟨_,rfl⟩
     rw [hwD] at GD HCD SZ ⊢
     clear hwD BXC HCC GC
     go_wp2_with fail
     refine Calls.mono SZ.out ?_
     rintro e wE ⟨⟨t',sb,rfl,tp',row,hsb⟩,gE⟩
     have GE:Aside (Gw wT wE):=GD.out.trans gE
     have TP':Aside (TopR rs' t'):=tp'
     have t'40:t'≤40:=by have:=tp'.le;have:=HCT.out.len;omega
     have ROW:Aside (wE.rowIs sb 3 t' (fun i=>.int .i64 (sizeO (rs'.getD i none):Int))):=row
     clear tp' row hsb gE SZ GD HCD
     go_upto_block 4 with fail
     go_cut [18] from 154 to 169 (fun s18 wc=>wc=wE)
     case first=>as_aux_lemma =>
      go_wp2_with fail
      go_loopg [18] 41 (fun gg s18 wr=>∃ k:Nat,s18=.int .i64 (k:Int)∧k≤40∧k≤t'∧41-k≤gg∧wr=wE)
      case atStart=>exact ⟨0,rfl,by omega,Nat.zero_le _,by omega,rfl⟩
      case round=>as_aux_lemma =>
       obtain ⟨k,rfl,y1,y0,y2,hw⟩:=hrel
       subst hw
       by_cases kt:k<t'
       ·have kt':(k:Int)<(t':Int):=by omega
        by_cases kf:k<fr
        ·have kf':(k:Int)<(fr:Int):=by omega
         have ck:=ROW.out.cell (i:=k) kt
         rw [K4.out.1 k kf] at ck
         have ck':wr.cell? ⟨sb,k,none⟩=some (.int .i64 0):=ck
         have sbl:=ROW.out.lt
         clear ck
         go_wp2_with fail
         go_roundg (41-(k+1))
         case measure=>omega
         case rel=>exact ⟨k+1,by go_num,by omega,by omega,Nat.le_refl _,rfl⟩
        ·have kf':¬ (k:Int)<(fr:Int):=by omega
         go_wp2_with fail
         go_meet
         case rel=>exact rfl
       ·have kt':¬ (k:Int)<(t':Int):=by omega
        go_wp2_with fail
        go_meet
        case rel=>exact rfl
     case rest=>as_aux_lemma =>
      have hc':wE=wc:=hcut.symm
      clear hcut
      subst hc'
      have HCE:Aside (HCl HR wE p rs' eps (m0:Int) B' (W+kl)):=HCT.out.gw HH.out.kp GE.out
      have GWE:Aside (Gw w wE):=GWT.out.trans GE.out
      have BXE:Hid (wE.heap[bx]?=some (.cells #[.int .i64 (fr:Int), .int .i64 ((m0:Int)+(tk:Int)), .int .i64 (kl:Int)] 42 (0,0))):=(GE.out.below.block bx (blkl BXT.out)).trans BXT.out
      have bxl:=blkl BXE.out
      have e2:wE.cell? ⟨bx,2,none⟩=some (.int .i64 (kl:Int)):=blkc BXE.out rfl
      have sbl:=ROW.out.lt
      have TL':(rs'.take t').length=t':=by rw [List.length_take,HCE.out.len];omega
      have WR:Hid (∀ W',Gw wE W'→Calls Tryz.prog 31 #[.pointer (some ⟨p,0,none⟩)] W' fun e w'=>e=.returned (.int .i64 (W+kl))∧w'=W'):=fun W' gg=>written15 (HCE.out.gw HH.out.kp gg)
      have RN:Hid (∀ W',Gw wE W'→Calls Tryz.prog 20 #[.pointer (some ⟨p,0,none⟩)] W' fun e w'=>(∃ b c,e=.returned (.slice (some ⟨b,0,none⟩) t' c)∧PR HR w' (some ⟨b,0,none⟩) (rs'.take t'))∧Gw W' w'):=fun W' gg=>(runs15 (HCE.out.gw HH.out.kp gg)).mono fun e w' ⟨⟨t2,b,c,he,tp2,ro⟩,g⟩=>by
       have et:=tp2.one TP'.out
       subst et
       exact ⟨⟨b,c,he,RO.pr (c:=c) (by rw [TL'];exact ro) (fun r hr=>(((HCE.out.gw HH.out.kp gg).gw HH.out.kp g).runs r (List.mem_of_mem_take hr)).1)⟩,g⟩
      have AV:Hid (∀ W' b c,Gw wE W'→PR HR W' (some ⟨b,0,none⟩) (rs'.take t')→Calls Tryz.prog 32 #[.slice (some ⟨rb,0,none⟩) t rc, .slice (some ⟨b,0,none⟩) t' c, .int .i64 (fr:Int)] W' fun e w'=>e=.returned (.bool true)∧Gw W' w'):=fun W' b c gg pr=>by
       have:=aboveL15 HH.out (some ⟨rb,0,none⟩) (some ⟨b,0,none⟩) rc c (rs.take t) (rs'.take t') (fr:Int) (by omega) (by omega) (by rw [TLA.out];exact t40) (by rw [TL'];exact t'40) W' (PRT.out.gw HH.out.kp (GE.out.trans gg)) pr (fun i hi h=>by
        rw [TLA.out,TL'] at h ⊢
        have eqs:∀ i:Nat,(fr:Int)<(i:Int)→rs.getD i none=rs'.getD i none:=fun i hi=>K4.out.2.2 i (by omega)
        obtain ⟨h1,h2⟩:=top_same TP.out TP'.out (fr:Int) eqs i hi h
        refine ⟨h1,h2,?_⟩
        rw [take_get h1,take_get h2,eqs i hi]
        exact eqO_same _)
       rw [TLA.out,TL'] at this
       exact this
      have wW:IntKind.i64.wrap (W+(kl:Int))=W+(kl:Int):=by rw [IntKind.wrap_i64];have:=BWV.out;omega
      have bW:(W+(kl:Int) != W+(kl:Int))=false:=by simp
      clear BXE TL' OLT CLK TR TKA
      by_cases kp:0<kl
      ·have kp':(0:Int)<(kl:Int):=by omega
       have kz:((kl:Int) == 0)=false:=by simp;omega
       have kz1:(kl == 0)=false:=by simp;omega
       have kz2:decide (kl=0)=false:=by simp;omega
       have kz3:decide ((kl:Int)=0)=false:=by simp;omega
       have kz4:¬ kl=0:=by omega
       have dk1:decide ((0:Int)<(kl:Int))=true:=by simp;omega
       have dk2:decide (0<kl)=true:=by simp;omega
       have frt:fr<t':=Nat.lt_of_not_le fun q=>by
        have:=K4.out.2.1
        rw [TP'.out.no fr q] at this
        have:0=kl:=this
        omega
       have frt1:¬ t'≤fr:=by omega
       have frt2:decide ((t':Int)≤(fr:Int))=false:=by simp;omega
       have frt5:decide (t'≤fr)=false:=by simp;omega
       have frt3:(fr:Int)<(t':Int):=by omega
       have sf:wE.cell? ⟨sb,fr,none⟩=some (.int .i64 (kl:Int)):=by
        have:=ROW.out.cell (i:=fr) frt
        rw [K4.out.2.1] at this
        exact this
       have eB:B'=B+1:=by rw [HB'.out,if_pos kp]
       have BU:Hid (∀ W',Gw wE W'→Calls Tryz.prog 30 #[.pointer (some ⟨p,0,none⟩)] W' fun e w'=>e=.returned (.int .i64 (B+1))∧w'=W'):=fun W' gg=>by rw [←eB];exact builds15 (HCE.out.gw HH.out.kp gg)
       have wB:IntKind.i64.wrap (B+1)=B+1:=by rw [IntKind.wrap_i64];have:=BWV.out;omega
       have bB:(B+1 != B+1)=false:=by simp
       have bk:((kl:Int) != (kl:Int))=false:=by simp
       clear eB frt kp ROW
       have HW:Hid (∀ w',Gw wE w'→Gw wE w'∧w'.cell? ⟨bx,2,none⟩=some (.int .i64 (kl:Int))∧w'.cell? ⟨sb,fr,none⟩=some (.int .i64 (kl:Int))):=fun w' gg=>⟨gg,(gg.cell _ _ bxl).trans e2,(gg.cell _ _ sbl).trans sf⟩
       go_wp2_with fail
       try dsimp only [List.append]
       refine wp_region_held_drew (S:=(fun w'=>Gw wE w'∧w'.cell? ⟨bx,2,none⟩=some (.int .i64 (kl:Int))∧w'.cell? ⟨sb,fr,none⟩=some (.int .i64 (kl:Int)))) (by kernel_rfl) ?_ (fun hHeld=>?_)
       ·(refine HW.out _ ?_;(repeat (first | exact Gw.refl _ | exact And.left (by assumption) | exact Hid.out (by assumption) | refine Gw.drew ?_ | refine Gw.trans ?_ (by assumption)));done)
       refine wpAnyH_take (i:=0) (v:=?_) rfl (by kernel_rfl) (by kernel_rfl) (by kernel_rfl) (fun _ _ _ h=>h) (Or.inl ⟨by rfl,?_⟩) (by assumption) ?_
       rotate_left
       ·intro w hSw;(try dsimp only at hSw);(try simp only [List.getElem_toArray,List.getElem_cons_zero]);go_simp;(try with_reducible rfl)
       try simp only [Act.put,List.getElem_toArray,List.getElem_cons_zero,List.setIfInBounds_toArray,List.set_cons_zero,List.set_cons_succ]
       refine wpAnyH_take (i:=1) (v:=?_) rfl (by kernel_rfl) (by kernel_rfl) (by kernel_rfl) (fun _ _ _ h=>h) (Or.inl ⟨by rfl,?_⟩) (by assumption) ?_
       rotate_left
       ·intro w hSw;(try dsimp only at hSw);(try simp only [List.getElem_toArray,List.getElem_cons_succ,List.getElem_cons_zero]);go_simp;(try with_reducible rfl)
       try simp only [Act.put,List.getElem_toArray,List.getElem_cons_succ,List.getElem_cons_zero,List.setIfInBounds_toArray,List.set_cons_zero,List.set_cons_succ]
       refine wpAnyH_take (i:=2) (v:=?_) rfl (by kernel_rfl) (by kernel_rfl) (by kernel_rfl) (fun _ _ _ h=>h) (Or.inl ⟨by rfl,?_⟩) (by assumption) ?_
       rotate_left
       ·intro w hSw;(try dsimp only at hSw);(try simp only [List.getElem_toArray,List.getElem_cons_succ,List.getElem_cons_zero]);go_simp;(try with_reducible rfl)
       try simp only [Act.put,List.getElem_toArray,List.getElem_cons_succ,List.getElem_cons_zero,List.setIfInBounds_toArray,List.set_cons_zero,List.set_cons_succ]
       refine wpAnyH_take (i:=3) (v:=?_) rfl (by kernel_rfl) (by kernel_rfl) (by kernel_rfl) (fun _ _ _ h=>h) (Or.inl ⟨by rfl,?_⟩) (by assumption) ?_
       rotate_left
       ·intro w hSw;(try dsimp only at hSw);(try simp only [List.getElem_toArray,List.getElem_cons_succ,List.getElem_cons_zero]);go_simp;(try with_reducible rfl)
       try simp only [Act.put,List.getElem_toArray,List.getElem_cons_succ,List.getElem_cons_zero,List.setIfInBounds_toArray,List.set_cons_zero,List.set_cons_succ]
       refine wpAnyH_take (i:=4) (v:=?_) rfl (by kernel_rfl) (by kernel_rfl) (by kernel_rfl) (fun _ _ _ h=>h) (Or.inl ⟨by rfl,?_⟩) (by assumption) ?_
       rotate_left
       ·intro w hSw;(try dsimp only at hSw);(try simp only [List.getElem_toArray,List.getElem_cons_succ,List.getElem_cons_zero]);go_simp;(try with_reducible rfl)
       try simp only [Act.put,List.getElem_toArray,List.getElem_cons_succ,List.getElem_cons_zero,List.setIfInBounds_toArray,List.set_cons_zero,List.set_cons_succ]
       refine wpAnyH_take (i:=5) (v:=?_) rfl (by kernel_rfl) (by kernel_rfl) (by kernel_rfl) (fun _ _ _ h=>h) (Or.inl ⟨by rfl,?_⟩) (by assumption) ?_
       rotate_left
       ·intro w hSw;(try dsimp only at hSw);(try simp only [List.getElem_toArray,List.getElem_cons_succ,List.getElem_cons_zero]);go_simp;(try with_reducible rfl)
       try simp only [Act.put,List.getElem_toArray,List.getElem_cons_succ,List.getElem_cons_zero,List.setIfInBounds_toArray,List.set_cons_zero,List.set_cons_succ]
       refine wpAnyH_take (i:=6) (v:=?_) rfl (by kernel_rfl) (by kernel_rfl) (by kernel_rfl) (fun _ _ _ h=>h) (Or.inl ⟨by rfl,?_⟩) (by assumption) ?_
       rotate_left
       ·intro w hSw;(try dsimp only at hSw);(try simp only [List.getElem_toArray,List.getElem_cons_succ,List.getElem_cons_zero]);go_simp;(try with_reducible rfl)
       try simp only [Act.put,List.getElem_toArray,List.getElem_cons_succ,List.getElem_cons_zero,List.setIfInBounds_toArray,List.set_cons_zero,List.set_cons_succ]
       refine wpAnyH_take (i:=7) (v:=?_) rfl (by kernel_rfl) (by kernel_rfl) (by kernel_rfl) (fun _ _ _ h=>h) (Or.inl ⟨by rfl,?_⟩) (by assumption) ?_
       rotate_left
       ·intro w hSw;(try dsimp only at hSw);(try simp only [List.getElem_toArray,List.getElem_cons_succ,List.getElem_cons_zero]);go_simp;(try with_reducible rfl)
       try simp only [Act.put,List.getElem_toArray,List.getElem_cons_succ,List.getElem_cons_zero,List.setIfInBounds_toArray,List.set_cons_zero,List.set_cons_succ]
       refine wpAnyH_take (i:=8) (v:=?_) rfl (by kernel_rfl) (by kernel_rfl) (by kernel_rfl) (fun _ _ _ h=>h) (Or.inl ⟨by rfl,?_⟩) (by assumption) ?_
       rotate_left
       ·intro w hSw;(try dsimp only at hSw);(try simp only [List.getElem_toArray,List.getElem_cons_succ,List.getElem_cons_zero]);go_simp;(try with_reducible rfl)
       try simp only [Act.put,List.getElem_toArray,List.getElem_cons_succ,List.getElem_cons_zero,List.setIfInBounds_toArray,List.set_cons_zero,List.set_cons_succ]
       refine wpAnyH_take (i:=9) (v:=?_) rfl (by kernel_rfl) (by kernel_rfl) (by kernel_rfl) (fun _ _ _ h=>h) (Or.inl ⟨by rfl,?_⟩) (by assumption) ?_
       rotate_left
       ·intro w hSw;(try dsimp only at hSw);(try simp only [List.getElem_toArray,List.getElem_cons_succ,List.getElem_cons_zero]);go_simp;(try with_reducible rfl)
       try simp only [Act.put,List.getElem_toArray,List.getElem_cons_succ,List.getElem_cons_zero,List.setIfInBounds_toArray,List.set_cons_zero,List.set_cons_succ]
       refine wpAnyH_take (i:=10) (v:=?_) rfl (by kernel_rfl) (by kernel_rfl) (by kernel_rfl) (fun _ _ _ h=>h) (Or.inl ⟨by rfl,?_⟩) (by assumption) ?_
       rotate_left
       ·intro w hSw;(try dsimp only at hSw);(try simp only [List.getElem_toArray,List.getElem_cons_succ,List.getElem_cons_zero]);go_simp;(try with_reducible rfl)
       try simp only [Act.put,List.getElem_toArray,List.getElem_cons_succ,List.getElem_cons_zero,List.setIfInBounds_toArray,List.set_cons_zero,List.set_cons_succ]
       refine wpAnyH_take (i:=11) (v:=?_) rfl (by kernel_rfl) (by kernel_rfl) (by kernel_rfl) (fun _ _ _ h=>h) (Or.inl ⟨by rfl,?_⟩) (by assumption) ?_
       rotate_left
       ·intro w hSw;(try dsimp only at hSw);(try simp only [List.getElem_toArray,List.getElem_cons_succ,List.getElem_cons_zero]);go_simp;(try with_reducible rfl)
       try simp only [Act.put,List.getElem_toArray,List.getElem_cons_succ,List.getElem_cons_zero,List.setIfInBounds_toArray,List.set_cons_zero,List.set_cons_succ]
       refine wpAnyH_take (i:=12) (v:=?_) rfl (by kernel_rfl) (by kernel_rfl) (by kernel_rfl) (fun _ _ _ h=>h) (Or.inl ⟨by rfl,?_⟩) (by assumption) ?_
       rotate_left
       ·intro w hSw;(try dsimp only at hSw);(try simp only [List.getElem_toArray,List.getElem_cons_succ,List.getElem_cons_zero]);go_simp;(try with_reducible rfl)
       try simp only [Act.put,List.getElem_toArray,List.getElem_cons_succ,List.getElem_cons_zero,List.setIfInBounds_toArray,List.set_cons_zero,List.set_cons_succ]
       refine wpAnyH_take (i:=13) (v:=?_) rfl (by kernel_rfl) (by kernel_rfl) (by kernel_rfl) (fun _ _ _ h=>h) (Or.inl ⟨by rfl,?_⟩) (by assumption) ?_
       rotate_left
       ·intro w hSw;(try dsimp only at hSw);(try simp only [List.getElem_toArray,List.getElem_cons_succ,List.getElem_cons_zero]);go_simp;(try with_reducible rfl)
       try simp only [Act.put,List.getElem_toArray,List.getElem_cons_succ,List.getElem_cons_zero,List.setIfInBounds_toArray,List.set_cons_zero,List.set_cons_succ]
       refine wpAnyH_take (i:=14) (v:=?_) rfl (by kernel_rfl) (by kernel_rfl) (by kernel_rfl) (fun _ _ _ h=>h) (Or.inl ⟨by rfl,?_⟩) (by assumption) ?_
       rotate_left
       ·intro w hSw;(try dsimp only at hSw);(try simp only [List.getElem_toArray,List.getElem_cons_succ,List.getElem_cons_zero]);go_simp;(try with_reducible rfl)
       try simp only [Act.put,List.getElem_toArray,List.getElem_cons_succ,List.getElem_cons_zero,List.setIfInBounds_toArray,List.set_cons_zero,List.set_cons_succ]
       refine wpAnyH_take (i:=15) (v:=?_) rfl (by kernel_rfl) (by kernel_rfl) (by kernel_rfl) (fun _ _ _ h=>h) (Or.inl ⟨by rfl,?_⟩) (by assumption) ?_
       rotate_left
       ·intro w hSw;(try dsimp only at hSw);(try simp only [List.getElem_toArray,List.getElem_cons_succ,List.getElem_cons_zero]);go_simp;(try with_reducible rfl)
       try simp only [Act.put,List.getElem_toArray,List.getElem_cons_succ,List.getElem_cons_zero,List.setIfInBounds_toArray,List.set_cons_zero,List.set_cons_succ]
       refine wpAnyH_take (i:=16) (v:=?_) rfl (by kernel_rfl) (by kernel_rfl) (by kernel_rfl) (fun _ _ _ h=>h) (Or.inl ⟨by rfl,?_⟩) (by assumption) ?_
       rotate_left
       ·intro w hSw;(try dsimp only at hSw);(try simp only [List.getElem_toArray,List.getElem_cons_succ,List.getElem_cons_zero]);go_simp;(try with_reducible rfl)
       try simp only [Act.put,List.getElem_toArray,List.getElem_cons_succ,List.getElem_cons_zero,List.setIfInBounds_toArray,List.set_cons_zero,List.set_cons_succ]
       refine wpAnyH_take (i:=17) (v:=?_) rfl (by kernel_rfl) (by kernel_rfl) (by kernel_rfl) (fun _ _ _ h=>h) (Or.inl ⟨by rfl,?_⟩) (by assumption) ?_
       rotate_left
       ·intro w hSw;(try dsimp only at hSw);(try simp only [List.getElem_toArray,List.getElem_cons_succ,List.getElem_cons_zero]);go_simp;(try with_reducible rfl)
       try simp only [Act.put,List.getElem_toArray,List.getElem_cons_succ,List.getElem_cons_zero,List.setIfInBounds_toArray,List.set_cons_zero,List.set_cons_succ]
       refine wpAnyH_take (i:=18) (v:=?_) rfl (by kernel_rfl) (by kernel_rfl) (by kernel_rfl) (fun _ _ _ h=>h) (Or.inl ⟨by rfl,?_⟩) (by assumption) ?_
       rotate_left
       ·intro w hSw;(try dsimp only at hSw);(try simp only [List.getElem_toArray,List.getElem_cons_succ,List.getElem_cons_zero]);go_simp;(try with_reducible rfl)
       try simp only [Act.put,List.getElem_toArray,List.getElem_cons_succ,List.getElem_cons_zero,List.setIfInBounds_toArray,List.set_cons_zero,List.set_cons_succ]
       refine wpAnyH_take (i:=19) (v:=?_) rfl (by kernel_rfl) (by kernel_rfl) (by kernel_rfl) (fun _ _ _ h=>h) (Or.inl ⟨by rfl,?_⟩) (by assumption) ?_
       rotate_left
       ·intro w hSw;(try dsimp only at hSw);(try simp only [List.getElem_toArray,List.getElem_cons_succ,List.getElem_cons_zero]);go_simp;(try with_reducible rfl)
       try simp only [Act.put,List.getElem_toArray,List.getElem_cons_succ,List.getElem_cons_zero,List.setIfInBounds_toArray,List.set_cons_zero,List.set_cons_succ]
       refine wpAnyH_take (i:=20) (v:=?_) rfl (by kernel_rfl) (by kernel_rfl) (by kernel_rfl) (fun _ _ _ h=>h) (Or.inl ⟨by rfl,?_⟩) (by assumption) ?_
       rotate_left
       ·intro w hSw;(try dsimp only at hSw);(try simp only [List.getElem_toArray,List.getElem_cons_succ,List.getElem_cons_zero]);go_simp;(try with_reducible rfl)
       try simp only [Act.put,List.getElem_toArray,List.getElem_cons_succ,List.getElem_cons_zero,List.setIfInBounds_toArray,List.set_cons_zero,List.set_cons_succ]
       refine wpAnyH_take (i:=21) (v:=?_) rfl (by kernel_rfl) (by kernel_rfl) (by kernel_rfl) (fun _ _ _ h=>h) (Or.inl ⟨by rfl,?_⟩) (by assumption) ?_
       rotate_left
       ·intro w hSw;(try dsimp only at hSw);(try simp only [List.getElem_toArray,List.getElem_cons_succ,List.getElem_cons_zero]);go_simp;(try with_reducible rfl)
       try simp only [Act.put,List.getElem_toArray,List.getElem_cons_succ,List.getElem_cons_zero,List.setIfInBounds_toArray,List.set_cons_zero,List.set_cons_succ]
       refine wpAnyH_take (i:=22) (v:=?_) rfl (by kernel_rfl) (by kernel_rfl) (by kernel_rfl) (fun _ _ _ h=>h) (Or.inl ⟨by rfl,?_⟩) (by assumption) ?_
       rotate_left
       ·intro w hSw;(try dsimp only at hSw);(try simp only [List.getElem_toArray,List.getElem_cons_succ,List.getElem_cons_zero]);go_simp;(try with_reducible rfl)
       try simp only [Act.put,List.getElem_toArray,List.getElem_cons_succ,List.getElem_cons_zero,List.setIfInBounds_toArray,List.set_cons_zero,List.set_cons_succ]
       refine wpAnyH_take (i:=23) (v:=undef) rfl (by kernel_rfl) (by kernel_rfl) (by kernel_rfl) (fun _ _ _ h=>h) (Or.inr ⟨by rfl,rfl⟩) (by assumption) ?_
       try simp only [Act.put,List.getElem_toArray,List.getElem_cons_succ,List.getElem_cons_zero,List.setIfInBounds_toArray,List.set_cons_zero,List.set_cons_succ]
       refine wpAnyH_take (i:=24) (v:=undef) rfl (by kernel_rfl) (by kernel_rfl) (by kernel_rfl) (fun _ _ _ h=>h) (Or.inr ⟨by rfl,rfl⟩) (by assumption) ?_
       try simp only [Act.put,List.getElem_toArray,List.getElem_cons_succ,List.getElem_cons_zero,List.setIfInBounds_toArray,List.set_cons_zero,List.set_cons_succ]
       refine wpAnyH_take (i:=25) (v:=undef) rfl (by kernel_rfl) (by kernel_rfl) (by kernel_rfl) (fun _ _ _ h=>h) (Or.inr ⟨by rfl,rfl⟩) (by assumption) ?_
       try simp only [Act.put,List.getElem_toArray,List.getElem_cons_succ,List.getElem_cons_zero,List.setIfInBounds_toArray,List.set_cons_zero,List.set_cons_succ]
       refine wpAnyH_take (i:=26) (v:=undef) rfl (by kernel_rfl) (by kernel_rfl) (by kernel_rfl) (fun _ _ _ h=>h) (Or.inr ⟨by rfl,rfl⟩) (by assumption) ?_
       try simp only [Act.put,List.getElem_toArray,List.getElem_cons_succ,List.getElem_cons_zero,List.setIfInBounds_toArray,List.set_cons_zero,List.set_cons_succ]
       refine wpAnyH_take (i:=27) (v:=?_) rfl (by kernel_rfl) (by kernel_rfl) (by kernel_rfl) (fun _ _ _ h=>h) (Or.inl ⟨by rfl,?_⟩) (by assumption) ?_
       rotate_left
       ·intro w hSw;(try dsimp only at hSw);(try simp only [List.getElem_toArray,List.getElem_cons_succ,List.getElem_cons_zero]);go_simp;(try with_reducible rfl)
       try simp only [Act.put,List.getElem_toArray,List.getElem_cons_succ,List.getElem_cons_zero,List.setIfInBounds_toArray,List.set_cons_zero,List.set_cons_succ]
       refine wpAnyH_take (i:=28) (v:=?_) rfl (by kernel_rfl) (by kernel_rfl) (by kernel_rfl) (fun _ _ _ h=>h) (Or.inl ⟨by rfl,?_⟩) (by assumption) ?_
       rotate_left
       ·intro w hSw;(try dsimp only at hSw);(try simp only [List.getElem_toArray,List.getElem_cons_succ,List.getElem_cons_zero]);go_simp;(try with_reducible rfl)
       try simp only [Act.put,List.getElem_toArray,List.getElem_cons_succ,List.getElem_cons_zero,List.setIfInBounds_toArray,List.set_cons_zero,List.set_cons_succ]
       refine wpAnyH_take (i:=29) (v:=undef) rfl (by kernel_rfl) (by kernel_rfl) (by kernel_rfl) (fun _ _ _ h=>h) (Or.inr ⟨by rfl,rfl⟩) (by assumption) ?_
       try simp only [Act.put,List.getElem_toArray,List.getElem_cons_succ,List.getElem_cons_zero,List.setIfInBounds_toArray,List.set_cons_zero,List.set_cons_succ]
       refine wpAnyH_take (i:=30) (v:=undef) rfl (by kernel_rfl) (by kernel_rfl) (by kernel_rfl) (fun _ _ _ h=>h) (Or.inr ⟨by rfl,rfl⟩) (by assumption) ?_
       try simp only [Act.put,List.getElem_toArray,List.getElem_cons_succ,List.getElem_cons_zero,List.setIfInBounds_toArray,List.set_cons_zero,List.set_cons_succ]
       refine wpAnyH_take (i:=31) (v:=undef) rfl (by kernel_rfl) (by kernel_rfl) (by kernel_rfl) (fun _ _ _ h=>h) (Or.inr ⟨by rfl,rfl⟩) (by assumption) ?_
       try simp only [Act.put,List.getElem_toArray,List.getElem_cons_succ,List.getElem_cons_zero,List.setIfInBounds_toArray,List.set_cons_zero,List.set_cons_succ]
       refine wpAnyH_take (i:=32) (v:=undef) rfl (by kernel_rfl) (by kernel_rfl) (by kernel_rfl) (fun _ _ _ h=>h) (Or.inr ⟨by rfl,rfl⟩) (by assumption) ?_
       try simp only [Act.put,List.getElem_toArray,List.getElem_cons_succ,List.getElem_cons_zero,List.setIfInBounds_toArray,List.set_cons_zero,List.set_cons_succ]
       refine wpAnyH_take (i:=33) (v:=undef) rfl (by kernel_rfl) (by kernel_rfl) (by kernel_rfl) (fun _ _ _ h=>h) (Or.inr ⟨by rfl,rfl⟩) (by assumption) ?_
       try simp only [Act.put,List.getElem_toArray,List.getElem_cons_succ,List.getElem_cons_zero,List.setIfInBounds_toArray,List.set_cons_zero,List.set_cons_succ]
       refine wpAnyH_take (i:=34) (v:=?_) rfl (by kernel_rfl) (by kernel_rfl) (by kernel_rfl) (fun _ _ _ h=>h) (Or.inl ⟨by rfl,?_⟩) (by assumption) ?_
       rotate_left
       ·intro w hSw;(try dsimp only at hSw);(try simp only [List.getElem_toArray,List.getElem_cons_succ,List.getElem_cons_zero]);go_simp;(try with_reducible rfl)
       try simp only [Act.put,List.getElem_toArray,List.getElem_cons_succ,List.getElem_cons_zero,List.setIfInBounds_toArray,List.set_cons_zero,List.set_cons_succ]
       refine wpAnyH_take (i:=35) (v:=?_) rfl (by kernel_rfl) (by kernel_rfl) (by kernel_rfl) (fun _ _ _ h=>h) (Or.inl ⟨by rfl,?_⟩) (by assumption) ?_
       rotate_left
       ·intro w hSw;(try dsimp only at hSw);(try simp only [List.getElem_toArray,List.getElem_cons_succ,List.getElem_cons_zero]);go_simp;(try with_reducible rfl)
       try simp only [Act.put,List.getElem_toArray,List.getElem_cons_succ,List.getElem_cons_zero,List.setIfInBounds_toArray,List.set_cons_zero,List.set_cons_succ]
       refine wpAnyH_take (i:=36) (v:=?_) rfl (by kernel_rfl) (by kernel_rfl) (by kernel_rfl) (fun _ _ _ h=>h) (Or.inl ⟨by rfl,?_⟩) (by assumption) ?_
       rotate_left
       ·intro w hSw;(try dsimp only at hSw);(try simp only [List.getElem_toArray,List.getElem_cons_succ,List.getElem_cons_zero]);go_simp;(try with_reducible rfl)
       try simp only [Act.put,List.getElem_toArray,List.getElem_cons_succ,List.getElem_cons_zero,List.setIfInBounds_toArray,List.set_cons_zero,List.set_cons_succ]
       refine wpAnyH_take (i:=37) (v:=?_) rfl (by kernel_rfl) (by kernel_rfl) (by kernel_rfl) (fun _ _ _ h=>h) (Or.inl ⟨by rfl,?_⟩) (by assumption) ?_
       rotate_left
       ·intro w hSw;(try dsimp only at hSw);(try simp only [List.getElem_toArray,List.getElem_cons_succ,List.getElem_cons_zero]);go_simp;(try with_reducible rfl)
       try simp only [Act.put,List.getElem_toArray,List.getElem_cons_succ,List.getElem_cons_zero,List.setIfInBounds_toArray,List.set_cons_zero,List.set_cons_succ]
       refine wpAnyH_take (i:=39) (v:=?_) rfl (by kernel_rfl) (by kernel_rfl) (by kernel_rfl) (fun _ _ _ h=>h) (Or.inl ⟨by rfl,?_⟩) (by assumption) ?_
       rotate_left
       ·intro w hSw;(try dsimp only at hSw);(try simp only [List.getElem_toArray,List.getElem_cons_succ,List.getElem_cons_zero]);go_simp;(try with_reducible rfl)
       try simp only [Act.put,List.getElem_toArray,List.getElem_cons_succ,List.getElem_cons_zero,List.setIfInBounds_toArray,List.set_cons_zero,List.set_cons_succ]
       refine wpAnyH_take (i:=40) (v:=?_) rfl (by kernel_rfl) (by kernel_rfl) (by kernel_rfl) (fun _ _ _ h=>h) (Or.inl ⟨by rfl,?_⟩) (by assumption) ?_
       rotate_left
       ·intro w hSw;(try dsimp only at hSw);(try simp only [List.getElem_toArray,List.getElem_cons_succ,List.getElem_cons_zero]);go_simp;(try with_reducible rfl)
       try simp only [Act.put,List.getElem_toArray,List.getElem_cons_succ,List.getElem_cons_zero,List.setIfInBounds_toArray,List.set_cons_zero,List.set_cons_succ]
       refine wpAnyH_take (i:=41) (v:=?_) rfl (by kernel_rfl) (by kernel_rfl) (by kernel_rfl) (fun _ _ _ h=>h) (Or.inl ⟨by rfl,?_⟩) (by assumption) ?_
       rotate_left
       ·intro w hSw;(try dsimp only at hSw);(try simp only [List.getElem_toArray,List.getElem_cons_succ,List.getElem_cons_zero]);go_simp;(try with_reducible rfl)
       try simp only [Act.put,List.getElem_toArray,List.getElem_cons_succ,List.getElem_cons_zero,List.setIfInBounds_toArray,List.set_cons_zero,List.set_cons_succ]
       refine wpAnyH_ready (rs:=[38]) (by kernel_rfl) (by simp) ?_
       refine AllReadyH.cons rfl (fun K hK=>?_) AllReadyH.nil
       try simp only [List.getElem_toArray,List.getElem_cons_succ,List.getElem_cons_zero]
       go_simp
       go_at_call 30;refine (BU.out _ (by repeat (first | exact Gw.refl _ | exact And.left (by assumption) | exact Hid.out (by assumption) | refine Gw.drew ?_ | refine Gw.drewN ?_ _))).mono ?_;rintro ex w5 ⟨rfl,rfl⟩
       try go_wp2_with fail
       refine hK.out _ _ ?_ (fun hHeld=>?_)
       ·(refine HW.out _ ?_;(repeat (first | exact Gw.refl _ | exact And.left (by assumption) | exact Hid.out (by assumption) | refine Gw.drew ?_ | refine Gw.trans ?_ (by assumption)));done)
       clear hK K
       try simp only [Act.put,List.getElem_toArray,List.getElem_cons_succ,List.getElem_cons_zero,List.setIfInBounds_toArray,List.set_cons_zero,List.set_cons_succ]
       refine wpAnyH_take (i:=42) (v:=?_) rfl (by kernel_rfl) (by kernel_rfl) (by kernel_rfl) (fun _ _ _ h=>h) (Or.inl ⟨by rfl,?_⟩) (by assumption) ?_
       rotate_left
       ·intro w hSw;(try dsimp only at hSw);(try simp only [List.getElem_toArray,List.getElem_cons_succ,List.getElem_cons_zero]);go_simp;(try with_reducible rfl)
       try simp only [Act.put,List.getElem_toArray,List.getElem_cons_succ,List.getElem_cons_zero,List.setIfInBounds_toArray,List.set_cons_zero,List.set_cons_succ]
       refine wpAnyH_take (i:=43) (v:=?_) rfl (by kernel_rfl) (by kernel_rfl) (by kernel_rfl) (fun _ _ _ h=>h) (Or.inl ⟨by rfl,?_⟩) (by assumption) ?_
       rotate_left
       ·intro w hSw;(try dsimp only at hSw);(try simp only [List.getElem_toArray,List.getElem_cons_succ,List.getElem_cons_zero]);go_simp;(try with_reducible rfl)
       try simp only [Act.put,List.getElem_toArray,List.getElem_cons_succ,List.getElem_cons_zero,List.setIfInBounds_toArray,List.set_cons_zero,List.set_cons_succ]
       refine wpAnyH_take (i:=44) (v:=?_) rfl (by kernel_rfl) (by kernel_rfl) (by kernel_rfl) (fun _ _ _ h=>h) (Or.inl ⟨by rfl,?_⟩) (by assumption) ?_
       rotate_left
       ·intro w hSw;(try dsimp only at hSw);(try simp only [List.getElem_toArray,List.getElem_cons_succ,List.getElem_cons_zero]);go_simp;(try with_reducible rfl)
       try simp only [Act.put,List.getElem_toArray,List.getElem_cons_succ,List.getElem_cons_zero,List.setIfInBounds_toArray,List.set_cons_zero,List.set_cons_succ]
       refine wpAnyH_take (i:=45) (v:=?_) rfl (by kernel_rfl) (by kernel_rfl) (by kernel_rfl) (fun _ _ _ h=>h) (Or.inl ⟨by rfl,?_⟩) (by assumption) ?_
       rotate_left
       ·intro w hSw;(try dsimp only at hSw);(try simp only [List.getElem_toArray,List.getElem_cons_succ,List.getElem_cons_zero]);go_simp;(try with_reducible rfl)
       try simp only [Act.put,List.getElem_toArray,List.getElem_cons_succ,List.getElem_cons_zero,List.setIfInBounds_toArray,List.set_cons_zero,List.set_cons_succ]
       refine wpAnyH_take (i:=47) (v:=?_) rfl (by kernel_rfl) (by kernel_rfl) (by kernel_rfl) (fun _ _ _ h=>h) (Or.inl ⟨by rfl,?_⟩) (by assumption) ?_
       rotate_left
       ·intro w hSw;(try dsimp only at hSw);(try simp only [List.getElem_toArray,List.getElem_cons_succ,List.getElem_cons_zero]);go_simp;(try with_reducible rfl)
       try simp only [Act.put,List.getElem_toArray,List.getElem_cons_succ,List.getElem_cons_zero,List.setIfInBounds_toArray,List.set_cons_zero,List.set_cons_succ]
       refine wpAnyH_take (i:=48) (v:=?_) rfl (by kernel_rfl) (by kernel_rfl) (by kernel_rfl) (fun _ _ _ h=>h) (Or.inl ⟨by rfl,?_⟩) (by assumption) ?_
       rotate_left
       ·intro w hSw;(try dsimp only at hSw);(try simp only [List.getElem_toArray,List.getElem_cons_succ,List.getElem_cons_zero]);go_simp;(try with_reducible rfl)
       try simp only [Act.put,List.getElem_toArray,List.getElem_cons_succ,List.getElem_cons_zero,List.setIfInBounds_toArray,List.set_cons_zero,List.set_cons_succ]
       refine wpAnyH_take (i:=49) (v:=?_) rfl (by kernel_rfl) (by kernel_rfl) (by kernel_rfl) (fun _ _ _ h=>h) (Or.inl ⟨by rfl,?_⟩) (by assumption) ?_
       rotate_left
       ·intro w hSw;(try dsimp only at hSw);(try simp only [List.getElem_toArray,List.getElem_cons_succ,List.getElem_cons_zero]);go_simp;(try with_reducible rfl)
       try simp only [Act.put,List.getElem_toArray,List.getElem_cons_succ,List.getElem_cons_zero,List.setIfInBounds_toArray,List.set_cons_zero,List.set_cons_succ]
       refine wpAnyH_take (i:=50) (v:=?_) rfl (by kernel_rfl) (by kernel_rfl) (by kernel_rfl) (fun _ _ _ h=>h) (Or.inl ⟨by rfl,?_⟩) (by assumption) ?_
       rotate_left
       ·intro w hSw;(try dsimp only at hSw);(try simp only [List.getElem_toArray,List.getElem_cons_succ,List.getElem_cons_zero]);go_simp;(try with_reducible rfl)
       try simp only [Act.put,List.getElem_toArray,List.getElem_cons_succ,List.getElem_cons_zero,List.setIfInBounds_toArray,List.set_cons_zero,List.set_cons_succ]
       refine wpAnyH_ready (rs:=[46]) (by kernel_rfl) (by simp) ?_
       refine AllReadyH.cons rfl (fun K hK=>?_) AllReadyH.nil
       try simp only [List.getElem_toArray,List.getElem_cons_succ,List.getElem_cons_zero]
       go_simp
       go_at_call 31;refine (WR.out _ (by repeat (first | exact Gw.refl _ | exact And.left (by assumption) | exact Hid.out (by assumption) | refine Gw.drew ?_ | refine Gw.drewN ?_ _))).mono ?_;rintro ex w5 ⟨rfl,rfl⟩
       try go_wp2_with fail
       refine hK.out _ _ ?_ (fun hHeld=>?_)
       ·(refine HW.out _ ?_;(repeat (first | exact Gw.refl _ | exact And.left (by assumption) | exact Hid.out (by assumption) | refine Gw.drew ?_ | refine Gw.trans ?_ (by assumption)));done)
       clear hK K
       try simp only [Act.put,List.getElem_toArray,List.getElem_cons_succ,List.getElem_cons_zero,List.setIfInBounds_toArray,List.set_cons_zero,List.set_cons_succ]
       refine wpAnyH_take (i:=51) (v:=?_) rfl (by kernel_rfl) (by kernel_rfl) (by kernel_rfl) (fun _ _ _ h=>h) (Or.inl ⟨by rfl,?_⟩) (by assumption) ?_
       rotate_left
       ·intro w hSw;(try dsimp only at hSw);(try simp only [List.getElem_toArray,List.getElem_cons_succ,List.getElem_cons_zero]);go_simp;(try with_reducible rfl)
       try simp only [Act.put,List.getElem_toArray,List.getElem_cons_succ,List.getElem_cons_zero,List.setIfInBounds_toArray,List.set_cons_zero,List.set_cons_succ]
       refine wpAnyH_take (i:=52) (v:=?_) rfl (by kernel_rfl) (by kernel_rfl) (by kernel_rfl) (fun _ _ _ h=>h) (Or.inl ⟨by rfl,?_⟩) (by assumption) ?_
       rotate_left
       ·intro w hSw;(try dsimp only at hSw);(try simp only [List.getElem_toArray,List.getElem_cons_succ,List.getElem_cons_zero]);go_simp;(try with_reducible rfl)
       try simp only [Act.put,List.getElem_toArray,List.getElem_cons_succ,List.getElem_cons_zero,List.setIfInBounds_toArray,List.set_cons_zero,List.set_cons_succ]
       refine wpAnyH_take (i:=53) (v:=?_) rfl (by kernel_rfl) (by kernel_rfl) (by kernel_rfl) (fun _ _ _ h=>h) (Or.inl ⟨by rfl,?_⟩) (by assumption) ?_
       rotate_left
       ·intro w hSw;(try dsimp only at hSw);(try simp only [List.getElem_toArray,List.getElem_cons_succ,List.getElem_cons_zero]);go_simp;(try with_reducible rfl)
       try simp only [Act.put,List.getElem_toArray,List.getElem_cons_succ,List.getElem_cons_zero,List.setIfInBounds_toArray,List.set_cons_zero,List.set_cons_succ]
       refine wpAnyH_take (i:=54) (v:=?_) rfl (by kernel_rfl) (by kernel_rfl) (by kernel_rfl) (fun _ _ _ h=>h) (Or.inl ⟨by rfl,?_⟩) (by assumption) ?_
       rotate_left
       ·intro w hSw;(try dsimp only at hSw);(try simp only [List.getElem_toArray,List.getElem_cons_succ,List.getElem_cons_zero]);go_simp;(try with_reducible rfl)
       try simp only [Act.put,List.getElem_toArray,List.getElem_cons_succ,List.getElem_cons_zero,List.setIfInBounds_toArray,List.set_cons_zero,List.set_cons_succ]
       refine wpAnyH_take (i:=55) (v:=?_) rfl (by kernel_rfl) (by kernel_rfl) (by kernel_rfl) (fun _ _ _ h=>h) (Or.inl ⟨by rfl,?_⟩) (by assumption) ?_
       rotate_left
       ·intro w hSw;(try dsimp only at hSw);(try simp only [List.getElem_toArray,List.getElem_cons_succ,List.getElem_cons_zero]);go_simp;(try with_reducible rfl)
       try simp only [Act.put,List.getElem_toArray,List.getElem_cons_succ,List.getElem_cons_zero,List.setIfInBounds_toArray,List.set_cons_zero,List.set_cons_succ]
       refine wpAnyH_take (i:=57) (v:=?_) rfl (by kernel_rfl) (by kernel_rfl) (by kernel_rfl) (fun _ _ _ h=>h) (Or.inl ⟨by rfl,?_⟩) (by assumption) ?_
       rotate_left
       ·intro w hSw;(try dsimp only at hSw);(try simp only [List.getElem_toArray,List.getElem_cons_succ,List.getElem_cons_zero]);go_simp;(try with_reducible rfl)
       try simp only [Act.put,List.getElem_toArray,List.getElem_cons_succ,List.getElem_cons_zero,List.setIfInBounds_toArray,List.set_cons_zero,List.set_cons_succ]
       refine wpAnyH_ready (rs:=[56]) (by kernel_rfl) (by simp) ?_
       refine AllReadyH.cons rfl (fun K hK=>?_) AllReadyH.nil
       try simp only [List.getElem_toArray,List.getElem_cons_succ,List.getElem_cons_zero]
       go_simp
       go_at_call 20;refine (RN.out _ (by repeat (first | exact Gw.refl _ | exact And.left (by assumption) | exact Hid.out (by assumption) | refine Gw.drew ?_ | refine Gw.drewN ?_ _))).mono ?_;rintro ex w7 ⟨⟨b7,c7,rfl,pr7⟩,g7⟩;have PR7:Aside (PR HR w7 (some ⟨b7,0,none⟩) (rs'.take t')):=pr7;have G7:Hid (Gw wE w7):=(Gw.trans (by repeat (first | exact Gw.refl _ | exact And.left (by assumption) | exact Hid.out (by assumption) | refine Gw.drew ?_ | refine Gw.drewN ?_ _)) g7);clear pr7 g7
       try go_wp2_with fail
       refine hK.out _ _ ?_ (fun hHeld=>?_)
       ·(refine HW.out _ ?_;(repeat (first | exact Gw.refl _ | exact And.left (by assumption) | exact Hid.out (by assumption) | refine Gw.drew ?_ | refine Gw.trans ?_ (by assumption)));done)
       clear hK K
       try simp only [Act.put,List.getElem_toArray,List.getElem_cons_succ,List.getElem_cons_zero,List.setIfInBounds_toArray,List.set_cons_zero,List.set_cons_succ]
       refine wpAnyH_ready (rs:=[58]) (by kernel_rfl) (by simp) ?_
       refine AllReadyH.cons rfl (fun K hK=>?_) AllReadyH.nil
       try simp only [List.getElem_toArray,List.getElem_cons_succ,List.getElem_cons_zero]
       go_simp
       go_at_call 32;refine (AV.out _ b7 c7 (by repeat (first | exact Gw.refl _ | exact And.left (by assumption) | exact Hid.out (by assumption) | refine Gw.drew ?_ | refine Gw.drewN ?_ _)) (PR7.out.gw HH.out.kp (by first | exact Gw.refl _ | exact Gw.drew (Gw.refl _)))).mono ?_;rintro ex w8 ⟨rfl,g8⟩;have G8:Hid (Gw wE w8):=(Gw.trans (by repeat (first | exact Gw.refl _ | exact And.left (by assumption) | exact Hid.out (by assumption) | refine Gw.drew ?_ | refine Gw.drewN ?_ _)) g8);clear g8
       try go_wp2_with fail
       refine hK.out _ _ ?_ (fun hHeld=>?_)
       ·(refine HW.out _ ?_;(repeat (first | exact Gw.refl _ | exact And.left (by assumption) | exact Hid.out (by assumption) | refine Gw.drew ?_ | refine Gw.trans ?_ (by assumption)));done)
       clear hK K
       try simp only [Act.put,List.getElem_toArray,List.getElem_cons_succ,List.getElem_cons_zero,List.setIfInBounds_toArray,List.set_cons_zero,List.set_cons_succ]
       refine wpAnyH_take (i:=59) (v:=?_) rfl (by kernel_rfl) (by kernel_rfl) (by kernel_rfl) (fun _ _ _ h=>h) (Or.inl ⟨by rfl,?_⟩) (by assumption) ?_
       rotate_left
       ·intro w hSw;(try dsimp only at hSw);(try simp only [List.getElem_toArray,List.getElem_cons_succ,List.getElem_cons_zero]);go_simp;(try with_reducible rfl)
       try simp only [Act.put,List.getElem_toArray,List.getElem_cons_succ,List.getElem_cons_zero,List.setIfInBounds_toArray,List.set_cons_zero,List.set_cons_succ]
       refine wpAnyH_take (i:=60) (v:=?_) rfl (by kernel_rfl) (by kernel_rfl) (by kernel_rfl) (fun _ _ _ h=>h) (Or.inl ⟨by rfl,?_⟩) (by assumption) ?_
       rotate_left
       ·intro w hSw;(try dsimp only at hSw);(try simp only [List.getElem_toArray,List.getElem_cons_succ,List.getElem_cons_zero]);go_simp;(try with_reducible rfl)
       try simp only [Act.put,List.getElem_toArray,List.getElem_cons_succ,List.getElem_cons_zero,List.setIfInBounds_toArray,List.set_cons_zero,List.set_cons_succ]
       refine wpAnyH_done (by kernel_rfl) ?_ _
       have HCN:Aside (HCl HR w8 p rs' eps (m0:Int) B' (W+kl)):=HCE.out.gw HH.out.kp G8.out
       have GN:Aside (Gw w w8):=GWE.out.trans G8.out
       clear PR7 G7 G8 HW
       go_wp2_with fail
       go_roundg (n-(i+1))
       case measure=>omega
       case rel=>exact ⟨i+1,rs',B',W+kl,by go_num,by omega,Nat.le_refl _,HCN,INV',BWN,GN⟩
      ·have k0:kl=0:=by omega
       subst k0
       have eB:B'=B:=by rw [HB'.out,if_neg kp];omega
       have BU:Hid (∀ W',Gw wE W'→Calls Tryz.prog 30 #[.pointer (some ⟨p,0,none⟩)] W' fun e w'=>e=.returned (.int .i64 B)∧w'=W'):=fun W' gg=>by
        have:=builds15 (HCE.out.gw HH.out.kp gg)
        rw [eB] at this
        exact this
       have wB:IntKind.i64.wrap B=B:=by rw [IntKind.wrap_i64];have:=BWV.out;omega
       have wW0:IntKind.i64.wrap W=W:=by rw [IntKind.wrap_i64];have:=BWV.out;omega
       have bB:(B != B)=false:=by simp
       have bW0:(W != W)=false:=by simp
       have e2':wE.cell? ⟨bx,2,none⟩=some (.int .i64 0):=e2
       have WR0:Hid (∀ W',Gw wE W'→Calls Tryz.prog 31 #[.pointer (some ⟨p,0,none⟩)] W' fun e w'=>e=.returned (.int .i64 W)∧w'=W'):=fun W' gg=>by
        have:=WR.out W' gg
        rw [show W+((0:Nat):Int)=W by omega] at this
        exact this
       clear WR e2 wW bW eB
       have WR:=WR0
       have e2:=e2'
       clear WR0 e2' kp
       by_cases frt:fr<t'
       ·have frt3:(fr:Int)<(t':Int):=by omega
        have frt4:decide ((fr:Int)<(t':Int))=true:=by simp;omega
        have frt5:decide (fr<t')=true:=by simpa using frt
        have sf:wE.cell? ⟨sb,fr,none⟩=some (.int .i64 0):=by
         have:=ROW.out.cell (i:=fr) frt
         rw [K4.out.2.1] at this
         exact this
        clear frt ROW
        have HW:Hid (∀ w',Gw wE w'→Gw wE w'∧w'.cell? ⟨bx,2,none⟩=some (.int .i64 0)∧w'.cell? ⟨sb,fr,none⟩=some (.int .i64 0)):=fun w' gg=>⟨gg,(gg.cell _ _ bxl).trans e2,(gg.cell _ _ sbl).trans sf⟩
        go_wp2_with fail
        try dsimp only [List.append]
        refine wp_region_held_drew (S:=(fun w'=>Gw wE w'∧w'.cell? ⟨bx,2,none⟩=some (.int .i64 0)∧w'.cell? ⟨sb,fr,none⟩=some (.int .i64 0))) (by kernel_rfl) ?_ (fun hHeld=>?_)
        ·(refine HW.out _ ?_;(repeat (first | exact Gw.refl _ | exact And.left (by assumption) | exact Hid.out (by assumption) | refine Gw.drew ?_ | refine Gw.trans ?_ (by assumption)));done)
        refine wpAnyH_take (i:=0) (v:=?_) rfl (by kernel_rfl) (by kernel_rfl) (by kernel_rfl) (fun _ _ _ h=>h) (Or.inl ⟨by rfl,?_⟩) (by assumption) ?_
        rotate_left
        ·intro w hSw;(try dsimp only at hSw);(try simp only [List.getElem_toArray,List.getElem_cons_zero]);go_simp;(try with_reducible rfl)
        try simp only [Act.put,List.getElem_toArray,List.getElem_cons_zero,List.setIfInBounds_toArray,List.set_cons_zero,List.set_cons_succ]
        refine wpAnyH_take (i:=1) (v:=?_) rfl (by kernel_rfl) (by kernel_rfl) (by kernel_rfl) (fun _ _ _ h=>h) (Or.inl ⟨by rfl,?_⟩) (by assumption) ?_
        rotate_left
        ·intro w hSw;(try dsimp only at hSw);(try simp only [List.getElem_toArray,List.getElem_cons_succ,List.getElem_cons_zero]);go_simp;(try with_reducible rfl)
        try simp only [Act.put,List.getElem_toArray,List.getElem_cons_succ,List.getElem_cons_zero,List.setIfInBounds_toArray,List.set_cons_zero,List.set_cons_succ]
        refine wpAnyH_take (i:=2) (v:=?_) rfl (by kernel_rfl) (by kernel_rfl) (by kernel_rfl) (fun _ _ _ h=>h) (Or.inl ⟨by rfl,?_⟩) (by assumption) ?_
        rotate_left
        ·intro w hSw;(try dsimp only at hSw);(try simp only [List.getElem_toArray,List.getElem_cons_succ,List.getElem_cons_zero]);go_simp;(try with_reducible rfl)
        try simp only [Act.put,List.getElem_toArray,List.getElem_cons_succ,List.getElem_cons_zero,List.setIfInBounds_toArray,List.set_cons_zero,List.set_cons_succ]
        refine wpAnyH_take (i:=3) (v:=?_) rfl (by kernel_rfl) (by kernel_rfl) (by kernel_rfl) (fun _ _ _ h=>h) (Or.inl ⟨by rfl,?_⟩) (by assumption) ?_
        rotate_left
        ·intro w hSw;(try dsimp only at hSw);(try simp only [List.getElem_toArray,List.getElem_cons_succ,List.getElem_cons_zero]);go_simp;(try with_reducible rfl)
        try simp only [Act.put,List.getElem_toArray,List.getElem_cons_succ,List.getElem_cons_zero,List.setIfInBounds_toArray,List.set_cons_zero,List.set_cons_succ]
        refine wpAnyH_take (i:=4) (v:=undef) rfl (by kernel_rfl) (by kernel_rfl) (by kernel_rfl) (fun _ _ _ h=>h) (Or.inr ⟨by rfl,rfl⟩) (by assumption) ?_
        try simp only [Act.put,List.getElem_toArray,List.getElem_cons_succ,List.getElem_cons_zero,List.setIfInBounds_toArray,List.set_cons_zero,List.set_cons_succ]
        refine wpAnyH_take (i:=5) (v:=undef) rfl (by kernel_rfl) (by kernel_rfl) (by kernel_rfl) (fun _ _ _ h=>h) (Or.inr ⟨by rfl,rfl⟩) (by assumption) ?_
        try simp only [Act.put,List.getElem_toArray,List.getElem_cons_succ,List.getElem_cons_zero,List.setIfInBounds_toArray,List.set_cons_zero,List.set_cons_succ]
        refine wpAnyH_take (i:=6) (v:=undef) rfl (by kernel_rfl) (by kernel_rfl) (by kernel_rfl) (fun _ _ _ h=>h) (Or.inr ⟨by rfl,rfl⟩) (by assumption) ?_
        try simp only [Act.put,List.getElem_toArray,List.getElem_cons_succ,List.getElem_cons_zero,List.setIfInBounds_toArray,List.set_cons_zero,List.set_cons_succ]
        refine wpAnyH_take (i:=7) (v:=undef) rfl (by kernel_rfl) (by kernel_rfl) (by kernel_rfl) (fun _ _ _ h=>h) (Or.inr ⟨by rfl,rfl⟩) (by assumption) ?_
        try simp only [Act.put,List.getElem_toArray,List.getElem_cons_succ,List.getElem_cons_zero,List.setIfInBounds_toArray,List.set_cons_zero,List.set_cons_succ]
        refine wpAnyH_take (i:=8) (v:=undef) rfl (by kernel_rfl) (by kernel_rfl) (by kernel_rfl) (fun _ _ _ h=>h) (Or.inr ⟨by rfl,rfl⟩) (by assumption) ?_
        try simp only [Act.put,List.getElem_toArray,List.getElem_cons_succ,List.getElem_cons_zero,List.setIfInBounds_toArray,List.set_cons_zero,List.set_cons_succ]
        refine wpAnyH_take (i:=9) (v:=undef) rfl (by kernel_rfl) (by kernel_rfl) (by kernel_rfl) (fun _ _ _ h=>h) (Or.inr ⟨by rfl,rfl⟩) (by assumption) ?_
        try simp only [Act.put,List.getElem_toArray,List.getElem_cons_succ,List.getElem_cons_zero,List.setIfInBounds_toArray,List.set_cons_zero,List.set_cons_succ]
        refine wpAnyH_take (i:=10) (v:=undef) rfl (by kernel_rfl) (by kernel_rfl) (by kernel_rfl) (fun _ _ _ h=>h) (Or.inr ⟨by rfl,rfl⟩) (by assumption) ?_
        try simp only [Act.put,List.getElem_toArray,List.getElem_cons_succ,List.getElem_cons_zero,List.setIfInBounds_toArray,List.set_cons_zero,List.set_cons_succ]
        refine wpAnyH_take (i:=11) (v:=undef) rfl (by kernel_rfl) (by kernel_rfl) (by kernel_rfl) (fun _ _ _ h=>h) (Or.inr ⟨by rfl,rfl⟩) (by assumption) ?_
        try simp only [Act.put,List.getElem_toArray,List.getElem_cons_succ,List.getElem_cons_zero,List.setIfInBounds_toArray,List.set_cons_zero,List.set_cons_succ]
        refine wpAnyH_take (i:=12) (v:=undef) rfl (by kernel_rfl) (by kernel_rfl) (by kernel_rfl) (fun _ _ _ h=>h) (Or.inr ⟨by rfl,rfl⟩) (by assumption) ?_
        try simp only [Act.put,List.getElem_toArray,List.getElem_cons_succ,List.getElem_cons_zero,List.setIfInBounds_toArray,List.set_cons_zero,List.set_cons_succ]
        refine wpAnyH_take (i:=13) (v:=undef) rfl (by kernel_rfl) (by kernel_rfl) (by kernel_rfl) (fun _ _ _ h=>h) (Or.inr ⟨by rfl,rfl⟩) (by assumption) ?_
        try simp only [Act.put,List.getElem_toArray,List.getElem_cons_succ,List.getElem_cons_zero,List.setIfInBounds_toArray,List.set_cons_zero,List.set_cons_succ]
        refine wpAnyH_take (i:=14) (v:=undef) rfl (by kernel_rfl) (by kernel_rfl) (by kernel_rfl) (fun _ _ _ h=>h) (Or.inr ⟨by rfl,rfl⟩) (by assumption) ?_
        try simp only [Act.put,List.getElem_toArray,List.getElem_cons_succ,List.getElem_cons_zero,List.setIfInBounds_toArray,List.set_cons_zero,List.set_cons_succ]
        refine wpAnyH_take (i:=15) (v:=undef) rfl (by kernel_rfl) (by kernel_rfl) (by kernel_rfl) (fun _ _ _ h=>h) (Or.inr ⟨by rfl,rfl⟩) (by assumption) ?_
        try simp only [Act.put,List.getElem_toArray,List.getElem_cons_succ,List.getElem_cons_zero,List.setIfInBounds_toArray,List.set_cons_zero,List.set_cons_succ]
        refine wpAnyH_take (i:=16) (v:=undef) rfl (by kernel_rfl) (by kernel_rfl) (by kernel_rfl) (fun _ _ _ h=>h) (Or.inr ⟨by rfl,rfl⟩) (by assumption) ?_
        try simp only [Act.put,List.getElem_toArray,List.getElem_cons_succ,List.getElem_cons_zero,List.setIfInBounds_toArray,List.set_cons_zero,List.set_cons_succ]
        refine wpAnyH_take (i:=17) (v:=?_) rfl (by kernel_rfl) (by kernel_rfl) (by kernel_rfl) (fun _ _ _ h=>h) (Or.inl ⟨by rfl,?_⟩) (by assumption) ?_
        rotate_left
        ·intro w hSw;(try dsimp only at hSw);(try simp only [List.getElem_toArray,List.getElem_cons_succ,List.getElem_cons_zero]);go_simp;(try with_reducible rfl)
        try simp only [Act.put,List.getElem_toArray,List.getElem_cons_succ,List.getElem_cons_zero,List.setIfInBounds_toArray,List.set_cons_zero,List.set_cons_succ]
        refine wpAnyH_take (i:=18) (v:=?_) rfl (by kernel_rfl) (by kernel_rfl) (by kernel_rfl) (fun _ _ _ h=>h) (Or.inl ⟨by rfl,?_⟩) (by assumption) ?_
        rotate_left
        ·intro w hSw;(try dsimp only at hSw);(try simp only [List.getElem_toArray,List.getElem_cons_succ,List.getElem_cons_zero]);go_simp;(try with_reducible rfl)
        try simp only [Act.put,List.getElem_toArray,List.getElem_cons_succ,List.getElem_cons_zero,List.setIfInBounds_toArray,List.set_cons_zero,List.set_cons_succ]
        refine wpAnyH_take (i:=19) (v:=?_) rfl (by kernel_rfl) (by kernel_rfl) (by kernel_rfl) (fun _ _ _ h=>h) (Or.inl ⟨by rfl,?_⟩) (by assumption) ?_
        rotate_left
        ·intro w hSw;(try dsimp only at hSw);(try simp only [List.getElem_toArray,List.getElem_cons_succ,List.getElem_cons_zero]);go_simp;(try with_reducible rfl)
        try simp only [Act.put,List.getElem_toArray,List.getElem_cons_succ,List.getElem_cons_zero,List.setIfInBounds_toArray,List.set_cons_zero,List.set_cons_succ]
        refine wpAnyH_take (i:=20) (v:=?_) rfl (by kernel_rfl) (by kernel_rfl) (by kernel_rfl) (fun _ _ _ h=>h) (Or.inl ⟨by rfl,?_⟩) (by assumption) ?_
        rotate_left
        ·intro w hSw;(try dsimp only at hSw);(try simp only [List.getElem_toArray,List.getElem_cons_succ,List.getElem_cons_zero]);go_simp;(try with_reducible rfl)
        try simp only [Act.put,List.getElem_toArray,List.getElem_cons_succ,List.getElem_cons_zero,List.setIfInBounds_toArray,List.set_cons_zero,List.set_cons_succ]
        refine wpAnyH_take (i:=21) (v:=?_) rfl (by kernel_rfl) (by kernel_rfl) (by kernel_rfl) (fun _ _ _ h=>h) (Or.inl ⟨by rfl,?_⟩) (by assumption) ?_
        rotate_left
        ·intro w hSw;(try dsimp only at hSw);(try simp only [List.getElem_toArray,List.getElem_cons_succ,List.getElem_cons_zero]);go_simp;(try with_reducible rfl)
        try simp only [Act.put,List.getElem_toArray,List.getElem_cons_succ,List.getElem_cons_zero,List.setIfInBounds_toArray,List.set_cons_zero,List.set_cons_succ]
        refine wpAnyH_take (i:=22) (v:=?_) rfl (by kernel_rfl) (by kernel_rfl) (by kernel_rfl) (fun _ _ _ h=>h) (Or.inl ⟨by rfl,?_⟩) (by assumption) ?_
        rotate_left
        ·intro w hSw;(try dsimp only at hSw);(try simp only [List.getElem_toArray,List.getElem_cons_succ,List.getElem_cons_zero]);go_simp;(try with_reducible rfl)
        try simp only [Act.put,List.getElem_toArray,List.getElem_cons_succ,List.getElem_cons_zero,List.setIfInBounds_toArray,List.set_cons_zero,List.set_cons_succ]
        refine wpAnyH_take (i:=23) (v:=?_) rfl (by kernel_rfl) (by kernel_rfl) (by kernel_rfl) (fun _ _ _ h=>h) (Or.inl ⟨by rfl,?_⟩) (by assumption) ?_
        rotate_left
        ·intro w hSw;(try dsimp only at hSw);(try simp only [List.getElem_toArray,List.getElem_cons_succ,List.getElem_cons_zero]);go_simp;(try with_reducible rfl)
        try simp only [Act.put,List.getElem_toArray,List.getElem_cons_succ,List.getElem_cons_zero,List.setIfInBounds_toArray,List.set_cons_zero,List.set_cons_succ]
        refine wpAnyH_take (i:=24) (v:=?_) rfl (by kernel_rfl) (by kernel_rfl) (by kernel_rfl) (fun _ _ _ h=>h) (Or.inl ⟨by rfl,?_⟩) (by assumption) ?_
        rotate_left
        ·intro w hSw;(try dsimp only at hSw);(try simp only [List.getElem_toArray,List.getElem_cons_succ,List.getElem_cons_zero]);go_simp;(try with_reducible rfl)
        try simp only [Act.put,List.getElem_toArray,List.getElem_cons_succ,List.getElem_cons_zero,List.setIfInBounds_toArray,List.set_cons_zero,List.set_cons_succ]
        refine wpAnyH_take (i:=25) (v:=?_) rfl (by kernel_rfl) (by kernel_rfl) (by kernel_rfl) (fun _ _ _ h=>h) (Or.inl ⟨by rfl,?_⟩) (by assumption) ?_
        rotate_left
        ·intro w hSw;(try dsimp only at hSw);(try simp only [List.getElem_toArray,List.getElem_cons_succ,List.getElem_cons_zero]);go_simp;(try with_reducible rfl)
        try simp only [Act.put,List.getElem_toArray,List.getElem_cons_succ,List.getElem_cons_zero,List.setIfInBounds_toArray,List.set_cons_zero,List.set_cons_succ]
        refine wpAnyH_take (i:=26) (v:=?_) rfl (by kernel_rfl) (by kernel_rfl) (by kernel_rfl) (fun _ _ _ h=>h) (Or.inl ⟨by rfl,?_⟩) (by assumption) ?_
        rotate_left
        ·intro w hSw;(try dsimp only at hSw);(try simp only [List.getElem_toArray,List.getElem_cons_succ,List.getElem_cons_zero]);go_simp;(try with_reducible rfl)
        try simp only [Act.put,List.getElem_toArray,List.getElem_cons_succ,List.getElem_cons_zero,List.setIfInBounds_toArray,List.set_cons_zero,List.set_cons_succ]
        refine wpAnyH_take (i:=27) (v:=?_) rfl (by kernel_rfl) (by kernel_rfl) (by kernel_rfl) (fun _ _ _ h=>h) (Or.inl ⟨by rfl,?_⟩) (by assumption) ?_
        rotate_left
        ·intro w hSw;(try dsimp only at hSw);(try simp only [List.getElem_toArray,List.getElem_cons_succ,List.getElem_cons_zero]);go_simp;(try with_reducible rfl)
        try simp only [Act.put,List.getElem_toArray,List.getElem_cons_succ,List.getElem_cons_zero,List.setIfInBounds_toArray,List.set_cons_zero,List.set_cons_succ]
        refine wpAnyH_take (i:=28) (v:=?_) rfl (by kernel_rfl) (by kernel_rfl) (by kernel_rfl) (fun _ _ _ h=>h) (Or.inl ⟨by rfl,?_⟩) (by assumption) ?_
        rotate_left
        ·intro w hSw;(try dsimp only at hSw);(try simp only [List.getElem_toArray,List.getElem_cons_succ,List.getElem_cons_zero]);go_simp;(try with_reducible rfl)
        try simp only [Act.put,List.getElem_toArray,List.getElem_cons_succ,List.getElem_cons_zero,List.setIfInBounds_toArray,List.set_cons_zero,List.set_cons_succ]
        refine wpAnyH_take (i:=29) (v:=?_) rfl (by kernel_rfl) (by kernel_rfl) (by kernel_rfl) (fun _ _ _ h=>h) (Or.inl ⟨by rfl,?_⟩) (by assumption) ?_
        rotate_left
        ·intro w hSw;(try dsimp only at hSw);(try simp only [List.getElem_toArray,List.getElem_cons_succ,List.getElem_cons_zero]);go_simp;(try with_reducible rfl)
        try simp only [Act.put,List.getElem_toArray,List.getElem_cons_succ,List.getElem_cons_zero,List.setIfInBounds_toArray,List.set_cons_zero,List.set_cons_succ]
        refine wpAnyH_take (i:=30) (v:=?_) rfl (by kernel_rfl) (by kernel_rfl) (by kernel_rfl) (fun _ _ _ h=>h) (Or.inl ⟨by rfl,?_⟩) (by assumption) ?_
        rotate_left
        ·intro w hSw;(try dsimp only at hSw);(try simp only [List.getElem_toArray,List.getElem_cons_succ,List.getElem_cons_zero]);go_simp;(try with_reducible rfl)
        try simp only [Act.put,List.getElem_toArray,List.getElem_cons_succ,List.getElem_cons_zero,List.setIfInBounds_toArray,List.set_cons_zero,List.set_cons_succ]
        refine wpAnyH_take (i:=31) (v:=?_) rfl (by kernel_rfl) (by kernel_rfl) (by kernel_rfl) (fun _ _ _ h=>h) (Or.inl ⟨by rfl,?_⟩) (by assumption) ?_
        rotate_left
        ·intro w hSw;(try dsimp only at hSw);(try simp only [List.getElem_toArray,List.getElem_cons_succ,List.getElem_cons_zero]);go_simp;(try with_reducible rfl)
        try simp only [Act.put,List.getElem_toArray,List.getElem_cons_succ,List.getElem_cons_zero,List.setIfInBounds_toArray,List.set_cons_zero,List.set_cons_succ]
        refine wpAnyH_take (i:=32) (v:=?_) rfl (by kernel_rfl) (by kernel_rfl) (by kernel_rfl) (fun _ _ _ h=>h) (Or.inl ⟨by rfl,?_⟩) (by assumption) ?_
        rotate_left
        ·intro w hSw;(try dsimp only at hSw);(try simp only [List.getElem_toArray,List.getElem_cons_succ,List.getElem_cons_zero]);go_simp;(try with_reducible rfl)
        try simp only [Act.put,List.getElem_toArray,List.getElem_cons_succ,List.getElem_cons_zero,List.setIfInBounds_toArray,List.set_cons_zero,List.set_cons_succ]
        refine wpAnyH_take (i:=33) (v:=?_) rfl (by kernel_rfl) (by kernel_rfl) (by kernel_rfl) (fun _ _ _ h=>h) (Or.inl ⟨by rfl,?_⟩) (by assumption) ?_
        rotate_left
        ·intro w hSw;(try dsimp only at hSw);(try simp only [List.getElem_toArray,List.getElem_cons_succ,List.getElem_cons_zero]);go_simp;(try with_reducible rfl)
        try simp only [Act.put,List.getElem_toArray,List.getElem_cons_succ,List.getElem_cons_zero,List.setIfInBounds_toArray,List.set_cons_zero,List.set_cons_succ]
        refine wpAnyH_take (i:=34) (v:=?_) rfl (by kernel_rfl) (by kernel_rfl) (by kernel_rfl) (fun _ _ _ h=>h) (Or.inl ⟨by rfl,?_⟩) (by assumption) ?_
        rotate_left
        ·intro w hSw;(try dsimp only at hSw);(try simp only [List.getElem_toArray,List.getElem_cons_succ,List.getElem_cons_zero]);go_simp;(try with_reducible rfl)
        try simp only [Act.put,List.getElem_toArray,List.getElem_cons_succ,List.getElem_cons_zero,List.setIfInBounds_toArray,List.set_cons_zero,List.set_cons_succ]
        refine wpAnyH_take (i:=35) (v:=?_) rfl (by kernel_rfl) (by kernel_rfl) (by kernel_rfl) (fun _ _ _ h=>h) (Or.inl ⟨by rfl,?_⟩) (by assumption) ?_
        rotate_left
        ·intro w hSw;(try dsimp only at hSw);(try simp only [List.getElem_toArray,List.getElem_cons_succ,List.getElem_cons_zero]);go_simp;(try with_reducible rfl)
        try simp only [Act.put,List.getElem_toArray,List.getElem_cons_succ,List.getElem_cons_zero,List.setIfInBounds_toArray,List.set_cons_zero,List.set_cons_succ]
        refine wpAnyH_take (i:=36) (v:=?_) rfl (by kernel_rfl) (by kernel_rfl) (by kernel_rfl) (fun _ _ _ h=>h) (Or.inl ⟨by rfl,?_⟩) (by assumption) ?_
        rotate_left
        ·intro w hSw;(try dsimp only at hSw);(try simp only [List.getElem_toArray,List.getElem_cons_succ,List.getElem_cons_zero]);go_simp;(try with_reducible rfl)
        try simp only [Act.put,List.getElem_toArray,List.getElem_cons_succ,List.getElem_cons_zero,List.setIfInBounds_toArray,List.set_cons_zero,List.set_cons_succ]
        refine wpAnyH_take (i:=37) (v:=?_) rfl (by kernel_rfl) (by kernel_rfl) (by kernel_rfl) (fun _ _ _ h=>h) (Or.inl ⟨by rfl,?_⟩) (by assumption) ?_
        rotate_left
        ·intro w hSw;(try dsimp only at hSw);(try simp only [List.getElem_toArray,List.getElem_cons_succ,List.getElem_cons_zero]);go_simp;(try with_reducible rfl)
        try simp only [Act.put,List.getElem_toArray,List.getElem_cons_succ,List.getElem_cons_zero,List.setIfInBounds_toArray,List.set_cons_zero,List.set_cons_succ]
        refine wpAnyH_take (i:=39) (v:=?_) rfl (by kernel_rfl) (by kernel_rfl) (by kernel_rfl) (fun _ _ _ h=>h) (Or.inl ⟨by rfl,?_⟩) (by assumption) ?_
        rotate_left
        ·intro w hSw;(try dsimp only at hSw);(try simp only [List.getElem_toArray,List.getElem_cons_succ,List.getElem_cons_zero]);go_simp;(try with_reducible rfl)
        try simp only [Act.put,List.getElem_toArray,List.getElem_cons_succ,List.getElem_cons_zero,List.setIfInBounds_toArray,List.set_cons_zero,List.set_cons_succ]
        refine wpAnyH_take (i:=40) (v:=?_) rfl (by kernel_rfl) (by kernel_rfl) (by kernel_rfl) (fun _ _ _ h=>h) (Or.inl ⟨by rfl,?_⟩) (by assumption) ?_
        rotate_left
        ·intro w hSw;(try dsimp only at hSw);(try simp only [List.getElem_toArray,List.getElem_cons_succ,List.getElem_cons_zero]);go_simp;(try with_reducible rfl)
        try simp only [Act.put,List.getElem_toArray,List.getElem_cons_succ,List.getElem_cons_zero,List.setIfInBounds_toArray,List.set_cons_zero,List.set_cons_succ]
        refine wpAnyH_take (i:=41) (v:=?_) rfl (by kernel_rfl) (by kernel_rfl) (by kernel_rfl) (fun _ _ _ h=>h) (Or.inl ⟨by rfl,?_⟩) (by assumption) ?_
        rotate_left
        ·intro w hSw;(try dsimp only at hSw);(try simp only [List.getElem_toArray,List.getElem_cons_succ,List.getElem_cons_zero]);go_simp;(try with_reducible rfl)
        try simp only [Act.put,List.getElem_toArray,List.getElem_cons_succ,List.getElem_cons_zero,List.setIfInBounds_toArray,List.set_cons_zero,List.set_cons_succ]
        refine wpAnyH_ready (rs:=[38]) (by kernel_rfl) (by simp) ?_
        refine AllReadyH.cons rfl (fun K hK=>?_) AllReadyH.nil
        try simp only [List.getElem_toArray,List.getElem_cons_succ,List.getElem_cons_zero]
        go_simp
        go_at_call 30;refine (BU.out _ (by repeat (first | exact Gw.refl _ | exact And.left (by assumption) | exact Hid.out (by assumption) | refine Gw.drew ?_ | refine Gw.drewN ?_ _))).mono ?_;rintro ex w5 ⟨rfl,rfl⟩
        try go_wp2_with fail
        refine hK.out _ _ ?_ (fun hHeld=>?_)
        ·(refine HW.out _ ?_;(repeat (first | exact Gw.refl _ | exact And.left (by assumption) | exact Hid.out (by assumption) | refine Gw.drew ?_ | refine Gw.trans ?_ (by assumption)));done)
        clear hK K
        try simp only [Act.put,List.getElem_toArray,List.getElem_cons_succ,List.getElem_cons_zero,List.setIfInBounds_toArray,List.set_cons_zero,List.set_cons_succ]
        refine wpAnyH_take (i:=42) (v:=?_) rfl (by kernel_rfl) (by kernel_rfl) (by kernel_rfl) (fun _ _ _ h=>h) (Or.inl ⟨by rfl,?_⟩) (by assumption) ?_
        rotate_left
        ·intro w hSw;(try dsimp only at hSw);(try simp only [List.getElem_toArray,List.getElem_cons_succ,List.getElem_cons_zero]);go_simp;(try with_reducible rfl)
        try simp only [Act.put,List.getElem_toArray,List.getElem_cons_succ,List.getElem_cons_zero,List.setIfInBounds_toArray,List.set_cons_zero,List.set_cons_succ]
        refine wpAnyH_take (i:=43) (v:=?_) rfl (by kernel_rfl) (by kernel_rfl) (by kernel_rfl) (fun _ _ _ h=>h) (Or.inl ⟨by rfl,?_⟩) (by assumption) ?_
        rotate_left
        ·intro w hSw;(try dsimp only at hSw);(try simp only [List.getElem_toArray,List.getElem_cons_succ,List.getElem_cons_zero]);go_simp;(try with_reducible rfl)
        try simp only [Act.put,List.getElem_toArray,List.getElem_cons_succ,List.getElem_cons_zero,List.setIfInBounds_toArray,List.set_cons_zero,List.set_cons_succ]
        refine wpAnyH_take (i:=44) (v:=?_) rfl (by kernel_rfl) (by kernel_rfl) (by kernel_rfl) (fun _ _ _ h=>h) (Or.inl ⟨by rfl,?_⟩) (by assumption) ?_
        rotate_left
        ·intro w hSw;(try dsimp only at hSw);(try simp only [List.getElem_toArray,List.getElem_cons_succ,List.getElem_cons_zero]);go_simp;(try with_reducible rfl)
        try simp only [Act.put,List.getElem_toArray,List.getElem_cons_succ,List.getElem_cons_zero,List.setIfInBounds_toArray,List.set_cons_zero,List.set_cons_succ]
        refine wpAnyH_take (i:=45) (v:=?_) rfl (by kernel_rfl) (by kernel_rfl) (by kernel_rfl) (fun _ _ _ h=>h) (Or.inl ⟨by rfl,?_⟩) (by assumption) ?_
        rotate_left
        ·intro w hSw;(try dsimp only at hSw);(try simp only [List.getElem_toArray,List.getElem_cons_succ,List.getElem_cons_zero]);go_simp;(try with_reducible rfl)
        try simp only [Act.put,List.getElem_toArray,List.getElem_cons_succ,List.getElem_cons_zero,List.setIfInBounds_toArray,List.set_cons_zero,List.set_cons_succ]
        refine wpAnyH_take (i:=47) (v:=?_) rfl (by kernel_rfl) (by kernel_rfl) (by kernel_rfl) (fun _ _ _ h=>h) (Or.inl ⟨by rfl,?_⟩) (by assumption) ?_
        rotate_left
        ·intro w hSw;(try dsimp only at hSw);(try simp only [List.getElem_toArray,List.getElem_cons_succ,List.getElem_cons_zero]);go_simp;(try with_reducible rfl)
        try simp only [Act.put,List.getElem_toArray,List.getElem_cons_succ,List.getElem_cons_zero,List.setIfInBounds_toArray,List.set_cons_zero,List.set_cons_succ]
        refine wpAnyH_take (i:=48) (v:=?_) rfl (by kernel_rfl) (by kernel_rfl) (by kernel_rfl) (fun _ _ _ h=>h) (Or.inl ⟨by rfl,?_⟩) (by assumption) ?_
        rotate_left
        ·intro w hSw;(try dsimp only at hSw);(try simp only [List.getElem_toArray,List.getElem_cons_succ,List.getElem_cons_zero]);go_simp;(try with_reducible rfl)
        try simp only [Act.put,List.getElem_toArray,List.getElem_cons_succ,List.getElem_cons_zero,List.setIfInBounds_toArray,List.set_cons_zero,List.set_cons_succ]
        refine wpAnyH_take (i:=49) (v:=?_) rfl (by kernel_rfl) (by kernel_rfl) (by kernel_rfl) (fun _ _ _ h=>h) (Or.inl ⟨by rfl,?_⟩) (by assumption) ?_
        rotate_left
        ·intro w hSw;(try dsimp only at hSw);(try simp only [List.getElem_toArray,List.getElem_cons_succ,List.getElem_cons_zero]);go_simp;(try with_reducible rfl)
        try simp only [Act.put,List.getElem_toArray,List.getElem_cons_succ,List.getElem_cons_zero,List.setIfInBounds_toArray,List.set_cons_zero,List.set_cons_succ]
        refine wpAnyH_take (i:=50) (v:=?_) rfl (by kernel_rfl) (by kernel_rfl) (by kernel_rfl) (fun _ _ _ h=>h) (Or.inl ⟨by rfl,?_⟩) (by assumption) ?_
        rotate_left
        ·intro w hSw;(try dsimp only at hSw);(try simp only [List.getElem_toArray,List.getElem_cons_succ,List.getElem_cons_zero]);go_simp;(try with_reducible rfl)
        try simp only [Act.put,List.getElem_toArray,List.getElem_cons_succ,List.getElem_cons_zero,List.setIfInBounds_toArray,List.set_cons_zero,List.set_cons_succ]
        refine wpAnyH_ready (rs:=[46]) (by kernel_rfl) (by simp) ?_
        refine AllReadyH.cons rfl (fun K hK=>?_) AllReadyH.nil
        try simp only [List.getElem_toArray,List.getElem_cons_succ,List.getElem_cons_zero]
        go_simp
        go_at_call 31;refine (WR.out _ (by repeat (first | exact Gw.refl _ | exact And.left (by assumption) | exact Hid.out (by assumption) | refine Gw.drew ?_ | refine Gw.drewN ?_ _))).mono ?_;rintro ex w5 ⟨rfl,rfl⟩
        try go_wp2_with fail
        refine hK.out _ _ ?_ (fun hHeld=>?_)
        ·(refine HW.out _ ?_;(repeat (first | exact Gw.refl _ | exact And.left (by assumption) | exact Hid.out (by assumption) | refine Gw.drew ?_ | refine Gw.trans ?_ (by assumption)));done)
        clear hK K
        try simp only [Act.put,List.getElem_toArray,List.getElem_cons_succ,List.getElem_cons_zero,List.setIfInBounds_toArray,List.set_cons_zero,List.set_cons_succ]
        refine wpAnyH_take (i:=51) (v:=?_) rfl (by kernel_rfl) (by kernel_rfl) (by kernel_rfl) (fun _ _ _ h=>h) (Or.inl ⟨by rfl,?_⟩) (by assumption) ?_
        rotate_left
        ·intro w hSw;(try dsimp only at hSw);(try simp only [List.getElem_toArray,List.getElem_cons_succ,List.getElem_cons_zero]);go_simp;(try with_reducible rfl)
        try simp only [Act.put,List.getElem_toArray,List.getElem_cons_succ,List.getElem_cons_zero,List.setIfInBounds_toArray,List.set_cons_zero,List.set_cons_succ]
        refine wpAnyH_take (i:=52) (v:=?_) rfl (by kernel_rfl) (by kernel_rfl) (by kernel_rfl) (fun _ _ _ h=>h) (Or.inl ⟨by rfl,?_⟩) (by assumption) ?_
        rotate_left
        ·intro w hSw;(try dsimp only at hSw);(try simp only [List.getElem_toArray,List.getElem_cons_succ,List.getElem_cons_zero]);go_simp;(try with_reducible rfl)
        try simp only [Act.put,List.getElem_toArray,List.getElem_cons_succ,List.getElem_cons_zero,List.setIfInBounds_toArray,List.set_cons_zero,List.set_cons_succ]
        refine wpAnyH_take (i:=53) (v:=?_) rfl (by kernel_rfl) (by kernel_rfl) (by kernel_rfl) (fun _ _ _ h=>h) (Or.inl ⟨by rfl,?_⟩) (by assumption) ?_
        rotate_left
        ·intro w hSw;(try dsimp only at hSw);(try simp only [List.getElem_toArray,List.getElem_cons_succ,List.getElem_cons_zero]);go_simp;(try with_reducible rfl)
        try simp only [Act.put,List.getElem_toArray,List.getElem_cons_succ,List.getElem_cons_zero,List.setIfInBounds_toArray,List.set_cons_zero,List.set_cons_succ]
        refine wpAnyH_take (i:=54) (v:=?_) rfl (by kernel_rfl) (by kernel_rfl) (by kernel_rfl) (fun _ _ _ h=>h) (Or.inl ⟨by rfl,?_⟩) (by assumption) ?_
        rotate_left
        ·intro w hSw;(try dsimp only at hSw);(try simp only [List.getElem_toArray,List.getElem_cons_succ,List.getElem_cons_zero]);go_simp;(try with_reducible rfl)
        try simp only [Act.put,List.getElem_toArray,List.getElem_cons_succ,List.getElem_cons_zero,List.setIfInBounds_toArray,List.set_cons_zero,List.set_cons_succ]
        refine wpAnyH_take (i:=55) (v:=?_) rfl (by kernel_rfl) (by kernel_rfl) (by kernel_rfl) (fun _ _ _ h=>h) (Or.inl ⟨by rfl,?_⟩) (by assumption) ?_
        rotate_left
        ·intro w hSw;(try dsimp only at hSw);(try simp only [List.getElem_toArray,List.getElem_cons_succ,List.getElem_cons_zero]);go_simp;(try with_reducible rfl)
        try simp only [Act.put,List.getElem_toArray,List.getElem_cons_succ,List.getElem_cons_zero,List.setIfInBounds_toArray,List.set_cons_zero,List.set_cons_succ]
        refine wpAnyH_take (i:=57) (v:=?_) rfl (by kernel_rfl) (by kernel_rfl) (by kernel_rfl) (fun _ _ _ h=>h) (Or.inl ⟨by rfl,?_⟩) (by assumption) ?_
        rotate_left
        ·intro w hSw;(try dsimp only at hSw);(try simp only [List.getElem_toArray,List.getElem_cons_succ,List.getElem_cons_zero]);go_simp;(try with_reducible rfl)
        try simp only [Act.put,List.getElem_toArray,List.getElem_cons_succ,List.getElem_cons_zero,List.setIfInBounds_toArray,List.set_cons_zero,List.set_cons_succ]
        refine wpAnyH_ready (rs:=[56]) (by kernel_rfl) (by simp) ?_
        refine AllReadyH.cons rfl (fun K hK=>?_) AllReadyH.nil
        try simp only [List.getElem_toArray,List.getElem_cons_succ,List.getElem_cons_zero]
        go_simp
        go_at_call 20;refine (RN.out _ (by repeat (first | exact Gw.refl _ | exact And.left (by assumption) | exact Hid.out (by assumption) | refine Gw.drew ?_ | refine Gw.drewN ?_ _))).mono ?_;rintro ex w7 ⟨⟨b7,c7,rfl,pr7⟩,g7⟩;have PR7:Aside (PR HR w7 (some ⟨b7,0,none⟩) (rs'.take t')):=pr7;have G7:Hid (Gw wE w7):=(Gw.trans (by repeat (first | exact Gw.refl _ | exact And.left (by assumption) | exact Hid.out (by assumption) | refine Gw.drew ?_ | refine Gw.drewN ?_ _)) g7);clear pr7 g7
        try go_wp2_with fail
        refine hK.out _ _ ?_ (fun hHeld=>?_)
        ·(refine HW.out _ ?_;(repeat (first | exact Gw.refl _ | exact And.left (by assumption) | exact Hid.out (by assumption) | refine Gw.drew ?_ | refine Gw.trans ?_ (by assumption)));done)
        clear hK K
        try simp only [Act.put,List.getElem_toArray,List.getElem_cons_succ,List.getElem_cons_zero,List.setIfInBounds_toArray,List.set_cons_zero,List.set_cons_succ]
        refine wpAnyH_ready (rs:=[58]) (by kernel_rfl) (by simp) ?_
        refine AllReadyH.cons rfl (fun K hK=>?_) AllReadyH.nil
        try simp only [List.getElem_toArray,List.getElem_cons_succ,List.getElem_cons_zero]
        go_simp
        go_at_call 32;refine (AV.out _ b7 c7 (by repeat (first | exact Gw.refl _ | exact And.left (by assumption) | exact Hid.out (by assumption) | refine Gw.drew ?_ | refine Gw.drewN ?_ _)) (PR7.out.gw HH.out.kp (by first | exact Gw.refl _ | exact Gw.drew (Gw.refl _)))).mono ?_;rintro ex w8 ⟨rfl,g8⟩;have G8:Hid (Gw wE w8):=(Gw.trans (by repeat (first | exact Gw.refl _ | exact And.left (by assumption) | exact Hid.out (by assumption) | refine Gw.drew ?_ | refine Gw.drewN ?_ _)) g8);clear g8
        try go_wp2_with fail
        refine hK.out _ _ ?_ (fun hHeld=>?_)
        ·(refine HW.out _ ?_;(repeat (first | exact Gw.refl _ | exact And.left (by assumption) | exact Hid.out (by assumption) | refine Gw.drew ?_ | refine Gw.trans ?_ (by assumption)));done)
        clear hK K
        try simp only [Act.put,List.getElem_toArray,List.getElem_cons_succ,List.getElem_cons_zero,List.setIfInBounds_toArray,List.set_cons_zero,List.set_cons_succ]
        refine wpAnyH_take (i:=59) (v:=?_) rfl (by kernel_rfl) (by kernel_rfl) (by kernel_rfl) (fun _ _ _ h=>h) (Or.inl ⟨by rfl,?_⟩) (by assumption) ?_
        rotate_left
        ·intro w hSw;(try dsimp only at hSw);(try simp only [List.getElem_toArray,List.getElem_cons_succ,List.getElem_cons_zero]);go_simp;(try with_reducible rfl)
        try simp only [Act.put,List.getElem_toArray,List.getElem_cons_succ,List.getElem_cons_zero,List.setIfInBounds_toArray,List.set_cons_zero,List.set_cons_succ]
        refine wpAnyH_take (i:=60) (v:=?_) rfl (by kernel_rfl) (by kernel_rfl) (by kernel_rfl) (fun _ _ _ h=>h) (Or.inl ⟨by rfl,?_⟩) (by assumption) ?_
        rotate_left
        ·intro w hSw;(try dsimp only at hSw);(try simp only [List.getElem_toArray,List.getElem_cons_succ,List.getElem_cons_zero]);go_simp;(try with_reducible rfl)
        try simp only [Act.put,List.getElem_toArray,List.getElem_cons_succ,List.getElem_cons_zero,List.setIfInBounds_toArray,List.set_cons_zero,List.set_cons_succ]
        refine wpAnyH_done (by kernel_rfl) ?_ _
        have HCN:Aside (HCl HR w8 p rs' eps (m0:Int) B' (W+((0:Nat):Int))):=HCE.out.gw HH.out.kp G8.out
        have GN:Aside (Gw w w8):=GWE.out.trans G8.out
        clear PR7 G7 G8 HW
        go_wp2_with fail
        go_roundg (n-(i+1))
        case measure=>omega
        case rel=>exact ⟨i+1,rs',B',W+((0:Nat):Int),by go_num,by omega,Nat.le_refl _,HCN,INV',BWN,GN⟩
       ·have frt3:¬ (fr:Int)<(t':Int):=by omega
        have frt4:decide ((fr:Int)<(t':Int))=false:=by simp;omega
        have frt5:decide (fr<t')=false:=by simp;omega
        clear ROW
        have HW:Hid (∀ w',Gw wE w'→Gw wE w'∧w'.cell? ⟨bx,2,none⟩=some (.int .i64 0)):=fun w' gg=>⟨gg,(gg.cell _ _ bxl).trans e2⟩
        go_wp2_with fail
        try dsimp only [List.append]
        refine wp_region_held_drew (S:=(fun w'=>Gw wE w'∧w'.cell? ⟨bx,2,none⟩=some (.int .i64 0))) (by kernel_rfl) ?_ (fun hHeld=>?_)
        ·(refine HW.out _ ?_;(repeat (first | exact Gw.refl _ | exact And.left (by assumption) | exact Hid.out (by assumption) | refine Gw.drew ?_ | refine Gw.trans ?_ (by assumption)));done)
        refine wpAnyH_take (i:=0) (v:=?_) rfl (by kernel_rfl) (by kernel_rfl) (by kernel_rfl) (fun _ _ _ h=>h) (Or.inl ⟨by rfl,?_⟩) (by assumption) ?_
        rotate_left
        ·intro w hSw;(try dsimp only at hSw);(try simp only [List.getElem_toArray,List.getElem_cons_zero]);go_simp;(try with_reducible rfl)
        try simp only [Act.put,List.getElem_toArray,List.getElem_cons_zero,List.setIfInBounds_toArray,List.set_cons_zero,List.set_cons_succ]
        refine wpAnyH_take (i:=1) (v:=?_) rfl (by kernel_rfl) (by kernel_rfl) (by kernel_rfl) (fun _ _ _ h=>h) (Or.inl ⟨by rfl,?_⟩) (by assumption) ?_
        rotate_left
        ·intro w hSw;(try dsimp only at hSw);(try simp only [List.getElem_toArray,List.getElem_cons_succ,List.getElem_cons_zero]);go_simp;(try with_reducible rfl)
        try simp only [Act.put,List.getElem_toArray,List.getElem_cons_succ,List.getElem_cons_zero,List.setIfInBounds_toArray,List.set_cons_zero,List.set_cons_succ]
        refine wpAnyH_take (i:=2) (v:=?_) rfl (by kernel_rfl) (by kernel_rfl) (by kernel_rfl) (fun _ _ _ h=>h) (Or.inl ⟨by rfl,?_⟩) (by assumption) ?_
        rotate_left
        ·intro w hSw;(try dsimp only at hSw);(try simp only [List.getElem_toArray,List.getElem_cons_succ,List.getElem_cons_zero]);go_simp;(try with_reducible rfl)
        try simp only [Act.put,List.getElem_toArray,List.getElem_cons_succ,List.getElem_cons_zero,List.setIfInBounds_toArray,List.set_cons_zero,List.set_cons_succ]
        refine wpAnyH_take (i:=3) (v:=?_) rfl (by kernel_rfl) (by kernel_rfl) (by kernel_rfl) (fun _ _ _ h=>h) (Or.inl ⟨by rfl,?_⟩) (by assumption) ?_
        rotate_left
        ·intro w hSw;(try dsimp only at hSw);(try simp only [List.getElem_toArray,List.getElem_cons_succ,List.getElem_cons_zero]);go_simp;(try with_reducible rfl)
        try simp only [Act.put,List.getElem_toArray,List.getElem_cons_succ,List.getElem_cons_zero,List.setIfInBounds_toArray,List.set_cons_zero,List.set_cons_succ]
        refine wpAnyH_take (i:=4) (v:=undef) rfl (by kernel_rfl) (by kernel_rfl) (by kernel_rfl) (fun _ _ _ h=>h) (Or.inr ⟨by rfl,rfl⟩) (by assumption) ?_
        try simp only [Act.put,List.getElem_toArray,List.getElem_cons_succ,List.getElem_cons_zero,List.setIfInBounds_toArray,List.set_cons_zero,List.set_cons_succ]
        refine wpAnyH_take (i:=5) (v:=undef) rfl (by kernel_rfl) (by kernel_rfl) (by kernel_rfl) (fun _ _ _ h=>h) (Or.inr ⟨by rfl,rfl⟩) (by assumption) ?_
        try simp only [Act.put,List.getElem_toArray,List.getElem_cons_succ,List.getElem_cons_zero,List.setIfInBounds_toArray,List.set_cons_zero,List.set_cons_succ]
        refine wpAnyH_take (i:=6) (v:=undef) rfl (by kernel_rfl) (by kernel_rfl) (by kernel_rfl) (fun _ _ _ h=>h) (Or.inr ⟨by rfl,rfl⟩) (by assumption) ?_
        try simp only [Act.put,List.getElem_toArray,List.getElem_cons_succ,List.getElem_cons_zero,List.setIfInBounds_toArray,List.set_cons_zero,List.set_cons_succ]
        refine wpAnyH_take (i:=7) (v:=undef) rfl (by kernel_rfl) (by kernel_rfl) (by kernel_rfl) (fun _ _ _ h=>h) (Or.inr ⟨by rfl,rfl⟩) (by assumption) ?_
        try simp only [Act.put,List.getElem_toArray,List.getElem_cons_succ,List.getElem_cons_zero,List.setIfInBounds_toArray,List.set_cons_zero,List.set_cons_succ]
        refine wpAnyH_take (i:=8) (v:=undef) rfl (by kernel_rfl) (by kernel_rfl) (by kernel_rfl) (fun _ _ _ h=>h) (Or.inr ⟨by rfl,rfl⟩) (by assumption) ?_
        try simp only [Act.put,List.getElem_toArray,List.getElem_cons_succ,List.getElem_cons_zero,List.setIfInBounds_toArray,List.set_cons_zero,List.set_cons_succ]
        refine wpAnyH_take (i:=9) (v:=undef) rfl (by kernel_rfl) (by kernel_rfl) (by kernel_rfl) (fun _ _ _ h=>h) (Or.inr ⟨by rfl,rfl⟩) (by assumption) ?_
        try simp only [Act.put,List.getElem_toArray,List.getElem_cons_succ,List.getElem_cons_zero,List.setIfInBounds_toArray,List.set_cons_zero,List.set_cons_succ]
        refine wpAnyH_take (i:=10) (v:=undef) rfl (by kernel_rfl) (by kernel_rfl) (by kernel_rfl) (fun _ _ _ h=>h) (Or.inr ⟨by rfl,rfl⟩) (by assumption) ?_
        try simp only [Act.put,List.getElem_toArray,List.getElem_cons_succ,List.getElem_cons_zero,List.setIfInBounds_toArray,List.set_cons_zero,List.set_cons_succ]
        refine wpAnyH_take (i:=11) (v:=undef) rfl (by kernel_rfl) (by kernel_rfl) (by kernel_rfl) (fun _ _ _ h=>h) (Or.inr ⟨by rfl,rfl⟩) (by assumption) ?_
        try simp only [Act.put,List.getElem_toArray,List.getElem_cons_succ,List.getElem_cons_zero,List.setIfInBounds_toArray,List.set_cons_zero,List.set_cons_succ]
        refine wpAnyH_take (i:=12) (v:=undef) rfl (by kernel_rfl) (by kernel_rfl) (by kernel_rfl) (fun _ _ _ h=>h) (Or.inr ⟨by rfl,rfl⟩) (by assumption) ?_
        try simp only [Act.put,List.getElem_toArray,List.getElem_cons_succ,List.getElem_cons_zero,List.setIfInBounds_toArray,List.set_cons_zero,List.set_cons_succ]
        refine wpAnyH_take (i:=13) (v:=undef) rfl (by kernel_rfl) (by kernel_rfl) (by kernel_rfl) (fun _ _ _ h=>h) (Or.inr ⟨by rfl,rfl⟩) (by assumption) ?_
        try simp only [Act.put,List.getElem_toArray,List.getElem_cons_succ,List.getElem_cons_zero,List.setIfInBounds_toArray,List.set_cons_zero,List.set_cons_succ]
        refine wpAnyH_take (i:=14) (v:=undef) rfl (by kernel_rfl) (by kernel_rfl) (by kernel_rfl) (fun _ _ _ h=>h) (Or.inr ⟨by rfl,rfl⟩) (by assumption) ?_
        try simp only [Act.put,List.getElem_toArray,List.getElem_cons_succ,List.getElem_cons_zero,List.setIfInBounds_toArray,List.set_cons_zero,List.set_cons_succ]
        refine wpAnyH_take (i:=15) (v:=undef) rfl (by kernel_rfl) (by kernel_rfl) (by kernel_rfl) (fun _ _ _ h=>h) (Or.inr ⟨by rfl,rfl⟩) (by assumption) ?_
        try simp only [Act.put,List.getElem_toArray,List.getElem_cons_succ,List.getElem_cons_zero,List.setIfInBounds_toArray,List.set_cons_zero,List.set_cons_succ]
        refine wpAnyH_take (i:=16) (v:=undef) rfl (by kernel_rfl) (by kernel_rfl) (by kernel_rfl) (fun _ _ _ h=>h) (Or.inr ⟨by rfl,rfl⟩) (by assumption) ?_
        try simp only [Act.put,List.getElem_toArray,List.getElem_cons_succ,List.getElem_cons_zero,List.setIfInBounds_toArray,List.set_cons_zero,List.set_cons_succ]
        refine wpAnyH_take (i:=17) (v:=?_) rfl (by kernel_rfl) (by kernel_rfl) (by kernel_rfl) (fun _ _ _ h=>h) (Or.inl ⟨by rfl,?_⟩) (by assumption) ?_
        rotate_left
        ·intro w hSw;(try dsimp only at hSw);(try simp only [List.getElem_toArray,List.getElem_cons_succ,List.getElem_cons_zero]);go_simp;(try with_reducible rfl)
        try simp only [Act.put,List.getElem_toArray,List.getElem_cons_succ,List.getElem_cons_zero,List.setIfInBounds_toArray,List.set_cons_zero,List.set_cons_succ]
        refine wpAnyH_take (i:=18) (v:=?_) rfl (by kernel_rfl) (by kernel_rfl) (by kernel_rfl) (fun _ _ _ h=>h) (Or.inl ⟨by rfl,?_⟩) (by assumption) ?_
        rotate_left
        ·intro w hSw;(try dsimp only at hSw);(try simp only [List.getElem_toArray,List.getElem_cons_succ,List.getElem_cons_zero]);go_simp;(try with_reducible rfl)
        try simp only [Act.put,List.getElem_toArray,List.getElem_cons_succ,List.getElem_cons_zero,List.setIfInBounds_toArray,List.set_cons_zero,List.set_cons_succ]
        refine wpAnyH_take (i:=19) (v:=?_) rfl (by kernel_rfl) (by kernel_rfl) (by kernel_rfl) (fun _ _ _ h=>h) (Or.inl ⟨by rfl,?_⟩) (by assumption) ?_
        rotate_left
        ·intro w hSw;(try dsimp only at hSw);(try simp only [List.getElem_toArray,List.getElem_cons_succ,List.getElem_cons_zero]);go_simp;(try with_reducible rfl)
        try simp only [Act.put,List.getElem_toArray,List.getElem_cons_succ,List.getElem_cons_zero,List.setIfInBounds_toArray,List.set_cons_zero,List.set_cons_succ]
        refine wpAnyH_take (i:=20) (v:=?_) rfl (by kernel_rfl) (by kernel_rfl) (by kernel_rfl) (fun _ _ _ h=>h) (Or.inl ⟨by rfl,?_⟩) (by assumption) ?_
        rotate_left
        ·intro w hSw;(try dsimp only at hSw);(try simp only [List.getElem_toArray,List.getElem_cons_succ,List.getElem_cons_zero]);go_simp;(try with_reducible rfl)
        try simp only [Act.put,List.getElem_toArray,List.getElem_cons_succ,List.getElem_cons_zero,List.setIfInBounds_toArray,List.set_cons_zero,List.set_cons_succ]
        refine wpAnyH_take (i:=21) (v:=?_) rfl (by kernel_rfl) (by kernel_rfl) (by kernel_rfl) (fun _ _ _ h=>h) (Or.inl ⟨by rfl,?_⟩) (by assumption) ?_
        rotate_left
        ·intro w hSw;(try dsimp only at hSw);(try simp only [List.getElem_toArray,List.getElem_cons_succ,List.getElem_cons_zero]);go_simp;(try with_reducible rfl)
        try simp only [Act.put,List.getElem_toArray,List.getElem_cons_succ,List.getElem_cons_zero,List.setIfInBounds_toArray,List.set_cons_zero,List.set_cons_succ]
        refine wpAnyH_take (i:=22) (v:=?_) rfl (by kernel_rfl) (by kernel_rfl) (by kernel_rfl) (fun _ _ _ h=>h) (Or.inl ⟨by rfl,?_⟩) (by assumption) ?_
        rotate_left
        ·intro w hSw;(try dsimp only at hSw);(try simp only [List.getElem_toArray,List.getElem_cons_succ,List.getElem_cons_zero]);go_simp;(try with_reducible rfl)
        try simp only [Act.put,List.getElem_toArray,List.getElem_cons_succ,List.getElem_cons_zero,List.setIfInBounds_toArray,List.set_cons_zero,List.set_cons_succ]
        refine wpAnyH_take (i:=23) (v:=?_) rfl (by kernel_rfl) (by kernel_rfl) (by kernel_rfl) (fun _ _ _ h=>h) (Or.inl ⟨by rfl,?_⟩) (by assumption) ?_
        rotate_left
        ·intro w hSw;(try dsimp only at hSw);(try simp only [List.getElem_toArray,List.getElem_cons_succ,List.getElem_cons_zero]);go_simp;(try with_reducible rfl)
        try simp only [Act.put,List.getElem_toArray,List.getElem_cons_succ,List.getElem_cons_zero,List.setIfInBounds_toArray,List.set_cons_zero,List.set_cons_succ]
        refine wpAnyH_take (i:=24) (v:=?_) rfl (by kernel_rfl) (by kernel_rfl) (by kernel_rfl) (fun _ _ _ h=>h) (Or.inl ⟨by rfl,?_⟩) (by assumption) ?_
        rotate_left
        ·intro w hSw;(try dsimp only at hSw);(try simp only [List.getElem_toArray,List.getElem_cons_succ,List.getElem_cons_zero]);go_simp;(try with_reducible rfl)
        try simp only [Act.put,List.getElem_toArray,List.getElem_cons_succ,List.getElem_cons_zero,List.setIfInBounds_toArray,List.set_cons_zero,List.set_cons_succ]
        refine wpAnyH_take (i:=25) (v:=?_) rfl (by kernel_rfl) (by kernel_rfl) (by kernel_rfl) (fun _ _ _ h=>h) (Or.inl ⟨by rfl,?_⟩) (by assumption) ?_
        rotate_left
        ·intro w hSw;(try dsimp only at hSw);(try simp only [List.getElem_toArray,List.getElem_cons_succ,List.getElem_cons_zero]);go_simp;(try with_reducible rfl)
        try simp only [Act.put,List.getElem_toArray,List.getElem_cons_succ,List.getElem_cons_zero,List.setIfInBounds_toArray,List.set_cons_zero,List.set_cons_succ]
        refine wpAnyH_take (i:=26) (v:=?_) rfl (by kernel_rfl) (by kernel_rfl) (by kernel_rfl) (fun _ _ _ h=>h) (Or.inl ⟨by rfl,?_⟩) (by assumption) ?_
        rotate_left
        ·intro w hSw;(try dsimp only at hSw);(try simp only [List.getElem_toArray,List.getElem_cons_succ,List.getElem_cons_zero]);go_simp;(try with_reducible rfl)
        try simp only [Act.put,List.getElem_toArray,List.getElem_cons_succ,List.getElem_cons_zero,List.setIfInBounds_toArray,List.set_cons_zero,List.set_cons_succ]
        refine wpAnyH_take (i:=27) (v:=?_) rfl (by kernel_rfl) (by kernel_rfl) (by kernel_rfl) (fun _ _ _ h=>h) (Or.inl ⟨by rfl,?_⟩) (by assumption) ?_
        rotate_left
        ·intro w hSw;(try dsimp only at hSw);(try simp only [List.getElem_toArray,List.getElem_cons_succ,List.getElem_cons_zero]);go_simp;(try with_reducible rfl)
        try simp only [Act.put,List.getElem_toArray,List.getElem_cons_succ,List.getElem_cons_zero,List.setIfInBounds_toArray,List.set_cons_zero,List.set_cons_succ]
        refine wpAnyH_take (i:=28) (v:=?_) rfl (by kernel_rfl) (by kernel_rfl) (by kernel_rfl) (fun _ _ _ h=>h) (Or.inl ⟨by rfl,?_⟩) (by assumption) ?_
        rotate_left
        ·intro w hSw;(try dsimp only at hSw);(try simp only [List.getElem_toArray,List.getElem_cons_succ,List.getElem_cons_zero]);go_simp;(try with_reducible rfl)
        try simp only [Act.put,List.getElem_toArray,List.getElem_cons_succ,List.getElem_cons_zero,List.setIfInBounds_toArray,List.set_cons_zero,List.set_cons_succ]
        refine wpAnyH_take (i:=29) (v:=undef) rfl (by kernel_rfl) (by kernel_rfl) (by kernel_rfl) (fun _ _ _ h=>h) (Or.inr ⟨by rfl,rfl⟩) (by assumption) ?_
        try simp only [Act.put,List.getElem_toArray,List.getElem_cons_succ,List.getElem_cons_zero,List.setIfInBounds_toArray,List.set_cons_zero,List.set_cons_succ]
        refine wpAnyH_take (i:=30) (v:=undef) rfl (by kernel_rfl) (by kernel_rfl) (by kernel_rfl) (fun _ _ _ h=>h) (Or.inr ⟨by rfl,rfl⟩) (by assumption) ?_
        try simp only [Act.put,List.getElem_toArray,List.getElem_cons_succ,List.getElem_cons_zero,List.setIfInBounds_toArray,List.set_cons_zero,List.set_cons_succ]
        refine wpAnyH_take (i:=31) (v:=undef) rfl (by kernel_rfl) (by kernel_rfl) (by kernel_rfl) (fun _ _ _ h=>h) (Or.inr ⟨by rfl,rfl⟩) (by assumption) ?_
        try simp only [Act.put,List.getElem_toArray,List.getElem_cons_succ,List.getElem_cons_zero,List.setIfInBounds_toArray,List.set_cons_zero,List.set_cons_succ]
        refine wpAnyH_take (i:=32) (v:=undef) rfl (by kernel_rfl) (by kernel_rfl) (by kernel_rfl) (fun _ _ _ h=>h) (Or.inr ⟨by rfl,rfl⟩) (by assumption) ?_
        try simp only [Act.put,List.getElem_toArray,List.getElem_cons_succ,List.getElem_cons_zero,List.setIfInBounds_toArray,List.set_cons_zero,List.set_cons_succ]
        refine wpAnyH_take (i:=33) (v:=undef) rfl (by kernel_rfl) (by kernel_rfl) (by kernel_rfl) (fun _ _ _ h=>h) (Or.inr ⟨by rfl,rfl⟩) (by assumption) ?_
        try simp only [Act.put,List.getElem_toArray,List.getElem_cons_succ,List.getElem_cons_zero,List.setIfInBounds_toArray,List.set_cons_zero,List.set_cons_succ]
        refine wpAnyH_take (i:=34) (v:=?_) rfl (by kernel_rfl) (by kernel_rfl) (by kernel_rfl) (fun _ _ _ h=>h) (Or.inl ⟨by rfl,?_⟩) (by assumption) ?_
        rotate_left
        ·intro w hSw;(try dsimp only at hSw);(try simp only [List.getElem_toArray,List.getElem_cons_succ,List.getElem_cons_zero]);go_simp;(try with_reducible rfl)
        try simp only [Act.put,List.getElem_toArray,List.getElem_cons_succ,List.getElem_cons_zero,List.setIfInBounds_toArray,List.set_cons_zero,List.set_cons_succ]
        refine wpAnyH_take (i:=35) (v:=?_) rfl (by kernel_rfl) (by kernel_rfl) (by kernel_rfl) (fun _ _ _ h=>h) (Or.inl ⟨by rfl,?_⟩) (by assumption) ?_
        rotate_left
        ·intro w hSw;(try dsimp only at hSw);(try simp only [List.getElem_toArray,List.getElem_cons_succ,List.getElem_cons_zero]);go_simp;(try with_reducible rfl)
        try simp only [Act.put,List.getElem_toArray,List.getElem_cons_succ,List.getElem_cons_zero,List.setIfInBounds_toArray,List.set_cons_zero,List.set_cons_succ]
        refine wpAnyH_take (i:=36) (v:=?_) rfl (by kernel_rfl) (by kernel_rfl) (by kernel_rfl) (fun _ _ _ h=>h) (Or.inl ⟨by rfl,?_⟩) (by assumption) ?_
        rotate_left
        ·intro w hSw;(try dsimp only at hSw);(try simp only [List.getElem_toArray,List.getElem_cons_succ,List.getElem_cons_zero]);go_simp;(try with_reducible rfl)
        try simp only [Act.put,List.getElem_toArray,List.getElem_cons_succ,List.getElem_cons_zero,List.setIfInBounds_toArray,List.set_cons_zero,List.set_cons_succ]
        refine wpAnyH_take (i:=37) (v:=?_) rfl (by kernel_rfl) (by kernel_rfl) (by kernel_rfl) (fun _ _ _ h=>h) (Or.inl ⟨by rfl,?_⟩) (by assumption) ?_
        rotate_left
        ·intro w hSw;(try dsimp only at hSw);(try simp only [List.getElem_toArray,List.getElem_cons_succ,List.getElem_cons_zero]);go_simp;(try with_reducible rfl)
        try simp only [Act.put,List.getElem_toArray,List.getElem_cons_succ,List.getElem_cons_zero,List.setIfInBounds_toArray,List.set_cons_zero,List.set_cons_succ]
        refine wpAnyH_take (i:=39) (v:=?_) rfl (by kernel_rfl) (by kernel_rfl) (by kernel_rfl) (fun _ _ _ h=>h) (Or.inl ⟨by rfl,?_⟩) (by assumption) ?_
        rotate_left
        ·intro w hSw;(try dsimp only at hSw);(try simp only [List.getElem_toArray,List.getElem_cons_succ,List.getElem_cons_zero]);go_simp;(try with_reducible rfl)
        try simp only [Act.put,List.getElem_toArray,List.getElem_cons_succ,List.getElem_cons_zero,List.setIfInBounds_toArray,List.set_cons_zero,List.set_cons_succ]
        refine wpAnyH_take (i:=40) (v:=?_) rfl (by kernel_rfl) (by kernel_rfl) (by kernel_rfl) (fun _ _ _ h=>h) (Or.inl ⟨by rfl,?_⟩) (by assumption) ?_
        rotate_left
        ·intro w hSw;(try dsimp only at hSw);(try simp only [List.getElem_toArray,List.getElem_cons_succ,List.getElem_cons_zero]);go_simp;(try with_reducible rfl)
        try simp only [Act.put,List.getElem_toArray,List.getElem_cons_succ,List.getElem_cons_zero,List.setIfInBounds_toArray,List.set_cons_zero,List.set_cons_succ]
        refine wpAnyH_take (i:=41) (v:=?_) rfl (by kernel_rfl) (by kernel_rfl) (by kernel_rfl) (fun _ _ _ h=>h) (Or.inl ⟨by rfl,?_⟩) (by assumption) ?_
        rotate_left
        ·intro w hSw;(try dsimp only at hSw);(try simp only [List.getElem_toArray,List.getElem_cons_succ,List.getElem_cons_zero]);go_simp;(try with_reducible rfl)
        try simp only [Act.put,List.getElem_toArray,List.getElem_cons_succ,List.getElem_cons_zero,List.setIfInBounds_toArray,List.set_cons_zero,List.set_cons_succ]
        refine wpAnyH_ready (rs:=[38]) (by kernel_rfl) (by simp) ?_
        refine AllReadyH.cons rfl (fun K hK=>?_) AllReadyH.nil
        try simp only [List.getElem_toArray,List.getElem_cons_succ,List.getElem_cons_zero]
        go_simp
        go_at_call 30;refine (BU.out _ (by repeat (first | exact Gw.refl _ | exact And.left (by assumption) | exact Hid.out (by assumption) | refine Gw.drew ?_ | refine Gw.drewN ?_ _))).mono ?_;rintro ex w5 ⟨rfl,rfl⟩
        try go_wp2_with fail
        refine hK.out _ _ ?_ (fun hHeld=>?_)
        ·(refine HW.out _ ?_;(repeat (first | exact Gw.refl _ | exact And.left (by assumption) | exact Hid.out (by assumption) | refine Gw.drew ?_ | refine Gw.trans ?_ (by assumption)));done)
        clear hK K
        try simp only [Act.put,List.getElem_toArray,List.getElem_cons_succ,List.getElem_cons_zero,List.setIfInBounds_toArray,List.set_cons_zero,List.set_cons_succ]
        refine wpAnyH_take (i:=42) (v:=?_) rfl (by kernel_rfl) (by kernel_rfl) (by kernel_rfl) (fun _ _ _ h=>h) (Or.inl ⟨by rfl,?_⟩) (by assumption) ?_
        rotate_left
        ·intro w hSw;(try dsimp only at hSw);(try simp only [List.getElem_toArray,List.getElem_cons_succ,List.getElem_cons_zero]);go_simp;(try with_reducible rfl)
        try simp only [Act.put,List.getElem_toArray,List.getElem_cons_succ,List.getElem_cons_zero,List.setIfInBounds_toArray,List.set_cons_zero,List.set_cons_succ]
        refine wpAnyH_take (i:=43) (v:=?_) rfl (by kernel_rfl) (by kernel_rfl) (by kernel_rfl) (fun _ _ _ h=>h) (Or.inl ⟨by rfl,?_⟩) (by assumption) ?_
        rotate_left
        ·intro w hSw;(try dsimp only at hSw);(try simp only [List.getElem_toArray,List.getElem_cons_succ,List.getElem_cons_zero]);go_simp;(try with_reducible rfl)
        try simp only [Act.put,List.getElem_toArray,List.getElem_cons_succ,List.getElem_cons_zero,List.setIfInBounds_toArray,List.set_cons_zero,List.set_cons_succ]
        refine wpAnyH_take (i:=44) (v:=?_) rfl (by kernel_rfl) (by kernel_rfl) (by kernel_rfl) (fun _ _ _ h=>h) (Or.inl ⟨by rfl,?_⟩) (by assumption) ?_
        rotate_left
        ·intro w hSw;(try dsimp only at hSw);(try simp only [List.getElem_toArray,List.getElem_cons_succ,List.getElem_cons_zero]);go_simp;(try with_reducible rfl)
        try simp only [Act.put,List.getElem_toArray,List.getElem_cons_succ,List.getElem_cons_zero,List.setIfInBounds_toArray,List.set_cons_zero,List.set_cons_succ]
        refine wpAnyH_take (i:=45) (v:=?_) rfl (by kernel_rfl) (by kernel_rfl) (by kernel_rfl) (fun _ _ _ h=>h) (Or.inl ⟨by rfl,?_⟩) (by assumption) ?_
        rotate_left
        ·intro w hSw;(try dsimp only at hSw);(try simp only [List.getElem_toArray,List.getElem_cons_succ,List.getElem_cons_zero]);go_simp;(try with_reducible rfl)
        try simp only [Act.put,List.getElem_toArray,List.getElem_cons_succ,List.getElem_cons_zero,List.setIfInBounds_toArray,List.set_cons_zero,List.set_cons_succ]
        refine wpAnyH_take (i:=47) (v:=?_) rfl (by kernel_rfl) (by kernel_rfl) (by kernel_rfl) (fun _ _ _ h=>h) (Or.inl ⟨by rfl,?_⟩) (by assumption) ?_
        rotate_left
        ·intro w hSw;(try dsimp only at hSw);(try simp only [List.getElem_toArray,List.getElem_cons_succ,List.getElem_cons_zero]);go_simp;(try with_reducible rfl)
        try simp only [Act.put,List.getElem_toArray,List.getElem_cons_succ,List.getElem_cons_zero,List.setIfInBounds_toArray,List.set_cons_zero,List.set_cons_succ]
        refine wpAnyH_take (i:=48) (v:=?_) rfl (by kernel_rfl) (by kernel_rfl) (by kernel_rfl) (fun _ _ _ h=>h) (Or.inl ⟨by rfl,?_⟩) (by assumption) ?_
        rotate_left
        ·intro w hSw;(try dsimp only at hSw);(try simp only [List.getElem_toArray,List.getElem_cons_succ,List.getElem_cons_zero]);go_simp;(try with_reducible rfl)
        try simp only [Act.put,List.getElem_toArray,List.getElem_cons_succ,List.getElem_cons_zero,List.setIfInBounds_toArray,List.set_cons_zero,List.set_cons_succ]
        refine wpAnyH_take (i:=49) (v:=?_) rfl (by kernel_rfl) (by kernel_rfl) (by kernel_rfl) (fun _ _ _ h=>h) (Or.inl ⟨by rfl,?_⟩) (by assumption) ?_
        rotate_left
        ·intro w hSw;(try dsimp only at hSw);(try simp only [List.getElem_toArray,List.getElem_cons_succ,List.getElem_cons_zero]);go_simp;(try with_reducible rfl)
        try simp only [Act.put,List.getElem_toArray,List.getElem_cons_succ,List.getElem_cons_zero,List.setIfInBounds_toArray,List.set_cons_zero,List.set_cons_succ]
        refine wpAnyH_take (i:=50) (v:=?_) rfl (by kernel_rfl) (by kernel_rfl) (by kernel_rfl) (fun _ _ _ h=>h) (Or.inl ⟨by rfl,?_⟩) (by assumption) ?_
        rotate_left
        ·intro w hSw;(try dsimp only at hSw);(try simp only [List.getElem_toArray,List.getElem_cons_succ,List.getElem_cons_zero]);go_simp;(try with_reducible rfl)
        try simp only [Act.put,List.getElem_toArray,List.getElem_cons_succ,List.getElem_cons_zero,List.setIfInBounds_toArray,List.set_cons_zero,List.set_cons_succ]
        refine wpAnyH_ready (rs:=[46]) (by kernel_rfl) (by simp) ?_
        refine AllReadyH.cons rfl (fun K hK=>?_) AllReadyH.nil
        try simp only [List.getElem_toArray,List.getElem_cons_succ,List.getElem_cons_zero]
        go_simp
        go_at_call 31;refine (WR.out _ (by repeat (first | exact Gw.refl _ | exact And.left (by assumption) | exact Hid.out (by assumption) | refine Gw.drew ?_ | refine Gw.drewN ?_ _))).mono ?_;rintro ex w5 ⟨rfl,rfl⟩
        try go_wp2_with fail
        refine hK.out _ _ ?_ (fun hHeld=>?_)
        ·(refine HW.out _ ?_;(repeat (first | exact Gw.refl _ | exact And.left (by assumption) | exact Hid.out (by assumption) | refine Gw.drew ?_ | refine Gw.trans ?_ (by assumption)));done)
        clear hK K
        try simp only [Act.put,List.getElem_toArray,List.getElem_cons_succ,List.getElem_cons_zero,List.setIfInBounds_toArray,List.set_cons_zero,List.set_cons_succ]
        refine wpAnyH_take (i:=51) (v:=?_) rfl (by kernel_rfl) (by kernel_rfl) (by kernel_rfl) (fun _ _ _ h=>h) (Or.inl ⟨by rfl,?_⟩) (by assumption) ?_
        rotate_left
        ·intro w hSw;(try dsimp only at hSw);(try simp only [List.getElem_toArray,List.getElem_cons_succ,List.getElem_cons_zero]);go_simp;(try with_reducible rfl)
        try simp only [Act.put,List.getElem_toArray,List.getElem_cons_succ,List.getElem_cons_zero,List.setIfInBounds_toArray,List.set_cons_zero,List.set_cons_succ]
        refine wpAnyH_take (i:=52) (v:=?_) rfl (by kernel_rfl) (by kernel_rfl) (by kernel_rfl) (fun _ _ _ h=>h) (Or.inl ⟨by rfl,?_⟩) (by assumption) ?_
        rotate_left
        ·intro w hSw;(try dsimp only at hSw);(try simp only [List.getElem_toArray,List.getElem_cons_succ,List.getElem_cons_zero]);go_simp;(try with_reducible rfl)
        try simp only [Act.put,List.getElem_toArray,List.getElem_cons_succ,List.getElem_cons_zero,List.setIfInBounds_toArray,List.set_cons_zero,List.set_cons_succ]
        refine wpAnyH_take (i:=53) (v:=?_) rfl (by kernel_rfl) (by kernel_rfl) (by kernel_rfl) (fun _ _ _ h=>h) (Or.inl ⟨by rfl,?_⟩) (by assumption) ?_
        rotate_left
        ·intro w hSw;(try dsimp only at hSw);(try simp only [List.getElem_toArray,List.getElem_cons_succ,List.getElem_cons_zero]);go_simp;(try with_reducible rfl)
        try simp only [Act.put,List.getElem_toArray,List.getElem_cons_succ,List.getElem_cons_zero,List.setIfInBounds_toArray,List.set_cons_zero,List.set_cons_succ]
        refine wpAnyH_take (i:=54) (v:=?_) rfl (by kernel_rfl) (by kernel_rfl) (by kernel_rfl) (fun _ _ _ h=>h) (Or.inl ⟨by rfl,?_⟩) (by assumption) ?_
        rotate_left
        ·intro w hSw;(try dsimp only at hSw);(try simp only [List.getElem_toArray,List.getElem_cons_succ,List.getElem_cons_zero]);go_simp;(try with_reducible rfl)
        try simp only [Act.put,List.getElem_toArray,List.getElem_cons_succ,List.getElem_cons_zero,List.setIfInBounds_toArray,List.set_cons_zero,List.set_cons_succ]
        refine wpAnyH_take (i:=55) (v:=?_) rfl (by kernel_rfl) (by kernel_rfl) (by kernel_rfl) (fun _ _ _ h=>h) (Or.inl ⟨by rfl,?_⟩) (by assumption) ?_
        rotate_left
        ·intro w hSw;(try dsimp only at hSw);(try simp only [List.getElem_toArray,List.getElem_cons_succ,List.getElem_cons_zero]);go_simp;(try with_reducible rfl)
        try simp only [Act.put,List.getElem_toArray,List.getElem_cons_succ,List.getElem_cons_zero,List.setIfInBounds_toArray,List.set_cons_zero,List.set_cons_succ]
        refine wpAnyH_take (i:=57) (v:=?_) rfl (by kernel_rfl) (by kernel_rfl) (by kernel_rfl) (fun _ _ _ h=>h) (Or.inl ⟨by rfl,?_⟩) (by assumption) ?_
        rotate_left
        ·intro w hSw;(try dsimp only at hSw);(try simp only [List.getElem_toArray,List.getElem_cons_succ,List.getElem_cons_zero]);go_simp;(try with_reducible rfl)
        try simp only [Act.put,List.getElem_toArray,List.getElem_cons_succ,List.getElem_cons_zero,List.setIfInBounds_toArray,List.set_cons_zero,List.set_cons_succ]
        refine wpAnyH_ready (rs:=[56]) (by kernel_rfl) (by simp) ?_
        refine AllReadyH.cons rfl (fun K hK=>?_) AllReadyH.nil
        try simp only [List.getElem_toArray,List.getElem_cons_succ,List.getElem_cons_zero]
        go_simp
        go_at_call 20;refine (RN.out _ (by repeat (first | exact Gw.refl _ | exact And.left (by assumption) | exact Hid.out (by assumption) | refine Gw.drew ?_ | refine Gw.drewN ?_ _))).mono ?_;rintro ex w7 ⟨⟨b7,c7,rfl,pr7⟩,g7⟩;have PR7:Aside (PR HR w7 (some ⟨b7,0,none⟩) (rs'.take t')):=pr7;have G7:Hid (Gw wE w7):=(Gw.trans (by repeat (first | exact Gw.refl _ | exact And.left (by assumption) | exact Hid.out (by assumption) | refine Gw.drew ?_ | refine Gw.drewN ?_ _)) g7);clear pr7 g7
        try go_wp2_with fail
        refine hK.out _ _ ?_ (fun hHeld=>?_)
        ·(refine HW.out _ ?_;(repeat (first | exact Gw.refl _ | exact And.left (by assumption) | exact Hid.out (by assumption) | refine Gw.drew ?_ | refine Gw.trans ?_ (by assumption)));done)
        clear hK K
        try simp only [Act.put,List.getElem_toArray,List.getElem_cons_succ,List.getElem_cons_zero,List.setIfInBounds_toArray,List.set_cons_zero,List.set_cons_succ]
        refine wpAnyH_ready (rs:=[58]) (by kernel_rfl) (by simp) ?_
        refine AllReadyH.cons rfl (fun K hK=>?_) AllReadyH.nil
        try simp only [List.getElem_toArray,List.getElem_cons_succ,List.getElem_cons_zero]
        go_simp
        go_at_call 32;refine (AV.out _ b7 c7 (by repeat (first | exact Gw.refl _ | exact And.left (by assumption) | exact Hid.out (by assumption) | refine Gw.drew ?_ | refine Gw.drewN ?_ _)) (PR7.out.gw HH.out.kp (by first | exact Gw.refl _ | exact Gw.drew (Gw.refl _)))).mono ?_;rintro ex w8 ⟨rfl,g8⟩;have G8:Hid (Gw wE w8):=(Gw.trans (by repeat (first | exact Gw.refl _ | exact And.left (by assumption) | exact Hid.out (by assumption) | refine Gw.drew ?_ | refine Gw.drewN ?_ _)) g8);clear g8
        try go_wp2_with fail
        refine hK.out _ _ ?_ (fun hHeld=>?_)
        ·(refine HW.out _ ?_;(repeat (first | exact Gw.refl _ | exact And.left (by assumption) | exact Hid.out (by assumption) | refine Gw.drew ?_ | refine Gw.trans ?_ (by assumption)));done)
        clear hK K
        try simp only [Act.put,List.getElem_toArray,List.getElem_cons_succ,List.getElem_cons_zero,List.setIfInBounds_toArray,List.set_cons_zero,List.set_cons_succ]
        refine wpAnyH_take (i:=59) (v:=?_) rfl (by kernel_rfl) (by kernel_rfl) (by kernel_rfl) (fun _ _ _ h=>h) (Or.inl ⟨by rfl,?_⟩) (by assumption) ?_
        rotate_left
        ·intro w hSw;(try dsimp only at hSw);(try simp only [List.getElem_toArray,List.getElem_cons_succ,List.getElem_cons_zero]);go_simp;(try with_reducible rfl)
        try simp only [Act.put,List.getElem_toArray,List.getElem_cons_succ,List.getElem_cons_zero,List.setIfInBounds_toArray,List.set_cons_zero,List.set_cons_succ]
        refine wpAnyH_take (i:=60) (v:=?_) rfl (by kernel_rfl) (by kernel_rfl) (by kernel_rfl) (fun _ _ _ h=>h) (Or.inl ⟨by rfl,?_⟩) (by assumption) ?_
        rotate_left
        ·intro w hSw;(try dsimp only at hSw);(try simp only [List.getElem_toArray,List.getElem_cons_succ,List.getElem_cons_zero]);go_simp;(try with_reducible rfl)
        try simp only [Act.put,List.getElem_toArray,List.getElem_cons_succ,List.getElem_cons_zero,List.setIfInBounds_toArray,List.set_cons_zero,List.set_cons_succ]
        refine wpAnyH_done (by kernel_rfl) ?_ _
        have HCN:Aside (HCl HR w8 p rs' eps (m0:Int) B' (W+((0:Nat):Int))):=HCE.out.gw HH.out.kp G8.out
        have GN:Aside (Gw w w8):=GWE.out.trans G8.out
        clear PR7 G7 G8 HW
        go_wp2_with fail
        go_roundg (n-(i+1))
        case measure=>omega
        case rel=>exact ⟨i+1,rs',B',W+((0:Nat):Int),by go_num,by omega,Nat.le_refl _,HCN,INV',BWN,GN⟩
  ·have ei:i=n:=by omega
   subst ei
   go_wp2_with fail
   go_ret
   exact ⟨rfl,G.out⟩
end Go.Proofs.YtepcddmkfdlcjaaGreat
