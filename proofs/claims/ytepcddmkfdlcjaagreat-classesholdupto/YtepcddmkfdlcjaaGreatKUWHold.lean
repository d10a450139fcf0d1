/- ClassesHold: the walk. -/
import Derived.Test.YtepcddmkfdlcjaaGreatKUInv
import Derived.Test.YtepcddmkfdlcjaaGreatKULaw
import Derived.Test.YtepcddmkfdlcjaaGreatKUShown
namespace Go.Proofs.YtepcddmkfdlcjaaGreat
open Go.RowKit
set_option linter.unusedVariables false
theorem step15 {HR:HRt} (H:RunC HR) {w:World} {p:Nat} {rs:List (Option Rn)} {eps buf B W:Int} {t:Nat} (h:HCl HR w p rs eps buf B W) (inv:HInv eps buf rs t) (ht:t≤199) (ao:Option Addr) (c:Nat) (l:List Ent) (hl:EL w ao l) (hc:l.length≤c) (hz:ao=none→l.length=0∧c=0) (hs:l.length+tot rs≤2000000) (hB:0≤B∧B<4611686018427387904) (hW:0≤W∧W<4611686018427387904) :
  Calls Tryz.prog 13 #[.pointer (some ⟨p,0,none⟩), .slice ao l.length c] w fun e w'=>(∃ v rs' B' W',e=.returned v∧HCl HR w' p rs' eps buf B' W'∧HInv eps buf rs' (t+1)∧tot rs'≤tot rs+l.length∧(0≤B'∧B'≤B+1)∧0≤W'∧W'≤W+2000000)∧Gx (fun q=>q=p) w w' :=
 (take15 H h ao c l hl hc hz hs hB hW).mono fun e w' ⟨⟨r0,cr,x⟩,g⟩=>by
  refine ⟨?_,g⟩
  rcases x with ⟨_,he,h1,_⟩ | ⟨_,_,he,h1,_⟩ | ⟨_,hb,o,kept,rn,tr,he,ld,h1⟩
  ·exact ⟨_,rs,B,W,he,h1,inv.mono (Nat.le_succ _),by omega,⟨by omega,by omega⟩,by omega,by omega⟩
  ·exact ⟨_,rs,B,W,he,h1,inv.mono (Nat.le_succ _),by omega,⟨by omega,by omega⟩,by omega,by omega⟩
  ·have few:=tr.few.1
   have tk:=tot_take rs (freeC rs+1)
   unfold took at few
   have o1:0≤one15 kept∧one15 kept≤1:=by unfold one15;split<;>omega
   exact ⟨_,_,_,_,he,h1,inv.step (by omega) h.b0 hb tr ld,laid_tot tr ld,⟨by omega,by omega⟩,by omega,by omega⟩
theorem eqO_refl (o:Option Rn):eqO o o:=by
 cases o with
 | none=>exact .inl ⟨rfl,rfl⟩
 | some r=>exact .inr ⟨r,r,rfl,rfl,rfl⟩
set_option maxRecDepth 20000 in
set_option maxHeartbeats 16000000 in
theorem hold_walk {HR:HRt} (H:RunC HR) (eps:Int) (ao:Option Addr) (c:Nat) (L:List (List Ent)) (hN:sizes L≤2000000) (w:World) (h:EV w ao L) :
  Calls Tryz.prog 8 #[.int .i64 eps, .slice ao L.length c] w fun e w'=>e=.returned (.bool true)∧Gw w w':=by
 have SH:Hid (Calls Tryz.prog 9 #[] w fun e w'=>e=.returned (.bool true)∧Gw w w'):=shown15 H w
 have HE:Aside (EV w ao L):=h
 have HH:Aside (RunC HR):=H
 have HS:Aside (sizes L≤2000000):=hN
 obtain ⟨n,hn⟩:∃ n,L.length=n:=⟨_,rfl⟩
 have LN:Aside (L.length=n):=hn
 rw [hn]
 clear h H hN hn
 go_enter Tryz.func8,Tryz.ntmps8
 go_wp2_with fail
 refine Calls.mono SH.out ?_
 rintro e w1 ⟨rfl,g1⟩
 have G1:Aside (Gw w w1):=g1
 clear g1 SH
 by_cases n0:n=0
 ·subst n0
  go_wp2_with fail
  go_ret
  exact ⟨rfl,G1.out⟩
 by_cases n30:30<n
 ·have n30':(30:Int)<(n:Int):=by omega
  go_wp2_with fail
  go_ret
  exact ⟨rfl,G1.out⟩
 have n30':decide ((30:Int)<(n:Int))=false:=by simp;omega
 have n0b:((n:Int) == 0)=false:=by simp;omega
 have n0':0<n:=by omega
 have n0'':(0:Int)<(n:Int):=by omega
 obtain ⟨lb,lf,rfl,hlb,hlc⟩:=HE.out.cells (by rw [LN.out];omega)
 have CEL:Hid (∀ W,Gw w W→∀ i,i<n→∃ bo cc,W.cell? ⟨lb,lf+i,none⟩=some (.slice bo (L.getD i []).length cc)∧lb<W.heap.size∧(L.getD i []).length≤cc∧EL W bo (L.getD i [])∧(bo=none→(L.getD i []).length=0∧cc=0)):=fun W gg i hi=>by
  obtain ⟨bo,cc,q1,q2,q3,q4⟩:=hlc i (by rw [LN.out];exact hi)
  exact ⟨bo,cc,(gg.cell _ _ hlb).trans q1,Nat.lt_of_lt_of_le hlb gg.size,q2,q3.gw gg,q4⟩
 obtain ⟨bo0,cc0,p1,p2,_,_,_⟩:=CEL.out w1 G1.out 0 n0'
 have m1:(L.getD 0 []).length≤2000000:=Nat.le_trans (rows_le (by rw [LN.out];omega)) HS.out
 obtain ⟨m0,hm0⟩:∃ m,(L.getD 0 []).length=m:=⟨_,rfl⟩
 rw [hm0] at p1 m1
 rw [Nat.add_zero] at p1
 have NW:Hid (Calls Tryz.prog 10 #[.int .i64 eps, .int .i64 (m0:Int)] w1 fun e w'=>((¬ NewOk eps (m0:Int)∧e=.returned (.tuple #[.pointer none, .int .i64 1]))∨(NewOk eps (m0:Int)∧∃ p,e=.returned (.tuple #[.pointer (some ⟨p,0,none⟩), .int .i64 0])∧w1.heap.size≤p∧HCl HR w' p (List.replicate 40 none) eps (m0:Int) 0 0))∧Gw w1 w'):=new15 eps (m0:Int) w1
 clear hlc hm0 hlb
 go_wp2_with fail
 refine Calls.mono NW.out ?_
 rintro e w2 ⟨x,g2⟩
 have G2:Aside (Gw w w2):=G1.out.trans g2
 rcases x with ⟨nok,rfl⟩ | ⟨nok,p,rfl,hp,hcl⟩
 ·have cs:eps<2∨(¬ eps<2∧64<eps)∨(¬ eps<2∧¬ 64<eps∧m0=0):=by unfold NewOk at nok;omega
  clear nok g2 NW p1 p2
  rcases cs with a | ⟨a,b⟩ | ⟨a,b,rfl⟩
  ·have t1:decide (eps<2)=true:=by simpa using a
   clear a
   go_wp2_with fail
   go_ret
   exact ⟨rfl,G2.out⟩
  ·have t1:decide (eps<2)=false:=by simpa using a
   have t2:decide (64<eps)=true:=by simpa using b
   clear a b
   go_wp2_with fail
   go_ret
   exact ⟨rfl,G2.out⟩
  ·have t1:decide (eps<2)=false:=by simpa using a
   have t2:decide (64<eps)=false:=by simpa using b
   clear a b
   go_wp2_with fail
   go_ret
   exact ⟨rfl,G2.out⟩
 have PW:Aside (w.heap.size≤p):=Nat.le_trans G1.out.size hp
 have HC0:Aside (HCl HR w2 p (List.replicate 40 none) eps (m0:Int) 0 0):=hcl
 have NOK:Aside (NewOk eps (m0:Int)):=nok
 have GWX:Hid (∀ a b,Gw w a→Gx (fun q=>q=p) a b→Gw w b):=fun a b g gx=>Gx.gw g gx (fun q hq=>by rw [hq];exact PW.out)
 clear nok g2 NW hcl hp p1 p2
 go_wp2_with fail
 go_loopg [9] n (fun gg s9 wr=>∃ (i:Nat) (rs:List (Option Rn)) (B W:Int),s9=.int .i64 (i:Int)∧i≤n∧n-i≤gg∧Aside (HCl HR wr p rs eps (m0:Int) B W)∧Aside (HInv eps (m0:Int) rs i∧tot rs≤sizes (L.take i))∧Aside ((0≤B∧B≤i)∧0≤W∧W≤2000000*i)∧Aside (Gw w wr))
 case atStart=>exact ⟨0,_,0,0,rfl,Nat.zero_le _,by omega,HC0,(show Aside _ from ⟨HInv.none _ _,Nat.zero_le _⟩),(show Aside _ from ⟨⟨by omega,by omega⟩,by omega,by omega⟩),G2⟩
 case round =>
  clear HC0 G2
  obtain ⟨i,rs,B,W,rfl,a1,a2,HC,INV,BW,G⟩:=hrel
  obtain ⟨wS,hwS⟩:∃ wx,wx=wr:=⟨_,rfl⟩
  subst hwS
  by_cases hlt:i<n
  ·have hlt':(i:Int)<(n:Int):=by omega
   obtain ⟨bo,cc,q1,q2,q3,q4,q5⟩:=CEL.out wS G.out i hlt
   obtain ⟨s1,s2⟩:=sizes_take15 (L:=L) (i:=i) (by rw [LN.out];exact hlt)
   have TS:Aside (tot rs+(L.getD i []).length≤sizes (L.take (i+1))∧sizes (L.take (i+1))≤2000000):=⟨by have:=INV.out.2;omega,Nat.le_trans s2 HS.out⟩
   have ST:Hid (Calls Tryz.prog 13 #[.pointer (some ⟨p,0,none⟩), .slice bo (L.getD i []).length cc] wS fun e w'=>(∃ v rs' B' W',e=.returned v∧HCl HR w' p rs' eps (m0:Int) B' W'∧HInv eps (m0:Int) rs' (i+1)∧tot rs'≤tot rs+(L.getD i []).length∧(0≤B'∧B'≤B+1)∧0≤W'∧W'≤W+2000000)∧Gx (fun q=>q=p) wS w'):=step15 HH.out HC.out INV.out.1 (by omega) bo cc (L.getD i []) q4 q3 q5 (by have:=TS.out;omega) (by have:=BW.out;omega) (by have:=BW.out;omega)
   obtain ⟨li,hli⟩:∃ m,(L.getD i []).length=m:=⟨_,rfl⟩
   have LI:Aside ((L.getD i []).length=li):=hli
   rw [hli] at q1 ST
   clear q3 q4 q5 s1 s2 hli
   go_wp2_with fail
   refine Calls.mono ST.out ?_
   rintro e w3 ⟨⟨v,rs',B',W',rfl,hc3,inv3,tot3,b3,c3⟩,gx3⟩
   have HC3:Aside (HCl HR w3 p rs' eps (m0:Int) B' W'):=hc3
   have INV3:Aside (HInv eps (m0:Int) rs' (i+1)∧tot rs'≤sizes (L.take (i+1))∧tot rs'≤2000000):=⟨inv3,by have:=TS.out;have:=LI.out;omega,by have:=TS.out;have:=LI.out;omega⟩
   have BW3:Aside ((0≤B'∧B'≤((i+1:Nat):Int))∧0≤W'∧W'≤2000000*((i+1:Nat):Int)):=by have:=BW.out;exact ⟨⟨by omega,by omega⟩,by omega,by omega⟩
   have G3:Aside (Gw w w3):=GWX.out _ _ G.out gx3
   clear hc3 inv3 tot3 b3 c3 gx3 ST HC INV BW G TS LI q1 q2
   have RU:Hid (Calls Tryz.prog 20 #[.pointer (some ⟨p,0,none⟩)] w3 fun e w'=>(∃ (t b c:Nat),e=.returned (.slice (some ⟨b,0,none⟩) t c)∧TopR rs' t∧RO w' w3.heap.size (.slice (some ⟨b,0,none⟩) t c) (rs'.take t))∧Gw w3 w'):=runs15 HC3.out
   go_wp2_with fail
   refine Calls.mono RU.out ?_
   rintro e w4 ⟨⟨t,rb,rc,rfl,tp,ro⟩,g4⟩
   have t40:t≤40:=by have:=tp.le;have:=HC3.out.len;omega
   have TL:(rs'.take t).length=t:=by rw [List.length_take,HC3.out.len];omega
   have HC4:Aside (HCl HR w4 p rs' eps (m0:Int) B' W'):=HC3.out.gw HH.out.kp g4
   have TP:Aside (TopR rs' t):=tp
   have PR4:Aside (PR HR w4 (some ⟨rb,0,none⟩) (rs'.take t)):=RO.pr (c:=rc) (by rw [TL];exact ro) (fun r hr=>(HC4.out.runs r (List.mem_of_mem_take hr)).1)
   have TLA:Aside ((rs'.take t).length=t):=TL
   have RCC:Aside (t≤rc):=by
    rcases ro.2 with ⟨e,_⟩ | ⟨g,cap,cur,e,_,_,hnc,_⟩
    ·cases e
    ·injection e with _ _ e3
     rw [TL] at hnc
     show t≤rc
     omega
   have G4:Aside (Gw w w4):=G3.out.trans g4
   have RBL:rb<w4.heap.size:=(World.ownsRow.lt ro rb rfl).2
   have CLK:Hid (∀ W,Gw w4 W→∀ k,k<t→W.cell? ⟨rb,k,none⟩=some (ptr (rs'.getD k none))):=fun W gg k hk=>by
    obtain ⟨b,off,e,hb,hcc⟩:=PR4.out.cells (by rw [TL];omega)
    cases e
    have:=hcc k (by rw [TL];exact hk)
    rw [Nat.zero_add] at this
    rw [gg.cell _ _ hb,this,getD_rs (by rw [TL];exact hk),List.getElem_take,←getD_rs (by have:=HC4.out.len;omega)]
   clear tp ro g4 RU HC3 G3 TL
   go_wp2_with fail
   go_loopg [11] t (fun gg s11 wr=>∃ k:Nat,s11=.int .i64 (k:Int)∧k≤t∧t-k≤gg∧Aside (Gw w4 wr))
   case atStart=>exact ⟨0,rfl,Nat.zero_le _,by omega,(show Aside _ from Gw.refl w4)⟩
   case round=>as_aux_lemma =>
    obtain ⟨k,rfl,k1,k2,GK⟩:=hrel
    obtain ⟨wK,hwK⟩:∃ wx,wx=wr:=⟨_,rfl⟩
    subst hwK
    by_cases klt:k<t
    ·have klt':(k:Int)<(t:Int):=by omega
     have ck:=CLK.out wK GK.out k klt
     have rbk:rb<wK.heap.size:=Nat.lt_of_lt_of_le RBL GK.out.size
     rcases cases_rs rs' k with e | ⟨r,e⟩
     ·rw [e] at ck
      have ck':wK.cell? ⟨rb,k,none⟩=some (.pointer none):=ck
      clear ck e
      go_wp2_with fail
      go_roundg (t-(k+1))
      case measure=>omega
      case rel=>exact ⟨k+1,by go_num,by omega,Nat.le_refl _,GK⟩
     ·obtain ⟨i1,i2,i3,i4⟩:=INV3.out.1.run k r e
      have k40:k<40:=by omega
      have RR:=(HC4.out.runs r (mem_rs (by rw [HC4.out.len];exact k40) e)).1.gw HH.out.kp GK.out
      rw [e] at ck
      have ck':wK.cell? ⟨rb,k,none⟩=some (.pointer (some ⟨r.p,0,none⟩)):=ck
      have few:=RR.few
      have OKR:Aside ((∀ e∈r.l,e.ok)∧Rise Ent.k r.l):=⟨RR.bd,RR.ok.rise⟩
      have LT:Hid (Calls Tryz.prog 35 #[.pointer (some ⟨r.p,0,none⟩)] wK fun e w'=>(∃ bo c,e=.returned (.slice bo r.l.length c)∧EL w' bo r.l∧r.l.length≤c∧(bo=none→r.l.length=0∧c=0)∧∀ a,bo=some a→wK.heap.size≤a.block∧a.block<w'.heap.size)∧Gw wK w'):=HH.out.told RR
      have MO:Hid (∀ W,Calls Tryz.prog 26 #[.int .i64 (m0:Int), .int .i64 (k:Int)] W fun e w'=>e=.returned (.int .i64 (mostV (m0:Int) (k:Int)))∧w'=W):=fun W=>most15 (m0:Int) (k:Int) W
      have MV:(r.l.length:Int)≤mostV (m0:Int) (k:Int):=by
       have nk:=NOK.out
       unfold NewOk at nk
       have e:mostV (m0:Int) (k:Int)=min ((m0:Int)*2^k) 4294967296:=by
        unfold mostV
        rw [if_pos ⟨nk.2,by omega,by omega⟩]
        simp
       rw [e]
       omega
      have LIV:Aside (∀ x∈r.l,x.g=true→liveO (nw x.k (rs'.drop (k+1)))=true):=i4
      obtain ⟨l,hl⟩:∃ l,r.l=l:=⟨_,rfl⟩
      rw [hl] at LT MV LIV few i2 OKR
      obtain ⟨ln,hln⟩:∃ ln,l.length=ln:=⟨_,rfl⟩
      have LNN:Aside (l.length=ln):=hln
      rw [hln] at LT MV few i2
      generalize r.p=rp at ck' LT
      generalize mostV (m0:Int) (k:Int)=mv at MO MV
      have ln0:((ln:Int) == 0)=false:=by simp;omega
      have ln0':¬ ln=0:=by omega
      have mv':decide (mv<(ln:Int))=false:=by simp;omega
      have wk1:IntKind.i64.wrap ((k:Int)+1)=((k+1:Nat):Int):=by rw [IntKind.wrap_i64];omega
      clear ck e i1 i2 i3 i4 RR hl hln MV
      go_wp2_with fail
      refine Calls.mono LT.out ?_
      rintro e w5 ⟨⟨mo,mc,rfl,el5,_,_,_⟩,g5⟩
      have EL5:Aside (EL w5 mo l):=el5
      have G5:Aside (Gw w4 w5):=GK.out.trans g5
      clear el5 g5 LT GK
      go_wp2_with fail
      refine Calls.mono (MO.out w5) ?_
      rintro e w6 ⟨rfl,hw⟩
      have hw':w5=w6:=hw.symm
      subst hw'
      clear hw MO
      go_wp2_with fail
      go_loopg [13] ln (fun gg s13 wr=>∃ a:Nat,s13=.int .i64 (a:Int)∧a≤ln∧ln-a≤gg∧Aside (Gw w5 wr))
      case atStart=>exact ⟨0,rfl,Nat.zero_le _,by omega,(show Aside _ from Gw.refl w5)⟩
      case round=>as_aux_lemma =>
       obtain ⟨a,rfl,b1,b2,GA⟩:=hrel
       obtain ⟨wA,hwA⟩:∃ wx,wx=wr:=⟨_,rfl⟩
       subst hwA
       by_cases alt:a<ln
       ·have alt':(a:Int)<(ln:Int):=by omega
        have al:a<l.length:=by rw [LNN.out];exact alt
        obtain ⟨mb,mf,rfl,hmb,hmc⟩:=(EL5.out.gw GA.out).cells (by omega)
        obtain ⟨c0,c1,c2⟩:=hmc a al
        have xm:l.getD a ent0∈l:=by rw [getD_lt al];exact List.getElem_mem al
        have LX:=LIV.out _ xm
        obtain ⟨⟨x0,x1⟩,_⟩:=OKR.out.1 _ xm
        obtain ⟨x,hx⟩:∃ x,l.getD a ent0=x:=⟨_,rfl⟩
        rw [hx] at c0 c1 c2 LX x0 x1
        obtain ⟨xk,xv,xg⟩:=x
        have d0:wA.cell? ⟨mb,mf+a*3,none⟩=some (.int .u64 xk):=c0
        have d2:wA.cell? ⟨mb,mf+a*3+2,none⟩=some (.bool xg):=c2
        have LXA:Aside ((!xg)=true∨liveO (nw xk (rs'.drop (k+1)))=true):=by
         cases xg with
         | false=>exact .inl rfl
         | true=>exact .inr (LX rfl)
        have XB:Aside (0≤xk∧xk<18446744073709551616):=⟨x0,x1⟩
        have DK:Hid (∀ W,Gw wA W→W.cell? ⟨mb,mf+a*3,none⟩=some (.int .u64 xk)∧mb<W.heap.size):=fun W gg=>⟨(gg.cell _ _ hmb).trans d0,Nat.lt_of_lt_of_le hmb gg.size⟩
        clear hmc c0 c1 c2 xm LX x0 x1 hx al
        go_wp2_with fail
        go_loopg [14,15] (t+1) (fun gg s14 s15 wr=>∃ (y:Nat) (lv:Bool),s14=.bool lv∧s15=.int .i64 (y:Int)∧k+1≤y∧y≤t+1∧t+1-y≤gg∧Aside (lv=true∨liveO (nw xk (rs'.drop y))=true)∧Aside (Gw wA wr))
        case atStart=>exact ⟨k+1,!xg,rfl,rfl,Nat.le_refl _,by omega,by omega,LXA,(show Aside _ from Gw.refl wA)⟩
        case round=>as_aux_lemma =>
         clear LXA
         obtain ⟨y,lv,rfl,rfl,y1,y2,y3,LV,GY⟩:=hrel
         obtain ⟨wY,hwY⟩:∃ wx,wx=wr:=⟨_,rfl⟩
         subst hwY
         have GWY:Aside (Gw w5 wY):=GA.out.trans GY.out
         cases lv with
         | true =>
          clear LV
          by_cases ylt:y<t
          ·have ylt':(y:Int)<(t:Int):=by omega
           go_wp2_with fail
           go_roundg (ln-(a+1))
           case measure=>omega
           case rel=>exact ⟨a+1,by go_num,by omega,Nat.le_refl _,GWY⟩
          ·have ylt':¬ (y:Int)<(t:Int):=by omega
           go_wp2_with fail
           go_roundg (ln-(a+1))
           case measure=>omega
           case rel=>exact ⟨a+1,by go_num,by omega,Nat.le_refl _,GWY⟩
         | false =>
          have LVE:liveO (nw xk (rs'.drop y))=true:=by
           rcases LV.out with q | q
           ·cases q
           ·exact q
          have ylt:y<t:=Nat.lt_of_not_le fun q=>by
           have e:∀ (m:Nat) (ls:List (Option Rn)),(∀ i,ls.getD i none=none)→nw xk ls=none:=fun m ls=>by
            induction ls with
            | nil=>intro _;rfl
            | cons o ls ih =>
             intro h
             have h0:o=none:=h 0
             subst h0
             rw [nw_none]
             exact ih fun i=>h (i+1)
           have z:=e 0 (rs'.drop y) (fun i=>by
            have:=TP.out.no (y+i) (by omega)
            rw [List.getD_eq_getElem?_getD] at this ⊢
            rw [List.getElem?_drop]
            exact this)
           rw [z] at LVE
           cases LVE
          have ylt':(y:Int)<(t:Int):=by omega
          have cy:=CLK.out wY (G5.out.trans GWY.out) y ylt
          have rby:rb<wY.heap.size:=Nat.lt_of_lt_of_le RBL (G5.out.trans GWY.out).size
          have DR:=drop_rs (rs:=rs') (i:=y) (by have:=HC4.out.len;omega)
          rw [DR] at LVE
          rcases cases_rs rs' y with e | ⟨ry,e⟩
          ·rw [e] at cy LVE
           have cy':wY.cell? ⟨rb,y,none⟩=some (.pointer none):=cy
           have LV':Aside (false=true∨liveO (nw xk (rs'.drop (y+1)))=true):=.inr (by rw [nw_none] at LVE;exact LVE)
           clear cy e LVE DR LV
           go_wp2_with fail
           go_roundg (t+1-(y+1))
           case measure=>omega
           case rel=>exact ⟨y+1,false,rfl,by go_num,by omega,by omega,Nat.le_refl _,(by first | exact LV' | (show Aside _;have:=LV'.out;simpa using this)),GY⟩
          ·have RY:=(HC4.out.runs ry (mem_rs (by have:=HC4.out.len;omega) e)).1.gw HH.out.kp (G5.out.trans GWY.out)
           rw [e] at cy LVE
           rw [nw_some] at LVE
           have cy':wY.cell? ⟨rb,y,none⟩=some (.pointer (some ⟨ry.p,0,none⟩)):=cy
           obtain ⟨u0,u1,u2,tt,f1,f2,f3⟩:=lookV_form (look Ent.k xk ry.l)
           have GT:Hid (∀ W,Gw wY W→Calls Tryz.prog 36 #[.pointer (some ⟨ry.p,0,none⟩), .int .u64 xk] W fun e w'=>e=.returned (.tuple #[.agg #[.int .u64 u0, .int .u64 u1, .bool u2], .bool tt])∧Gw W w'):=fun W gg=>by
            have:=HH.out.look (RY.gw HH.out.kp gg) xk XB.out.1 XB.out.2
            rw [f1] at this
            exact this
           have CASE:(tt=true∧u2=false)∨(tt=false∧liveO (nw xk (rs'.drop (y+1)))=true):=by
            cases hk:look Ent.k xk ry.l with
            | none=>rw [hk] at f2 LVE;exact .inr ⟨f2,LVE⟩
            | some en =>
             rw [hk] at f2 f3 LVE
             have l2:liveO (some en)=true:=LVE
             have t2:tt=true:=f2
             rw [l2,t2] at f3
             refine .inl ⟨t2,?_⟩
             cases u2 with
             | false=>rfl
             | true=>cases f3
           obtain ⟨dk1,dk2⟩:=DK.out wY GY.out
           generalize ry.p=rq at cy' GT
           have HW:Hid (∀ w',Gw wY w'→Gw wY w'∧w'.cell? ⟨rb,y,none⟩=some (.pointer (some ⟨rq,0,none⟩))∧w'.cell? ⟨mb,mf+a*3,none⟩=some (.int .u64 xk)):=fun w' gg=>⟨gg,(gg.cell _ _ rby).trans cy',(gg.cell _ _ dk2).trans dk1⟩
           have NN:Hid (∀ u,Gw (wY.drew.alloc (.cells #[.int .u64 0, .int .u64 0, .bool false] 40)) u→u.heap[wY.heap.size]?=some (.cells #[.int .u64 0, .int .u64 0, .bool false] 40 (0,0))):=fun u g=>(g.below.block _ (by simp)).trans (heap_alloc_new _ _)
           clear cy e LVE DR LV RY f1 f2 f3
           go_wp2_with fail
           go_region_held3 (fun w'=>Gw wY w'∧w'.cell? ⟨rb,y,none⟩=some (.pointer (some ⟨rq,0,none⟩))∧w'.cell? ⟨mb,mf+a*3,none⟩=some (.int .u64 xk))
            ((refine HW.out _ ?_;(repeat (first | exact Gw.refl _ | exact And.left (by assumption) | exact Hid.out (by assumption) | refine Gw.drew ?_ | refine Gw.alloc ?_ _ _ | refine Gw.setCell ?_ (by first | exact Nat.le_refl _ | assumption) _ | refine Gw.trans ?_ (by assumption)));done))
            ((go_at_call 36;refine (GT.out _ (by repeat (first | exact Gw.refl _ | exact And.left (by assumption) | exact Hid.out (by assumption) | refine Gw.drew ?_ | refine Gw.drewN ?_ _ | refine Gw.alloc ?_ _ _))).mono ?_;rintro ex w7 ⟨rfl,g7⟩;have G7:Hid (Gw wY w7):=(Gw.trans (by repeat (first | exact Gw.refl _ | exact And.left (by assumption) | exact Hid.out (by assumption) | refine Gw.drew ?_ | refine Gw.drewN ?_ _ | refine Gw.alloc ?_ _ _)) g7);have z7:wY.heap.size≤w7.heap.size:=G7.out.size;(first | (have n4:=NN.out w7 g7;obtain ⟨m0',m1',m2',f0',f1',f2',nl',TT'⟩:=box_facts n4;have T3':=TT' u0 u1 u2;clear n4 g7 TT') | clear g7)))
           all_goals
            rcases CASE with ⟨rfl,rfl⟩ | ⟨rfl,lv'⟩
            ·go_wp2_with fail
             go_roundg (t+1-(y+1))
             case measure=>omega
             case rel=>exact ⟨y+1,true,rfl,by go_num,by omega,by omega,Nat.le_refl _,(show Aside _ from .inl rfl),(show Aside _ from (by first | exact GY.out.trans (G7.out.alloc _ _) | exact GY.out.trans (((G7.out.setCell (Nat.le_refl _) _).setCell (Nat.le_refl _) _).setCell (Nat.le_refl _) _)))⟩
            ·have LV':Hid (liveO (nw xk (rs'.drop (y+1)))=true):=lv'
             clear lv'
             go_wp2_with fail
             go_roundg (t+1-(y+1))
             case measure=>omega
             case rel=>exact ⟨y+1,false,rfl,by go_num,by omega,by omega,Nat.le_refl _,(show Aside _ from .inr LV'.out),(show Aside _ from (by first | exact GY.out.trans (G7.out.alloc _ _) | exact GY.out.trans (((G7.out.setCell (Nat.le_refl _) _).setCell (Nat.le_refl _) _).setCell (Nat.le_refl _) _)))⟩
       ·have alt':¬ (a:Int)<(ln:Int):=by omega
        have GZ:Aside (Gw w4 wA):=G5.out.trans GA.out
        go_wp2_with fail
        go_roundg (t-(k+1))
        case measure=>omega
        case rel=>exact ⟨k+1,by go_num,by omega,Nat.le_refl _,GZ⟩
    ·have klt':¬ (k:Int)<(t:Int):=by omega
     have OFF:Hid (Calls Tryz.prog 21 #[.int .i64 eps, .int .i64 (m0:Int), .slice (some ⟨rb,0,none⟩) t rc] wK fun e w'=>(∃ d,e=.returned (.tuple #[.pointer (some ⟨d,0,none⟩), .int .i64 0])∧HCl HR w' d rs' eps (m0:Int) 0 0)∧Gw wK w'):=by
      have:=of15 HH.out eps (m0:Int) (some ⟨rb,0,none⟩) rc (rs'.take t) (by rw [TLA.out];omega) (by rw [TLA.out];exact RCC.out) (fun e=>by cases e) wK (PR4.out.gw HH.out.kp GK.out)
      rw [TLA.out] at this
      refine this.mono fun e w' ⟨⟨E,oe,x⟩,g⟩=>⟨?_,g⟩
      have nk:=NOK.out
      unfold NewOk at nk
      have up:=upR_top HC4.out.len TP.out
      have E0:E=0:=oe.one (.inr (.inr ⟨rfl,⟨NOK.out,fun ⟨r,hr⟩=>by rw [List.drop_of_length_le (by rw [TLA.out];exact t40)] at hr;cases hr⟩,by rw [up];exact INV3.out.1.fits nk.2.1 nk.2.2 INV3.out.2.2⟩))
      rcases x with ⟨a,_⟩ | ⟨_,d,he,_,hd⟩
      ·exact absurd E0 a
      ·rw [up] at hd
       exact ⟨d,he,hd⟩
     go_wp2_with fail
     refine Calls.mono OFF.out ?_
     rintro e w5 ⟨⟨d,rfl,hd⟩,g5⟩
     have HD5:Aside (HCl HR w5 d rs' eps (m0:Int) 0 0):=hd
     have G5:Aside (Gw w4 w5):=GK.out.trans g5
     have RU:Hid (Calls Tryz.prog 20 #[.pointer (some ⟨d,0,none⟩)] w5 fun e w'=>(∃ (t b c:Nat),e=.returned (.slice (some ⟨b,0,none⟩) t c)∧TopR rs' t∧RO w' w5.heap.size (.slice (some ⟨b,0,none⟩) t c) (rs'.take t))∧Gw w5 w'):=runs15 hd
     clear hd g5 OFF GK
     go_wp2_with fail
     refine Calls.mono RU.out ?_
     rintro e w6 ⟨⟨t',rb',rc',rfl,tp',ro'⟩,g6⟩
     have et:=tp'.one TP.out
     subst et
     have HD6:Aside (HCl HR w6 d rs' eps (m0:Int) 0 0):=HD5.out.gw HH.out.kp g6
     have G6:Aside (Gw w4 w6):=G5.out.trans g6
     have AB:Hid (Calls Tryz.prog 32 #[.slice (some ⟨rb,0,none⟩) t' rc, .slice (some ⟨rb',0,none⟩) t' rc', .int .i64 (-1)] w6 fun e w'=>e=.returned (.bool true)∧Gw w6 w'):=by
      have:=aboveL15 HH.out (some ⟨rb,0,none⟩) (some ⟨rb',0,none⟩) rc rc' (rs'.take t') (rs'.take t') (-1) (by omega) (by omega) (by rw [TLA.out];exact t40) (by rw [TLA.out];exact t40) w6 (PR4.out.gw HH.out.kp G6.out) (RO.pr (c:=rc') (by rw [TLA.out];exact ro') (fun r hr=>(HD6.out.runs r (List.mem_of_mem_take hr)).1)) (fun i _ hi=>⟨by omega,by omega,eqO_refl _⟩)
      rw [TLA.out] at this
      exact this
     clear tp' ro' g6 RU HD5 G5
     go_wp2_with fail
     refine Calls.mono AB.out ?_
     rintro e w7 ⟨rfl,g7⟩
     have HD7:Aside (HCl HR w7 d rs' eps (m0:Int) 0 0):=HD6.out.gw HH.out.kp g7
     have G7:Aside (Gw w4 w7):=G6.out.trans g7
     have BB:Hid (Calls Tryz.prog 30 #[.pointer (some ⟨d,0,none⟩)] w7 fun e w'=>e=.returned (.int .i64 0)∧w'=w7):=builds15 HD7.out
     have WW:Hid (Calls Tryz.prog 31 #[.pointer (some ⟨d,0,none⟩)] w7 fun e w'=>e=.returned (.int .i64 0)∧w'=w7):=written15 HD7.out
     clear g7 AB HD6 G6
     go_wp2_with fail
     refine Calls.mono BB.out ?_
     rintro e w8 ⟨rfl,hw⟩
     have hw':w7=w8:=hw.symm
     subst hw'
     go_wp2_with fail
     refine Calls.mono WW.out ?_
     rintro e w8 ⟨rfl,hw⟩
     have hw':w7=w8:=hw.symm
     subst hw'
     have HCN:Aside (HCl HR w7 p rs' eps (m0:Int) B' W'):=HC4.out.gw HH.out.kp G7.out
     have GN:Aside (Gw w w7):=G4.out.trans G7.out
     have INVN:Aside (HInv eps (m0:Int) rs' (i+1)∧tot rs'≤sizes (L.take (i+1))):=⟨INV3.out.1,INV3.out.2.1⟩
     clear BB WW HD7 G7
     go_wp2_with fail
     go_roundg (n-(i+1))
     case measure=>omega
     case rel=>exact ⟨i+1,rs',B',W',by go_num,by omega,Nat.le_refl _,HCN,INVN,BW3,GN⟩
  ·have ei:i=n:=by omega
   subst ei
   go_wp2_with fail
   go_ret
   exact ⟨rfl,G.out⟩
end Go.Proofs.YtepcddmkfdlcjaaGreat
