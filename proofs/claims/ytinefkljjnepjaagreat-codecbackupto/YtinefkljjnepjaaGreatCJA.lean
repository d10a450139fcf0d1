/- Layer 12's statements' alike: a run has these entries, this eps, these levels. -/
import Derived.Laws.StructEq
import Derived.Test.YtinefkljjnepjaaGreatCVCheck
import Derived.Test.YtinefkljjnepjaaGreatCPRd
import Derived.Test.YtinefkljjnepjaaGreatCJS
import Derived.Test.YtinefkljjnepjaaGreatCJM
namespace Go.Proofs.YtinefkljjnepjaaGreat
open Go.RowKit
set_option linter.unusedVariables false
attribute [local go_sem] run_store_float f64bits
set_option maxRecDepth 10000 in
set_option maxHeartbeats 4000000 in
theorem same12_seg (s:Sg) (w:World) :
  Calls Tryz.prog 53 #[sgV s,sgV s] w fun e w'=>e=.returned (.bool true)∧Gw w w':=by
 obtain ⟨k,sl,ic,fr,te⟩:=s
 go_enter Tryz.func53,Tryz.ntmps53
 go_wp2_with fail
 go_quiet (first | simp only [f64bits])
 go_wp2_with fail
 go_ret
 exact ⟨rfl,(((Gw.refl w).alloc _ _).alloc _ _).drewN _⟩
set_option maxRecDepth 10000 in
set_option maxHeartbeats 8000000 in
theorem alike12 {HR:World→Nat→(Nat→Prop)→Int→(Nat→Int)→(Nat→Int)→(Nat→Bool)→Nat→List (List Sg)→Prop} (H:RunC HR) {w:World} {p:Nat} {S:Nat→Prop} {eps:Int} {k v:Nat→Int} {g:Nat→Bool} {n:Nat} {L:List (List Sg)} (h:HR w p S eps k v g n L) (bd:∀ i,i<n→(0≤k i∧k i<18446744073709551616)∧(0≤v i∧v i<18446744073709551616)) (bo:Option Addr) (cb:Nat) (he:ES w bo n k v g) (vo:Option Addr) (vc:Nat) (hv:VS w vo L) :
  Calls Tryz.prog 15 #[.pointer (some ⟨p,0,none⟩), .slice bo n cb, .int .i64 eps, .slice vo L.length vc] w fun e w'=>e=.returned (.bool true)∧Gw w w':=by
 have HH:Hid (RunC HR):=H
 have R2:Hid (HR w p S eps k v g n L):=h
 have BD:Hid (∀ i,i<n→(0≤k i∧k i<18446744073709551616)∧(0≤v i∧v i<18446744073709551616)):=bd
 have rdy:=H.ready h
 have n1:=rdy.n1
 have HL:Aside (∀ i,i<L.length→(L.getD i []).length≤4000000):=fun i hi=>by have:=rdy.sh.2 i hi;omega
 obtain ⟨pp,Sp,cp0,hp,sub⟩:=H.pile h
 have pl:p<w.heap.size:=H.lt h p (H.own h)
 obtain ⟨ln,hln⟩:∃ ln,L.length=ln:=⟨_,rfl⟩
 have LN:Aside (L.length=ln):=hln
 have s1:ln≤2000000:=hln▸rdy.sh.1
 have EP:Hid (∀ W,Gw w W→Calls Tryz.prog 18 #[.pointer (some ⟨pp,0,none⟩)] W fun e w'=>e=.returned (.int .i64 eps)∧w'=W):=fun W gg=>pl_eps (hp.keep fun q hq=>gg.below.block q (hp.lt q hq))
 have LI:Hid (∀ W,Gw w W→Calls Tryz.prog 16 #[.pointer (some ⟨p,0,none⟩)] W fun e w'=>(∃ bo c,e=.returned (.slice bo n c)∧ES w' bo n k v g)∧Gw W w'):=fun W gg=>(HH.out.list (HH.out.gw R2.out gg)).mono fun e w' ⟨⟨bo,c,a,er⟩,b⟩=>⟨⟨bo,c,a,er_es er BD.out⟩,b⟩
 have LV:Hid (∀ W,Gw w W→Calls Tryz.prog 17 #[.pointer (some ⟨p,0,none⟩)] W fun e w'=>(∃ mo mc,e=.returned (.slice mo ln mc)∧VS w' mo L)∧Gw W w'):=fun W gg=>(HH.out.levels (HH.out.gw R2.out gg)).mono fun e w' ⟨⟨mo,mc,vals,a,ow,lok,hl⟩,b⟩=>⟨⟨mo,mc,by rw [←LN.out];exact a,(ow.vsf lok).vs⟩,b⟩
 have CP:Hid (∀ W,Gw w W→W.cell? ⟨p,0,none⟩=some (.pointer (some ⟨pp,0,none⟩))∧p<W.heap.size):=fun W gg=>⟨(gg.cell _ _ pl).trans cp0,Nat.lt_of_lt_of_le pl gg.size⟩
 have EB0:Hid (ES w bo n k v g∧VS w vo L):=⟨he,hv⟩
 rw [hln]
 clear H h rdy hp sub hln bd he hv cp0 pl
 go_enter Tryz.func15,Tryz.ntmps15
 go_wp2_with fail
 refine (LI.out w (Gw.refl w)).mono ?_
 rintro e w1 ⟨⟨ao,ca,rfl,ea⟩,g1⟩
 have G1:Hid (Gw w w1):=g1
 have EA1:Hid (ES w1 ao n k v g):=ea
 clear ea g1
 go_wp2_with fail
 refine (LV.out w1 G1.out).mono ?_
 rintro e w2 ⟨⟨mo,mc,rfl,va⟩,g2⟩
 have G2:Hid (Gw w w2):=G1.out.trans g2
 have EA:Aside (ES w2 ao n k v g):=EA1.out.gw g2
 have EB:Aside (ES w2 bo n k v g):=EB0.out.1.gw G2.out
 have VA:Aside (VS w2 mo L):=va
 have VB:Aside (VS w2 vo L):=EB0.out.2.gw G2.out
 obtain ⟨c0,l0⟩:=CP.out _ G2.out
 clear va g2 EA1 EB0 G1 LI LV CP
 go_wp2_with fail
 refine (EP.out w2 G2.out).mono ?_
 rintro e w3 ⟨rfl,hw⟩
 subst hw
 clear EP c0 l0
 go_wp2_with fail
 go_loopg [11] n (fun gg s5 wr=>∃ i:Nat,s5=.int .i64 i∧i≤n∧n-i≤gg∧Aside (Gw w3 wr))
 case atStart=>exact ⟨0,rfl,Nat.zero_le _,by omega,(show Aside _ from Gw.refl _)⟩
 case round =>
  obtain ⟨i,rfl,h1,h2,G⟩:=hrel
  by_cases hlt:i<n
  ·obtain ⟨ab,af,rfl,hab,hac⟩:=(EA.out.gw G.out).cells (by omega)
   obtain ⟨bb,bf,rfl,hbb,hbc⟩:=(EB.out.gw G.out).cells (by omega)
   obtain ⟨c0,c1,c2⟩:=hac i hlt
   obtain ⟨d0,d1,d2⟩:=hbc i hlt
   have hlt':(i:Int)<(n:Int):=by omega
   generalize k i=ki at c0 d0
   generalize v i=vi at c1 d1
   generalize g i=gi at c2 d2
   clear hac hbc
   go_wp2_with fail
   go_quiet (fail)
   go_wp2_with fail
   go_roundg (n-(i+1))
   case measure=>omega
   case rel=>exact ⟨i+1,by go_num,by omega,Nat.le_refl _,(show Aside _ from G.out.drewN _)⟩
  ·have GG0:Aside (Gw w3 wr):=G.out
   clear EA EB
   go_wp2_with fail
   go_loopg [12] ln (fun gg s5 wr=>∃ i:Nat,s5=.int .i64 i∧i≤ln∧ln-i≤gg∧Aside (Gw w3 wr))
   case atStart=>exact ⟨0,rfl,Nat.zero_le _,by omega,GG0⟩
   case round =>
    clear GG0 G hlt h1 h2
    obtain ⟨i,rfl,h1,h2,G⟩:=hrel
    by_cases hlt:i<ln
    ·obtain ⟨ab,af,rfl,hab,hac⟩:=(VA.out.gw G.out).cells (by rw [LN.out];omega)
     obtain ⟨so,sc,p1,_,_,p4⟩:=hac i (by rw [LN.out];exact hlt)
     obtain ⟨bb,bf,rfl,hbb,hbc⟩:=(VB.out.gw G.out).cells (by rw [LN.out];omega)
     obtain ⟨to_,tc,q1,_,_,q4⟩:=hbc i (by rw [LN.out];exact hlt)
     have sl:=HL.out i (by rw [LN.out];exact hlt)
     clear hac hbc
     generalize L.getD i []=l at p1 p4 q1 q4 sl
     have GA:Aside (GS wr so l):=p4
     have GB:Aside (GS wr to_ l):=q4
     obtain ⟨sn,hsn⟩:∃ sn,l.length=sn:=⟨_,rfl⟩
     have SN:Aside (l.length=sn):=hsn
     rw [hsn] at p1 q1 sl
     have L8:Aside ((wr.cell? ⟨ab,af+i,none⟩=some (.slice so sn sc)∧ab<wr.heap.size)∧(wr.cell? ⟨bb,bf+i,none⟩=some (.slice to_ sn tc)∧bb<wr.heap.size)):=⟨⟨p1,hab⟩,⟨q1,hbb⟩⟩
     obtain ⟨w8,hw8⟩:∃ wx,wx=wr:=⟨_,rfl⟩
     subst hw8
     clear hsn p4 q4
     go_wp2_with fail
     go_quiet (fail)
     go_wp2_with fail
     have D9:Aside (Gw w8 (w8.drewN nq)):=(Gw.refl w8).drewN _
     generalize w8.drewN nq=w9 at D9 ⊢
     clear p1 q1 hab hbb
     go_loopg [13] sn (fun gg s6 wr=>∃ k:Nat,s6=.int .i64 k∧k≤sn∧sn-k≤gg∧Aside (Gw w8 wr))
     case atStart=>exact ⟨0,rfl,Nat.zero_le _,by omega,D9⟩
     case round =>
      obtain ⟨k,rfl,j1,j2,GW⟩:=hrel
      have p1:wr.cell? ⟨ab,af+i,none⟩=some (.slice so sn sc):=(GW.out.cell _ _ L8.out.1.2).trans L8.out.1.1
      have hab:ab<wr.heap.size:=Nat.lt_of_lt_of_le L8.out.1.2 GW.out.size
      by_cases klt:k<sn
      ·have q1:wr.cell? ⟨bb,bf+i,none⟩=some (.slice to_ sn tc):=(GW.out.cell _ _ L8.out.2.2).trans L8.out.2.1
       have hbb:bb<wr.heap.size:=Nat.lt_of_lt_of_le L8.out.2.2 GW.out.size
       obtain ⟨sb,sf,rfl,hsb,hsc⟩:=(GA.out.gw GW.out).cells (by rw [SN.out];omega)
       obtain ⟨tb,tf,rfl,htb,htc⟩:=(GB.out.gw GW.out).cells (by rw [SN.out];omega)
       have C:=hsc k (by rw [SN.out];exact klt)
       have D:=htc k (by rw [SN.out];exact klt)
       clear hsc htc
       generalize l.getD k sg0=s at C D
       obtain ⟨sk,ssl,sic,sfr,ste⟩:=s
       have c0:wr.cell? ⟨sb,sf+k*5,none⟩=some (.int .u64 sk):=C.c0
       have c1:wr.cell? ⟨sb,sf+k*5+1,none⟩=some (.float .f64 ssl):=C.c1
       have c2:wr.cell? ⟨sb,sf+k*5+2,none⟩=some (.float .f64 sic):=C.c2
       have c3:wr.cell? ⟨sb,sf+k*5+3,none⟩=some (.int .i64 sfr):=C.c3
       have c4:wr.cell? ⟨sb,sf+k*5+4,none⟩=some (.int .i64 ste):=C.c4
       have d0:wr.cell? ⟨tb,tf+k*5,none⟩=some (.int .u64 sk):=D.c0
       have d1:wr.cell? ⟨tb,tf+k*5+1,none⟩=some (.float .f64 ssl):=D.c1
       have d2:wr.cell? ⟨tb,tf+k*5+2,none⟩=some (.float .f64 sic):=D.c2
       have d3:wr.cell? ⟨tb,tf+k*5+3,none⟩=some (.int .i64 sfr):=D.c3
       have d4:wr.cell? ⟨tb,tf+k*5+4,none⟩=some (.int .i64 ste):=D.c4
       have SS:Hid (∀ W,Calls Tryz.prog 53 #[.agg #[.int .u64 sk, .float .f64 ssl, .float .f64 sic, .int .i64 sfr, .int .i64 ste], .agg #[.int .u64 sk, .float .f64 ssl, .float .f64 sic, .int .i64 sfr, .int .i64 ste]] W fun e w'=>e=.returned (.bool true)∧Gw W w'):=fun W=>same12_seg ⟨sk,ssl,sic,sfr,ste⟩ W
       have GW9:Aside (Gw w8 wr):=GW.out
       have x1:=GX.cell p1 hab
       have x2:=GX.cell q1 hbb
       have y0:=GX.cell c0 hsb
       have y1:=GX.cell c1 hsb
       have y2:=GX.cell c2 hsb
       have y3:=GX.cell c3 hsb
       have y4:=GX.cell c4 hsb
       have z0:=GX.cell d0 htb
       have z1:=GX.cell d1 htb
       have z2:=GX.cell d2 htb
       have z3:=GX.cell d3 htb
       have z4:=GX.cell d4 htb
       have ne:=GX.some wr
       clear C D
       go_wp2_with fail
       refine wp_region_growx (by kernel_rfl) (by kernel_rfl) ?_
       repeat (go_big_quiet_step (fail))
       go_big_quiet_want
       go_big_quiet_op
       go_big_quiet_call (exact growx_of (SS.out _))
       repeat (go_big_quiet_step (fail))
       refine wpQuiet_nil ?_
       rintro _ ⟨gw,rfl⟩
       clear x1 x2 y0 y1 y2 y3 y4 z0 z1 z2 z3 z4
       go_wp2_with fail
       go_roundg (sn-(k+1))
       case measure=>omega
       case rel=>exact ⟨k+1,by go_num,by omega,Nat.le_refl _,(show Aside _ from GW9.out.trans gw.gw)⟩
      ·have ek:k=sn:=by omega
       subst ek
       go_wp2_with fail
       go_roundg (ln-(i+1))
       case measure=>omega
       case rel=>exact ⟨i+1,by go_num,by omega,Nat.le_refl _,(show Aside _ from G.out.trans GW.out)⟩
    ·go_wp2_with fail
     go_ret
     exact ⟨rfl,G2.out.trans G.out⟩
end Go.Proofs.YtinefkljjnepjaaGreat
namespace Go.Proofs.YtinefkljjnepjaaGreat
open Go.RowKit
set_option linter.unusedVariables false
theorem ES.cg {w:World} {ao:Option Addr} {n:Nat} {k v k' v':Nat→Int} {g g':Nat→Bool} (h:ES w ao n k v g) (e:∀ i,i<n→k i=k' i∧v i=v' i∧g i=g' i):ES w ao n k' v' g' :=
 ⟨fun h0=>by
  obtain ⟨b,off,x,hb,hc⟩:=h.cells h0
  refine ⟨b,off,x,hb,fun i hi=>?_⟩
  obtain ⟨e1,e2,e3⟩:=e i hi
  rw [←e1,←e2,←e3]
  exact hc i hi,fun i hi=>by
  obtain ⟨e1,e2,_⟩:=e i hi
  rw [←e1,←e2]
  exact h.bd i hi⟩
theorem putB_len_le {eps:Int} {k v:Nat→Int} {g:Nat→Bool} {n:Nat} {L:List (List Sg)} (n1:n≤2000000) (sh:Short L):(putB eps k v g n L).length≤97000000000000:=by
 have a:=entsB_len_le k v g n
 have b:=levsB_len_le L (fun l hl=>by
  obtain ⟨i,hi,e⟩:=mem_getD (d:=[]) hl
  have:=sh.2 i hi
  rw [e] at this
  exact this)
 have c:=sh.1
 unfold putB
 rw [List.length_append,List.length_append,List.length_append,List.length_append,List.length_append,num8_len,num8_len,num8_len]
 have d:headB.length=4:=rfl
 have e:L.length*48000008≤2000000*48000008:=Nat.mul_le_mul_right _ c
 omega
set_option maxRecDepth 10000 in
set_option maxHeartbeats 4000000 in
theorem back_walk {HR:World→Nat→(Nat→Prop)→Int→(Nat→Int)→(Nat→Int)→(Nat→Bool)→Nat→List (List Sg)→Prop} (H:RunC HR) (O5:Of5C) (eps:Int) (ao:Option Addr) (n cp:Nat) (k v:Nat→Int) (g:Nat→Bool) (own:Bool) (uo:Option Addr) (uc:Nat) (U:List (List Sg)) (e0:-9223372036854775808≤eps) (e1:eps<9223372036854775808) (hn:n≤2000000) (hcp:n≤cp) (hz:ao=none→n=0∧cp=0) (hU:Short U) (w:World) (h:ES w ao n k v g) (hv:UV w uo U) :
  Calls Tryz.prog 5 #[madeV ao n cp eps own uo U.length uc] w fun e w'=>e=.returned (.bool true)∧Gw w w':=by
 have HH:Hid (RunC HR):=H
 have BO:Hid (∀ W,Gw w W→Calls Tryz.prog 10 #[madeV ao n cp eps own uo U.length uc] W fun ex w'=>BothOut HR W w' ex eps k v g n∧Gw W w'):=fun W gg=>both12 HH.out O5 eps ao n cp k v g own uo uc U e0 e1 hn hcp hz hU W (h.gw gg) (hv.gw gg)
 obtain ⟨un,hun⟩:∃ un,U.length=un:=⟨_,rfl⟩
 rw [hun] at BO ⊢
 clear H h hv hU hz O5 hun
 have G0:Hid (Gw w (w.alloc (.cells #[.slice ao n cp, .int .i64 eps, .bool own, .slice uo un uc] 25))):=(Gw.refl w).alloc _ _
 have BK:Hid ((w.alloc (.cells #[.slice ao n cp, .int .i64 eps, .bool own, .slice uo un uc] 25)).heap[w.heap.size]?=some (.cells #[.slice ao n cp, .int .i64 eps, .bool own, .slice uo un uc] 25 (0,0))):=heap_alloc_new w _
 have CB:Hid (∀ W,Gw (w.alloc (.cells #[.slice ao n cp, .int .i64 eps, .bool own, .slice uo un uc] 25)) W→(W.cell? ⟨w.heap.size,0,none⟩=some (.slice ao n cp)∧W.cell? ⟨w.heap.size,1,none⟩=some (.int .i64 eps)∧W.cell? ⟨w.heap.size,2,none⟩=some (.bool own)∧W.cell? ⟨w.heap.size,3,none⟩=some (.slice uo un uc))∧w.heap.size<W.heap.size):=fun W gg=>by
  have hb:=(gg.below.block w.heap.size (by simp)).trans BK.out
  exact ⟨⟨by simp [World.cell?,hb],by simp [World.cell?,hb],by simp [World.cell?,hb],by simp [World.cell?,hb]⟩,(Array.getElem?_eq_some_iff.1 hb).1⟩
 go_enter Tryz.func5,Tryz.ntmps5
 go_wp2_with fail
 generalize w.alloc (.cells #[.slice ao n cp, .int .i64 eps, .bool own, .slice uo un uc] 25)=w0 at G0 CB ⊢
 refine (shown12 HH.out w0).mono ?_
 rintro e w1 ⟨rfl,g1⟩
 have G01:Hid (Gw w0 w1):=g1
 obtain ⟨⟨m0,m1,m2,m3⟩,ml⟩:=CB.out _ g1
 clear g1 BK
 go_wp2_with fail
 refine (BO.out _ (G0.out.trans G01.out)).mono ?_
 rintro e w2 ⟨hB,g2⟩
 have G02:Hid (Gw w0 w2):=G01.out.trans g2
 clear g2 m0 m1 m2 m3 ml BO
 rcases hB with rfl | ⟨px,Sx,py,Sy,L,rfl,hSx,hSy,hrx,hdy,rgx⟩
 ·go_wp2_with fail
  go_ret
  exact ⟨rfl,G0.out.trans G02.out⟩
 have R2:Hid (HR w2 px Sx eps k v g n L):=hrx
 have RG:Hid (RunG eps k v g n L):=rgx
 have pln:=putB_len_le (eps:=eps) (k:=k) (v:=v) (g:=g) hn rgx.rdy.sh
 clear hSx hSy hrx hdy rgx G01
 obtain ⟨B,hB⟩:∃ B,putB eps k v g n L=B:=⟨_,rfl⟩
 have HB:Hid (putB eps k v g n L=B):=hB
 obtain ⟨bl,hbl⟩:∃ bl,B.length=bl:=⟨_,rfl⟩
 have HBL:Hid (B.length=bl):=hbl
 rw [hB,hbl] at pln
 have PU:Hid (Calls Tryz.prog 11 #[.pointer (some ⟨px,0,none⟩)] w2 fun e w'=>(∃ bo c,e=.returned (.slice bo bl c)∧BS w' bo bl (lf B))∧Gw w2 w'):=(jput HH.out R2.out RG.out.bd RG.out.te).mono fun e w' ⟨⟨bo,c,a,b⟩,d⟩=>by
  have bs:=bl_bs b (putB_bd _ _ _ _ _ _)
  rw [hB,hbl] at a bs
  exact ⟨⟨bo,c,a,bs⟩,d⟩
 have LB:Hid (Lies (lf B) 0 (putB eps k v g n L)):=by rw [←hB];exact lf_lies _
 have FT:=(RG.out.bytes LB.out)
 rw [hB,hbl] at FT
 have FTH:Hid (Fit (lf B) bl∧numR (lf B) 4 8=eps∧nF (lf B)=n∧(∀ i,i<n→kF (lf B) i=k i∧vF (lf B) i=v i∧gF (lf B) i=g i)∧hF (lf B)=L.length∧LF (lf B)=L):=FT
 clear hB hbl FT
 go_wp2_with fail
 refine PU.out.mono ?_
 rintro e w3 ⟨⟨bo,bc,rfl,bs⟩,g3⟩
 have B3:Hid (BS w3 bo bl (lf B)):=bs
 have G03:Hid (Gw w0 w3):=G02.out.trans g3
 have R3:Hid (HR w3 px Sx eps k v g n L):=HH.out.gw R2.out g3
 clear bs g3 PU G02 R2
 go_wp2_with fail
 refine (jget HH.out bo bl bc (lf B) (by omega) (RG.out.mod LB.out bl) w3 B3.out).mono ?_
 rintro e w4 ⟨hG,g4⟩
 rcases hG with ⟨_,pz,Sz,rfl,_,hrz,rgz⟩ | ⟨nf,_⟩
 rotate_left
 ·exact absurd FTH.out.1 nf
 have RZ:Hid (HR w4 pz Sz (numR (lf B) 4 8) (kF (lf B)) (vF (lf B)) (gF (lf B)) (nF (lf B)) (LF (lf B))∧RunG (numR (lf B) 4 8) (kF (lf B)) (vF (lf B)) (gF (lf B)) (nF (lf B)) (LF (lf B))):=⟨hrz,rgz⟩
 have G04:Hid (Gw w0 w4):=G03.out.trans g4
 have R4:Hid (HR w4 px Sx eps k v g n L):=HH.out.gw R3.out g4
 have B4:Hid (BS w4 bo bl (lf B)):=B3.out.gw g4
 clear hrz rgz g4 G03 R3 B3
 go_wp2_with fail
 refine (HH.out.list R4.out).mono ?_
 rintro e w5 ⟨⟨lo,lc,rfl,er5⟩,g5⟩
 have E5:Hid (ES w5 lo n k v g):=er_es er5 RG.out.bd
 have G45:Hid (Gw w4 w5):=g5
 clear er5 g5
 go_wp2_with fail
 refine (HH.out.levels (HH.out.gw R4.out G45.out)).mono ?_
 rintro e w6 ⟨⟨vo,vc,vals,rfl,ow,lok,hl⟩,g6⟩
 have V6:Hid (VS w6 vo L):=(ow.vsf lok).vs
 have E6:Hid (ES w6 lo n k v g):=E5.out.gw g6
 have G46:Hid (Gw w4 w6):=G45.out.trans g6
 obtain ⟨pp,Sp,cp0,hp,_⟩:=HH.out.pile (HH.out.gw R4.out G46.out)
 have pl6:px<w6.heap.size:=HH.out.lt (HH.out.gw R4.out G46.out) px (HH.out.own (HH.out.gw R4.out G46.out))
 have EP:Hid (Calls Tryz.prog 18 #[.pointer (some ⟨pp,0,none⟩)] w6 fun e w'=>e=.returned (.int .i64 eps)∧w'=w6):=pl_eps hp
 clear ow lok hl g6 hp E5 G45
 obtain ⟨ln,hln⟩:∃ ln,L.length=ln:=⟨_,rfl⟩
 have LN:Hid (L.length=ln):=hln
 rw [hln]
 clear hln
 go_wp2_with fail
 refine EP.out.mono ?_
 rintro e w7 ⟨rfl,hw⟩
 subst hw
 have AL:Hid (Calls Tryz.prog 15 #[.pointer (some ⟨pz,0,none⟩), .slice lo n lc, .int .i64 eps, .slice vo ln vc] w7 fun e w'=>e=.returned (.bool true)∧Gw w7 w'):=by
  obtain ⟨_,f1,f2,f3,f4,f5⟩:=FTH.out
  have hz:=HH.out.gw RZ.out.1 G46.out
  have zb:=RZ.out.2.bd
  have es:ES w7 lo (nF (lf B)) (kF (lf B)) (vF (lf B)) (gF (lf B)):=by
   rw [f2]
   exact E6.out.cg fun i hi=>⟨((f3 i hi).1).symm,((f3 i hi).2.1).symm,((f3 i hi).2.2).symm⟩
  have vs:VS w7 vo (LF (lf B)):=by rw [f5];exact V6.out
  have:=alike12 HH.out hz zb lo lc es vo vc vs
  rw [f1,f2,f5,LN.out] at this
  exact this
 go_wp2_with fail
 refine AL.out.mono ?_
 rintro e w8 ⟨rfl,g8⟩
 have G48:Hid (Gw w4 w8):=G46.out.trans g8
 clear AL EP g8
 have PZ:Hid (Calls Tryz.prog 11 #[.pointer (some ⟨pz,0,none⟩)] w8 fun e w'=>(∃ co c,e=.returned (.slice co bl c)∧BS w' co bl (lf B))∧Gw w8 w'):=(jput HH.out (HH.out.gw RZ.out.1 G48.out) RZ.out.2.bd RZ.out.2.te).mono fun e w' ⟨⟨co,c,a,b⟩,d⟩=>by
  obtain ⟨li,le⟩:=FTH.out.1.1.once (m:=bl) (fun i hi=>B4.out.bd i hi)
  have bs:=bl_bs b (putB_bd _ _ _ _ _ _)
  rw [le] at a bs
  exact ⟨⟨co,c,a,bs.congr fun i hi=>(lies_lf li i (by rw [le];exact hi)).symm⟩,d⟩
 go_wp2_with fail
 refine PZ.out.mono ?_
 rintro e w9 ⟨⟨co,cc,rfl,bs9⟩,g9⟩
 have G49:Hid (Gw w4 w9):=G48.out.trans g9
 have cv1:=conv_b (B4.out.gw G49.out) bc
 have cv2:=conv_b bs9 cc
 obtain ⟨⟨m0,_,_,_⟩,ml⟩:=CB.out _ (G04.out.trans G49.out)
 clear bs9 g9 PZ
 generalize txt (lf B) bl=tx at cv1 cv2
 go_wp2_with fail
 go_ret
 exact ⟨rfl,(G0.out.trans G04.out).trans G49.out⟩
end Go.Proofs.YtinefkljjnepjaaGreat
