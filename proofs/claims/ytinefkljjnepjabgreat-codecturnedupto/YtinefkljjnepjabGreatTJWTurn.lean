/- CodecTurned: the walk. -/
import Derived.Deep.CutBlock
import Derived.Deep.DeepCutAuto
import Derived.Deep.RegionHeld3
import Derived.Laws.StructEq
import Derived.Test.YtinefkljjnepjabGreatTJGood
import Derived.Test.YtinefkljjnepjabGreatTJM
namespace Go.Proofs.YtinefkljjnepjabGreat
open Go.RowKit
set_option linter.unusedVariables false
theorem bl_own {w:World} {base:Nat} {bo:Option Addr} {n c:Nat} {l:List Int} (h:BL w base (.slice bo n c) l) (h0:0<l.length) (hn:n=l.length) (bd:∀ y∈l,0≤y∧y<256):∃ b,bo=some ⟨b,0,none⟩∧base≤b∧b<w.heap.size∧BS w bo n (lf l)∧(∀ i,w.frozen? ⟨b,i,none⟩=false)∧n≤c:=by
 subst hn
 have bs:=bl_bs h bd
 rcases h.2 with ⟨e,z⟩ | ⟨g,cap,cur,e,hb,hh,r⟩
 ·omega
 ·injection e with e1 e2 e3
  subst e1 e3
  exact ⟨g,rfl,hb,(Array.getElem?_eq_some_iff.1 hh).1,bs,fun i=>by simp [World.frozen?,hh],r.1⟩
theorem bs_turn {w:World} {b n:Nat} {f:Nat→Int} (h:BS w (some ⟨b,0,none⟩) n f) (t:Nat) (ht:t<n) (y:Int) (y0:0≤y∧y<256):BS (w.setCell ⟨b,t,none⟩ (.int .u8 y)) (some ⟨b,0,none⟩) n (fun i=>if i=t then y else f i):=by
 refine ⟨fun h0=>?_,fun i hi=>?_⟩
 ·obtain ⟨b',off,e,hb,hc⟩:=h.cells h0
  cases e
  refine ⟨b,0,rfl,by simpa using hb,fun i hi=>?_⟩
  rw [Nat.zero_add]
  have hi':=hc i hi
  rw [Nat.zero_add] at hi'
  by_cases e:i=t
  ·subst e
   rw [if_pos rfl]
   exact World.cell?_setCell_same _ _ _ hi'
  ·rw [if_neg e]
   exact (World.cell?_setCell_other _ _ _ _ (by intro x;apply e;simpa using x.symm)).trans hi'
 ·by_cases e:i=t
  ·simp only [if_pos e];exact y0
  ·simp only [if_neg e];exact h.bd i hi
theorem up_cnt {k:Nat→Int} {n:Nat} (u:Up k n) {i:Nat} (hi:i<n):cntb k (k i) n=i:=by
 have c:=cntb_up u (k i) n (Nat.le_refl _)
 have l:=cntb_le k (k i) n
 rcases Nat.lt_trichotomy (cntb k (k i) n) i with h | h | h
 ·have a:=c.2 _ (Nat.le_refl _) (by omega)
  have b:=u.lt h hi
  omega
 ·exact h
 ·have:=c.1 i h
  omega
set_option maxRecDepth 10000 in
set_option maxHeartbeats 4000000 in
theorem turned_walk {HR:World→Nat→(Nat→Prop)→Int→(Nat→Int)→(Nat→Int)→(Nat→Bool)→Nat→List (List Sg)→Prop} (H:RunC HR) (O5:Of5C) (eps:Int) (ao:Option Addr) (n cp:Nat) (k v:Nat→Int) (g:Nat→Bool) (own:Bool) (uo:Option Addr) (uc:Nat) (U:List (List Sg)) (e0:-9223372036854775808≤eps) (e1:eps<9223372036854775808) (hn:n≤2000000) (hcp:n≤cp) (hz:ao=none→n=0∧cp=0) (hU:Short U) (hW:4*n+U.length+6*total U≤1048576) (ct:Int) (ct0:-9223372036854775808≤ct) (ct1:ct<9223372036854775808) (bt:Int) (bt0:-9223372036854775808≤bt) (bt1:bt<9223372036854775808) (w:World) (h:ES w ao n k v g) (hv:UV w uo U) :
  Calls Tryz.prog 3 #[madeV ao n cp eps own uo U.length uc, .int .i64 ct, .int .i64 bt] w fun e w'=>e=.returned (.bool true)∧Gw w w':=by
 have HH:Hid (RunC HR):=H
 have BO:Hid (∀ W,Gw w W→Calls Tryz.prog 7 #[madeV ao n cp eps own uo U.length uc] W fun ex w'=>BothOutX HR W w' ex eps k v g n own U∧Gw W w'):=fun W gg=>both12x HH.out O5 eps ao n cp k v g own uo uc U e0 e1 hn hcp hz hU W (h.gw gg) (hv.gw gg)
 obtain ⟨un,hun⟩:∃ un,U.length=un:=⟨_,rfl⟩
 rw [hun] at BO ⊢
 have HBD:Hid (∀ i,i<n→0≤k i∧k i<18446744073709551616):=fun i hi=>(h.bd i hi).1
 clear H h hv hU hz O5
 have G0:Hid (Gw w (w.alloc (.cells #[.slice ao n cp, .int .i64 eps, .bool own, .slice uo un uc] 25))):=(Gw.refl w).alloc _ _
 have BK:Hid ((w.alloc (.cells #[.slice ao n cp, .int .i64 eps, .bool own, .slice uo un uc] 25)).heap[w.heap.size]?=some (.cells #[.slice ao n cp, .int .i64 eps, .bool own, .slice uo un uc] 25 (0,0))):=heap_alloc_new w _
 have CB:Hid (∀ W,Gw (w.alloc (.cells #[.slice ao n cp, .int .i64 eps, .bool own, .slice uo un uc] 25)) W→(W.cell? ⟨w.heap.size,0,none⟩=some (.slice ao n cp)∧W.cell? ⟨w.heap.size,1,none⟩=some (.int .i64 eps)∧W.cell? ⟨w.heap.size,2,none⟩=some (.bool own)∧W.cell? ⟨w.heap.size,3,none⟩=some (.slice uo un uc))∧w.heap.size<W.heap.size):=fun W gg=>by
  have hb:=(gg.below.block w.heap.size (by simp)).trans BK.out
  exact ⟨⟨by simp [World.cell?,hb],by simp [World.cell?,hb],by simp [World.cell?,hb],by simp [World.cell?,hb]⟩,(Array.getElem?_eq_some_iff.1 hb).1⟩
 go_enter Tryz.func3,Tryz.ntmps3
 go_wp2_with fail
 generalize w.alloc (.cells #[.slice ao n cp, .int .i64 eps, .bool own, .slice uo un uc] 25)=w0 at G0 CB ⊢
 refine (shown12 HH.out w0).mono ?_
 rintro e w1 ⟨rfl,g1⟩
 have G01:Hid (Gw w0 w1):=g1
 obtain ⟨⟨m0,m1,m2,m3⟩,ml⟩:=CB.out _ g1
 clear g1 BK
 go_wp2_with fail
 refine (BO.out _ (G0.out.trans G01.out)).mono ?_
 rintro e w2 ⟨hB,g2⟩
 have G02:Hid (Gw w0 w2):=G01.out.trans g2
 clear g2 m0 m1 m2 m3 ml BO
 rcases hB with rfl | ⟨px,Sx,py,Sy,L,rfl,hSx,hSy,hrx,hdy,rgx,ow1,ow2⟩
 ·go_wp2_with fail
  go_ret
  exact ⟨rfl,G0.out.trans G02.out⟩
 have R2:Hid (HR w2 px Sx eps k v g n L):=hrx
 have RG:Hid (RunG eps k v g n L):=rgx
 have pln:(putB eps k v g n L).length≤16000000:=putB_total eps k v g n L (by
  cases own with
  | true =>
   have e:=ow1 rfl
   subst e
   omega
  | false =>
   obtain ⟨a,b⟩:=(ow2 rfl).total rgx.rdy.e0 hn HBD.out rgx.rdy.up0'
   omega)
 clear hSx hSy hrx hdy rgx G01 ow1 ow2 HBD hun hW
 obtain ⟨B,hB⟩:∃ B,putB eps k v g n L=B:=⟨_,rfl⟩
 have HB:Hid (putB eps k v g n L=B):=hB
 obtain ⟨bl,hbl⟩:∃ bl,B.length=bl:=⟨_,rfl⟩
 have HBL:Hid (B.length=bl):=hbl
 rw [hB,hbl] at pln
 have b20:20≤bl:=by
  have FT:=RG.out.bytes (f:=lf B) (by rw [←hB];exact lf_lies _)
  rw [hB,hbl] at FT
  exact FT.1.1.nn.1
 have PU:Hid (Calls Tryz.prog 8 #[.pointer (some ⟨px,0,none⟩)] w2 fun e w'=>(∃ b c,e=.returned (.slice (some ⟨b,0,none⟩) bl c)∧w2.heap.size≤b∧b<w'.heap.size∧BS w' (some ⟨b,0,none⟩) bl (lf B)∧(∀ i,w'.frozen? ⟨b,i,none⟩=false))∧Gw w2 w'):=(jput HH.out R2.out RG.out.bd RG.out.te).mono fun e w' ⟨⟨bo,c,a,b⟩,d⟩=>by
  rw [hB,hbl] at a b
  obtain ⟨bb,rfl,h1,h2,h3,h4,_⟩:=bl_own b (by omega) hbl.symm (by rw [←hB];exact putB_bd _ _ _ _ _ _)
  exact ⟨⟨bb,c,a,h1,h2,h3,h4⟩,d⟩
 clear hB hbl
 go_wp2_with fail
 refine PU.out.mono ?_
 rintro e w3 ⟨⟨bb,bc,rfl,bk1,bk2,bs,bfz⟩,g3⟩
 have B3:Hid (BS w3 (some ⟨bb,0,none⟩) bl (lf B)):=bs
 have G03:Hid (Gw w0 w3):=G02.out.trans g3
 have NB:Hid (w0.heap.size≤bb):=Nat.le_trans G02.out.size bk1
 clear bs g3 PU G02 R2 RG HB HBL CB
 have tz:((bl:Int) == 0)=false:=by simp;omega
 obtain ⟨cu,hcu⟩:∃ cu:Nat,(if ct<0 then -(ct+1) else ct)=(cu:Int):=⟨(if ct<0 then -(ct+1) else ct).toNat,by split<;>omega⟩
 have CU:Hid ((if ct<0 then -(ct+1) else ct)=(cu:Int)):=hcu
 obtain ⟨bu,hbu⟩:∃ bu:Nat,(if bt<0 then -(bt+1) else bt)=(bu:Int):=⟨(if bt<0 then -(bt+1) else bt).toNat,by split<;>omega⟩
 have BU:Hid ((if bt<0 then -(bt+1) else bt)=(bu:Int)):=hbu
 clear hcu hbu
 go_upto_if 40 with fail
 go_cut [1] (fun s wx=>s=.int .i64 (cu:Int)∧wx=w3)
 case first=>as_aux_lemma =>
  have e:=CU.out
  by_cases cn:ct<0
  ·rw [if_pos cn] at e
   have w1':IntKind.i64.wrap (ct+1)=ct+1:=by rw [IntKind.wrap_i64];omega
   have w2':IntKind.i64.wrap (-(ct+1))=(cu:Int):=by rw [IntKind.wrap_i64];omega
   have w3':=e
   clear e
   go_wp2_with fail
   go_meet
   case rel=>exact ⟨rfl,rfl⟩
  ·rw [if_neg cn] at e
   have E:Aside (ct=(cu:Int)):=e
   clear e
   go_wp2_with fail
   go_meet
   case rel=>exact ⟨by rw [E.out],rfl⟩
 case rest=>as_aux_lemma =>
 obtain ⟨rfl,hwu⟩:=hcut
 have hwu':=hwu.symm
 subst hwu'
 clear hwu CU ct0 ct1
 go_upto_if 45 with fail
 go_cut [2] (fun s wx=>s=.int .i64 (bu:Int)∧wx=w3)
 case first=>as_aux_lemma =>
  have e:=BU.out
  by_cases cn:bt<0
  ·rw [if_pos cn] at e
   have w1':IntKind.i64.wrap (bt+1)=bt+1:=by rw [IntKind.wrap_i64];omega
   have w2':IntKind.i64.wrap (-(bt+1))=(bu:Int):=by rw [IntKind.wrap_i64];omega
   have w3':=e
   clear e
   go_wp2_with fail
   go_meet
   case rel=>exact ⟨rfl,rfl⟩
  ·rw [if_neg cn] at e
   have E:Aside (bt=(bu:Int)):=e
   clear e
   go_wp2_with fail
   go_meet
   case rel=>exact ⟨by rw [E.out],rfl⟩
 case rest=>as_aux_lemma =>
 obtain ⟨rfl,hwu⟩:=hcut
 have hwu':=hwu.symm
 subst hwu'
 clear hwu BU bt0 bt1
 go_upto_region 14 with fail
 go_cut [11] (fun s wx=>s=.slice (some ⟨bb,0,none⟩) bl bc∧∃ f:Nat→Int,Aside (BS wx (some ⟨bb,0,none⟩) bl f)∧Aside (Gw w0 wx))
 case first=>as_aux_lemma =>
  obtain ⟨r,hr⟩:∃ r,cu%bl=r:=⟨_,rfl⟩
  have rl:r<bl:=by rw [←hr];exact Nat.mod_lt _ (by omega)
  have rm:(cu:Int).tmod (bl:Int)=(r:Int):=by rw [←hr];rfl
  have wr9:IntKind.i64.wrap (r:Int)=(r:Int):=by rw [IntKind.wrap_i64];omega
  have rl':(r:Int)<(bl:Int):=by omega
  obtain ⟨s,hs⟩:∃ s,bu%8=s:=⟨_,rfl⟩
  have sl:s<8:=by omega
  have sm:(bu:Int).tmod 8=(s:Int):=by rw [←hs];rfl
  have ws9:IntKind.i64.wrap (s:Int)=(s:Int):=by rw [IntKind.wrap_i64];omega
  obtain ⟨_,_,e,_,hc⟩:=B3.out.cells (by omega)
  cases e
  have x0:=hc r rl
  rw [Nat.zero_add] at x0
  have y0:=bfz r
  clear hc hr hs
  generalize lf B r=xv at x0
  have bz:0≤bits .xor .u8 xv (2^s%256)∧bits .xor .u8 xv (2^s%256)<256:=by
   unfold bits
   rw [IntKind.wrap_u8]
   omega
  go_region
  all_goals go_wp2_with fail
  all_goals go_meet
  all_goals (case rel=>exact ⟨rfl,(fun i=>if i=r then bits .xor .u8 xv (2^s%256) else lf B i),(show Aside _ from (bs_turn B3.out r rl _ bz).gw (Gw.refl _).drew),(show Aside _ from (G03.out.setCell NB.out _).drew)⟩)
 case rest=>as_aux_lemma =>
 obtain ⟨rfl,f,B4,G04⟩:=hcut
 obtain ⟨w4,hw4⟩:∃ wx,wx=wc:=⟨_,rfl⟩
 subst hw4
 clear B3 G03 bfz bk1 bk2
 go_wp2_with fail
 refine Calls.mono (jget HH.out (some ⟨bb,0,none⟩) bl bc f (by omega) (.few (by omega)) w4 B4.out) ?_
 rintro e w5 ⟨hG,g5⟩
 have G05:Hid (Gw w0 w5):=G04.out.trans g5
 have B5:Hid (BS w5 (some ⟨bb,0,none⟩) bl f):=B4.out.gw g5
 clear g5 B4 G04
 rcases hG with ⟨ft,pz,Sz,rfl,_,hrz,rgz⟩ | ⟨nf,rfl⟩
 rotate_left
 ·clear nf
  go_wp2_with fail
  go_ret
  exact ⟨rfl,G0.out.trans G05.out⟩
 have RZ:Hid (HR w5 pz Sz (numR f 4 8) (kF f) (vF f) (gF f) (nF f) (LF f)):=hrz
 have BD:Hid (∀ i,i<nF f→(0≤kF f i∧kF f i<18446744073709551616)∧(0≤vF f i∧vF f i<18446744073709551616)):=rgz.bd
 have PZ:Hid (Calls Tryz.prog 8 #[.pointer (some ⟨pz,0,none⟩)] w5 fun e w'=>(∃ co c,e=.returned (.slice co bl c)∧BS w' co bl f)∧Gw w5 w'):=(jput HH.out RZ.out rgz.bd rgz.te).mono fun e w' ⟨⟨co,c,a,b⟩,d⟩=>by
  obtain ⟨li,le⟩:=ft.1.once (m:=bl) (fun i hi=>B5.out.bd i hi)
  have bs:=bl_bs b (putB_bd _ _ _ _ _ _)
  rw [le] at a bs
  exact ⟨⟨co,c,a,bs.congr fun i hi=>(lies_lf li i (by rw [le];exact hi)).symm⟩,d⟩
 have n1:=rgz.rdy.n1
 have UP:Hid (Up (kF f) (nF f)):=rgz.rdy.up0'
 clear hrz rgz ft
 go_wp2_with fail
 refine Calls.mono PZ.out ?_
 rintro e w6 ⟨⟨co,cc,rfl,bs⟩,g6⟩
 have G56:Hid (Gw w5 w6):=g6
 have cv1:=conv_b bs cc
 have cv2:=conv_b (B5.out.gw G56.out) bc
 clear bs g6 PZ
 generalize txt f bl=tx at cv1 cv2
 have LI:Hid (Calls Tryz.prog 10 #[.pointer (some ⟨pz,0,none⟩)] w6 fun e w'=>(∃ bo c,e=.returned (.slice bo (nF f) c)∧ES w' bo (nF f) (kF f) (vF f) (gF f))∧Gw w6 w'):=(HH.out.list (HH.out.gw RZ.out G56.out)).mono fun e w' ⟨⟨bo,c,a,er⟩,b⟩=>⟨⟨bo,c,a,er_es er BD.out⟩,b⟩
 have GE:Hid (∀ W,Gw w5 W→∀ i,i<nF f→Calls Tryz.prog 11 #[.pointer (some ⟨pz,0,none⟩), .int .u64 (kF f i)] W fun e w'=>e=.returned (.tuple #[.agg #[.int .u64 (kF f i), .int .u64 (vF f i), .bool (gF f i)], .bool true])∧Gw W w'):=fun W gg i hi=>by
  have:=HH.out.get (HH.out.gw RZ.out gg) (kF f i) (BD.out i hi).1.1 (BD.out i hi).1.2
  have e:getV (kF f) (vF f) (gF f) (nF f) (kF f i)=(.agg #[.int .u64 (kF f i), .int .u64 (vF f i), .bool (gF f i)],true):=by
   unfold getV
   rw [up_cnt UP.out hi,if_pos ⟨hi,rfl⟩]
  rw [e] at this
  exact this
 have RE:Hid (∀ W,Gw w5 W→∀ i,i<nF f→Calls Tryz.prog 12 #[.pointer (some ⟨pz,0,none⟩), .int .u64 (kF f i)] W fun e w'=>e=.returned (.int .i64 (i:Int))∧Gw W w'):=fun W gg i hi=>by
  have:=HH.out.rank (HH.out.gw RZ.out gg) (kF f i) (BD.out i hi).1.1 (BD.out i hi).1.2
  rw [up_cnt UP.out hi] at this
  exact this
 clear RZ UP HH BD B5
 generalize kF f=kk at LI GE RE
 generalize vF f=vv at LI GE
 generalize gF f=gg' at LI GE
 generalize nF f=nn at LI GE RE n1
 go_wp2_with fail
 refine Calls.mono LI.out ?_
 rintro e w7 ⟨⟨lo,lc,rfl,ea⟩,g7⟩
 have E7:Hid (ES w7 lo nn kk vv gg'):=ea
 have G57:Hid (Gw w5 w7):=G56.out.trans g7
 clear ea g7 LI cv1 cv2 G56
 go_wp2_with fail
 go_loopg [16] nn (fun gg s wr=>∃ i:Nat,s=.int .i64 (i:Int)∧i≤nn∧nn-i≤gg∧Aside (Gw w7 wr))
 case atStart=>exact ⟨0,rfl,Nat.zero_le _,by omega,(show Aside _ from Gw.refl w7)⟩
 case round=>as_aux_lemma =>
  obtain ⟨i,rfl,a1,a2,G⟩:=hrel
  obtain ⟨wS,hwS⟩:∃ wx,wx=wr:=⟨_,rfl⟩
  subst hwS
  by_cases hlt:i<nn
  ·have hlt':(i:Int)<(nn:Int):=by omega
   have GEi:=GE.out wS (G57.out.trans G.out) i hlt
   have REi:=fun W gg=>RE.out W gg i hlt
   obtain ⟨lb,loff,rfl,hlb,hlc⟩:=(E7.out.gw G.out).cells (by omega)
   obtain ⟨c0,c1,c2⟩:=hlc i hlt
   clear hlc
   generalize kk i=ki at c0 GEi REi
   generalize vv i=vi at c1 GEi
   generalize gg' i=gi at c2 GEi
   have GI:Hid (Calls Tryz.prog 11 #[.pointer (some ⟨pz,0,none⟩), .int .u64 ki] wS fun e w'=>e=.returned (.tuple #[.agg #[.int .u64 ki, .int .u64 vi, .bool gi], .bool true])∧Gw wS w'):=GEi
   have RI:Hid (∀ W,Gw w5 W→Calls Tryz.prog 12 #[.pointer (some ⟨pz,0,none⟩), .int .u64 ki] W fun e w'=>e=.returned (.int .i64 (i:Int))∧Gw W w'):=REi
   clear GEi REi
   go_wp2_with fail
   refine Calls.mono GI.out ?_
   rintro e w8 ⟨rfl,g8⟩
   have G9:Aside (Gw wS (w8.alloc (.cells #[.int .u64 ki, .int .u64 vi, .bool gi] 39))):=g8.alloc _ _
   have E9:Aside ((w8.alloc (.cells #[.int .u64 ki, .int .u64 vi, .bool gi] 39)).heap[w8.heap.size]?=some (.cells #[.int .u64 ki, .int .u64 vi, .bool gi] 39)):=heap_alloc_new w8 _
   clear g8 GI
   go_upto_region 28 with fail
   obtain ⟨b9,hb9⟩:∃ b,w8.heap.size=b:=⟨_,rfl⟩
   rw [hb9] at E9 ⊢
   generalize w8.alloc (.cells #[.int .u64 ki, .int .u64 vi, .bool gi] 39)=w9 at G9 E9 ⊢
   clear hb9
   obtain ⟨x0,x1,x2⟩:w9.cell? ⟨b9,0,none⟩=some (.int .u64 ki)∧w9.cell? ⟨b9,1,none⟩=some (.int .u64 vi)∧w9.cell? ⟨b9,2,none⟩=some (.bool gi):=by
    have e:=E9.out
    refine ⟨?_,?_,?_⟩<;>simp [World.cell?,e]
   have bl9:b9<w9.heap.size:=(Array.getElem?_eq_some_iff.1 E9.out).1
   have y0:=GX.cell x0 bl9
   have y1:=GX.cell x1 bl9
   have y2:=GX.cell x2 bl9
   have k0:=(G9.out.cell _ _ hlb).trans c0
   have k1:=(G9.out.cell _ _ hlb).trans c1
   have k2:=(G9.out.cell _ _ hlb).trans c2
   have hl9:lb<w9.heap.size:=Nat.lt_of_lt_of_le hlb G9.out.size
   have z0:=GX.cell k0 hl9
   have z1:=GX.cell k1 hl9
   have z2:=GX.cell k2 hl9
   have ne:=GX.some w9
   have G59:Hid (Gw w5 w9):=(G57.out.trans G.out).trans G9.out
   clear c0 c1 c2 k0 k1 k2 x0 x1 x2
   refine wp_region_growx (by kernel_rfl) (by kernel_rfl) ?_
   repeat (go_big_quiet_step (fail))
   go_big_quiet_want
   go_big_quiet_op
   go_big_quiet_call (exact growx_of (RI.out _ (G59.out.trans (GX.gw _))))
   repeat (go_big_quiet_step (fail))
   refine wpQuiet_nil ?_
   rintro _ ⟨gw,rfl⟩
   have G10:Aside (Gw w7 gw.1):=(G.out.trans G9.out).trans gw.gw
   go_wp2_with fail
   go_roundg (nn-(i+1))
   case measure=>omega
   case rel=>exact ⟨i+1,by go_num,by omega,Nat.le_refl _,G10⟩
  ·go_wp2_with fail
   go_ret
   exact ⟨rfl,((G0.out.trans G05.out).trans G57.out).trans G.out⟩
end Go.Proofs.YtinefkljjnepjabGreat
