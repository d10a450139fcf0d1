/- CodecHolds: the walk. -/
import Derived.Deep.CutBlock
import Derived.Deep.DeepCutAuto
import Derived.Laws.StructEq
import Derived.Test.YtinefkljjnepjaaGreatHPXR
import Derived.Test.YtinefkljjnepjaaGreatHJS
import Derived.Test.YtinefkljjnepjaaGreatHJD2
namespace Go.Proofs.YtinefkljjnepjaaGreat
open Go.RowKit
set_option linter.unusedVariables false
attribute [local go_sem] run_store_float
theorem getV_all (k v:Nat→Int) (g:Nat→Bool) (n:Nat) (q:Int):∃ a b c t,getV k v g n q=(.agg #[.int .u64 a, .int .u64 b, .bool c],t)∧(t=true↔(cntb k q n<n∧k (cntb k q n)=q))∧(t=true→a=k (cntb k q n)∧b=v (cntb k q n)∧c=g (cntb k q n)):=by
 unfold getV
 by_cases h:cntb k q n<n∧k (cntb k q n)=q
 ·rw [if_pos h];exact ⟨_,_,_,_,rfl,⟨fun _=>h,fun _=>rfl⟩,fun _=>⟨rfl,rfl,rfl⟩⟩
 ·rw [if_neg h];exact ⟨_,_,_,_,rfl,⟨fun e=>by (cases e),fun e=>absurd e h⟩,fun e=>by (cases e)⟩
theorem Ready.up0 {eps:Int} {k:Nat→Int} {n:Nat} {L:List (List Sg)} (h:Ready eps k n L):Up k n:=by
 by_cases e:L.length=0
 ·have:=h.z.1 e
  subst this
  intro i hi
  omega
 ·exact (h.lv.lvl 0 (by omega)).up
structure VF (eps q:Int) (k:Nat→Int) (n:Nat) (L:List (List Sg)) (l rk:Nat) (gu lo hi:Int):Prop where
 sl:slotA q L l<(L.getD l []).length
 far:gu-rk≤eps+1∧rk-gu≤eps+1
 near:(rk<rowN n L l∧rowF k L l rk=q)→gu-rk≤eps∧rk-gu≤eps
 g0:0≤gu∧gu≤4294967296
 win:hi-lo≤2*eps+2∧0≤lo∧lo≤4294967296∧0≤hi∧hi≤4294967296
 le:rk≤rowN n L l
 low:∀ r,r<rk→rowF k L l r<q
 top:rk<rowN n L l→q≤rowF k L l rk
theorem Ready.vf {eps q:Int} {k:Nat→Int} {n:Nat} {L:List (List Sg)} (h:Ready eps k n L) (q1:q<18446744073709551616) {l:Nat} (hl:l<L.length):VF eps q k n L l (cntb (rowF k L l) q (rowN n L l)) (guessA q L l) (max (segA q L l).fr (guessA q L l-eps-1)) (min (segA q L l).te (guessA q L l+eps+1)):=by
 have V:=h.lv.vis (q:=q) q1 hl
 obtain ⟨a,b,c,d,e,e',_⟩:=h.lv.bounds (q:=q) q1 hl
 have B:=h.lv.below (q:=q) hl
 have f:=V.far
 have e0:=h.e0
 refine ⟨h.lv.slot hl,?_,fun x=>?_,by omega,by omega,cntb_le _ _ _,B.1,fun x=>B.2 _ (Nat.le_refl _) x⟩
 ·unfold guessA;omega
 ·have:=V.near x
  unfold guessA
  omega
theorem path_at {eps q:Int} {f:Nat→Int} {n:Nat} {L:List (List Sg)} {k:Nat} (hk:k<L.length):(pathL eps q f n L).getD k vis0=visAt eps q f n L (L.length-1-k):=by
 unfold pathL
 simp [List.getD,hk]
set_option maxRecDepth 10000 in
set_option maxHeartbeats 8000000 in
theorem holds_walk {HR:World→Nat→(Nat→Prop)→Int→(Nat→Int)→(Nat→Int)→(Nat→Bool)→Nat→List (List Sg)→Prop} (H:RunC HR) (M:ModelC) (ao:Option Addr) (m cp:Nat) (f:Nat→Int) (qo:Option Addr) (qn qc:Nat) (qf:Nat→Int) (hm:m≤2000000) (hqn:qn≤2000000) (hcp:m≤cp) (hz:ao=none→m=0∧cp=0) (w:World) (h:BS w ao m f) (hq:KS w qo qn qf) :
  Calls Tryz.prog 7 #[.slice ao m cp, .slice qo qn qc] w fun e w'=>e=.returned (.bool true)∧Gw w w':=by
 have HH:Hid (RunC HR):=H
 have HB:Hid (BS w ao m f):=h
 have HQ0:Hid (KS w qo qn qf):=hq
 have HZ:Hid (ao=none→m=0∧cp=0):=hz
 have HM:Hid ModelC:=M
 clear H h hz hq M
 go_enter Tryz.func7,Tryz.ntmps7
 go_wp2_with fail
 refine (shown12 HH.out w).mono ?_
 rintro e w1 ⟨rfl,g1⟩
 have G1:Hid (Gw w w1):=g1
 clear g1
 go_wp2_with fail
 refine (jget HH.out ao m cp f (by omega) (.few (by omega)) w1 (HB.out.gw G1.out)).mono ?_
 rintro e w2 ⟨hG,g2⟩
 have G2:Hid (Gw w w2):=G1.out.trans g2
 clear g2
 by_cases ft:Fit f m
 ·rcases hG with ⟨_,px,Sx,rfl,hSx,hrx,rgx⟩ | ⟨nf,_⟩
  rotate_left
  ·exact absurd ft nf
  have R2:Hid (HR w2 px Sx (numR f 4 8) (kF f) (vF f) (gF f) (nF f) (LF f)):=hrx
  have BD0:Hid (∀ i,i<nF f→(0≤kF f i∧kF f i<18446744073709551616)∧(0≤vF f i∧vF f i<18446744073709551616)):=rgx.bd
  have FT:Hid (Fit f m):=ft
  clear hSx hrx rgx ft G1
  go_wp2_with fail
  refine (dget ao m cp f (by omega) HZ.out (.few (by omega)) w2 (HB.out.gw G2.out)).mono ?_
  rintro e w3 ⟨hD,g3⟩
  rcases hD with ⟨_,py,Sy,rfl,_,_⟩ | ⟨nf,_⟩
  rotate_left
  ·exact absurd FT.out nf
  have R3:Hid (HR w3 px Sx (numR f 4 8) (kF f) (vF f) (gF f) (nF f) (LF f)):=HH.out.gw R2.out g3
  have G3:Hid (Gw w w3):=G2.out.trans g3
  clear g3 G2 R2 FT
  generalize numR f 4 8=eps at R3
  generalize kF f=k at R3 BD0
  generalize vF f=v at R3 BD0
  generalize gF f=g at R3
  generalize nF f=n at R3 BD0
  generalize LF f=L at R3
  have HQ:Hid (KS w3 qo qn qf):=HQ0.out.gw G3.out
  have rdy:=HH.out.ready R3.out
  have RY:Aside (Ready eps k n L):=rdy
  have n1:=rdy.n1
  have e0:=rdy.e0
  have e1:=rdy.e1
  obtain ⟨pp,Sp,cp0,hp,sub⟩:=HH.out.pile R3.out
  have pl:px<w3.heap.size:=HH.out.lt R3.out px (HH.out.own R3.out)
  obtain ⟨ln,hln⟩:∃ ln,L.length=ln:=⟨_,rfl⟩
  have LN:Aside (L.length=ln):=hln
  have s1:ln≤2000000:=hln▸rdy.sh.1
  have HL:Aside (∀ i,i<ln→(L.getD i []).length≤2000000):=fun i hi=>rdy.sh.2 i (by rw [LN.out];exact hi)
  have PI:Aside (HPile w3 pp Sp eps k n L):=hp
  have EP:Hid (∀ W,Gw w3 W→Calls Tryz.prog 18 #[.pointer (some ⟨pp,0,none⟩)] W fun e w'=>e=.returned (.int .i64 eps)∧w'=W):=fun W gg=>pl_eps (PI.out.keep fun q hq=>gg.below.block q (PI.out.lt q hq))
  have LI:Hid (∀ W,Gw w3 W→Calls Tryz.prog 16 #[.pointer (some ⟨px,0,none⟩)] W fun e w'=>(∃ bo c,e=.returned (.slice bo n c)∧ES w' bo n k v g)∧Gw W w'):=fun W gg=>(HH.out.list (HH.out.gw R3.out gg)).mono fun e w' ⟨⟨bo,c,a,er⟩,b⟩=>⟨⟨bo,c,a,er_es er BD0.out⟩,b⟩
  have LV:Hid (∀ W,Gw w3 W→Calls Tryz.prog 17 #[.pointer (some ⟨px,0,none⟩)] W fun e w'=>(∃ mo mc,e=.returned (.slice mo ln mc)∧VS w' mo L)∧Gw W w'):=fun W gg=>(HH.out.levels (HH.out.gw R3.out gg)).mono fun e w' ⟨⟨mo,mc,vals,a,ow,lok,hl⟩,b⟩=>⟨⟨mo,mc,by rw [←LN.out];exact a,(ow.vsf lok).vs⟩,b⟩
  have CP:Hid (∀ W,Gw w3 W→W.cell? ⟨px,0,none⟩=some (.pointer (some ⟨pp,0,none⟩))∧px<W.heap.size):=by
   intro W gg
   exact ⟨(gg.cell _ _ pl).trans cp0,Nat.lt_of_lt_of_le pl gg.size⟩
  have GR:Hid (∀ W,Gw w3 W→∀ q:Int,0≤q→q<18446744073709551616→Calls Tryz.prog 19 #[.pointer (some ⟨px,0,none⟩), .int .u64 q] W fun e w'=>e=.returned (.tuple #[(getV k v g n q).1, .bool (getV k v g n q).2])∧Gw W w'):=fun W gg q q0 q1=>HH.out.get (HH.out.gw R3.out gg) q q0 q1
  have KR:Hid (∀ W,Gw w3 W→∀ q:Int,0≤q→q<18446744073709551616→Calls Tryz.prog 20 #[.pointer (some ⟨px,0,none⟩), .int .u64 q] W fun e w'=>e=.returned (.int .i64 (cntb k q n:Nat))∧Gw W w'):=fun W gg q q0 q1=>HH.out.rank (HH.out.gw R3.out gg) q q0 q1
  have PT:Hid (∀ W,Gw w3 W→∀ q:Int,0≤q→q<18446744073709551616→Calls Tryz.prog 21 #[.pointer (some ⟨px,0,none⟩), .int .u64 q] W fun ex w'=>(∃ bo c,ex=.returned (.slice bo ln c)∧PV w' bo (pathL eps q k n L))∧Gw W w'):=by
   intro W gg q q0 q1
   have:=rpath11 HM.out (CP.out W gg).1 (CP.out W gg).2 (PI.out.keep fun q hq=>gg.below.block q (PI.out.lt q hq)) RY.out q q0 q1
   rw [LN.out] at this
   exact this.mono fun e w' ⟨⟨bo,c,a,b,_⟩,d⟩=>⟨⟨bo,c,a,b⟩,d⟩
  have UP0:Aside (Up k n):=rdy.up0
  clear rdy hp sub hln cp0 pl HB HZ HQ0 HM
  go_wp2_with fail
  refine (LI.out w3 (Gw.refl w3)).mono ?_
  rintro e w4 ⟨⟨lo,lc,rfl,ea⟩,g4⟩
  have G4:Hid (Gw w3 w4):=g4
  have EA4:Hid (ES w4 lo n k v g):=ea
  clear ea g4
  go_wp2_with fail
  refine (LV.out w4 G4.out).mono ?_
  rintro e w5 ⟨⟨vo,vc,rfl,va⟩,g5⟩
  have G5:Hid (Gw w3 w5):=G4.out.trans g5
  have EA:Aside (ES w5 lo n k v g):=EA4.out.gw g5
  have VA:Aside (VS w5 vo L):=va
  obtain ⟨c0,l0⟩:=CP.out _ G5.out
  clear va g5 EA4 G4 LI LV
  go_wp2_with fail
  refine (EP.out w5 G5.out).mono ?_
  rintro e w6 ⟨rfl,hw⟩
  subst hw
  clear EP c0 l0
  go_wp2_with fail
  go_loopg [13] qn (fun gg s13 wr=>∃ i:Nat,s13=.int .i64 (i:Int)∧i≤qn∧qn-i≤gg∧Aside (Gw w6 wr))
  case atStart=>exact ⟨0,rfl,Nat.zero_le _,by omega,(show Aside _ from Gw.refl w6)⟩
  case round=>as_aux_lemma =>
   obtain ⟨i,rfl,a1,a2,G⟩:=hrel
   obtain ⟨wS,hwS⟩:∃ wx,wx=wr:=⟨_,rfl⟩
   subst hwS
   by_cases hlt:i<qn
   ·have hlt':(i:Int)<(qn:Int):=by omega
    obtain ⟨qb,qoff,rfl,hqb,hqc⟩:=((HQ.out.gw G5.out).gw G.out).cells (by omega)
    have qi:=hqc i hlt
    have qbd:=HQ.out.bd i hlt
    clear hqc
    generalize qf i=q at qi qbd
    obtain ⟨q0,q1⟩:=qbd
    obtain ⟨ga,gb,gc,gt,hg,hgt,hgv⟩:=getV_all k v g n q
    have cup:=cntb_up UP0.out q n (Nat.le_refl _)
    have cle:=cntb_le k q n
    have RC:Aside (∀ l,l<ln→VF eps q k n L l (cntb (rowF k L l) q (rowN n L l)) (guessA q L l) (max (segA q L l).fr (guessA q L l-eps-1)) (min (segA q L l).te (guessA q L l+eps+1))):=fun l hl=>RY.out.vf q1 (by rw [LN.out];exact hl)
    have CC0:Aside (cntb (rowF k L 0) q (rowN n L 0)=cntb k q n):=rfl
    have G3:Aside (Gw w3 wS):=G5.out.trans G.out
    have GRq:Hid (∀ W,Gw w3 W→Calls Tryz.prog 19 #[.pointer (some ⟨px,0,none⟩), .int .u64 q] W fun e w'=>e=.returned (.tuple #[.agg #[.int .u64 ga, .int .u64 gb, .bool gc], .bool gt])∧Gw W w'):=fun W gg=>by
     have:=GR.out W gg q q0 q1
     rw [hg] at this
     exact this
    have KRq:=fun W gg=>KR.out W gg q q0 q1
    obtain ⟨cc,hcc⟩:∃ c,cntb k q n=c:=⟨_,rfl⟩
    rw [hcc] at hgt hgv cup cle CC0 KRq
    have KQ:Hid (∀ W,Gw w3 W→Calls Tryz.prog 20 #[.pointer (some ⟨px,0,none⟩), .int .u64 q] W fun e w'=>e=.returned (.int .i64 (cc:Int))∧Gw W w'):=KRq
    have CU:Aside ((∀ i,i<cc→k i<q)∧∀ i,cc≤i→i<n→q≤k i):=cup
    have GT:Aside ((gt=true↔(cc<n∧k cc=q))∧(gt=true→ga=k cc∧gb=v cc∧gc=g cc)):=⟨hgt,hgv⟩
    clear hg hgt hgv cup hcc KRq
    go_upto_block 2 with fail
    go_cut [15] (fun s wc=>s=.int .i64 (cc:Int)∧wc=wS)
    case first=>as_aux_lemma =>
     go_wp2_with fail
     go_loopg [15] cc (fun gg s wr=>∃ x:Nat,s=.int .i64 (x:Int)∧x≤cc∧cc-x≤gg∧wr=wS)
     case atStart=>exact ⟨0,rfl,Nat.zero_le _,by omega,rfl⟩
     case round=>as_aux_lemma =>
      obtain ⟨x,rfl,b1,b2,rfl⟩:=hrel
      by_cases xlt:x<cc
      ·have xn:x<n:=by omega
       have xn':(x:Int)<(n:Int):=by omega
       obtain ⟨lb,loff,rfl,hlb,hlc⟩:=(EA.out.gw G.out).cells (by omega)
       have kc:=(hlc x xn).1
       have kl:=CU.out.1 x xlt
       clear hlc
       generalize k x=kx at kc kl
       go_wp2_with fail
       go_roundg (cc-(x+1))
       case measure=>omega
       case rel=>exact ⟨x+1,by go_num,by omega,Nat.le_refl _,rfl⟩
      ·have ex:x=cc:=by omega
       subst ex
       by_cases xn:x<n
       ·have xn':(x:Int)<(n:Int):=by omega
        obtain ⟨lb,loff,rfl,hlb,hlc⟩:=(EA.out.gw G.out).cells (by omega)
        have kc:=(hlc x xn).1
        have kl:=CU.out.2 x (Nat.le_refl _) xn
        clear hlc
        generalize k x=kx at kc kl
        have kl':¬ kx<q:=by omega
        go_wp2_with fail
        go_meet
        case rel=>exact ⟨rfl,rfl⟩
       ·have xn':¬ (x:Int)<(n:Int):=by omega
        go_wp2_with fail
        go_meet
        case rel=>exact ⟨rfl,rfl⟩
    case rest=>as_aux_lemma =>
     obtain ⟨rfl,hwc⟩:=hcut
     have hwc':=hwc.symm
     subst hwc'
     clear hwc
     go_wp2_with fail
     refine Calls.mono (GRq.out _ G3.out) ?_
     rintro e w7 ⟨rfl,g7⟩
     have G8:Aside (Gw wS (w7.alloc (.cells #[.int .u64 ga, .int .u64 gb, .bool gc] 54))):=g7.alloc _ _
     have E8:Aside ((w7.alloc (.cells #[.int .u64 ga, .int .u64 gb, .bool gc] 54)).heap[w7.heap.size]?=some (.cells #[.int .u64 ga, .int .u64 gb, .bool gc] 54)):=heap_alloc_new w7 _
     clear g7 GRq
     go_upto_region 19 with fail
     obtain ⟨b8,hb8⟩:∃ b,w7.heap.size=b:=⟨_,rfl⟩
     rw [hb8] at E8 ⊢
     generalize w7.alloc (.cells #[.int .u64 ga, .int .u64 gb, .bool gc] 54)=w8 at G8 E8 ⊢
     clear hb8
     go_cut [18] (fun s wx=>s=.bool gt∧wx=w8)
     case first=>as_aux_lemma =>
      by_cases xn:cc<n
      ·have xn':(cc:Int)<(n:Int):=by omega
       obtain ⟨lb,loff,rfl,hlb,hlc⟩:=((EA.out.gw G.out).gw G8.out).cells (by omega)
       have kc:=(hlc cc xn).1
       by_cases kq:k cc=q
       ·have tt:Aside (gt=true):=GT.out.1.2 ⟨xn,kq⟩
        have kq':(k cc == q)=true:=by simpa using kq
        generalize k cc=kx at kc kq'
        clear hlc kq
        go_wp2_with fail
        go_meet
        case rel=>exact ⟨by rw [tt.out],rfl⟩
       ·have tt:Aside (gt=false):=by
         show gt=false
         cases hgt:gt with
         | false=>rfl
         | true=>exact absurd (GT.out.1.1 hgt).2 kq
        have kq':(k cc == q)=false:=by simpa using kq
        generalize k cc=kx at kc kq'
        clear hlc kq
        go_wp2_with fail
        go_meet
        case rel=>exact ⟨by rw [tt.out],rfl⟩
      ·have xn':¬ (cc:Int)<(n:Int):=by omega
       have tt:Aside (gt=false):=by
        show gt=false
        cases hgt:gt with
        | false=>rfl
        | true=>exact absurd (GT.out.1.1 hgt).1 xn
       go_wp2_with fail
       go_meet
       case rel=>exact ⟨by rw [tt.out],rfl⟩
     case rest=>as_aux_lemma =>
      obtain ⟨rfl,hw8⟩:=hcut
      have hw9:=hw8.symm
      subst hw9
      clear hw8
      have T20:Aside (gt=true→cc<n):=fun e=>(GT.out.1.1 e).1
      have G38:Aside (Gw w3 w8):=G3.out.trans G8.out
      obtain ⟨x0,x1,x2⟩:w8.cell? ⟨b8,0,none⟩=some (.int .u64 ga)∧w8.cell? ⟨b8,1,none⟩=some (.int .u64 gb)∧w8.cell? ⟨b8,2,none⟩=some (.bool gc):=by
       have e:=E8.out
       refine ⟨?_,?_,?_⟩<;>simp [World.cell?,e]
      have bl:b8<w8.heap.size:=(Array.getElem?_eq_some_iff.1 E8.out).1
      have y0:=GX.cell x0 bl
      have y1:=GX.cell x1 bl
      have y2:=GX.cell x2 bl
      have ne:=GX.some w8
      go_upto_region 20 with fail
      go_cut [17,18,129] (fun a b s wx=>a=.bool gt∧b=.bool gt∧s=.bool false∧Aside (Gw w8 wx))
      case first=>as_aux_lemma =>
       cases hgt:gt with
       | true =>
        have xn:cc<n:=T20.out hgt
        have xn':(cc:Int)<(n:Int):=by omega
        obtain ⟨v1,v2,v3⟩:=GT.out.2 hgt
        obtain ⟨lb,loff,rfl,hlb,hlc⟩:=((EA.out.gw G.out).gw G8.out).cells (by omega)
        obtain ⟨k0,k1,k2⟩:=hlc cc xn
        rw [←v1] at k0
        rw [←v2] at k1
        rw [←v3] at k2
        have z0:=GX.cell k0 hlb
        have z1:=GX.cell k1 hlb
        have z2:=GX.cell k2 hlb
        clear hlc v1 v2 v3 k0 k1 k2 x0 x1 x2
        refine wp_region_growx (by kernel_rfl) (by kernel_rfl) ?_
        repeat (go_big_quiet_step (fail))
        go_big_quiet_want
        go_big_quiet_op
        go_big_quiet_call (exact growx_of (KQ.out _ (G38.out.trans (GX.gw _))))
        repeat (go_big_quiet_step (fail))
        refine wpQuiet_nil ?_
        rintro _ ⟨gw,rfl⟩
        go_wp2_with fail
        go_meet
        case rel=>exact ⟨by rw [hgt],by rw [hgt],rfl,(show Aside _ from gw.gw)⟩
       | false =>
        clear x0 x1 x2
        refine wp_region_growx (by kernel_rfl) (by kernel_rfl) ?_
        repeat (go_big_quiet_step (fail))
        go_big_quiet_want
        go_big_quiet_op
        go_big_quiet_call (exact growx_of (KQ.out _ (G38.out.trans (GX.gw _))))
        repeat (go_big_quiet_step (fail))
        refine wpQuiet_nil ?_
        rintro _ ⟨gw,rfl⟩
        go_wp2_with fail
        go_meet
        case rel=>exact ⟨by rw [hgt],by rw [hgt],rfl,(show Aside _ from gw.gw)⟩
      case rest=>as_aux_lemma =>
       obtain ⟨rfl,rfl,rfl,g9⟩:=hcut
       obtain ⟨w9,hw9⟩:∃ wx,wx=wc:=⟨_,rfl⟩
       subst hw9
       clear y0 y1 y2 ne x0 x1 x2 bl E8
       have G9:Aside (Gw wS w9):=G8.out.trans g9.out
       clear g9 G8 G38 KQ T20
       go_wp2_with fail
       refine Calls.mono (PT.out _ (G3.out.trans G9.out) q q0 q1) ?_
       rintro e w10 ⟨⟨po,pc,rfl,pv⟩,g10⟩
       have P10:Aside (PV w10 po (pathL eps q k n L)):=pv
       have G10:Aside (Gw wS w10):=G9.out.trans g10
       clear pv g10 G9
       go_wp2_with fail
       have l1:Aside (∀ j,j<ln→j<(pathL eps q k n L).length):=fun j hj=>by rw [pathL_len,LN.out];exact hj
       go_loopg [20] ln (fun gg s20 wr=>∃ j:Nat,s20=.int .i64 (j:Int)∧j≤ln∧ln-j≤gg∧Aside (Gw w10 wr))
       case atStart=>exact ⟨0,rfl,Nat.zero_le _,by omega,(show Aside _ from Gw.refl w10)⟩
       case round=>as_aux_lemma =>
        obtain ⟨j,rfl,b1,b2,G11⟩:=hrel
        obtain ⟨wT,hwT⟩:∃ wx,wx=wr:=⟨_,rfl⟩
        subst hwT
        by_cases jlt:j<ln
        ·have jlt':(j:Int)<(ln:Int):=by omega
         obtain ⟨vb,vf,rfl,hvb,hvc⟩:=(P10.out.gw G11.out).cells (by have:=l1.out j jlt;omega)
         have V:=hvc j (l1.out j jlt)
         rw [path_at (by rw [LN.out];exact jlt),LN.out] at V
         obtain ⟨l,hl⟩:∃ l,ln-1-j=l:=⟨_,rfl⟩
         rw [hl] at V
         have llt:l<ln:=by omega
         have F:=RC.out l llt
         have v0:wT.cell? ⟨vb,vf+j*6,none⟩=some (.int .i64 (l:Int)):=V.c0
         have v1:wT.cell? ⟨vb,vf+j*6+1,none⟩=some (.int .i64 ((slotA q L l:Nat):Int)):=V.c1
         have v2:wT.cell? ⟨vb,vf+j*6+2,none⟩=some (.int .i64 (guessA q L l)):=V.c2
         have v3:wT.cell? ⟨vb,vf+j*6+3,none⟩=some (.int .i64 (max (segA q L l).fr (guessA q L l-eps-1))):=V.c3
         have v4:wT.cell? ⟨vb,vf+j*6+4,none⟩=some (.int .i64 (min (segA q L l).te (guessA q L l+eps+1))):=V.c4
         have v5:wT.cell? ⟨vb,vf+j*6+5,none⟩=some (.int .i64 ((cntb (rowF k L l) q (rowN n L l):Nat):Int)):=V.c5
         have RK0:Aside (l=0→cntb (rowF k L l) q (rowN n L l)=cc∧rowN n L l=n∧rowF k L l=k):=fun e=>by subst e;exact ⟨CC0.out,rfl,rfl⟩
         have GD:Aside (guessA q L l=guessV (segA q L l).k (segA q L l).sl (segA q L l).ic (segA q L l).fr (segA q L l).te q):=rfl
         have SD:Aside (segA q L l=(L.getD l []).getD (slotA q L l) sg0):=rfl
         generalize segA q L l=sg at v3 v4 F GD SD
         generalize guessA q L l=gu at v2 v3 v4 F GD
         generalize max sg.fr (gu-eps-1)=wlo at v3 F
         generalize min sg.te (gu+eps+1)=whi at v4 F
         clear hvc V
         have stl:=F.sl
         obtain ⟨rk,hrk⟩:∃ x,cntb (rowF k L l) q (rowN n L l)=x:=⟨_,rfl⟩
         rw [hrk] at v5 F RK0
         have WI:=F.win
         have FR:=F.far
         have GZ:=F.g0
         have FLE:=F.le
         obtain ⟨rn,hrn⟩:∃ x,rowN n L l=x:=⟨_,rfl⟩
         obtain ⟨rf,hrf⟩:∃ x,rowF k L l=x:=⟨_,rfl⟩
         have FA:Aside ((∀ r,r<rk→rf r<q)∧(rk<rn→q≤rf rk)∧((rk<rn∧rf rk=q)→gu-rk≤eps∧rk-gu≤eps)):=by
          have a:=F.low
          have b:=F.top
          have c:=F.near
          rw [hrf] at a b c
          rw [hrn] at b c
          exact ⟨a,b,c⟩
         have RK1:Aside (l=0→rk=cc∧rn=n∧rf=k):=by
          show l=0→_
          intro e
          have:=RK0.out e
          rw [hrn,hrf] at this
          exact this
         have RK2:Aside (∀ l',l=l'+1→rn=(L.getD l' []).length∧rf=fst8 (L.getD l' [])):=by
          show ∀ l',l=l'+1→_
          intro l' e
          subst e
          exact ⟨hrn.symm,hrf.symm⟩
         rw [hrn] at FLE
         obtain ⟨sd,hsd⟩:∃ sd:Bool,sd=true↔(rk<rn∧rf rk=q):=⟨decide (rk<rn∧rf rk=q),by simp⟩
         have SDB:Aside (sd=true↔(rk<rn∧rf rk=q)):=hsd
         have VW:Aside (VS wT vo L):=VA.out.gw ((G.out.trans G10.out).trans G11.out)
         obtain ⟨ub,uf,rfl,hub,huc⟩:=VW.out.cells (by rw [LN.out];omega)
         obtain ⟨so,sc,p1,p2,p3,p4⟩:=huc l (by rw [LN.out];exact llt)
         have sok:=p4.ok (slotA q L l) stl
         obtain ⟨sb,sf,rfl,hsb,hsc⟩:=p4.cells (by omega)
         have SC:=hsc (slotA q L l) stl
         have snb:=HL.out l llt
         obtain ⟨sn,hsn⟩:∃ x,(L.getD l []).length=x:=⟨_,rfl⟩
         rw [hsn] at p1 stl snb
         rw [←SD.out] at sok SC
         generalize slotA q L l=st at v1 SD stl SC
         obtain ⟨sk,ssl,sic,sfr,ste⟩:=sg
         have s0:wT.cell? ⟨sb,sf+st*5,none⟩=some (.int .u64 sk):=SC.c0
         have s1':wT.cell? ⟨sb,sf+st*5+1,none⟩=some (.float .f64 ssl):=SC.c1
         have s2:wT.cell? ⟨sb,sf+st*5+2,none⟩=some (.float .f64 sic):=SC.c2
         have s3:wT.cell? ⟨sb,sf+st*5+3,none⟩=some (.int .i64 sfr):=SC.c3
         have s4:wT.cell? ⟨sb,sf+st*5+4,none⟩=some (.int .i64 ste):=SC.c4
         have GS7:Hid (∀ W,Calls Tryz.prog 22 #[.agg #[.int .u64 sk, .float .f64 ssl, .float .f64 sic, .int .i64 sfr, .int .i64 ste], .int .u64 q] W fun e w'=>e=.returned (.int .i64 gu)∧Gw W w'):=by
          have e:=GD.out
          show ∀ W,_
          intro W
          rw [e]
          exact rguess_any sk ssl sic sfr ste q sok.k0 sok.k1 q0 q1 sok.f0 sok.f1 sok.t0 sok.t1 W
         have SV:Aside (∀ W,Gw wT W→(W.cell? ⟨sb,sf+st*5,none⟩=some (.int .u64 sk)∧W.cell? ⟨sb,sf+st*5+1,none⟩=some (.float .f64 ssl)∧W.cell? ⟨sb,sf+st*5+2,none⟩=some (.float .f64 sic)∧W.cell? ⟨sb,sf+st*5+3,none⟩=some (.int .i64 sfr)∧W.cell? ⟨sb,sf+st*5+4,none⟩=some (.int .i64 ste))∧sb<W.heap.size):=by
          show ∀ W,_
          intro W gg
          exact ⟨⟨(gg.cell _ _ hsb).trans s0,(gg.cell _ _ hsb).trans s1',(gg.cell _ _ hsb).trans s2,(gg.cell _ _ hsb).trans s3,(gg.cell _ _ hsb).trans s4⟩,Nat.lt_of_lt_of_le hsb gg.size⟩
         have CV:Aside (∀ W,Gw wT W→(W.cell? ⟨vb,vf+j*6,none⟩=some (.int .i64 (l:Int))∧W.cell? ⟨vb,vf+j*6+1,none⟩=some (.int .i64 (st:Int))∧W.cell? ⟨vb,vf+j*6+2,none⟩=some (.int .i64 gu)∧W.cell? ⟨vb,vf+j*6+3,none⟩=some (.int .i64 wlo)∧W.cell? ⟨vb,vf+j*6+4,none⟩=some (.int .i64 whi)∧W.cell? ⟨vb,vf+j*6+5,none⟩=some (.int .i64 (rk:Int)))∧vb<W.heap.size∧W.cell? ⟨ub,uf+l,none⟩=some (.slice (some ⟨sb,sf,none⟩) sn sc)∧ub<W.heap.size):=by
          show ∀ W,_
          intro W gg
          exact ⟨⟨(gg.cell _ _ hvb).trans v0,(gg.cell _ _ hvb).trans v1,(gg.cell _ _ hvb).trans v2,(gg.cell _ _ hvb).trans v3,(gg.cell _ _ hvb).trans v4,(gg.cell _ _ hvb).trans v5⟩,Nat.lt_of_lt_of_le hvb gg.size,(gg.cell _ _ hub).trans p1,Nat.lt_of_lt_of_le hub gg.size⟩
         have llt':(l:Int)<(ln:Int):=by omega
         have stl':(st:Int)<(sn:Int):=by omega
         have stn:¬ (sn:Int)≤(st:Int):=by omega
         have st0:¬ (st:Int)<0:=by omega
         have wv1:IntKind.i64.wrap ((ln:Int)-1)=(ln:Int)-1:=by rw [IntKind.wrap_i64];omega
         have wv2:IntKind.i64.wrap ((ln:Int)-1-(j:Int))=(l:Int):=by rw [IntKind.wrap_i64];omega
         clear hrk hrn hrf hsd RK0 F GD SD SC hsc huc p2 p3 p4 hsn sok s0 s1' s2 s3 s4
         go_wp2_with fail
         go_quiet (fail)
         have D:Aside (Gw wT (wT.drewN nq)):=(Gw.refl wT).drewN _
         generalize wT.drewN nq=wU at D ⊢
         clear v0 v1 v2 v3 v4 v5 p1 hvb hub hsb wv1 wv2 stn st0
         obtain ⟨⟨v0,v1,v2,v3,v4,v5⟩,hvb,p1,hub⟩:=CV.out wU D.out
         go_upto_if 185 with fail
         go_cut [21,22] (fun a b wx=>a=.int .i64 (rk:Int)∧b=.bool sd∧wx=wU)
         case first=>as_aux_lemma =>
          by_cases lz:l=0
          ·have lz':((l:Int) == 0)=true:=by simp [lz]
           have R0:Aside (rk=cc∧gt=sd):=by
            obtain ⟨x1,x2,x3⟩:=RK1.out lz
            refine ⟨x1,?_⟩
            have y1:=GT.out.1
            have y2:=SDB.out
            rw [x1,x2,x3] at y2
            rw [Bool.eq_iff_iff]
            exact y1.trans y2.symm
           clear lz
           go_wp2_with fail
           go_meet
           case rel=>exact ⟨by rw [R0.out.1],by rw [R0.out.2],rfl⟩
          ·have lz':((l:Int) == 0)=false:=by simpa using lz
           obtain ⟨l',hl'⟩:∃ x,l=x+1:=⟨l-1,by omega⟩
           have wm:IntKind.i64.wrap ((l:Int)-1)=(l':Int):=by rw [IntKind.wrap_i64];omega
           have wm2:(l:Int)-1=(l':Int):=by omega
           have lt2:(l':Int)<(ln:Int):=by omega
           have lt3:l'<ln:=by omega
           obtain ⟨x2,x3⟩:=RK2.out l' hl'
           obtain ⟨ub',uf',eu,_,huc⟩:=(VW.out.gw D.out).cells (by rw [LN.out];omega)
           cases eu
           obtain ⟨to_,tc,t1,t2,t3,t4⟩:=huc l' (by rw [LN.out];exact lt3)
           have TG:Aside (GS wU to_ (L.getD l' [])):=t4
           rw [←x2] at t1
           have TN:Aside (rn=(L.getD l' []).length∧rf=fst8 (L.getD l' [])):=⟨x2,x3⟩
           clear x2 x3 huc t2 t3 t4 lz hl'
           go_wp2_with fail
           go_loopg [21] rk (fun gg s wr=>∃ x:Nat,s=.int .i64 (x:Int)∧x≤rk∧rk-x≤gg∧wr=wU)
           case atStart=>exact ⟨0,rfl,Nat.zero_le _,by omega,rfl⟩
           case round =>
            obtain ⟨x,rfl,d1,d2,rfl⟩:=hrel
            have CE:Aside (x<rn→∃ tb tf,to_=some ⟨tb,tf,none⟩∧tb<wr.heap.size∧wr.cell? ⟨tb,tf+x*5,none⟩=some (.int .u64 (rf x))):=by
             show x<rn→_
             intro hx
             have e1:=TN.out.1
             obtain ⟨tb,tf,e,hb,hc⟩:=TG.out.cells (by omega)
             refine ⟨tb,tf,e,hb,?_⟩
             have:=(hc x (by omega)).c0
             rw [TN.out.2]
             exact this
            by_cases xlt:x<rk
            ·have xn:x<rn:=by omega
             have xn':(x:Int)<(rn:Int):=by omega
             obtain ⟨tb,tf,rfl,htb,htc⟩:=CE.out xn
             have kl:=FA.out.1 x xlt
             generalize rf x=kx at htc kl
             go_wp2_with fail
             go_roundg (rk-(x+1))
             case measure=>omega
             case rel=>exact ⟨x+1,by go_num,by omega,Nat.le_refl _,rfl⟩
            ·have ex:x=rk:=by omega
             subst ex
             by_cases xn:x<rn
             ·have xn':(x:Int)<(rn:Int):=by omega
              obtain ⟨tb,tf,rfl,htb,htc⟩:=CE.out xn
              have kl:=FA.out.2.1 xn
              have tt:Aside ((rf x == q)=sd):=by
               show (rf x == q)=sd
               rw [Bool.eq_iff_iff,SDB.out]
               simp [xn]
              generalize rf x=kx at htc kl tt
              have kl':¬ kx<q:=by omega
              clear kl
              go_wp2_with fail
              go_meet
              case rel=>exact ⟨rfl,by rw [←tt.out],rfl⟩
             ·have xn':¬ (x:Int)<(rn:Int):=by omega
              have tt:Aside (sd=false):=by
               show sd=false
               cases hs:sd with
               | false=>rfl
               | true=>exact absurd (SDB.out.1 hs).1 xn
              go_wp2_with fail
              go_meet
              case rel=>exact ⟨rfl,by rw [tt.out],rfl⟩
         case rest=>as_aux_lemma =>
          obtain ⟨rfl,rfl,hwu⟩:=hcut
          have hwu':=hwu.symm
          subst hwu'
          obtain ⟨fr,hfr⟩:∃ fr:Int,fr=if sd then eps else eps+1:=⟨_,rfl⟩
          have FD:Aside (fr=if sd then eps else eps+1):=hfr
          have FB:gu-rk≤fr∧-(gu-rk)≤fr:=by
           rw [hfr]
           by_cases hs:sd=true
           ·have:=FA.out.2.2 (SDB.out.1 hs)
            rw [if_pos hs]
            omega
           ·rw [if_neg hs]
            omega
          have w1e:IntKind.i64.wrap (eps+1)=eps+1:=by rw [IntKind.wrap_i64];omega
          have wd:IntKind.i64.wrap (gu-rk)=gu-rk:=by rw [IntKind.wrap_i64];omega
          have wn:IntKind.i64.wrap (-(gu-rk))=-(gu-rk):=by rw [IntKind.wrap_i64];omega
          have ww:IntKind.i64.wrap (whi-wlo)=whi-wlo:=by rw [IntKind.wrap_i64];omega
          have w2e:IntKind.i64.wrap (2*eps)=2*eps:=by rw [IntKind.wrap_i64];omega
          have w3e:IntKind.i64.wrap (2*eps+2)=2*eps+2:=by rw [IntKind.wrap_i64];omega
          have t1:¬ fr<gu-rk:=by omega
          have t2:¬ fr < -(gu-rk):=by omega
          have t3:¬ 2*eps+2<whi-wlo:=by omega
          clear hfr hwu FB WI FR GZ FLE RK1 RK2 FA SDB VW GT
          go_upto_if 227 with fail
          go_cut [22,24] (fun a b wx=>a=.bool sd∧b=.int .i64 fr∧wx=wU)
          case first=>as_aux_lemma =>
           cases hs:sd with
           | true =>
            have e:Aside (fr=eps):=by have:=FD.out;rw [hs] at this;exact this
            go_wp2_with fail
            go_meet
            case rel=>exact ⟨by rw [hs],by rw [e.out],rfl⟩
           | false =>
            have e:Aside (fr=eps+1):=by have:=FD.out;rw [hs] at this;exact this
            go_wp2_with fail
            go_meet
            case rel=>exact ⟨by rw [hs],by rw [e.out],rfl⟩
          case rest=>as_aux_lemma =>
           obtain ⟨rfl,rfl,hwu⟩:=hcut
           have hwu':=hwu.symm
           subst hwu'
           clear hwu FD w1e
           obtain ⟨⟨s0,s1,s2,s3,s4⟩,hsb⟩:=SV.out wU D.out
           have y0:=GX.cell s0 hsb
           have y1:=GX.cell s1 hsb
           have y2:=GX.cell s2 hsb
           have y3:=GX.cell s3 hsb
           have y4:=GX.cell s4 hsb
           have z0:=GX.cell v0 hvb
           have z1:=GX.cell v1 hvb
           have z2:=GX.cell p1 hub
           have ne:=GX.some wU
           clear s0 s1 s2 s3 s4 hsb
           go_wp2_with fail
           refine wp_region_growx (by kernel_rfl) (by kernel_rfl) ?_
           repeat (go_big_quiet_step (fail))
           go_big_quiet_want
           go_big_quiet_op
           go_big_quiet_call (exact growx_of (GS7.out _))
           repeat (go_big_quiet_step (fail))
           refine wpQuiet_nil ?_
           rintro _ ⟨gw,rfl⟩
           have D2:Aside (Gw wT gw.1):=D.out.trans gw.gw
           clear y0 y1 y2 y3 y4 z0 z1 z2 v0 v1 v2 v3 v4 v5 p1 hvb hub ne
           obtain ⟨⟨v0,v1,v2,v3,v4,v5⟩,hvb,p1,hub⟩:=CV.out gw.1 D2.out
           go_wp2_with fail
           go_quiet (fail)
           go_wp2_with fail
           go_roundg (ln-(j+1))
           case measure=>omega
           case rel=>exact ⟨j+1,by go_num,by omega,Nat.le_refl _,(show Aside _ from (G11.out.trans D2.out).drewN _)⟩
        ·have ej:j=ln:=by omega
         subst ej
         go_wp2_with fail
         go_roundg (qn-(i+1))
         case measure=>omega
         case rel=>exact ⟨i+1,by go_num,by omega,Nat.le_refl _,(show Aside _ from (G.out.trans G10.out).trans G11.out)⟩
   ·go_wp2_with fail
    go_ret
    exact ⟨rfl,(G3.out.trans G5.out).trans G.out⟩
 ·rcases hG with ⟨nf,_⟩ | ⟨_,rfl⟩
  ·exact absurd nf ft
  have NF:Hid (¬ Fit f m):=ft
  clear ft G1
  go_wp2_with fail
  refine (dget ao m cp f (by omega) HZ.out (.few (by omega)) w2 (HB.out.gw G2.out)).mono ?_
  rintro e w3 ⟨hD,g3⟩
  rcases hD with ⟨nf,_⟩ | ⟨_,rfl⟩
  ·exact absurd nf NF.out
  have G3:Hid (Gw w w3):=G2.out.trans g3
  clear g3 G2
  go_wp2_with fail
  go_ret
  exact ⟨rfl,G3.out⟩
end Go.Proofs.YtinefkljjnepjaaGreat
