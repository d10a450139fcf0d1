/- TopHostile: the walk. -/
import Derived.Test.YtinefkljjnepjabGreatWTH
import Derived.Test.YtinefkljjnepjabGreatWJG
import Derived.Test.YtinefkljjnepjabGreatWJD2
namespace Go.Proofs.YtinefkljjnepjabGreat
open Go.RowKit
set_option linter.unusedVariables false
set_option maxRecDepth 10000 in
set_option maxHeartbeats 4000000 in
theorem hostile_walk {HR:World→Nat→(Nat→Prop)→Int→(Nat→Int)→(Nat→Int)→(Nat→Bool)→Nat→List (List Sg)→Prop} (H:RunC HR) (M:ModelC) (ao:Option Addr) (m cp:Nat) (f:Nat→Int) (qo:Option Addr) (qn qc:Nat) (qf:Nat→Int) (hm:m≤2000000) (hqn:qn≤2000000) (hcp:m≤cp) (hz:ao=none→m=0∧cp=0) (w:World) (h:BS w ao m f) (hq:KS w qo qn qf) :
  Calls Tryz.prog 5 #[.slice ao m cp, .slice qo qn qc] w fun e w'=>e=.returned (.bool true)∧Gw w w':=by
 have HH:Hid (RunC HR):=H
 have HB:Hid (BS w ao m f):=h
 have HQ0:Hid (KS w qo qn qf):=hq
 have HZ:Hid (ao=none→m=0∧cp=0):=hz
 have HM:Hid ModelC:=M
 clear H h hz hq M
 go_enter Tryz.func5,Tryz.ntmps5
 go_wp2_with fail
 refine Calls.mono (laid_any HH.out w) ?_
 rintro e w1 ⟨rfl,g1⟩
 have G1:Hid (Gw w w1):=g1
 clear g1
 go_wp2_with fail
 refine Calls.mono (jget HH.out ao m cp f (by omega) (.few (by omega)) w1 (HB.out.gw G1.out)) ?_
 rintro e w2 ⟨hG,g2⟩
 have G2:Hid (Gw w w2):=G1.out.trans g2
 clear g2
 by_cases ft:Fit f m
 ·rcases hG with ⟨_,px,Sx,rfl,hSx,hrx,rgx⟩ | ⟨nf,_⟩
  rotate_left
  ·exact absurd ft nf
  have R2:Hid (HR w2 px Sx (numR f 4 8) (kF f) (vF f) (gF f) (nF f) (LF f)):=hrx
  have RG:Hid (RunG (numR f 4 8) (kF f) (vF f) (gF f) (nF f) (LF f)):=rgx
  have FT:Hid (Fit f m):=ft
  clear hSx hrx rgx ft G1
  go_wp2_with fail
  refine Calls.mono (dget ao m cp f (by omega) HZ.out (.few (by omega)) w2 (HB.out.gw G2.out)) ?_
  rintro e w3 ⟨hD,g3⟩
  rcases hD with ⟨_,py,Sy,rfl,_,_⟩ | ⟨nf,_⟩
  rotate_left
  ·exact absurd FT.out nf
  have R3:Hid (HR w3 px Sx (numR f 4 8) (kF f) (vF f) (gF f) (nF f) (LF f)):=HH.out.gw R2.out g3
  have G3:Hid (Gw w w3):=G2.out.trans g3
  clear g3 G2 R2
  have n1:nF f≤2000000:=(HH.out.ready R3.out).n1
  have BD:Hid (∀ i,i<nF f→(0≤kF f i∧kF f i<18446744073709551616)∧(0≤vF f i∧vF f i<18446744073709551616)):=RG.out.bd
  have CK:Hid (ChkR (kF f) (vF f) (gF f) (nF f) 0):=by
   rcases RG.out.of.new0.1 with ⟨_,a⟩ | ⟨_,a⟩
   ·cases a
   ·exact a
  have HA:Hid (∀ (W:World),Gw w3 W→∀ q:Int,0≤q→q<18446744073709551616→Calls Tryz.prog 17 #[.pointer (some ⟨px,0,none⟩), .int .u64 q] W fun e w'=>e=.returned (.bool true)∧Gw W w'):=fun W gg q q0 q1=>holds_any HH.out HM.out (HH.out.gw R3.out gg) BD.out q q0 q1
  have LI:Hid (Calls Tryz.prog 10 #[.pointer (some ⟨px,0,none⟩)] w3 fun e w'=>(∃ bo c,e=.returned (.slice bo (nF f) c)∧ES w' bo (nF f) (kF f) (vF f) (gF f))∧Gw w3 w'):=(HH.out.list R3.out).mono fun e w' ⟨⟨bo,c,a,er⟩,b⟩=>⟨⟨bo,c,a,er_es er BD.out⟩,b⟩
  have SN:Hid (∀ (W:World) (lo:Option Addr) (lc:Nat),ES W lo (nF f) (kF f) (vF f) (gF f)→Calls Tryz.prog 16 #[.slice lo (nF f) lc] W fun e w'=>e=.returned (.bool true)∧Gw W w'):=fun W lo lc hh=>(tsound_any lo (nF f) lc (kF f) (vF f) (gF f) (by omega) W hh).mono fun e w' ⟨⟨b,a,c⟩,d⟩=>⟨by rw [a,c.2 CK.out],d⟩
  have PZ:Hid (∀ W,Gw w3 W→Calls Tryz.prog 8 #[.pointer (some ⟨px,0,none⟩)] W fun e w'=>(∃ co c,e=.returned (.slice co m c)∧BS w' co m f)∧Gw W w'):=fun W gg=>(jput HH.out (HH.out.gw R3.out gg) RG.out.bd RG.out.te).mono fun e w' ⟨⟨co,c,a,b⟩,d⟩=>by
   obtain ⟨li,le⟩:=FT.out.1.once (m:=m) (fun i hi=>HB.out.bd i hi)
   have bs:=bl_bs b (putB_bd _ _ _ _ _ _)
   rw [le] at a bs
   exact ⟨⟨co,c,a,bs.congr fun i hi=>(lies_lf li i (by rw [le];exact hi)).symm⟩,d⟩
  have HB3:Hid (BS w3 ao m f):=HB.out.gw G3.out
  have HQ:Hid (KS w3 qo qn qf):=HQ0.out.gw G3.out
  clear HB HZ HM RG FT CK HQ0
  generalize kF f=k at BD LI SN
  generalize vF f=v at BD LI SN
  generalize gF f=g at LI SN
  generalize nF f=n at BD LI SN n1
  go_wp2_with fail
  refine Calls.mono LI.out ?_
  rintro e w4 ⟨⟨lo,lc,rfl,ea⟩,g4⟩
  have G4:Hid (Gw w3 w4):=g4
  have E4:Hid (ES w4 lo n k v g):=ea
  clear ea g4 LI
  go_wp2_with fail
  refine Calls.mono (SN.out _ _ _ E4.out) ?_
  rintro e w5 ⟨rfl,g5⟩
  have G5:Hid (Gw w3 w5):=G4.out.trans g5
  have E5:Hid (ES w5 lo n k v g):=E4.out.gw g5
  clear g5 E4 G4 SN
  go_wp2_with fail
  refine Calls.mono (PZ.out _ G5.out) ?_
  rintro e w6 ⟨⟨co,cc,rfl,bs⟩,g6⟩
  have G6:Hid (Gw w3 w6):=G5.out.trans g6
  have E6:Hid (ES w6 lo n k v g):=E5.out.gw g6
  have cv1:=conv_b bs cc
  have cv2:=conv_b (HB3.out.gw G6.out) cp
  clear bs g6 PZ E5 G5
  generalize txt f m=tx at cv1 cv2
  go_wp2_with fail
  go_loopg [13] n (fun gg s wr=>∃ i:Nat,s=.int .i64 (i:Int)∧i≤n∧n-i≤gg∧Aside (Gw w6 wr))
  case atStart=>exact ⟨0,rfl,Nat.zero_le _,by omega,(show Aside _ from Gw.refl w6)⟩
  case round =>
   clear cv1 cv2
   obtain ⟨i,rfl,a1,a2,G⟩:=hrel
   by_cases hlt:i<n
   ·have hlt':(i:Int)<(n:Int):=by omega
    obtain ⟨lb,loff,rfl,hlb,hlc⟩:=(E6.out.gw G.out).cells (by omega)
    have kc:=(hlc i hlt).1
    have kb:=(BD.out i hlt).1
    clear hlc
    generalize k i=q at kc kb
    obtain ⟨q0,q1⟩:=kb
    go_wp2_with fail
    refine Calls.mono (HA.out _ (G6.out.trans G.out) q q0 q1) ?_
    rintro e w7 ⟨rfl,g7⟩
    have G7:Aside (Gw w6 w7):=G.out.trans g7
    clear g7 kc hlb
    go_wp2_with fail
    go_roundg (n-(i+1))
    case measure=>omega
    case rel=>exact ⟨i+1,by go_num,by omega,Nat.le_refl _,G7⟩
   ·go_wp2_with fail
    go_loopg [15] qn (fun gg s wr=>∃ i:Nat,s=.int .i64 (i:Int)∧i≤qn∧qn-i≤gg∧Aside (Gw w6 wr))
    case atStart=>exact ⟨0,rfl,Nat.zero_le _,by omega,G⟩
    case round =>
     clear G
     obtain ⟨j,rfl,b1,b2,G⟩:=hrel
     by_cases jlt:j<qn
     ·have jlt':(j:Int)<(qn:Int):=by omega
      obtain ⟨qb,qoff,rfl,hqb,hqc⟩:=((HQ.out.gw G6.out).gw G.out).cells (by omega)
      have qi:=hqc j jlt
      have qbd:=HQ.out.bd j jlt
      clear hqc
      generalize qf j=q at qi qbd
      obtain ⟨q0,q1⟩:=qbd
      go_wp2_with fail
      refine Calls.mono (HA.out _ (G6.out.trans G.out) q q0 q1) ?_
      rintro e w7 ⟨rfl,g7⟩
      have G7:Aside (Gw w6 w7):=G.out.trans g7
      clear g7 qi hqb
      go_wp2_with fail
      go_roundg (qn-(j+1))
      case measure=>omega
      case rel=>exact ⟨j+1,by go_num,by omega,Nat.le_refl _,G7⟩
     ·go_wp2_with fail
      go_ret
      exact ⟨rfl,(G3.out.trans G6.out).trans G.out⟩
 ·rcases hG with ⟨nf,_⟩ | ⟨_,rfl⟩
  ·exact absurd nf ft
  have NF:Hid (¬ Fit f m):=ft
  clear ft G1
  go_wp2_with fail
  refine Calls.mono (dget ao m cp f (by omega) HZ.out (.few (by omega)) w2 (HB.out.gw G2.out)) ?_
  rintro e w3 ⟨hD,g3⟩
  rcases hD with ⟨nf,_⟩ | ⟨_,rfl⟩
  ·exact absurd nf NF.out
  have G3:Hid (Gw w w3):=G2.out.trans g3
  clear g3 G2
  go_wp2_with fail
  go_ret
  exact ⟨rfl,G3.out⟩
end Go.Proofs.YtinefkljjnepjabGreat
