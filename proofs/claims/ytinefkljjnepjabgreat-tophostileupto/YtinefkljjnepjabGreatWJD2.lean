/- The document's layer 12: Get. -/
import Derived.Test.YtinefkljjnepjabGreatWJW
import Derived.Test.YtinefkljjnepjabGreatWJD
namespace Go.Proofs.YtinefkljjnepjabGreat
open Go.RowKit
set_option linter.unusedVariables false
attribute [local go_sem] run_store_float
def GetOutD (w w':World) (e:Ending) (f:Nat→Int) (m:Nat):Prop :=
 (Fit f m∧∃ p S,e=.returned (.tuple #[.pointer (some ⟨p,0,none⟩), .int .i64 0])∧(∀ q,S q→w.heap.size≤q)∧HDoc w' p S (numR f 4 8) (kF f) (vF f) (gF f) (nF f) (LF f))∨(¬ Fit f m∧e=.returned (.tuple #[.pointer none, .int .i64 120]))
structure DOu (W1:World) (B:Nat) (p:Nat) (S:Nat→Prop) (f:Nat→Int) (m:Nat) (eo:Option Addr) (wr:World) (i:Nat) (ko lo:Option Addr) (lc:Nat):Prop where
 st:DStep W1 wr p S f m (lOff f (lO f) i)
 lv:∃ vals,OwnV wr B (.slice lo i lc) ((LF f).take i) vals
 ks:KS wr ko (belowN f i) (rowF (kF f) (LF f) i)
 kp:∀ a,ko=some a→a.block≠p
 es:ES wr eo (nF f) (kF f) (vF f) (gF f)
 om:lOff f (lO f) i≤m
 ok:∀ l,l<i→LvFit f m (lOff f (lO f) l) (belowN f l)
 sz:B≤wr.heap.size
structure DIn (W0:World) (p:Nat) (S:Nat→Prop) (f:Nat→Int) (m o N:Nat) (key:Nat→Int) (wr:World) (k:Nat) (ro fo:Option Addr) (rc fc:Nat):Prop where
 st:DStep W0 wr p S f m (o+8+24*k)
 row:SR wr W0.heap.size (.slice ro k rc) ((List.range k).map (sgF f o key))
 fst:wr.ownsRow W0.heap.size 37 1 (.slice fo k fc) k ((List.range k).map fun j=>Value.int .u64 (key (frF f o j).toNat))
 ap:∀ q,(Value.slice ro k rc).ownBlock=some q→(Value.slice fo k fc).ownBlock≠some q
 om:o+8+24*k≤m
 ok:∀ t,t<k→SegFit f m o N t
theorem ks_ownU {w:World} {base n c:Nat} {ao:Option Addr} {f:Nat→Int} (h:w.ownsRow base 37 1 (.slice ao n c) n ((List.range n).map fun i=>Value.int .u64 (f i))) (bd:∀ i,i<n→0≤f i∧f i<18446744073709551616):KS w ao n f∧∀ a,ao=some a→base≤a.block:=by
 refine ⟨⟨fun h0=>?_,bd⟩,fun a e=>?_⟩
 ·rcases h.2 with ⟨e,z⟩ | ⟨g,cap,cur,e,hb,hh,r⟩
  ·omega
  ·cases e
   refine ⟨g,0,rfl,(Array.getElem?_eq_some_iff.1 hh).1,fun i hi=>?_⟩
   rw [Nat.zero_add,World.ownsRow.cellAt h i (by omega)]
   simp [hi]
 ·rcases h.2 with ⟨x,z⟩ | ⟨g,cap,cur,x,hb,hh,r⟩
  ·cases x;cases e
  ·cases x;cases e;exact hb
set_option maxRecDepth 20000 in
set_option maxHeartbeats 16000000 in
theorem dget (ao:Option Addr) (m cp:Nat) (f:Nat→Int) (hm:m≤1000000000) (hz:ao=none→m=0∧cp=0) (md:Mod f m) (w:World) (h:BS w ao m f) :
  Calls Tryz.prog 18 #[.slice ao m cp] w fun e w'=>GetOutD w w' e f m∧Gw w w':=by
 have MD:Hid (Mod f m):=md
 have BD:Hid (∀ i,i<m→0≤f i∧f i<256):=h.bd
 have C0:Hid _:=rnew10_any ao m cp f (show m≤140737488355000 by omega) hz w h
 obtain ⟨jk,hjk,kz,ks_,kby⟩:=info_parts info_k
 obtain ⟨js,hjs,sz,ss_,sby⟩:=info_parts info_sg
 obtain ⟨jv,hjv,vz,vs_,vby⟩:=info_parts info_sgs
 clear h md
 go_enter Tryz.func18,Tryz.ntmps18
 go_wp2_with fail
 refine Calls.mono C0.out ?_
 rintro e w1 ⟨⟨p,S,rfl,rd,hS⟩,g1⟩
 have pl:p<w1.heap.size:=RRd.lt rd p (RRd.own rd)
 have pw:w.heap.size≤p:=hS p (RRd.own rd)
 have FZz:Hid (∀ q,S q→q<w1.heap.size):=fun q hq=>RRd.lt rd q hq
 have G1:Hid (Gw w w1):=g1
 have GU:Hid (∀ W,Upd p w1 W→Gw w W):=fun W u=>u.gw w pw g1
 have rd0:DRd w1 p S f m 0:=by
  show RRd _ _ _ _ _ _
  simpa using rd
 have C1:Hid _:=docr.word ⟨#[73,78,67,49]⟩ (show m-0≤140737488355000 by omega) rd0
 have fz:(fun i=>f (0+i))=f:=funext fun i=>by rw [Nat.zero_add]
 clear rd rd0 hS g1 C0
 go_wp2_with fail
 refine Calls.mono C1.out ?_
 rintro e w2 ⟨he,hR⟩
 clear C1
 unfold wordA at he hR
 rw [fz] at he hR
 by_cases hd:4≤m∧Lies f 0 headB
 rotate_left
 ·obtain ⟨er,rfl,e0⟩:∃ er,e=.returned (.int .i64 er)∧er≠0:=by
   by_cases c:m-0<(⟨#[73,78,67,49]⟩:ByteArray).size
   ·rw [if_pos c] at he;exact ⟨100,he,by decide⟩
   ·rw [if_neg c,if_neg (fun t=>hd ⟨by have e4:(⟨#[73,78,67,49]⟩:ByteArray).size=4:=rfl;omega,head_lies.1 t⟩)] at he
    exact ⟨101,he,by decide⟩
  have t1:(er != 0)=true:=by simpa using e0
  have NF:Hid (¬ Fit f m):=fun t=>hd t.1.hd
  have FIN:Hid (Gw w w2):=GU.out w2 hR.1
  clear hR hd he
  go_wp2_with fail
  go_ret2
  exact ⟨.inr ⟨NF.out,rfl⟩,FIN.out⟩
 have s4:(⟨#[73,78,67,49]⟩:ByteArray).size=4:=rfl
 rw [if_neg (by omega),if_pos (head_lies.2 hd.2)] at he hR
 have HD:Hid (4≤m∧Lies f 0 headB):=hd
 have R2:DStep w1 w2 p S f m 4:=by
  have h9:Rds 140 p S (fun i=>f (0+i)) (m-0) 4 w1 w2:=by rw [fz];exact hR
  exact h9.dstep
 subst he
 obtain ⟨u2,S2,r2,sub2⟩:=R2
 have U2:Hid (Upd p w1 w2):=u2
 have SB2:Hid (∀ q,S2 q→S q):=sub2
 have C2:Hid _:=dcnt 64 (by decide) (by decide) (show m≤140737488355000 by omega) hd.1 r2
 clear hR hd u2 r2 sub2 fz
 go_wp2_with fail
 refine Calls.mono C2.out ?_
 rintro e w3 hh
 clear C2
 rcases hh with ⟨a1,rfl,R3⟩ | ⟨a1,er,rfl,e0,R3⟩
 rotate_left
 ·have t1:(er != 0)=true:=by simpa using e0
  have NF:Hid (¬ Fit f m):=fun t=>a1 t.1.ep
  have FIN:Hid (Gw w w3):=GU.out w3 (U2.out.trans R3.1)
  clear R3 a1
  go_wp2_with fail
  go_ret2
  exact ⟨.inr ⟨NF.out,rfl⟩,FIN.out⟩
 have A1:Hid (12≤m∧numR f 4 8≤64):=a1
 have ep0:0≤numR f 4 8:=(num_bd8 BD.out (show 4+8≤m from a1.1)).1
 have ep1:=a1.2
 obtain ⟨u3,S3,r3,sub3⟩:=R3
 have U3:Hid (Upd p w1 w3):=U2.out.trans u3
 have SB3:Hid (∀ q,S3 q→S q):=fun q hq=>SB2.out q (sub3 q hq)
 obtain ⟨eps,heps⟩:∃ eps,numR f 4 8=eps:=⟨_,rfl⟩
 have HE:Hid (numR f 4 8=eps):=heps
 rw [heps] at ep0 ep1 ⊢
 by_cases e2:eps<2
 ·have t2:decide (eps<2)=true:=by simpa using e2
  have NF:Hid (¬ Fit f m):=fun t=>by
   have:=t.2.new0.1.up.1.1
   rw [HE.out] at this
   omega
  have FIN:Hid (Gw w w3):=GU.out w3 U3.out
  clear a1 r3 u3 sub3
  go_wp2_with fail
  go_ret2
  exact ⟨.inr ⟨NF.out,rfl⟩,FIN.out⟩
 have t2:decide (eps<2)=false:=by simpa using e2
 have C3:Hid _:=dread hm a1.1 BD.out r3
 clear a1 r3 u3 sub3 heps
 go_wp2_with fail
 refine Calls.mono C3.out ?_
 rintro e w4 hh
 clear C3
 rcases hh with ⟨a2,eo,ec,rfl,er4,R4⟩ | ⟨a2,rfl,R4⟩
 rotate_left
 ·have NF:Hid (¬ Fit f m):=fun t=>a2 ⟨t.1.nn,t.1.en⟩
  have FIN:Hid (Gw w w4):=GU.out w4 (U3.out.trans R4)
  clear R4 a2
  go_wp2_with fail
  go_ret2
  exact ⟨.inr ⟨NF.out,rfl⟩,FIN.out⟩
 have EO:Hid (EntOK f m):=a2
 have n1:Hid (nF f≤2000000):=MD.out.n1 a2.room
 have E4:Hid (ES w4 eo (nF f) (kF f) (vF f) (gF f)∧(∀ a,eo=some a→a.block≠p)∧nF f≤ec∧(eo=none→nF f=0∧ec=0)∧∀ a,eo=some a→a.block<w4.heap.size):=by
  obtain ⟨bo,c,e1,e2,e3⟩:=er_form er4
  cases e1
  refine ⟨er_es er4 (kF_bd BD.out a2),fun a ha=>?_,e2,fun hn=>?_,fun a ha=>(e3 a ha).2⟩
  ·have:=(e3 a ha).1
   have:=U3.out.size
   omega
  ·rcases er4.2 with ⟨x,z⟩ | ⟨g,cap,cur,x,_⟩
   ·injection x with x1 x2 x3
    exact ⟨z,x3⟩
   ·injection x with x1 x2 x3
    rw [x1] at hn
    cases hn
 obtain ⟨u4,S4,r4,sub4⟩:=R4
 have U4:Hid (Upd p w1 w4):=U3.out.trans u4
 have SB4:Hid (∀ q,S4 q→S q):=fun q hq=>SB3.out q (sub4 q hq)
 have oe:eOff f (nF f)≤m:=by
  cases hnn:nF f with
  | zero=>exact a2.1.1
  | succ i=>exact (a2.2 i (by omega)).2.2
 have C4:Hid _:=dcnt 4294967296 (by decide) (by decide) (show m≤140737488355000 by omega) oe r4
 clear u4 r4 sub4 er4 a2
 obtain ⟨n,hn⟩:∃ n,nF f=n:=⟨_,rfl⟩
 have HN:Hid (nF f=n):=hn
 rw [hn]
 clear hn
 go_wp2_with fail
 refine Calls.mono C4.out ?_
 rintro e w5 hh
 clear C4
 rcases hh with ⟨a3,rfl,R5⟩ | ⟨a3,er,rfl,e0,R5⟩
 rotate_left
 ·have t1:(er != 0)=true:=by simpa using e0
  have NF:Hid (¬ Fit f m):=fun t=>a3 t.1.hh
  have FIN:Hid (Gw w w5):=GU.out w5 (U4.out.trans R5.1)
  clear R5 a3
  go_wp2_with fail
  go_ret2
  exact ⟨.inr ⟨NF.out,rfl⟩,FIN.out⟩
 have A3:Hid (lO f≤m∧numR f (eOff f (nF f)) 8≤4294967296):=a3
 have hc:numR f (eOff f (nF f)) 8=(hF f:Int):=(cF_cast BD.out (show eOff f (nF f)+8≤m from a3.1)).symm
 have ST5:Hid (DStep w1 w5 p S f m (lO f)):=DStep.after U4.out SB4.out R5
 have E5:Hid (ES w5 eo (nF f) (kF f) (vF f) (gF f)):=E4.out.1.upd R5.1 E4.out.2.1
 rw [hc] at a3 ⊢
 obtain ⟨ht,hht⟩:∃ ht,hF f=ht:=⟨_,rfl⟩
 have HH:Hid (hF f=ht):=hht
 have LL:Hid ((LF f).length=ht):=by show _=_;rw [LF_len,hht]
 rw [hht] at a3 ⊢
 have h1:ht≤4294967296:=by omega
 have n2:n≤2000000:=HN.out▸n1.out
 have SZ5:Hid (w1.heap.size≤w5.heap.size):=ST5.out.1.size
 have EB5:Hid (∀ a,eo=some a→a.block<w5.heap.size):=fun a ha=>Nat.lt_of_lt_of_le (E4.out.2.2.2.2 a ha) R5.1.size
 clear R5 a3 hc hht U2 U3 oe
 have K0:Hid (w5.ownsRow w5.heap.size 37 1 (.slice none 0 0) 0 ((List.range 0).map fun j=>Value.int .u64 (kF f j))):=World.ownsRow_nil _ _ _ _
 go_wp2_with fail
 go_loopg [10,11] n (fun gg s10 s11 wr=>∃ (i:Nat) (ko:Option Addr) (kc:Nat),s10=.slice ko i kc∧s11=.int .i64 i∧i≤n∧n-i≤gg∧Hid (wr.ownsRow w5.heap.size 37 1 (.slice ko i kc) i ((List.range i).map fun j=>Value.int .u64 (kF f j)))∧Hid (Gw w5 wr))
 case atStart=>exact ⟨0,none,0,rfl,rfl,Nat.zero_le _,by omega,K0,(show Hid _ from Gw.refl _)⟩
 case round =>
  clear K0
  obtain ⟨i,ko,kc,rfl,rfl,h2,h3,KI,GI⟩:=hrel
  by_cases hlt:i<n
  ·obtain ⟨eb,ef,rfl,heb,hec⟩:=(E5.out.gw GI.out).cells (by rw [HN.out];omega)
   obtain ⟨d1,d2,d3⟩:=hec i (by rw [HN.out];exact hlt)
   have KS1:Hid ((List.range (i+1)).map (fun j=>Value.int .u64 (kF f j))=(List.range i).map (fun j=>Value.int .u64 (kF f j))++[.int .u64 (kF f i)]):=by show _=_;rw [List.range_succ];simp
   generalize kF f i=ki at d1 KS1
   have z0:=GI.out.size
   clear hec d2 d3
   go_wp2_with (at_builtin;refine wpList_append_own _ rfl _ _ 44 rfl w5.heap.size 37 jk (.int .u64 0) 1 8 Tryz.underlying44 hjk kz ks_ kby rfl (by decide) _ i _ rfl (KI.out.alloc _) ⟨wr.heap.size,0,none⟩ 1 1 [.int .u64 ki] rfl rfl (new_one3 wr ki) (ints_oneCell .u64 [ki]) (by simp only [maxLen];omega) (by omega) (by simp;omega) ?_)
   intro v7 w7 r1 r2 r3
   obtain ⟨ao7,c7,rfl⟩:=own_form r1
   have F1:Hid (w7.ownsRow w5.heap.size 37 1 (.slice ao7 (i+1) c7) (i+1) ((List.range (i+1)).map fun j=>Value.int .u64 (kF f j))):=by
    show World.ownsRow _ _ _ _ _ _ _
    rw [KS1.out]
    exact r1
   have F2:Hid (Gw w5 w7):=(GI.out.alloc _ _).grown r2 (fun q hq=>(World.ownsRow.lt KI.out q hq).1)
   clear r1 r2 r3 KI GI
   go_wp2_with fail
   go_roundg (n-(i+1))
   case measure=>omega
   case rel=>exact ⟨i+1,ao7,c7,rfl,by go_num,by omega,Nat.le_refl _,F1,F2⟩
  ·have ei:i=n:=by omega
   subst ei
   have DO0:Hid (DOu w1 w5.heap.size p S f m eo wr 0 ko none 0):=by
    have k9:=ks_ownU KI.out (fun t ht=>(E5.out.bd t (by rw [HN.out];exact ht)).1)
    have bz:belowN f 0=i:=by unfold belowN;rw [if_pos rfl,HN.out]
    refine ⟨ST5.out.gw GI.out,⟨[],?_⟩,?_,fun a ha=>?_,E5.out.gw GI.out,A3.out.1,fun l hl=>by omega,GI.out.size⟩
    ·simpa using ownv_nil wr w5.heap.size
    ·rw [bz];exact k9.1
    ·have:=k9.2 a ha
     have:=SZ5.out
     omega
   have BZ:Hid (belowN f 0=i):=by show _=_;unfold belowN;rw [if_pos rfl,HN.out]
   clear KI GI ST5
   go_wp2_with fail
   go_loopg [10,12,13] ht (fun gg s10 s12 s13 wr=>∃ (j:Nat) (ko lo:Option Addr) (kc lc:Nat),s10=.slice ko (belowN f j) kc∧s12=.slice lo j lc∧s13=.int .i64 j∧j≤ht∧ht-j≤gg∧Hid (DOu w1 w5.heap.size p S f m eo wr j ko lo lc))
   case atStart=>exact ⟨0,ko,none,kc,0,by rw [BZ.out],rfl,rfl,Nat.zero_le _,by omega,DO0⟩
   case round =>
    clear DO0 BZ
    obtain ⟨j,ko,lo,kc,lc,rfl,rfl,rfl,j1,j2,DJ⟩:=hrel
    obtain ⟨wO,hwO⟩:∃ wx,wx=wr:=⟨_,rfl⟩
    subst hwO
    by_cases hlt:j<ht
    ·obtain ⟨o,ho⟩:∃ o,lOff f (lO f) j=o:=⟨_,rfl⟩
     obtain ⟨N,hN⟩:∃ N,belowN f j=N:=⟨_,rfl⟩
     obtain ⟨key,hkey⟩:∃ key,rowF (kF f) (LF f) j=key:=⟨_,rfl⟩
     have HO:Hid (lOff f (lO f) j=o∧belowN f j=N∧rowF (kF f) (LF f) j=key):=⟨ho,hN,hkey⟩
     have hjF:j<hF f:=by rw [HH.out];exact hlt
     have KJ:Hid (KS wO ko N key∧∀ a,ko=some a→a.block≠p):=⟨by have:=DJ.out.ks;rw [hN,hkey] at this;exact this,DJ.out.kp⟩
     have NFit:Hid (∀ t:Fit f m,LvFit f m o N):=fun t=>by have:=t.1.lv j hjF;rw [ho,hN] at this;exact this
     have UW:Hid (Upd p w1 wO):=DJ.out.st.1
     have S5J:Hid (w5.heap.size≤wO.heap.size):=DJ.out.sz
     obtain ⟨_,SJ,rJ,subJ⟩:=DJ.out.st
     have SBJ:Hid (∀ q,SJ q→S q):=subJ
     have pJ:p<wO.heap.size:=RRd.lt rJ p (RRd.own rJ)
     have FSJ:Hid (∀ q,SJ q→q<wO.heap.size):=fun q hq=>RRd.lt rJ q hq
     have oJ:=DJ.out.om
     rw [ho] at rJ oJ
     have C5:Hid _:=dcnt 4294967296 (by decide) (by decide) (show m≤140737488355000 by omega) oJ rJ
     have NB:Hid (N≤4294967296):=by
      show _≤_
      rw [←hN]
      unfold belowN
      by_cases z:j=0
      ·rw [if_pos z];have:=n1.out;omega
      ·rw [if_neg z]
       have L:=DJ.out.ok (j-1) (by omega)
       have a:=L.cnt
       have b:=L.room
       have c:=cF_cast BD.out b
       omega
     have nb:=NB.out
     rw [hN]
     clear rJ subJ ho hN hkey
     go_wp2_with fail
     refine Calls.mono C5.out ?_
     rintro e w6 hh
     clear C5
     rcases hh with ⟨b1,rfl,R6⟩ | ⟨b1,er,rfl,e0,R6⟩
     rotate_left
     ·have t1:(er != 0)=true:=by simpa using e0
      have NF:Hid (¬ Fit f m):=fun t=>b1 ⟨(NFit.out t).room,(NFit.out t).cnt⟩
      have FIN:Hid (Gw w w6):=GU.out w6 (UW.out.trans R6.1)
      clear R6 b1
      go_wp2_with fail
      go_ret2
      exact ⟨.inr ⟨NF.out,rfl⟩,FIN.out⟩
     have B1:Hid (o+8≤m∧numR f o 8≤4294967296):=b1
     have cc:numR f o 8=(cF f o:Int):=(cF_cast BD.out b1.1).symm
     rw [cc] at b1 ⊢
     obtain ⟨c,hc⟩:∃ c,cF f o=c:=⟨_,rfl⟩
     have HC:Hid (cF f o=c):=hc
     rw [hc] at b1 ⊢
     have c1:c≤4294967296:=by omega
     have I0:Hid (DIn wO p SJ f m o N key w6 0 none none 0 0):=⟨R6,World.ownsRow_nil _ _ _ _,World.ownsRow_nil _ _ _ _,(fun q hq=>by cases hq),b1.1,(fun t ht=>by omega)⟩
     clear R6 cc hc b1
     go_wp2_with fail
     go_loopg [16,17,18,19] c (fun gg s16 s17 s18 s19 wi=>∃ (k:Nat) (ro fo:Option Addr) (rc fc:Nat),s16=.slice ro k rc∧s17=.slice fo k fc∧s18=.int .i64 (frF f o k)∧s19=.int .i64 k∧k≤c∧c-k≤gg∧Hid (DIn wO p SJ f m o N key wi k ro fo rc fc))
     case atStart=>exact ⟨0,none,none,0,0,rfl,rfl,rfl,rfl,Nat.zero_le _,by omega,I0⟩
     case round =>
      clear I0
      obtain ⟨k,ro,fo,rc,fc,rfl,rfl,rfl,rfl,k1,k2,IK⟩:=hrel
      by_cases hlk:k<c
      ·have f0:=frF_nn (j:=k) BD.out IK.out.ok
       obtain ⟨fr,hfr⟩:∃ fr:Nat,frF f o k=(fr:Int):=⟨(frF f o k).toNat,by omega⟩
       have HF:Hid (frF f o k=(fr:Int)):=hfr
       rw [hfr]
       obtain ⟨uI,SI,rI,subI⟩:=IK.out.st
       have UI:Hid (Upd p wO wr):=uI
       have SBI:Hid (∀ q,SI q→SJ q):=subI
       have oI:=IK.out.om
       have hkF:k<cF f o:=by rw [HC.out];exact hlk
       have SEG:Hid (∀ t:Fit f m,SegFit f m o N k):=fun t=>(NFit.out t).seg k hkF
       have C6:Hid _:=dcnt 4294967296 (by decide) (by decide) (show m≤140737488355000 by omega) oI rI
       clear uI rI subI hfr
       go_wp2_with fail
       refine Calls.mono C6.out ?_
       rintro e w7 hh
       clear C6
       rcases hh with ⟨d1,rfl,R7⟩ | ⟨d1,er,rfl,e0,R7⟩
       rotate_left
       ·have t1:(er != 0)=true:=by simpa using e0
        have NF:Hid (¬ Fit f m):=fun t=>d1 (by have q:=(SEG.out t);have r:=q.room;exact ⟨by omega,q.te⟩)
        obtain ⟨u7,S7,r7,_⟩:=R7
        have U7:Hid (Upd p w1 w7):=(UW.out.trans UI.out).trans u7
        have C7:Hid _:=dflt_any (show m≤140737488355000 by omega) oI r7
        clear u7 r7 d1
        go_wp2_with fail
        refine Calls.mono C7.out ?_
        rintro e w8 ⟨x8,er8,o8,rfl,R8,l8⟩
        obtain ⟨u8,S8,r8,_⟩:=R8
        have U8:Hid (Upd p w1 w8):=U7.out.trans u8
        have C8:Hid _:=dflt_any (show m≤140737488355000 by omega) l8 r8
        clear u8 r8 C7
        go_wp2_with fail
        refine Calls.mono C8.out ?_
        rintro e w9 ⟨x9,er9,o9,rfl,R9,l9⟩
        have FIN:Hid (Gw w w9):=GU.out w9 (U8.out.trans R9.1)
        clear R9 C8
        go_wp2_with fail
        go_ret2
        exact ⟨.inr ⟨NF.out,rfl⟩,FIN.out⟩
       have D1:Hid (o+8+24*k+8≤m∧numR f (o+8+24*k) 8≤4294967296):=d1
       obtain ⟨u7,S7,r7,sub7⟩:=R7
       have U7:Hid (Upd p wO w7):=UI.out.trans u7
       have U7w:Hid (Upd p _ w7):=u7
       have SB7:Hid (∀ q,S7 q→SJ q):=fun q hq=>SBI.out q (sub7 q hq)
       have C7:Hid _:=dflt (show m≤140737488355000 by omega) d1.1 r7
       clear u7 r7 sub7 d1
       go_wp2_with fail
       refine Calls.mono C7.out ?_
       rintro e w8 hh
       clear C7
       rcases hh with ⟨d2,rfl,R8⟩ | ⟨d2,er,rfl,e0,R8⟩
       rotate_left
       ·have t1:(er != 0)=true:=by simpa using e0
        have NF:Hid (¬ Fit f m):=fun t=>d2 (by have q:=(SEG.out t);have r:=q.room;exact ⟨by omega,q.sl⟩)
        obtain ⟨u8,S8,r8,_⟩:=R8
        have U8:Hid (Upd p w1 w8):=(UW.out.trans U7.out).trans u8
        have C8:Hid _:=dflt_any (show m≤140737488355000 by omega) D1.out.1 r8
        clear u8 r8 d2
        go_wp2_with fail
        refine Calls.mono C8.out ?_
        rintro e w9 ⟨x9,er9,o9,rfl,R9,l9⟩
        have FIN:Hid (Gw w w9):=GU.out w9 (U8.out.trans R9.1)
        clear R9 C8
        go_wp2_with fail
        go_ret2
        exact ⟨.inr ⟨NF.out,rfl⟩,FIN.out⟩
       have D2:Hid (numR f (o+8+24*k+8) 8/4503599627370496%2048≠2047):=d2.2
       obtain ⟨u8,S8,r8,sub8⟩:=R8
       have U8:Hid (Upd p wO w8):=U7.out.trans u8
       have U8w:Hid (Upd p _ w8):=U7w.out.trans u8
       have SB8:Hid (∀ q,S8 q→SJ q):=fun q hq=>SB7.out q (sub8 q hq)
       have C8:Hid _:=dflt (show m≤140737488355000 by omega) d2.1 r8
       clear u8 r8 sub8 d2
       go_wp2_with fail
       refine Calls.mono C8.out ?_
       rintro e w9 hh
       clear C8
       rcases hh with ⟨d3,rfl,R9⟩ | ⟨d3,er,rfl,e0,R9⟩
       rotate_left
       ·have t1:(er != 0)=true:=by simpa using e0
        have NF:Hid (¬ Fit f m):=fun t=>d3 (by
         have q:=(SEG.out t)
         have r:=q.room
         have s:=q.ic
         rw [show o+8+24*k+16=o+8+24*k+8+8 by omega] at s
         exact ⟨by omega,s⟩)
        have FIN:Hid (Gw w w9):=GU.out w9 ((UW.out.trans U8.out).trans R9.1)
        clear R9 d3
        go_wp2_with fail
        go_ret2
        exact ⟨.inr ⟨NF.out,rfl⟩,FIN.out⟩
       have D3:Hid (o+8+24*k+24≤m∧numR f (o+8+24*k+16) 8/4503599627370496%2048≠2047):=by
        refine ⟨by omega,?_⟩
        rw [show o+8+24*k+16=o+8+24*k+8+8 by omega]
        exact d3.2
       have U9:Hid (Upd p wO w9):=U8.out.trans R9.1
       have U9w:Hid (Upd p _ w9):=U8w.out.trans R9.1
       have ST9:Hid (DStep wO w9 p SJ f m (o+8+24*(k+1))):=by
        have:=DStep.after U8.out SB8.out R9
        rw [show o+8+24*k+8+8+8=o+8+24*(k+1) by omega] at this
        exact this
       rw [show o+8+24*k+8+8=o+8+24*k+16 by omega]
       clear R9 d3
       by_cases q:fr<N
       rotate_left
       ·have tq:decide ((N:Int)≤(fr:Int))=true:=by simpa using q
        have tq2:decide (N≤fr)=true:=by simpa using q
        have NF:Hid (¬ Fit f m):=fun t=>q (by have r:=(SEG.out t).fr;rw [HF.out,Int.toNat_natCast] at r;exact r)
        have FIN:Hid (Gw w w9):=GU.out w9 (UW.out.trans U9.out)
        clear q
        go_wp2_with fail
        go_ret2
        exact ⟨.inr ⟨NF.out,rfl⟩,FIN.out⟩
       have tq:decide ((N:Int)≤(fr:Int))=false:=by simpa using q
       have tq2:decide (N≤fr)=false:=by simpa using q
       obtain ⟨bk,off,rfl,hbk,hkc⟩:=(KJ.out.1.upd U9.out KJ.out.2).cells (Nat.lt_of_le_of_lt (Nat.zero_le _) q)
       have kc9:=hkc fr q
       have frN:(fr:Int)<(N:Int):=by omega
       have bkw:bk<wO.heap.size:=by
        obtain ⟨b',o',e',x,_⟩:=KJ.out.1.cells (Nat.lt_of_le_of_lt (Nat.zero_le _) q)
        cases e'
        exact x
       have SG:Hid (sgF f o key k=⟨key fr,(numR f (o+8+24*k+8) 8).toNat,(numR f (o+8+24*k+16) 8).toNat,(fr:Int),numR f (o+8+24*k) 8⟩):=by
        show _=_
        unfold sgF teF
        rw [HF.out,Int.toNat_natCast]
       have FK:Hid (key (frF f o k).toNat=key fr):=by show _=_;rw [HF.out,Int.toNat_natCast]
       have row9:Hid (SR w9 wO.heap.size (.slice ro k rc) ((List.range k).map (sgF f o key))):=sr_keep IK.out.row (fun q hq=>U9w.out.blk q (by have:=(sr_lt IK.out.row q hq).1;omega) (sr_lt IK.out.row q hq).2)
       have fst9:Hid (w9.ownsRow wO.heap.size 37 1 (.slice fo k fc) k ((List.range k).map fun j=>Value.int .u64 (key (frF f o j).toNat))):=own_kept IK.out.fst (fun q hq=>U9w.out.blk q (by have:=(World.ownsRow.lt IK.out.fst q hq).1;omega) (World.ownsRow.lt IK.out.fst q hq).2)
       have EK:Hid (∀ t,t<k+1→SegFit f m o N t):=fun t ht=>by
        by_cases c:t=k
        ·subst c
         exact ⟨D3.out.1,D1.out.2,D2.out,D3.out.2,by rw [HF.out,Int.toNat_natCast];exact q⟩
        ·exact IK.out.ok t (by omega)
       have NX:Hid (frF f o (k+1)=numR f (o+8+24*k) 8):=rfl
       have bnd:Hid (o+8+24*k≤m):=IK.out.om
       have bk24:=bnd.out
       have SZ9:=U9.out.size
       have APK:Hid (∀ q,(Value.slice ro k rc).ownBlock=some q→(Value.slice fo k fc).ownBlock≠some q):=IK.out.ap
       obtain ⟨te,hte⟩:∃ te,numR f (o+8+24*k) 8=te:=⟨_,rfl⟩
       obtain ⟨sl,hsl⟩:∃ sl,(numR f (o+8+24*k+8) 8).toNat=sl:=⟨_,rfl⟩
       obtain ⟨ic,hic⟩:∃ ic,(numR f (o+8+24*k+16) 8).toNat=ic:=⟨_,rfl⟩
       rw [hte,hsl,hic] at SG
       rw [hte] at NX
       rw [hte,hsl,hic]
       obtain ⟨kx,hkx⟩:∃ kx,key fr=kx:=⟨_,rfl⟩
       rw [hkx] at SG FK kc9
       clear hkc IK q D1 D2 hte hsl hic hkx
       have rl:((List.range k).map (sgF f o key)).length=k:=by simp
       have row9':Hid ((w9.alloc (.cells #[.int .u64 kx, .float .f64 sl, .float .f64 ic, .int .i64 (fr:Int), .int .i64 te] 100)).ownsRow wO.heap.size 100 5 (.slice ro k rc) k (((List.range k).map (sgF f o key)).flatMap sgc)):=by
        have h9:=row9.out
        unfold SR at h9
        rw [rl] at h9
        exact h9.alloc _
       go_wp2_with (at_builtin;refine wpList_append_own_at _ rfl _ _ 68 rfl wO.heap.size 100 js (.agg #[.int .u64 0, .float .f64 0, .float .f64 0, .int .i64 0, .int .i64 0]) 5 40 Tryz.underlying68 hjs sz ss_ sby rfl (by decide) _ k _ rfl row9'.out ⟨w9.heap.size,0,none⟩ 1 1 (sgc ⟨kx,sl,ic,(fr:Int),te⟩) rfl rfl (new_sg w9 ⟨kx,sl,ic,(fr:Int),te⟩) (sgc_one _) (by simp only [maxLen];omega) (by omega) (by simp;omega) ?_)
       intro vA wA r1 r2 r3 r4
       obtain ⟨aoA,cA,rfl⟩:=own_form r1
       have rowA:Hid (SR wA wO.heap.size (.slice aoA (k+1) cA) ((List.range (k+1)).map (sgF f o key))):=by
        show World.ownsRow _ _ _ _ _ _ _
        rw [List.range_succ,List.map_append,List.map_cons,List.map_nil,SG.out,List.length_append,rl,flat_one]
        exact r1
       have STA:Hid (DStep wO wA p SJ f m (o+8+24*(k+1))):=(ST9.out.gw ((Gw.refl w9).alloc _ _)).grown r2 (fun q hq=>(World.ownsRow.lt row9'.out q hq).1) FSJ.out
       have fstA:Hid (wA.ownsRow wO.heap.size 37 1 (.slice fo k fc) k ((List.range k).map fun j=>Value.int .u64 (key (frF f o j).toNat))):=own_kept fst9.out (fun q hq=>(r2.block q (by have:=(World.ownsRow.lt fst9.out q hq).2;simp;omega) (fun e=>APK.out q e.symm hq)).trans (((Gw.refl w9).alloc _ _).below.block q (World.ownsRow.lt fst9.out q hq).2))
       have apA:Hid (∀ q,(Value.slice aoA (k+1) cA).ownBlock=some q→(Value.slice fo k fc).ownBlock≠some q):=fun q hq hf=>by
        rcases r4 with x | x
        ·exact APK.out q (x▸hq) hf
        ·have x':(Value.slice aoA (k+1) cA).ownBlock=some (w9.heap.size+1):=by simpa using x
         rw [x'] at hq
         have:=(World.ownsRow.lt fst9.out q hf).2
         cases hq
         omega
       have kcA:wA.cell? ⟨bk,off+fr,none⟩=some (.int .u64 kx):=(World.cell?_of_block (a:=⟨bk,off+fr,none⟩) ((r2.block bk (by simp;omega) (fun e=>by have:=(World.ownsRow.lt row9'.out bk e.symm).1;omega)).trans (((Gw.refl w9).alloc _ _).below.block bk hbk))).trans kc9
       have lA:bk<wA.heap.size:=by have:=r2.size;simp at this;omega
       have sA:w9.heap.size≤wA.heap.size:=by have:=r2.size;simp at this;omega
       have KS1:Hid ((List.range (k+1)).map (fun j=>Value.int .u64 (key (frF f o j).toNat))=(List.range k).map (fun j=>Value.int .u64 (key (frF f o j).toNat))++[.int .u64 kx]):=by show _=_;rw [List.range_succ,List.map_append,List.map_cons,List.map_nil,FK.out]
       clear r1 r2 r3 r4 row9 row9' fst9 ST9 APK kc9 SG FK
       go_wp2_with (at_builtin;refine wpList_append_own_at _ rfl _ _ 44 rfl wO.heap.size 37 jk (.int .u64 0) 1 8 Tryz.underlying44 hjk kz ks_ kby rfl (by decide) _ k _ rfl (fstA.out.alloc _) ⟨wA.heap.size,0,none⟩ 1 1 [.int .u64 kx] rfl rfl (new_one3 wA kx) (ints_oneCell .u64 [kx]) (by simp only [maxLen];omega) (by omega) (by simp;omega) ?_)
       intro vB wB r1 r2 r3 r4
       obtain ⟨aoB,cB,rfl⟩:=own_form r1
       have IB:Hid (DIn wO p SJ f m o N key wB (k+1) aoA aoB cA cB):=by
        refine ⟨(STA.out.gw ((Gw.refl wA).alloc _ _)).grown r2 (fun q hq=>(World.ownsRow.lt fstA.out q hq).1) FSJ.out,?_,?_,fun q hq hf=>?_,by have:=D3.out.1;omega,EK.out⟩
        ·exact sr_keep rowA.out (fun q hq=>(r2.block q (by have:=(sr_lt rowA.out q hq).2;simp;omega) (fun e=>apA.out q hq e.symm)).trans (((Gw.refl wA).alloc _ _).below.block q (sr_lt rowA.out q hq).2))
        ·rw [KS1.out];exact r1
        ·rcases r4 with x | x
         ·exact apA.out q hq (x▸hf)
         ·have x':(Value.slice aoB (k+1) cB).ownBlock=some (wA.heap.size+1):=by simpa using x
          rw [x'] at hf
          have:=(sr_lt rowA.out q hq).2
          cases hf
          omega
       clear r1 r2 r3 r4 rowA STA fstA apA kcA
       go_wp2_with fail
       go_roundg (c-(k+1))
       case measure=>omega
       case rel=>exact ⟨k+1,aoA,aoB,cA,cB,rfl,rfl,by rw [NX.out],by go_num,by omega,Nat.le_refl _,IB⟩
      ·have ek:k=c:=by omega
       subst ek
       obtain ⟨ho,hN,hkey⟩:=HO.out
       have eL:(LF f).getD j []=lvF f o key:=by rw [LF_at hjF,ho,hkey]
       have rowJ:Hid (SR wr wO.heap.size (.slice ro k rc) ((LF f).getD j [])):=by
        show SR _ _ _ _
        rw [eL]
        unfold lvF
        rw [HC.out]
        exact IK.out.row
       have LVJ:Hid (LvFit f m o N):=⟨B1.out.1,B1.out.2,fun t ht=>IK.out.ok t (by rw [HC.out] at ht;exact ht)⟩
       obtain ⟨vals,OV⟩:=DJ.out.lv
       have OVW:Hid (OwnV wr w5.heap.size (.slice lo j lc) ((LF f).take j) vals):=OV.keep fun q hq hl=>IK.out.st.1.blk q (by have:=SZ5.out;omega) hl
       have OV0:Hid (OwnV wO w5.heap.size (.slice lo j lc) ((LF f).take j) vals):=OV
       have tl:((LF f).take j).length=j:=by rw [List.length_take,LL.out];omega
       have outer:Hid ((wr.alloc (.cells #[.slice ro k rc] 68)).ownsRow w5.heap.size 68 1 (.slice lo j lc) j vals):=by
        have h9:=OVW.out.outer
        rw [tl] at h9
        exact h9.alloc _
       have S5O:=S5J.out
       have SZr:=IK.out.st.1.size
       have TK:Hid ((LF f).take (j+1)=(LF f).take j++[(LF f).getD j []]):=take_next (by rw [LL.out];exact hlt)
       have jm:8*j≤m:=by
        have a9:=lOff_mono f (lO f) (Nat.zero_le j)
        rw [ho] at a9
        omega
       have bN1:Hid (belowN f (j+1)=k):=by
        show _=_
        unfold belowN
        rw [if_neg (by omega),show j+1-1=j from rfl,ho,HC.out]
       have EK:Hid (∀ l,l<j+1→LvFit f m (lOff f (lO f) l) (belowN f l)):=fun l hl=>by
        by_cases c:l=j
        ·subst c;rw [ho,hN];exact LVJ.out
        ·exact DJ.out.ok l (by omega)
       have KB:=(LF_ok BD.out (fun i hi=>(E5.out.bd i hi).1) (j+1) (by omega) EK.out).2
       rw [←belowN_eq (show j+1≤hF f by omega),bN1.out] at KB
       have e1:rowF (kF f) (LF f) (j+1)=fst8 ((LF f).getD j []):=by unfold rowF;rw [if_neg (by omega)];rfl
       have KSJ:Hid (KS wr fo k (rowF (kF f) (LF f) (j+1))∧∀ a,fo=some a→wO.heap.size≤a.block):=by
        refine ks_ownU (c:=fc) ?_ KB
        have h9:=IK.out.fst
        have e9:((List.range k).map fun i=>Value.int .u64 (rowF (kF f) (LF f) (j+1) i))=(List.range k).map fun i=>Value.int .u64 (key (frF f o i).toNat):=by
         apply List.map_congr_left
         intro i hi
         have hi':i<cF f o:=by rw [HC.out];exact List.mem_range.1 hi
         rw [e1,eL]
         unfold fst8
         rw [lvF_at f o key hi']
         rfl
        rw [e9]
        exact h9
       have STR:Hid (DStep w1 wr p S f m (lOff f (lO f) (j+1))):=by
        have h9:=DStep.after UW.out SBJ.out IK.out.st
        have e9:lOff f (lO f) (j+1)=o+8+24*k:=by
         show lOff f (lO f) j+8+24*cF f (lOff f (lO f) j)=_
         rw [ho,HC.out]
        rw [←e9] at h9
        exact h9
       have ESR:Hid (ES wr eo (nF f) (kF f) (vF f) (gF f)):=DJ.out.es.upd IK.out.st.1 E4.out.2.1
       have OMR:Hid (lOff f (lO f) (j+1)≤m):=by
        show lOff f (lO f) j+8+24*cF f (lOff f (lO f) j)≤m
        rw [ho,HC.out]
        exact IK.out.om
       have fol:Hid (∀ q,(Value.slice fo k fc).ownBlock=some q→wO.heap.size≤q∧q<wr.heap.size):=fun q hq=>World.ownsRow.lt IK.out.fst q hq
       clear OV DJ IK KB e1 eL
       go_wp2_with (at_builtin;refine wpList_append_own_at _ rfl _ _ 56 rfl w5.heap.size 68 jv (.slice none 0 0) 1 24 Tryz.underlying56 hjv vz vs_ vby rfl (by decide) _ j _ rfl outer.out ⟨wr.heap.size,0,none⟩ 1 1 [.slice ro k rc] rfl rfl (new_val1 wr (.slice ro k rc) 68) (fun u hu=>by simp at hu;subst hu;rfl) (by simp only [maxLen];omega) (by omega) (by simp;omega) ?_)
       intro vC wC r1 r2 r3 r4
       obtain ⟨aoC,cC,rfl⟩:=own_form r1
       have DN:Hid (DOu w1 w5.heap.size p S f m eo wC (j+1) fo aoC cC):=by
        have lvl:∀ q,(Value.slice lo j lc).ownBlock=some q→w5.heap.size≤q∧q<wO.heap.size:=fun q hq=>by
         have h9:=OV0.out.outer
         exact World.ownsRow.lt h9 q hq
        have kb:∀ q,q<wr.heap.size→(Value.slice lo j lc).ownBlock≠some q→wC.heap[q]?=wr.heap[q]?:=fun q hq hn=>(r2.block q (by simp;omega) (fun e=>hn e.symm)).trans (((Gw.refl wr).alloc _ _).below.block q hq)
        refine ⟨(STR.out.gw ((Gw.refl wr).alloc _ _)).grown r2 (fun q hq=>Nat.le_trans SZ5.out (lvl q hq).1) FZz.out,⟨vals++[.slice ro k rc],?_⟩,?_,fun a ha=>?_,?_,OMR.out,EK.out,by have:=r2.size;simp at this;omega⟩
        ·rw [TK.out]
         refine OwnV.moreU (v:=.slice lo j lc) OV0.out OVW.out SZr rowJ.out S5O ?_ r2 (by simpa using r4)
         rw [tl]
         exact r1
        ·rw [bN1.out]
         have h9:=KSJ.out.1
         refine ⟨fun h0=>?_,h9.bd⟩
         obtain ⟨b9,o9,e9,x9,c9⟩:=h9.cells h0
         refine ⟨b9,o9,e9,by have:=r2.size;simp at this;omega,fun t ht=>(World.cell?_of_block (a:=⟨b9,o9+t,none⟩) (kb b9 x9 (fun e=>?_))).trans (c9 t ht)⟩
         have h8:wO.heap.size≤b9:=KSJ.out.2 _ e9
         have:=(lvl b9 e).2
         omega
        ·have h8:=KSJ.out.2 a ha
         omega
        ·refine ⟨fun h0=>?_,ESR.out.bd⟩
         obtain ⟨b9,o9,e9,x9,c9⟩:=ESR.out.cells h0
         have hb9:(Value.slice lo j lc).ownBlock≠some b9:=fun e=>by
          have h8:b9<w5.heap.size:=EB5.out _ e9
          have:=(lvl b9 e).1
          omega
         have eq:∀ t,wC.cell? ⟨b9,t,none⟩=wr.cell? ⟨b9,t,none⟩:=fun t=>World.cell?_of_block (a:=⟨b9,t,none⟩) (kb b9 x9 hb9)
         exact ⟨b9,o9,e9,by have:=r2.size;simp at this;omega,fun t ht=>⟨(eq _).trans (c9 t ht).1,(eq _).trans (c9 t ht).2.1,(eq _).trans (c9 t ht).2.2⟩⟩
       clear r1 r2 r3 r4
       go_wp2_with fail
       go_roundg (ht-(j+1))
       case measure=>omega
       case rel=>exact ⟨j+1,fo,aoC,fc,cC,by rw [bN1.out],rfl,by go_num,by omega,Nat.le_refl _,DN⟩
    ·have ej:j=ht:=by omega
     subst ej
     have LVO:Hid (LvsOK f m):=⟨A3.out,fun l hl=>DJ.out.ok l (by rw [HH.out] at hl;exact hl)⟩
     obtain ⟨_,S9,r9,_⟩:=DJ.out.st
     have UO:Hid (Upd p w1 wO):=DJ.out.st.1
     have LE:Hid (Calls Tryz.prog 58 #[.pointer (some ⟨p,0,none⟩)] wO fun e w'=>e=.returned (.int .i64 ((m-lOff f (lO f) j:Nat):Int))∧w'=wO):=docr.left r9
     have up7:=DJ.out.om
     have OK7:=(LF_ok BD.out (fun i hi=>(E5.out.bd i hi).1) (hF f) (Nat.le_refl _) LVO.out.2).1
     have OKL:∀ i,i<(LF f).length→∀ j,j<((LF f).getD i []).length→(((LF f).getD i []).getD j sg0).ok:=fun i hi=>OK7 i (by rw [LF_len] at hi;exact hi)
     obtain ⟨vals,OV⟩:=DJ.out.lv
     rw [List.take_of_length_le (by rw [LL.out];exact Nat.le_refl _)] at OV
     have VO:VS wO lo (LF f):=by
      rw [←LL.out] at OV
      exact (OV.vsf OKL).vs
     have SH:Short (LF f):=⟨by rw [LF_len];exact MD.out.h1 LVO.out.few,fun i hi=>by
      rw [LF_len] at hi
      rw [LF_at hi,lvF_len]
      exact MD.out.c1 i hi (LVO.out.2 i hi).few⟩
     have OFC:=dc_of eps eo (nF f) ec (kF f) (vF f) (gF f) lo lc (LF f) (by omega) (by omega) n1.out E4.out.2.2.1 E4.out.2.2.2.1 SH wO DJ.out.es VO
     rw [LL.out,HN.out] at OFC
     have OFH:Hid (Calls Tryz.prog 23 #[.slice eo i ec, .int .i64 eps, .slice lo j lc] wO fun ex w'=>OfOutR HDoc wO w' ex eps (kF f) (vF f) (gF f) i (LF f)∧Gw wO w'):=OFC
     clear OFC SH VO OV OK7 OKL r9 DJ
     by_cases al:lOff f (lO f) j=m
     ·have t1:m-lOff f (lO f) j=0:=by omega
      have AL:Hid (lOff f (lO f) (hF f)=m):=by show _=_;rw [HH.out];exact al
      rw [t1] at LE
      clear al up7 t1
      go_wp2_with fail
      refine LE.out.mono ?_
      rintro e wP ⟨rfl,hw⟩
      subst hw
      go_wp2_with fail
      refine OFH.out.mono ?_
      rintro e wQ ⟨⟨E,hE,hX⟩,gQ⟩
      have GQ:Hid (Gw w wQ):=(GU.out _ UO.out).trans gQ
      have SQ:Hid (w.heap.size≤wP.heap.size):=(GU.out _ UO.out).size
      have OE:Hid (OfE eps (kF f) (vF f) (gF f) i (LF f) E):=hE
      clear gQ hE OFH LE
      rcases hX with ⟨e0,rfl⟩ | ⟨e0,pp,SS,rfl,hS,hR⟩
      ·have t3:(E != 0)=true:=by simpa using e0
       have NF:Hid (¬ Fit f m):=fun t=>e0 (by
        have:=t.2
        rw [HE.out,HN.out] at this
        exact OE.out.one this)
       clear e0
       go_wp2_with fail
       go_ret2
       exact ⟨.inr ⟨NF.out,rfl⟩,GQ.out⟩
      ·subst e0
       have FT:Hid (Fit f m):=⟨⟨HD.out,A1.out,EO.out.1,EO.out.2,LVO.out.1,LVO.out.2,AL.out⟩,by rw [HE.out,HN.out];exact OE.out⟩
       have RS:Hid ((∀ q,SS q→w.heap.size≤q)∧HDoc wQ pp SS (numR f 4 8) (kF f) (vF f) (gF f) (nF f) (LF f)):=⟨fun q hq=>Nat.le_trans SQ.out (hS q hq),by rw [HE.out,HN.out];exact hR⟩
       clear hS hR
       go_wp2_with fail
       go_ret2
       exact ⟨.inl ⟨FT.out,pp,SS,rfl,RS.out.1,RS.out.2⟩,GQ.out⟩
     ·obtain ⟨mm,hmm⟩:∃ mm,m-lOff f (lO f) j=mm:=⟨_,rfl⟩
      have t0:((mm:Int) != 0)=true:=by simp;omega
      have t1:¬ mm=0:=by omega
      rw [hmm] at LE
      have NF:Hid (¬ Fit f m):=fun t=>al (by have:=t.1.all;rw [HH.out] at this;exact this)
      have FIN:Hid (Gw w wO):=GU.out _ UO.out
      clear OFH al up7 hmm
      go_wp2_with fail
      refine LE.out.mono ?_
      rintro e wP ⟨rfl,hw⟩
      subst hw
      go_wp2_with fail
      go_ret2
      exact ⟨.inr ⟨NF.out,rfl⟩,FIN.out⟩
end Go.Proofs.YtinefkljjnepjabGreat
