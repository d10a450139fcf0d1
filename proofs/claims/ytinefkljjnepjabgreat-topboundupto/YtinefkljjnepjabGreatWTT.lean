/- The tops' tools: of, firsts, below, sound, eps, laid. -/
import Derived.BigQuiet
import Derived.Deep.QuietTactic
import Derived.Laws.StructEq
import Derived.Test.YtinefkljjnepjabGreatWPBs
import Derived.Test.YtinefkljjnepjabGreatWPE3
import Derived.Test.YtinefkljjnepjabGreatWPRd
namespace Go.Proofs.YtinefkljjnepjabGreat
open Go.RowKit
set_option linter.unusedVariables false
attribute [local go_sem] run_store_float
set_option maxHeartbeats 2000000 in
theorem tfirsts_any (ao:Option Addr) (c:Nat) (l:List Sg) (hl:l.length≤4000000) (w:World) (h:GS w ao l) :
  Calls Tryz.prog 51 #[.slice ao l.length c] w fun e w'=>(∃ b cap,e=.returned (.slice (some ⟨b,0,none⟩) l.length cap)∧w.heap.size≤b∧l.length≤cap∧KS w' (some ⟨b,0,none⟩) l.length (fst8 l))∧Gw w w':=by
 have HG:Aside (GS w ao l):=h
 clear h
 obtain ⟨n,hn⟩:∃ n,l.length=n:=⟨_,rfl⟩
 have LN:Aside (l.length=n):=hn
 rw [hn] at hl
 rw [hn]
 clear hn
 obtain ⟨ii,hii,hz,hs,hby⟩:=info_parts info_k
 have R3:Aside ((w.alloc (.cells #[] 37)).ownsRow w.heap.size 37 1 (.slice (some ⟨w.heap.size,0,none⟩) 0 0) 0 ((List.range 0).map fun j=>Value.int .u64 (fst8 l j))):=World.ownsRow_made w #[] 0 (Nat.le_refl _) (Nat.zero_le _) rfl
 have G3:Aside (Gw w (w.alloc (.cells #[] 37))):=(Gw.refl w).alloc _ _
 have B3:Aside (w.heap.size≤w.heap.size):=Nat.le_refl _
 go_enter Tryz.func51,Tryz.ntmps51
 go_wp2_with fail
 generalize w.alloc (.cells #[] 37)=w3 at R3 G3 ⊢
 go_loopg [3,4] n (fun gg s3 s4 wr=>∃ i b cap:Nat,s3=.slice (some ⟨b,0,none⟩) i cap∧s4=.int .i64 i∧i≤n∧n-i≤gg∧Aside (w.heap.size≤b)∧Aside (wr.ownsRow w.heap.size 37 1 (.slice (some ⟨b,0,none⟩) i cap) i ((List.range i).map fun j=>Value.int .u64 (fst8 l j)))∧Aside (Gw w wr))
 case atStart=>exact ⟨0,w.heap.size,0,rfl,rfl,Nat.zero_le _,by omega,B3,R3,G3⟩
 case round =>
  clear R3 G3 B3
  obtain ⟨i,b,cap,rfl,rfl,h1,h2,BW,R,G⟩:=hrel
  by_cases hlt:i<n
  ·obtain ⟨bk,off,rfl,hbk,hc⟩:=(HG.out.gw G.out).cells (by rw [LN.out];omega)
   have q1:=(hc i (by rw [LN.out];exact hlt)).c0
   obtain ⟨fi,hfi⟩:∃ y,fst8 l i=y:=⟨_,rfl⟩
   have FI:Aside (fst8 l i=fi):=hfi
   have q2:wr.cell? ⟨bk,off+i*5,none⟩=some (.int .u64 fi):=by rw [←hfi];exact q1
   clear hc hfi q1
   have z0:=G.out.size
   go_wp2_with (at_builtin;refine wpList_append_own _ rfl _ _ 44 rfl w.heap.size 37 ii (.int .u64 0) 1 8 Tryz.underlying44 hii hz hs hby rfl (by decide) _ i _ rfl (R.out.alloc _) ⟨wr.heap.size,0,none⟩ 1 1 [.int .u64 fi] rfl rfl (new_one wr fi) (ints_oneCell .u64 [fi]) (by simp only [maxLen];omega) (by omega) (by simp;omega) ?_)
   intro v' w5 r1' r2' r3'
   obtain ⟨b5,cap5,rfl,hb5,_,_⟩:=own_slice r1' (by simpa using r3')
   have R5:Aside (w5.ownsRow w.heap.size 37 1 (.slice (some ⟨b5,0,none⟩) (i+1) cap5) (i+1) ((List.range (i+1)).map fun j=>Value.int .u64 (fst8 l j))):=by
    have:=r1'
    rw [←FI.out] at this
    rw [List.range_succ,List.map_append]
    exact this
   have G5:Aside (Gw w w5):=(G.out.alloc _ _).grown r2' (fun k hk=>by cases hk;exact BW.out)
   have B5:Aside (w.heap.size≤b5):=hb5
   clear r1' r2' r3' R G BW hb5 q2 FI
   go_wp2_with fail
   go_roundg (n-(i+1))
   case measure=>omega
   case rel=>exact ⟨i+1,b5,cap5,rfl,by go_num,by omega,Nat.le_refl _,B5,R5,G5⟩
  ·have ei:i=n:=by omega
   subst ei
   have K4:Aside (KS wr (some ⟨b,0,none⟩) i (fst8 l)):=ks_own R.out (Nat.le_refl _) (fun j hj=>by simp [hj]) (fun j hj=>fst8_ok HG.out j (by rw [LN.out];exact hj))
   obtain ⟨_,_,ev,_,ic,_⟩:=own_slice R.out (by simp)
   cases ev
   clear R
   go_wp2_with fail
   go_ret
   exact ⟨⟨b,cap,rfl,BW.out,ic,K4.out⟩,G.out⟩
set_option maxHeartbeats 2000000 in
theorem tof_any (ao:Option Addr) (n c:Nat) (k v:Nat→Int) (g:Nat→Bool) (hl:n≤4000000) (w:World) (h:ES w ao n k v g) :
  Calls Tryz.prog 47 #[.slice ao n c] w fun e w'=>(∃ b cap,e=.returned (.slice (some ⟨b,0,none⟩) n cap)∧w.heap.size≤b∧n≤cap∧KS w' (some ⟨b,0,none⟩) n (k))∧Gw w w':=by
 have HG:Aside (ES w ao n k v g):=h
 clear h
 obtain ⟨ii,hii,hz,hs,hby⟩:=info_parts info_k
 have R3:Aside ((w.alloc (.cells #[] 37)).ownsRow w.heap.size 37 1 (.slice (some ⟨w.heap.size,0,none⟩) 0 0) 0 ((List.range 0).map fun j=>Value.int .u64 (k j))):=World.ownsRow_made w #[] 0 (Nat.le_refl _) (Nat.zero_le _) rfl
 have G3:Aside (Gw w (w.alloc (.cells #[] 37))):=(Gw.refl w).alloc _ _
 have B3:Aside (w.heap.size≤w.heap.size):=Nat.le_refl _
 go_enter Tryz.func47,Tryz.ntmps47
 go_wp2_with fail
 generalize w.alloc (.cells #[] 37)=w3 at R3 G3 ⊢
 go_loopg [3,4] n (fun gg s3 s4 wr=>∃ i b cap:Nat,s3=.slice (some ⟨b,0,none⟩) i cap∧s4=.int .i64 i∧i≤n∧n-i≤gg∧Aside (w.heap.size≤b)∧Aside (wr.ownsRow w.heap.size 37 1 (.slice (some ⟨b,0,none⟩) i cap) i ((List.range i).map fun j=>Value.int .u64 (k j)))∧Aside (Gw w wr))
 case atStart=>exact ⟨0,w.heap.size,0,rfl,rfl,Nat.zero_le _,by omega,B3,R3,G3⟩
 case round =>
  clear R3 G3 B3
  obtain ⟨i,b,cap,rfl,rfl,h1,h2,BW,R,G⟩:=hrel
  by_cases hlt:i<n
  ·obtain ⟨bk,off,rfl,hbk,hc⟩:=(HG.out.gw G.out).cells (by omega)
   have q1:=(hc i hlt).1
   obtain ⟨fi,hfi⟩:∃ y,k i=y:=⟨_,rfl⟩
   have FI:Aside (k i=fi):=hfi
   have q2:wr.cell? ⟨bk,off+i*3,none⟩=some (.int .u64 fi):=by rw [←hfi];exact q1
   clear hc hfi q1
   have z0:=G.out.size
   go_wp2_with (at_builtin;refine wpList_append_own _ rfl _ _ 44 rfl w.heap.size 37 ii (.int .u64 0) 1 8 Tryz.underlying44 hii hz hs hby rfl (by decide) _ i _ rfl (R.out.alloc _) ⟨wr.heap.size,0,none⟩ 1 1 [.int .u64 fi] rfl rfl (new_one wr fi) (ints_oneCell .u64 [fi]) (by simp only [maxLen];omega) (by omega) (by simp;omega) ?_)
   intro v' w5 r1' r2' r3'
   obtain ⟨b5,cap5,rfl,hb5,_,_⟩:=own_slice r1' (by simpa using r3')
   have R5:Aside (w5.ownsRow w.heap.size 37 1 (.slice (some ⟨b5,0,none⟩) (i+1) cap5) (i+1) ((List.range (i+1)).map fun j=>Value.int .u64 (k j))):=by
    have:=r1'
    rw [←FI.out] at this
    rw [List.range_succ,List.map_append]
    exact this
   have G5:Aside (Gw w w5):=(G.out.alloc _ _).grown r2' (fun k hk=>by cases hk;exact BW.out)
   have B5:Aside (w.heap.size≤b5):=hb5
   clear r1' r2' r3' R G BW hb5 q2 FI
   go_wp2_with fail
   go_roundg (n-(i+1))
   case measure=>omega
   case rel=>exact ⟨i+1,b5,cap5,rfl,by go_num,by omega,Nat.le_refl _,B5,R5,G5⟩
  ·have ei:i=n:=by omega
   subst ei
   have K4:Aside (KS wr (some ⟨b,0,none⟩) i (k)):=ks_own R.out (Nat.le_refl _) (fun j hj=>by simp [hj]) (fun j hj=>(HG.out.bd j hj).1)
   obtain ⟨_,_,ev,_,ic,_⟩:=own_slice R.out (by simp)
   cases ev
   clear R
   go_wp2_with fail
   go_ret
   exact ⟨⟨b,cap,rfl,BW.out,ic,K4.out⟩,G.out⟩
theorem teps_any (x:Int) (w:World):Calls Tryz.prog 15 #[.int .i64 x] w fun e w'=>e=.returned (.bool (decide (2≤x∧x≤64)))∧w'=w:=by
 by_cases h1:2≤x
 ·have t1:decide (2≤x)=true:=by simpa using h1
  by_cases h2:x≤64
  ·have t2:decide (x≤64)=true:=by simpa using h2
   rw [decide_eq_true (p:=2≤x∧x≤64) ⟨h1,h2⟩]
   clear h1 h2
   go_enter Tryz.func15,Tryz.ntmps15
   go_wp2_with fail
   go_ret
   exact ⟨rfl,rfl⟩
  ·have t2:decide (x≤64)=false:=by simpa using h2
   rw [decide_eq_false (p:=2≤x∧x≤64) (fun q=>h2 q.2)]
   clear h1 h2
   go_enter Tryz.func15,Tryz.ntmps15
   go_wp2_with fail
   go_ret
   exact ⟨rfl,rfl⟩
 ·have t1:decide (2≤x)=false:=by simpa using h1
  rw [decide_eq_false (p:=2≤x∧x≤64) (fun q=>h1 q.1)]
  clear h1
  go_enter Tryz.func15,Tryz.ntmps15
  go_wp2_with fail
  go_ret
  exact ⟨rfl,rfl⟩
set_option maxHeartbeats 2000000 in
theorem tbelow_any (ao:Option Addr) (n c:Nat) (f:Nat→Int) (q:Int) (hn:n≤4000000) (u:Up f n) (w:World) (h:KS w ao n f) :
  Calls Tryz.prog 49 #[.slice ao n c, .int .u64 q] w fun e w'=>e=.returned (.tuple #[.int .i64 ((cntb f q n:Nat):Int), .bool (decide (cntb f q n<n∧f (cntb f q n)=q))])∧Gw w w':=by
 have cu:=cntb_up u q n (Nat.le_refl _)
 have cl:=cntb_le f q n
 obtain ⟨cc,hcc⟩:∃ c,cntb f q n=c:=⟨_,rfl⟩
 rw [hcc] at cu cl ⊢
 have CU:Aside ((∀ i,i<cc→f i<q)∧∀ i,cc≤i→i<n→q≤f i):=cu
 have HK:Aside (KS w ao n f):=h
 clear cu hcc u h
 go_enter Tryz.func49,Tryz.ntmps49
 go_wp2_with fail
 go_loopg [6] cc (fun gg s wr=>∃ x:Nat,s=.int .i64 (x:Int)∧x≤cc∧cc-x≤gg∧wr=w)
 case atStart=>exact ⟨0,rfl,Nat.zero_le _,by omega,rfl⟩
 case round =>
  obtain ⟨x,rfl,b1,b2,rfl⟩:=hrel
  by_cases xlt:x<cc
  ·have xn':(x:Int)<(n:Int):=by omega
   obtain ⟨lb,loff,rfl,hlb,hlc⟩:=HK.out.cells (by omega)
   have kc:=hlc x (by omega)
   have kl:=CU.out.1 x xlt
   clear hlc
   generalize f x=kx at kc kl
   go_wp2_with fail
   go_roundg (cc-(x+1))
   case measure=>omega
   case rel=>exact ⟨x+1,by go_num,by omega,Nat.le_refl _,rfl⟩
  ·have ex:x=cc:=by omega
   subst ex
   by_cases xn:x<n
   ·have xn':(x:Int)<(n:Int):=by omega
    obtain ⟨lb,loff,rfl,hlb,hlc⟩:=HK.out.cells (by omega)
    have kc:=hlc x xn
    have kl:¬ f x<q:=by have:=CU.out.2 x (Nat.le_refl _) xn;omega
    have tt:Aside ((f x == q)=decide (x<n∧f x=q)):=by
     show _=_
     rw [Bool.eq_iff_iff]
     simp [xn]
    clear hlc
    obtain ⟨tb,htb⟩:∃ t:Bool,(f x == q)=t:=⟨_,rfl⟩
    have TB:Aside (tb=decide (x<n∧f x=q)):=by rw [←htb];exact tt.out
    generalize f x=kx at kc kl htb
    go_wp2_with fail
    go_quiet (fail)
    go_wp2_with fail
    refine bodyPost_ret (v:=.tuple #[.int .i64 (x:Int), .bool tb]) (by simp [results,Tryz.results49,go_sem]) rfl ⟨by rw [TB.out],(Gw.refl _).drewN _⟩
   ·have xn':¬ (x:Int)<(n:Int):=by omega
    have tt:Aside (decide (x<n∧f x=q)=false):=decide_eq_false fun e=>xn e.1
    go_wp2_with fail
    go_quiet (fail)
    go_wp2_with fail
    refine bodyPost_ret (v:=.tuple #[.int .i64 (x:Int), .bool false]) (by simp [results,Tryz.results49,go_sem]) rfl ⟨by rw [tt.out],(Gw.refl _).drewN _⟩
set_option maxHeartbeats 2000000 in
theorem tsound_any (ao:Option Addr) (n c:Nat) (k v:Nat→Int) (g:Nat→Bool) (hn:n≤4000000) (w:World) (h:ES w ao n k v g) :
  Calls Tryz.prog 16 #[.slice ao n c] w fun e w'=>(∃ b:Bool,e=.returned (.bool b)∧(b=true↔ChkR k v g n 0))∧Gw w w':=by
 go_enter Tryz.func16,Tryz.ntmps16
 go_wp2_with fail
 refine Calls.mono (rcheck3_any ao n c k v g (by omega) w h) ?_
 rintro e w1 ⟨⟨r,rfl,hr⟩,g1⟩
 have HR:Aside (ChkR k v g n r):=hr
 clear hr
 obtain ⟨tb,htb⟩:∃ t:Bool,(r == 0)=t:=⟨_,rfl⟩
 have TB:Aside (tb=true↔ChkR k v g n 0):=by
  show _↔_
  rw [←htb]
  refine ⟨fun e=>?_,fun e=>?_⟩
  ·have e0:r=0:=by simpa using e
   rw [←e0]
   exact HR.out
  ·simpa using HR.out.one e
 go_wp2_with fail
 go_ret
 exact ⟨⟨tb,rfl,TB.out⟩,g1⟩
def k4 (i:Nat):Int:=if i=0 then 3 else if i=1 then 5 else if i=2 then 9 else 12
def v4 (i:Nat):Int:=if i=0 then 1 else if i=1 then 0 else if i=2 then 2 else 3
def g4 (i:Nat):Bool:=decide (i=1)
theorem k4_up:Up k4 4:=fun j hj=>by
 have:j=0∨j=1∨j=2:=by omega
 rcases this with rfl | rfl | rfl<;>decide
theorem k4_fits (m:Nat) (hm:m≤4):FitsOn 1 k4 (Prs m):=by
 intro i j i' j' a b
 have a1:=a.1
 have a2:=a.2
 have b1:=b.1
 have b2:=b.2
 have key:∀ i j i' j':Fin 4,((j.val:Int)-i.val-2*1)*(k4 j'.val-k4 i'.val)≤((j'.val:Int)-i'.val+2*1)*(k4 j.val-k4 i.val)∨¬ i.val<j.val∨¬ i'.val<j'.val:=by decide +kernel
 rcases key ⟨i,by omega⟩ ⟨j,by omega⟩ ⟨i',by omega⟩ ⟨j',by omega⟩ with h | h | h
 ·exact h
 ·exact absurd (show i<j by omega) h
 ·exact absurd (show i'<j' by omega) h
theorem k4_build:∀ {L:List (List Sg)},BuildR 2 k4 4 L→L.length=1
 | [],h=>absurd h (by unfold BuildR;decide)
 | []::r,h=>absurd h.2.1 (by unfold LvlAt;decide)
 | (s::l)::r,h=>by
  obtain ⟨_,⟨j,⟨h1,h2,h3,h4⟩,_,lv⟩,x⟩:=h
  have ej:j=4:=by
   refine Nat.le_antisymm h2 (Nat.le_of_not_lt fun hj=>h4 hj ?_)
   have e:sh k4 0=k4:=by funext t;unfold sh;rw [Nat.zero_add]
   rw [e]
   exact k4_fits _ (by omega)
  subst ej
  have el:l=[]:=by
   cases l with
   | nil=>rfl
   | cons s' l' =>
    obtain ⟨j',⟨y1,y2,_⟩,_⟩:=lv
    omega
  subst el
  rw [if_pos (show [s].length=1 from rfl)] at x
  subst x
  rfl
theorem k4_gone (j:Nat) (x:g4 j=true∧v4 j≠0):False:=by
 have e:j=1:=by simpa [g4] using x.1
 subst e
 exact x.2 rfl
theorem k4_ok:NewE 2 k4 v4 g4 4 0:=.inr ⟨by decide,ChkR.ok k4_up (fun j _ x=>k4_gone j x)⟩
theorem es_four (w:World):ES (w.alloc (.cells #[.int .u64 3, .int .u64 1, .bool false, .int .u64 5, .int .u64 0, .bool true, .int .u64 9, .int .u64 2, .bool false, .int .u64 12, .int .u64 3, .bool false] 39)) (some ⟨w.heap.size,0,none⟩) 4 k4 v4 g4:=by
 refine ⟨fun _=>⟨w.heap.size,0,rfl,by simp,fun i hi=>?_⟩,fun i hi=>⟨by unfold k4;repeat (first | split | omega),by unfold v4;repeat (first | split | omega)⟩⟩
 match i,hi with
 | 0,_=>simp [go_sem,k4,v4,g4]
 | 1,_=>simp [go_sem,k4,v4,g4]
 | 2,_=>simp [go_sem,k4,v4,g4]
 | 3,_=>simp [go_sem,k4,v4,g4]
theorem k4_q9:getV k4 v4 g4 4 9=(.agg #[.int .u64 9, .int .u64 2, .bool false],true):=by
 have c:cntb k4 9 4=2:=by decide +kernel
 unfold getV
 rw [c,if_pos (by decide +kernel)]
 rfl
set_option maxRecDepth 10000 in
set_option maxHeartbeats 4000000 in
theorem laid_any {HR:World→Nat→(Nat→Prop)→Int→(Nat→Int)→(Nat→Int)→(Nat→Bool)→Nat→List (List Sg)→Prop} (H:RunC HR) (w:World):Calls Tryz.prog 13 #[] w fun e w'=>e=.returned (.bool true)∧Gw w w':=by
 have HH:Aside (RunC HR):=H
 clear H
 have E1:Aside (ES (w.alloc (.cells #[.int .u64 3, .int .u64 1, .bool false, .int .u64 5, .int .u64 0, .bool true, .int .u64 9, .int .u64 2, .bool false, .int .u64 12, .int .u64 3, .bool false] 39)) (some ⟨w.heap.size,0,none⟩) 4 k4 v4 g4):=es_four w
 have G1:Aside (Gw w (w.alloc (.cells #[.int .u64 3, .int .u64 1, .bool false, .int .u64 5, .int .u64 0, .bool true, .int .u64 9, .int .u64 2, .bool false, .int .u64 12, .int .u64 3, .bool false] 39))):=(Gw.refl w).alloc _ _
 go_enter Tryz.func13,Tryz.ntmps13
 go_wp2_with fail
 generalize w.alloc (.cells #[.int .u64 3, .int .u64 1, .bool false, .int .u64 5, .int .u64 0, .bool true, .int .u64 9, .int .u64 2, .bool false, .int .u64 12, .int .u64 3, .bool false] 39)=w1 at E1 G1 ⊢
 refine Calls.mono (HH.out.new 2 _ 4 4 k4 v4 g4 (by decide) (by decide) (by decide) (by decide) (by simp) w1 E1.out) ?_
 rintro e w2 ⟨⟨E,ne,x⟩,g2⟩
 have e0:=ne.one k4_ok
 subst e0
 rcases x with ⟨x,_⟩ | ⟨_,p,S,L,rfl,hS,br,hr⟩
 ·exact absurd rfl x
 have eL:=k4_build br
 have R2:Aside (HR w2 p S 2 k4 v4 g4 4 L):=hr
 have G2:Aside (Gw w w2):=G1.out.trans g2
 have Q9:Hid (Calls Tryz.prog 11 #[.pointer (some ⟨p,0,none⟩), .int .u64 9] w2 fun e w'=>e=.returned (.tuple #[.agg #[.int .u64 9, .int .u64 2, .bool false], .bool true])∧Gw w2 w'):=by
  have:=HH.out.get hr 9 (by decide) (by decide)
  rw [k4_q9] at this
  exact this
 have Q10:Hid (∀ W,Gw w2 W→Calls Tryz.prog 12 #[.pointer (some ⟨p,0,none⟩), .int .u64 10] W fun e w'=>e=.returned (.int .i64 3)∧Gw W w'):=fun W gg=>by
  have c:cntb k4 10 4=3:=by decide +kernel
  have:=HH.out.rank (HH.out.gw R2.out gg) 10 (by decide) (by decide)
  rw [c] at this
  exact this
 obtain ⟨pp,Sp,cp,hp,_⟩:=HH.out.pile hr
 have pl:p<w2.heap.size:=HH.out.lt hr p (HH.out.own hr)
 have HT:Hid (∀ W,Gw w2 W→Calls Tryz.prog 28 #[.pointer (some ⟨pp,0,none⟩)] W fun e w'=>e=.returned (.int .i64 1)∧w'=W):=fun W gg=>by
  have:=pl_height (hp.keep fun q hq=>gg.below.block q (hp.lt q hq))
  rw [eL] at this
  exact this
 have CP:Hid (∀ W,Gw w2 W→W.cell? ⟨p,0,none⟩=some (.pointer (some ⟨pp,0,none⟩))∧p<W.heap.size):=fun W gg=>⟨(gg.cell _ _ pl).trans cp,Nat.lt_of_lt_of_le pl gg.size⟩
 clear g2 ne hS br hr E1 G1 cp pl hp eL
 go_wp2_with fail
 refine Calls.mono Q9.out ?_
 rintro e w3 ⟨rfl,g3⟩
 have G4:Aside (Gw w2 (w3.alloc (.cells #[.int .u64 9, .int .u64 2, .bool false] 39))):=g3.alloc _ _
 go_wp2_with fail
 refine Calls.mono (Q10.out _ G4.out) ?_
 rintro e w5 ⟨rfl,g5⟩
 obtain ⟨c0,l0⟩:=CP.out _ (G4.out.trans g5)
 go_wp2_with fail
 refine Calls.mono (HT.out _ (G4.out.trans g5)) ?_
 rintro e w6 ⟨rfl,e6⟩
 have e7:=e6.symm
 subst e7
 go_wp2_with fail
 go_ret
 exact ⟨rfl,(G2.out.trans G4.out).trans g5⟩
end Go.Proofs.YtinefkljjnepjabGreat
