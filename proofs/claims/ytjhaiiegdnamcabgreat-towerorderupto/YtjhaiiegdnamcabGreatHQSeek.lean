/- Package buffer: an entry is found by the library's halving. -/
import Derived.Deep.LoopGhost
import Derived.Deep.RegionHeld3
import Derived.Test.YtjhaiiegdnamcabGreatHPMem
namespace Go.Proofs.YtjhaiiegdnamcabGreat
open Go.RowKit
set_option linter.unusedVariables false
def cmp3 (a b:Int):Int:=if a<b then -1 else if b<a then 1 else 0
theorem cmp3_lt (a b:Int):cmp3 a b<0↔a<b:=by unfold cmp3;split<;>(try split)<;>omega
theorem cmp3_eq (a b:Int):cmp3 a b=0↔a=b:=by unfold cmp3;split<;>(try split)<;>omega
theorem cnan14 (x:Int) (w:World):Calls Tryz.prog 187 #[.int .u64 x] w fun e w'=>e=.returned (.bool false)∧w'=w:=by
 go_enter Tryz.func187,Tryz.ntmps187
 go_wp2
 go_ret
 exact ⟨by simp,rfl⟩
theorem ccmp14 (x y:Int) (w:World):Calls Tryz.prog 165 #[.int .u64 x, .int .u64 y] w fun e w'=>e=.returned (.int .i64 (cmp3 x y))∧w'=w:=by
 rcases Int.lt_trichotomy x y with h | h | h
 ·have H:Aside (cmp3 x y=-1):=by show _=_;unfold cmp3;rw [if_pos h]
  have t1:decide (x<y)=true:=by simpa using h
  clear h
  go_enter Tryz.func165,Tryz.ntmps165
  go_wp2_with (go_at_call 187;refine (cnan14 _ _).mono ?_;rintro e w' ⟨rfl,rfl⟩)
  go_ret
  exact ⟨by rw [H.out];rfl,rfl⟩
 ·have H:Aside (cmp3 x y=0):=by show _=_;unfold cmp3;rw [if_neg (by omega),if_neg (by omega)]
  have t1:decide (x<y)=false:=by simp;omega
  have t2:decide (y<x)=false:=by simp;omega
  clear h
  go_enter Tryz.func165,Tryz.ntmps165
  go_wp2_with (go_at_call 187;refine (cnan14 _ _).mono ?_;rintro e w' ⟨rfl,rfl⟩)
  go_ret
  exact ⟨by rw [H.out];rfl,rfl⟩
 ·have H:Aside (cmp3 x y=1):=by show _=_;unfold cmp3;rw [if_neg (by omega),if_pos h]
  have t1:decide (x<y)=false:=by simp;omega
  have t2:decide (y<x)=true:=by simpa using h
  clear h
  go_enter Tryz.func165,Tryz.ntmps165
  go_wp2_with (go_at_call 187;refine (cnan14 _ _).mono ?_;rintro e w' ⟨rfl,rfl⟩)
  go_ret
  exact ⟨by rw [H.out];rfl,rfl⟩
theorem comp14 (k v:Int) (g:Bool) (y:Int) (w:World):Calls Tryz.prog 144 #[.agg #[.int .u64 k, .int .u64 v, .bool g], .int .u64 y] w fun e w'=>e=.returned (.int .i64 (cmp3 k y))∧Gw w w':=by
 have CM:Hid (∀ W,Calls Tryz.prog 165 #[.int .u64 k, .int .u64 y] W fun e w'=>e=.returned (.int .i64 (cmp3 k y))∧w'=W):=fun W=>ccmp14 k y W
 generalize cmp3 k y=c at CM ⊢
 go_enter Tryz.func144,Tryz.ntmps144
 go_wp2_with fail
 refine (CM.out _).mono ?_
 rintro e w' ⟨rfl,rfl⟩
 go_wp2_with fail
 go_ret
 exact ⟨rfl,(Gw.refl w).alloc _ _⟩
set_option maxHeartbeats 4000000 in
set_option maxRecDepth 100000 in
theorem bsf14 (ao:Option Addr) (c:Nat) (l:List Ent) (x:Int) (hn:l.length≤4000000) (w:World) (h:EL w ao l) (r:Rise Ent.k l) :
  Calls Tryz.prog 143 #[.slice ao l.length c, .int .u64 x, .func (.func 144) #[] #[]] w fun e w'=>e=.returned (.tuple #[.int .i64 (plc Ent.k x l:Int), .bool (look Ent.k x l).isSome])∧Gw w w':=by
 have HE:Aside (EL w ao l):=h
 have R:Aside (Rise Ent.k l):=r
 obtain ⟨n,hln⟩:∃ n,l.length=n:=⟨_,rfl⟩
 have LN:Aside (l.length=n):=hln
 rw [hln] at hn ⊢
 have FIN:Hid (∀ (i:Nat) (t:Bool),i≤n→(∀ j y,j<i→l[j]?=some y→y.k<x)→(∀ y,l[i]?=some y→x≤y.k)→(t=true↔∃ y,l[i]?=some y∧y.k=x)→plc Ent.k x l=i∧(look Ent.k x l).isSome=t):=fun i t hi h1 h2 h3=>by
  have e:=plc_one (key:=Ent.k) (k:=x) (l:=l) (i:=i) (by rw [LN.out];exact hi) h1 (fun y hy=>by have:=h2 y hy;omega)
  refine ⟨e,?_⟩
  cases t with
  | true =>
   obtain ⟨y,hy,hk⟩:=h3.1 rfl
   rw [plc_there R.out (by rw [e];exact hy) hk];rfl
  | false =>
   rw [plc_absent R.out (fun y hy hk=>by rw [e] at hy;exact Bool.noConfusion (h3.2 ⟨y,hy,hk⟩))];rfl
 have ENT:∀ (args:Array Value) (W:World),(callFunc 144 args).run Tryz.prog W=.ok (.enter 144 args) W:=fun args W=>rfl
 have CELL:Hid (∀ (i:Nat) (W:World),i<n→Gw w W→∃ (b off:Nat) (y:Ent),ao=some ⟨b,off,none⟩∧l[i]?=some y∧W.cell? ⟨b,off+i*3,none⟩=some (.int .u64 y.k)∧W.cell? ⟨b,off+i*3+1,none⟩=some (.int .u64 y.v)∧W.cell? ⟨b,off+i*3+2,none⟩=some (.bool y.g)):=fun i W hi g=>by
  have hi':i<l.length:=by rw [LN.out];exact hi
  obtain ⟨b,off,e,_,hc⟩:=(HE.out.gw g).cells (by omega)
  obtain ⟨c0,c1,c2⟩:=hc i hi'
  refine ⟨b,off,l.getD i ent0,e,by simp [List.getD,hi'],c0,c1,c2⟩
 have UPW:Hid (∀ (i j:Nat) (y z:Ent),i≤j→l[i]?=some y→l[j]?=some z→y.k≤z.k):=fun i j y z hij hy hz=>by
  obtain ⟨i1,i2⟩:=List.getElem?_eq_some_iff.1 hy
  obtain ⟨j1,j2⟩:=List.getElem?_eq_some_iff.1 hz
  by_cases e:i=j
  ·subst e;rw [hy] at hz;cases hz;exact Int.le_refl _
  ·have:=(List.pairwise_iff_getElem.1 R.out) i j i1 j1 (by omega)
   rw [i2,j2] at this
   omega
 clear h r hln
 go_enter Tryz.func143,Tryz.ntmps143
 go_wp2_with fail
 go_loopg [9,10] n (fun gg s7 s8 wr=>∃ lo hi:Nat,s7=.int .i64 lo∧s8=.int .i64 hi∧lo≤hi∧hi≤n∧hi-lo≤gg∧Aside ((∀ j y,j<lo→l[j]?=some y→y.k<x)∧(∀ j y,hi≤j→l[j]?=some y→x≤y.k))∧Aside (Gw w wr))
 case atStart=>exact ⟨0,n,rfl,rfl,Nat.zero_le _,Nat.le_refl _,by omega,⟨fun j y hj=>by omega,fun j y h1 h2=>by have:=(List.getElem?_eq_some_iff.1 h2).1;have:=LN.out;omega⟩,Gw.refl w⟩
 case round =>
  obtain ⟨lo,hi,rfl,rfl,hlh,hin,hg,I,G⟩:=hrel
  by_cases hlt:lo<hi
  ·obtain ⟨b,off,y,e,hy,c0,c1,c2⟩:=CELL.out ((lo+hi)/2) wr (by omega) G.out
   subst e
   obtain ⟨yk,yv,yg⟩:=y
   have Y:Aside (l[(lo+hi)/2]?=some ⟨yk,yv,yg⟩):=hy
   have c0':wr.cell? ⟨b,off+(lo+hi)/2*3,none⟩=some (.int .u64 yk):=c0
   have c1':wr.cell? ⟨b,off+(lo+hi)/2*3+1,none⟩=some (.int .u64 yv):=c1
   have c2':wr.cell? ⟨b,off+(lo+hi)/2*3+2,none⟩=some (.bool yg):=c2
   clear hy c0 c1 c2
   by_cases hyx:yk<x
   ·have t1:decide (cmp3 yk x<0)=true:=by simpa [cmp3_lt] using hyx
    have CC:Hid (∀ W,Calls Tryz.prog 144 #[.agg #[.int .u64 yk, .int .u64 yv, .bool yg], .int .u64 x] W fun e w'=>e=.returned (.int .i64 (cmp3 yk x))∧Gw W w'):=fun W=>comp14 yk yv yg x W
    have HX:Aside (yk<x):=hyx
    clear hyx ENT
    generalize cmp3 yk x=cc at t1 CC
    go_wp2_with fail
    refine (CC.out _).mono ?_
    rintro e w' ⟨rfl,gg'⟩
    have G':Aside (Gw w w'):=G.out.trans gg'
    clear gg' CC
    go_wp2_with fail
    go_roundg (hi-((lo+hi)/2+1))
    case measure=>omega
    case rel =>
     refine ⟨(lo+hi)/2+1,hi,by rw [show ((lo:Int)+(hi:Int))/2+1=(((lo+hi)/2+1:Nat):Int) by omega],rfl,by omega,hin,Nat.le_refl _,(show Aside _ from ⟨fun j z hj hz=>?_,I.out.2⟩),G'.out⟩
     have:=UPW.out j ((lo+hi)/2) z _ (by omega) hz Y.out
     have hx:=HX.out
     simp at this
     omega
   ·have t1:decide (cmp3 yk x<0)=false:=by simpa [cmp3_lt] using hyx
    have CC:Hid (∀ W,Calls Tryz.prog 144 #[.agg #[.int .u64 yk, .int .u64 yv, .bool yg], .int .u64 x] W fun e w'=>e=.returned (.int .i64 (cmp3 yk x))∧Gw W w'):=fun W=>comp14 yk yv yg x W
    have HX:Aside (x≤yk):=by show _≤_;omega
    clear hyx ENT
    generalize cmp3 yk x=cc at t1 CC
    go_wp2_with fail
    refine (CC.out _).mono ?_
    rintro e w' ⟨rfl,gg'⟩
    have G':Aside (Gw w w'):=G.out.trans gg'
    clear gg' CC
    go_wp2_with fail
    go_roundg ((lo+hi)/2-lo)
    case measure=>omega
    case rel =>
     refine ⟨lo,(lo+hi)/2,rfl,by rw [show ((lo:Int)+(hi:Int))/2=(((lo+hi)/2:Nat):Int) by omega],by omega,by omega,Nat.le_refl _,(show Aside _ from ⟨I.out.1,fun j z hj hz=>?_⟩),G'.out⟩
     have:=UPW.out ((lo+hi)/2) j _ z hj Y.out hz
     have hx:=HX.out
     simp at this
     omega
  ·obtain rfl:hi=lo:=by omega
   by_cases hn':hi<n
   ·have hn2:(hi:Int)<(n:Int):=by omega
    obtain ⟨b,off,y,e,hy,c0,c1,c2⟩:=CELL.out hi wr hn' G.out
    subst e
    obtain ⟨yk,yv,yg⟩:=y
    have Y:Aside (l[hi]?=some ⟨yk,yv,yg⟩):=hy
    have c0':wr.cell? ⟨b,off+hi*3,none⟩=some (.int .u64 yk):=c0
    have c1':wr.cell? ⟨b,off+hi*3+1,none⟩=some (.int .u64 yv):=c1
    have c2':wr.cell? ⟨b,off+hi*3+2,none⟩=some (.bool yg):=c2
    clear hy c0 c1 c2
    have CC:Hid (∀ W,Calls Tryz.prog 144 #[.agg #[.int .u64 yk, .int .u64 yv, .bool yg], .int .u64 x] W fun e w'=>e=.returned (.int .i64 (cmp3 yk x))∧Gw W w'):=fun W=>comp14 yk yv yg x W
    by_cases hyx:yk=x
    ·have t1:(cmp3 yk x == 0)=true:=by simpa [cmp3_eq] using hyx
     obtain ⟨f1,f2⟩:=FIN.out hi true hin I.out.1 (fun y hy=>I.out.2 hi y (Nat.le_refl _) hy) ⟨fun _=>⟨_,Y.out,hyx⟩,fun _=>rfl⟩
     have F12:Aside (plc Ent.k x l=hi∧(look Ent.k x l).isSome=true):=⟨f1,f2⟩
     clear hyx f1 f2 ENT
     generalize cmp3 yk x=cc at t1 CC
     go_wp2_with fail
     refine (CC.out _).mono ?_
     rintro e w' ⟨rfl,gg'⟩
     have G':Aside (Gw w w'):=G.out.trans gg'
     clear gg' CC
     go_wp2_with fail
     go_ret2
     exact ⟨by rw [F12.out.1,F12.out.2];rfl,G'.out⟩
    ·have t1:(cmp3 yk x == 0)=false:=by simpa [cmp3_eq] using hyx
     obtain ⟨f1,f2⟩:=FIN.out hi false hin I.out.1 (fun y hy=>I.out.2 hi y (Nat.le_refl _) hy) ⟨fun q=>Bool.noConfusion q,fun ⟨z,hz,hk⟩=>by rw [Y.out] at hz;cases hz;exact absurd hk hyx⟩
     have F12:Aside (plc Ent.k x l=hi∧(look Ent.k x l).isSome=false):=⟨f1,f2⟩
     clear hyx f1 f2 ENT
     generalize cmp3 yk x=cc at t1 CC
     go_wp2_with fail
     refine (CC.out _).mono ?_
     rintro e w' ⟨rfl,gg'⟩
     have G':Aside (Gw w w'):=G.out.trans gg'
     clear gg' CC
     go_wp2_with fail
     go_ret2
     exact ⟨by rw [F12.out.1,F12.out.2];rfl,G'.out⟩
   ·have hn2:decide ((hi:Int)<(n:Int))=false:=by simp;omega
    obtain ⟨f1,f2⟩:=FIN.out hi false hin I.out.1 (fun y hy=>I.out.2 hi y (Nat.le_refl _) hy) ⟨fun q=>Bool.noConfusion q,fun ⟨z,hz,hk⟩=>by have:=(List.getElem?_eq_some_iff.1 hz).1;have:=LN.out;omega⟩
    have F12:Aside (plc Ent.k x l=hi∧(look Ent.k x l).isSome=false):=⟨f1,f2⟩
    clear f1 f2 ENT
    go_wp2_with fail
    go_ret2
    exact ⟨by rw [F12.out.1,F12.out.2];rfl,G.out⟩
set_option maxHeartbeats 1000000 in
theorem find14 (p:Nat) (S:Nat→Prop) (most:Int) (l:List Ent) (x:Int) (hn:l.length≤4000000) (w:World) (h:HB 151 w p S most l) :
  Calls Tryz.prog 122 #[.pointer (some ⟨p,0,none⟩), .int .u64 x] w fun e w'=>e=.returned (.tuple #[.int .i64 (plc Ent.k x l:Int), .bool (look Ent.k x l).isSome])∧Gw w w':=by
 obtain ⟨v,h1,h2,h3,h4⟩:=h.lies
 obtain ⟨bo,c,rfl,hc,_⟩:=eo_shape h2
 have c1:=blkc (o:=1) h1 rfl
 have BS:Hid (∀ W,Gw w W→Calls Tryz.prog 143 #[.slice bo l.length c, .int .u64 x, .func (.func 144) #[] #[]] W fun e w'=>e=.returned (.tuple #[.int .i64 (plc Ent.k x l:Int), .bool (look Ent.k x l).isSome])∧Gw W w'):=fun W g=>bsf14 bo c l x hn W ((eo_el h2 h.ok).gw g) h.rise
 generalize plc Ent.k x l=pp at BS ⊢
 generalize (look Ent.k x l).isSome=tt at BS ⊢
 generalize l.length=n at BS c1
 clear h h1 h2 h3 h4 hc hn
 go_enter Tryz.func122,Tryz.ntmps122
 go_wp2_with fail
 refine (BS.out _ (Gw.refl w)).mono ?_
 rintro e w' ⟨rfl,g⟩
 have G:Aside (Gw w w'):=g
 clear g BS
 go_wp2_with fail
 go_ret2
 exact ⟨rfl,G.out⟩
end Go.Proofs.YtjhaiiegdnamcabGreat
namespace Go.Proofs.YtjhaiiegdnamcabGreat
open Go.RowKit
set_option linter.unusedVariables false
theorem blk_set14 {w:World} {p o:Nat} {vs:Array Value} {t:TypeId} {v:Value} (h:w.heap[p]?=some (.cells vs t (0,0))):(w.setCell ⟨p,o,none⟩ v).heap[p]?=some (.cells (vs.setIfInBounds o v) t (0,0)):=by
 simp [World.setCell,Array.getElem?_modify,h]
theorem box3 {b:Nat} {w:World} {x y z:Value} {t:TypeId} (h:w.heap[b]?=some (.cells #[x,y,z] t (0,0))) (e:Ent):(((w.setCell ⟨b,0,none⟩ (.int .u64 e.k)).setCell ⟨b,1,none⟩ (.int .u64 e.v)).setCell ⟨b,2,none⟩ (.bool e.g)).cell? ⟨b,0,none⟩=some (.int .u64 e.k)∧(((w.setCell ⟨b,0,none⟩ (.int .u64 e.k)).setCell ⟨b,1,none⟩ (.int .u64 e.v)).setCell ⟨b,2,none⟩ (.bool e.g)).cell? ⟨b,1,none⟩=some (.int .u64 e.v)∧(((w.setCell ⟨b,0,none⟩ (.int .u64 e.k)).setCell ⟨b,1,none⟩ (.int .u64 e.v)).setCell ⟨b,2,none⟩ (.bool e.g)).cell? ⟨b,2,none⟩=some (.bool e.g):=by
 have h3:=blk_set14 (o:=2) (v:=.bool e.g) (blk_set14 (o:=1) (v:=.int .u64 e.v) (blk_set14 (o:=0) (v:=.int .u64 e.k) h))
 exact ⟨blkc h3 rfl,blkc h3 rfl,blkc h3 rfl⟩
theorem new14_ok (most:Int) (h1:1≤most) (h2:most≤4294967296) (w:World) :
  Calls Tryz.prog 89 #[.int .i64 most] w fun e w'=>(e=.returned (.tuple #[.pointer (some ⟨w.heap.size,0,none⟩), .int .i64 0])∧HB 151 w' w.heap.size (fun q=>q=w.heap.size) most [])∧Gw w w':=by
 have N:Aside (HB 151 (w.alloc (.cells #[.int .i64 most, .slice none 0 0] 151)) w.heap.size (fun q=>q=w.heap.size) most []):=HB.new _ w most (by omega)
 have t1:decide (most<1)=false:=by simp;omega
 have t2:decide (4294967296<most)=false:=by simp;omega
 clear h1 h2
 go_enter Tryz.func89,Tryz.ntmps89
 go_wp2_with fail
 go_ret2
 exact ⟨⟨rfl,N.out⟩,(Gw.refl w).alloc _ _⟩
theorem full14 (p:Nat) (S:Nat→Prop) (most:Int) (l:List Ent) (w:World) (h:HB 151 w p S most l) :
  Calls Tryz.prog 118 #[.pointer (some ⟨p,0,none⟩)] w fun e w'=>e=.returned (.bool ((l.length:Int) == most))∧Gw w w':=by
 obtain ⟨v,h1,h2,h3,h4⟩:=h.lies
 obtain ⟨bo,c,rfl,hc,_⟩:=eo_shape h2
 have c0:=blkc (o:=0) h1 rfl
 have c1:=blkc (o:=1) h1 rfl
 generalize l.length=n at c1 ⊢
 clear h h1 h2 h3 h4 hc
 go_enter Tryz.func118,Tryz.ntmps118
 go_wp2_with fail
 try go_quiet (fail)
 try go_wp2_with fail
 go_ret
 first | exact ⟨rfl,Gw.refl w⟩ | exact ⟨rfl,(Gw.refl w).drewN _⟩
theorem len14 (p:Nat) (S:Nat→Prop) (most:Int) (l:List Ent) (w:World) (h:HB 151 w p S most l) :
  Calls Tryz.prog 44 #[.pointer (some ⟨p,0,none⟩)] w fun e w'=>e=.returned (.int .i64 (l.length:Int))∧Gw w w':=by
 obtain ⟨v,h1,h2,h3,h4⟩:=h.lies
 obtain ⟨bo,c,rfl,hc,_⟩:=eo_shape h2
 have c1:=blkc (o:=1) h1 rfl
 generalize l.length=n at c1 ⊢
 clear h h1 h2 h3 h4 hc
 go_enter Tryz.func44,Tryz.ntmps44
 go_wp2_with fail
 go_ret
 exact ⟨rfl,Gw.refl w⟩
theorem empty14 (p:Nat) (S:Nat→Prop) (most:Int) (l:List Ent) (hm:0≤most) (w:World) (h:HB 151 w p S most l) :
  Calls Tryz.prog 119 #[.pointer (some ⟨p,0,none⟩)] w fun e w'=>(∃ v',e=.returned v'∧EO w' 0 v' l∧(∀ q,v'.ownBlock=some q→S q∧q≠p)∧HB 151 w' p (fun q=>q=p) most [])∧Gx S w w':=by
 obtain ⟨v,h1,h2,h3,h4⟩:=h.lies
 have c1:=blkc (o:=1) h1 rfl
 have f1:=blkf (o:=1) h1
 have hp:=blkl h1
 have FIN:Aside ((EO (w.setCell ⟨p,1,none⟩ (.slice none 0 0)) 0 v l∧(∀ q,v.ownBlock=some q→S q∧q≠p)∧HB 151 (w.setCell ⟨p,1,none⟩ (.slice none 0 0)) p (fun q=>q=p) most [])∧Gx S w (w.setCell ⟨p,1,none⟩ (.slice none 0 0))):=by
  refine ⟨⟨eo_keep h2 fun q hq=>Go.Deep.blk_setCell_other _ _ _ _ (h3 q hq),fun q hq=>⟨(h4 q).2 (.inr hq),h3 q hq⟩,⟨⟨.slice none 0 0,?_,World.ownsRow_nil _ _ _ _,(fun q e=>by cases e),fun q=>⟨fun e=>.inl e,fun e=>e.elim id (fun x=>by cases x)⟩⟩,List.Pairwise.nil,(fun e he=>by cases he),by simpa using hm⟩⟩,(Gx.refl S w).set (.inl h.own) _ _⟩
  rw [blk_set14 h1];rfl
 obtain ⟨bo,c,rfl,hc,_⟩:=eo_shape h2
 generalize l.length=n at c1 FIN
 clear h h1 h2 h3 h4 hc
 go_enter Tryz.func119,Tryz.ntmps119
 go_wp2_with fail
 go_ret
 exact ⟨⟨_,rfl,FIN.out.1⟩,FIN.out.2⟩
set_option maxHeartbeats 1000000 in
theorem get14 (p:Nat) (S:Nat→Prop) (most:Int) (l:List Ent) (x:Int) (hn:l.length≤4000000) (w:World) (h:HB 151 w p S most l) :
  Calls Tryz.prog 93 #[.pointer (some ⟨p,0,none⟩), .int .u64 x] w fun e w'=>e=.returned (getV14 (look Ent.k x l))∧Gw w w':=by
 have FD:Hid (∀ W,Gw w W→Calls Tryz.prog 122 #[.pointer (some ⟨p,0,none⟩), .int .u64 x] W fun e w'=>e=.returned (.tuple #[.int .i64 (plc Ent.k x l:Int), .bool (look Ent.k x l).isSome])∧Gw W w'):=fun W g=>find14 p S most l x hn W (h.gw g)
 have H:Aside (HB 151 w p S most l):=h
 clear h
 obtain ⟨bq,hbq⟩:∃ b,w.heap.size=b:=⟨_,rfl⟩
 have BQ:Aside (w.heap.size=bq):=hbq
 have NEW:Hid (∀ u1,Gw (w.alloc (.cells #[.int .u64 0, .int .u64 0, .bool false] 65)) u1→u1.heap[bq]?=some (.cells #[.int .u64 0, .int .u64 0, .bool false] 65 (0,0))):=fun u1 gg=>by
  rw [←BQ.out]
  exact (gg.below.block _ (by simp)).trans (heap_alloc_new _ _)
 cases hk:look Ent.k x l with
 | none =>
  rw [hk] at FD
  generalize plc Ent.k x l=pp at FD
  clear hk
  go_enter Tryz.func93,Tryz.ntmps93
  go_wp2_with fail
  refine (FD.out _ ((Gw.refl w).alloc _ _)).mono ?_
  rintro e u1 ⟨rfl,g⟩
  have GG:Aside (Gw w u1):=((Gw.refl w).alloc _ _).trans g
  have NB:=NEW.out u1 g
  have m0:u1.cell? ⟨bq,0,none⟩=some (.int .u64 0):=blkc NB rfl
  have m1:u1.cell? ⟨bq,1,none⟩=some (.int .u64 0):=blkc NB rfl
  have m2:u1.cell? ⟨bq,2,none⟩=some (.bool false):=blkc NB rfl
  have z0:=blkf (o:=0) NB
  have z1:=blkf (o:=1) NB
  have z2:=blkf (o:=2) NB
  have bl:=blkl NB
  have TT:=box3 NB ent0
  simp only [ent0] at TT
  clear g FD NB NEW
  clear hbq
  go_wp2_with fail
  exact bodyPost_ret (v:=.tuple #[.agg #[.int .u64 0, .int .u64 0, .bool false], .bool false]) (by simp [results,Tryz.results93,go_sem,TT.1,TT.2.1,TT.2.2]) rfl ⟨rfl,((GG.out.setCell (Nat.le_of_eq BQ.out) _).setCell (Nat.le_of_eq BQ.out) _).setCell (Nat.le_of_eq BQ.out) _⟩
 | some y =>
  obtain ⟨f1,f2⟩:=plc_found H.out.rise hk
  have f3:=plc_found_lt H.out.rise hk
  have CE:Hid (∀ W,Gw w W→∃ (c b:Nat),W.cell? ⟨p,1,none⟩=some (.slice (some ⟨b,0,none⟩) l.length c)∧W.cell? ⟨b,plc Ent.k x l*3,none⟩=some (.int .u64 y.k)∧W.cell? ⟨b,plc Ent.k x l*3+1,none⟩=some (.int .u64 y.v)∧W.cell? ⟨b,plc Ent.k x l*3+2,none⟩=some (.bool y.g)):=fun W g=>by
   obtain ⟨v,h1,h2,h3,h4⟩:=(H.out.gw g).lies
   obtain ⟨bo,c,rfl,hc,_⟩:=eo_shape h2
   obtain ⟨b,rfl,_,_,_,hcc⟩:=eo_form h2 rfl (by omega)
   obtain ⟨a1,a2,a3⟩:=hcc _ f3
   have e:l.getD (plc Ent.k x l) ent0=y:=by simp [List.getD,f1]
   rw [e] at a1 a2 a3
   exact ⟨c,b,blkc (o:=1) h1 rfl,a1,a2,a3⟩
  rw [hk] at FD
  obtain ⟨yk,yv,yg⟩:=y
  generalize plc Ent.k x l=pp at FD CE f3
  generalize l.length=n at CE f3 hn
  have f4:(pp:Int)<(n:Int):=by omega
  clear hk f1 f2 H
  go_enter Tryz.func93,Tryz.ntmps93
  go_wp2_with fail
  refine (FD.out _ ((Gw.refl w).alloc _ _)).mono ?_
  rintro e u1 ⟨rfl,g⟩
  have GG:Aside (Gw w u1):=((Gw.refl w).alloc _ _).trans g
  obtain ⟨c,b,e1,e2,e3,e4⟩:=CE.out u1 GG.out
  have e2':u1.cell? ⟨b,pp*3,none⟩=some (.int .u64 yk):=e2
  have e3':u1.cell? ⟨b,pp*3+1,none⟩=some (.int .u64 yv):=e3
  have e4':u1.cell? ⟨b,pp*3+2,none⟩=some (.bool yg):=e4
  have NB:=NEW.out u1 g
  have m0:u1.cell? ⟨bq,0,none⟩=some (.int .u64 0):=blkc NB rfl
  have m1:u1.cell? ⟨bq,1,none⟩=some (.int .u64 0):=blkc NB rfl
  have m2:u1.cell? ⟨bq,2,none⟩=some (.bool false):=blkc NB rfl
  have z0:=blkf (o:=0) NB
  have z1:=blkf (o:=1) NB
  have z2:=blkf (o:=2) NB
  have bl:=blkl NB
  have TT:=box3 NB ⟨yk,yv,yg⟩
  simp only at TT
  clear g FD NB NEW CE e2 e3 e4
  clear hbq
  go_wp2_with fail
  exact bodyPost_ret (v:=.tuple #[.agg #[.int .u64 yk, .int .u64 yv, .bool yg], .bool true]) (by simp [results,Tryz.results93,go_sem,TT.1,TT.2.1,TT.2.2]) rfl ⟨rfl,((GG.out.setCell (Nat.le_of_eq BQ.out) _).setCell (Nat.le_of_eq BQ.out) _).setCell (Nat.le_of_eq BQ.out) _⟩
end Go.Proofs.YtjhaiiegdnamcabGreat
