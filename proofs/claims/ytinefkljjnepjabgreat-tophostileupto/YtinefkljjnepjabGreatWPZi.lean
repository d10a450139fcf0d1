/- Package probe: what Find and Path hand to descend; Find and Path. -/
import Derived.Deep.AppendLies
import Derived.Deep.RegionHeld3
import Derived.Deep.RegionLaw
import Derived.Maps.AppendAt
import Derived.Test.YtinefkljjnepjabGreatWPVo
import Derived.Test.YtinefkljjnepjabGreatWPZa
import Derived.Test.YtinefkljjnepjabGreatWPZd
import Derived.Test.YtinefkljjnepjabGreatWPY2
namespace Go.Proofs.YtinefkljjnepjabGreat
open Go.RowKit
set_option linter.unusedVariables false
def Bx9 (w:World) (b:Nat) (v:Value) (t:TypeId):Prop:=w.heap[b]?=some (.cells #[v] t (0,0))
theorem Bx9.lt {w:World} {b:Nat} {v:Value} {t:TypeId} (h:Bx9 w b v t):b<w.heap.size:=(Array.getElem?_eq_some_iff.1 h).1
theorem Bx9.cell {w:World} {b:Nat} {v:Value} {t:TypeId} (h:Bx9 w b v t):w.cell? ⟨b,0,none⟩=some v:=cell_blk9 h rfl
theorem Bx9.fz {w:World} {b:Nat} {v:Value} {t:TypeId} (h:Bx9 w b v t):w.frozen? ⟨b,0,none⟩=false:=fz_blk9 h
def lastR (l:List Vis):Int:=match l.getLast? with | none=>0 | some v=>v.rk
theorem lastR_snoc (l:List Vis) (v:Vis):lastR (l++[v])=v.rk:=by simp [lastR]
structure FTz (br bt:Nat) (w:World) (X:Nat→Prop) (l:List Vis) (st:Bool):Prop where
 r:Bx9 w br (.int .i64 (lastR l)) 3
 t:Bx9 w bt (.bool st) 4
 x:∀ q,X q↔q=br∨q=bt
structure PTz (bl:Nat) (w:World) (X:Nat→Prop) (l:List Vis) (st:Bool):Prop where
 v:∃ vl,Bx9 w bl vl 93∧VR w (bl+1) vl l∧∀ q,X q↔q=bl∨vl.ownBlock=some q
theorem found_end {eps q:Int} {f:Nat→Int} {n:Nat} {L:List (List Sg)} (R:Ready eps f n L):lastR (pathL eps q f n L)=(cntb f q n:Nat)∧standTo q f n L 0=decide (cntb f q n<n∧f (cntb f q n)=q):=by
 by_cases e:L.length=0
 ·have n0:=R.z.1 e
  have l0:L=[]:=List.eq_nil_of_length_eq_zero e
  subst l0
  subst n0
  exact ⟨rfl,by simp [standTo]⟩
 ·constructor
  ·rw [←pathTo_zero,pathTo_next eps q f n L (show 0<L.length by omega),lastR_snoc]
   rfl
  ·unfold standTo
   rw [if_neg (by omega)]
   rfl
theorem vr_keep {w w':World} {base:Nat} {v:Value} {l:List Vis} (h:VR w base v l) (k:∀ q,v.ownBlock=some q→w'.heap[q]?=w.heap[q]?):VR w' base v l:=by
 refine ⟨h.1,?_⟩
 rcases h.2 with q | ⟨g,cap,cur,rfl,hb,hh,r⟩
 ·exact .inl q
 ·exact .inr ⟨g,cap,cur,rfl,hb,(k g rfl).trans hh,r⟩
end Go.Proofs.YtinefkljjnepjabGreat
namespace Go.Proofs.YtinefkljjnepjabGreat
open Go.RowKit
set_option linter.unusedVariables false
attribute [local go_sem] run_store_float
structure HPile (w:World) (p:Nat) (S:Nat→Prop) (eps:Int) (f:Nat→Int) (n:Nat) (L:List (List Sg)):Prop where
 lies:∃ (u:World) (base:Nat) (ko:Option Addr) (kc:Nat) (lo:Option Addr) (lc:Nat),(∀ q,S q↔base≤q∧q<u.heap.size)∧u.heap.size≤w.heap.size∧(∀ q,base≤q→q<u.heap.size→w.heap[q]?=u.heap[q]?)∧u.heap[p]?=some (.cells #[.int .i64 eps, .slice ko n kc, .slice lo L.length lc] 124 (0,0))∧base≤p∧KS u ko n f∧(∀ a,ko=some a→base≤a.block)∧VSf u base lo L
 n1:n≤2000000
 sh:Short L
theorem HPile.lt {w:World} {p:Nat} {S:Nat→Prop} {eps:Int} {f:Nat→Int} {n:Nat} {L:List (List Sg)} (h:HPile w p S eps f n L):∀ q,S q→q<w.heap.size:=by
 obtain ⟨u,base,ko,kc,lo,lc,h1,h2,_⟩:=h.lies
 intro q hq
 have:=(h1 q).1 hq
 omega
theorem HPile.keep {w w':World} {p:Nat} {S:Nat→Prop} {eps:Int} {f:Nat→Int} {n:Nat} {L:List (List Sg)} (h:HPile w p S eps f n L) (k:∀ q,S q→w'.heap[q]?=w.heap[q]?):HPile w' p S eps f n L:=by
 obtain ⟨u,base,ko,kc,lo,lc,h1,h2,h3,h4,h5,h6⟩:=h.lies
 have pu:p<u.heap.size:=(Array.getElem?_eq_some_iff.1 h4).1
 refine ⟨⟨u,base,ko,kc,lo,lc,h1,?_,fun q a b=>(k q ((h1 q).2 ⟨a,b⟩)).trans (h3 q a b),h4,h5,h6⟩,h.n1,h.sh⟩
 have e:=k (u.heap.size-1) ((h1 _).2 ⟨by omega,by omega⟩)
 rw [Array.getElem?_eq_getElem (show u.heap.size-1<w.heap.size by omega)] at e
 have:=(Array.getElem?_eq_some_iff.1 e).1
 omega
theorem HPile.opened {w:World} {p:Nat} {S:Nat→Prop} {eps:Int} {f:Nat→Int} {n:Nat} {L:List (List Sg)} (h:HPile w p S eps f n L):∃ ko kc lo lc,w.heap[p]?=some (.cells #[.int .i64 eps, .slice ko n kc, .slice lo L.length lc] 124 (0,0))∧KS w ko n f∧VS w lo L:=by
 obtain ⟨u,base,ko,kc,lo,lc,h1,h2,h3,h4,h5,h6,h7,h8⟩:=h.lies
 have pu:p<u.heap.size:=(Array.getElem?_eq_some_iff.1 h4).1
 refine ⟨ko,kc,lo,lc,(h3 p h5 pu).trans h4,⟨fun hn=>?_,h6.bd⟩,(h8.keep (fun q a b=>h3 q a b) h2).vs⟩
 obtain ⟨b,off,e,hb,hc⟩:=h6.cells hn
 have bb:base≤b:=h7 _ e
 exact ⟨b,off,e,by omega,fun i hi=>(World.cell?_of_block (a:=⟨b,off+i,none⟩) (h3 b bb hb)).trans (hc i hi)⟩
theorem pl_cells {w:World} {p:Nat} {a b c:Value} {t:TypeId} (h:w.heap[p]?=some (.cells #[a,b,c] t (0,0))):w.cell? ⟨p,0,none⟩=some a∧w.cell? ⟨p,1,none⟩=some b∧w.cell? ⟨p,2,none⟩=some c:=by
 refine ⟨?_,?_,?_⟩<;>simp [World.cell?,h]
theorem pl_eps {w:World} {p:Nat} {S:Nat→Prop} {eps:Int} {f:Nat→Int} {n:Nat} {L:List (List Sg)} (h:HPile w p S eps f n L) :
  Calls Tryz.prog 26 #[.pointer (some ⟨p,0,none⟩)] w fun e w'=>e=.returned (.int .i64 eps)∧w'=w:=by
 obtain ⟨ko,kc,lo,lc,h1,_⟩:=h.opened
 obtain ⟨c0,c1,c2⟩:=pl_cells h1
 clear h h1
 go_enter Tryz.func26,Tryz.ntmps26
 go_wp2_with fail
 go_ret
 exact ⟨rfl,rfl⟩
theorem pl_height {w:World} {p:Nat} {S:Nat→Prop} {eps:Int} {f:Nat→Int} {n:Nat} {L:List (List Sg)} (h:HPile w p S eps f n L) :
  Calls Tryz.prog 28 #[.pointer (some ⟨p,0,none⟩)] w fun e w'=>e=.returned (.int .i64 (L.length:Int))∧w'=w:=by
 obtain ⟨ko,kc,lo,lc,h1,_⟩:=h.opened
 obtain ⟨c0,c1,c2⟩:=pl_cells h1
 clear h h1
 go_enter Tryz.func28,Tryz.ntmps28
 go_wp2_with fail
 go_ret
 exact ⟨rfl,rfl⟩
set_option maxRecDepth 10000 in
set_option maxHeartbeats 4000000 in
theorem pl_size {w:World} {p:Nat} {S:Nat→Prop} {eps:Int} {f:Nat→Int} {n:Nat} {L:List (List Sg)} (h:HPile w p S eps f n L) (lv:Int) (l0:-9223372036854775808≤lv) (l1:lv<9223372036854775808) :
  Calls Tryz.prog 102 #[.pointer (some ⟨p,0,none⟩), .int .i64 lv] w fun e w'=>e=.returned (.int .i64 (sizeV n L lv:Nat))∧w'=w:=by
 obtain ⟨ko,kc,lo,lc,h1,hk,hv⟩:=h.opened
 obtain ⟨c0,c1,c2⟩:=pl_cells h1
 have pl:p<w.heap.size:=(Array.getElem?_eq_some_iff.1 h1).1
 have hl:=h.sh.1
 obtain ⟨ln,hln⟩:∃ ln,L.length=ln:=⟨_,rfl⟩
 have LN:Aside (L.length=ln):=hln
 rw [hln] at c2 hl
 have HV:Aside (VS w lo L):=hv
 clear h h1 hk hv hln
 by_cases z:lv=0
 ·have e:sizeV n L lv=n:=by rw [z];unfold sizeV;rw [if_pos ⟨Int.le_refl _,by omega⟩];rfl
  have t0:(lv == 0)=true:=by simpa using z
  rw [e]
  clear e z
  go_enter Tryz.func102,Tryz.ntmps102
  go_wp2_with fail
  go_ret
  exact ⟨rfl,rfl⟩
 ·have t0:(lv == 0)=false:=by simpa using z
  by_cases a:lv<0
  ·have e:sizeV n L lv=0:=by unfold sizeV;rw [if_neg (fun x=>by have:=x.1;omega)]
   have t1:decide (lv<0)=true:=by simpa using a
   rw [e]
   clear e z
   go_enter Tryz.func102,Tryz.ntmps102
   go_wp2_with fail
   go_ret
   exact ⟨rfl,rfl⟩
  ·have t1:decide (lv<0)=false:=by simpa using a
   by_cases b:(ln:Int)<lv
   ·have e:sizeV n L lv=0:=by unfold sizeV;rw [if_neg (fun x=>by have:=x.2;rw [LN.out] at this;omega)]
    have t2:decide ((ln:Int)<lv)=true:=by simpa using b
    rw [e]
    clear e z
    go_enter Tryz.func102,Tryz.ntmps102
    go_wp2_with fail
    go_ret
    exact ⟨rfl,rfl⟩
   ·obtain ⟨i,hi⟩:∃ i:Nat,lv=(i:Int)+1:=⟨(lv-1).toNat,by omega⟩
    have e:sizeV n L lv=(L.getD i []).length:=by
     unfold sizeV
     rw [if_pos ⟨by omega,by rw [LN.out];omega⟩,show lv.toNat=i+1 by omega]
     rfl
    have t2:decide ((ln:Int)<lv)=false:=by simpa using b
    have w1:IntKind.i64.wrap (lv-1)=(i:Int):=by rw [IntKind.wrap_i64];omega
    obtain ⟨lb,lf,rfl,hlb,hlc⟩:=HV.out.cells (by rw [LN.out];omega)
    obtain ⟨so,sc,q1,_,_,_⟩:=hlc i (by rw [LN.out];omega)
    have il:i<ln:=by omega
    have il':(i:Int)<(ln:Int):=by omega
    rw [e]
    generalize (L.getD i []).length=sn at q1 ⊢
    clear e z hlc hi
    go_enter Tryz.func102,Tryz.ntmps102
    go_wp2_with fail
    go_ret
    exact ⟨rfl,rfl⟩
set_option maxRecDepth 10000 in
set_option maxHeartbeats 4000000 in
theorem pl_has {w:World} {p:Nat} {S:Nat→Prop} {eps:Int} {f:Nat→Int} {n:Nat} {L:List (List Sg)} (h:HPile w p S eps f n L) (lv sl:Int) (l0:-9223372036854775808≤lv) (l1:lv<9223372036854775808) :
  Calls Tryz.prog 138 #[.pointer (some ⟨p,0,none⟩), .int .i64 lv, .int .i64 sl] w fun e w'=>e=.returned (.bool (decide (0≤sl∧sl<(sizeV n L lv:Nat))))∧w'=w:=by
 have SZ:Hid (Calls Tryz.prog 102 #[.pointer (some ⟨p,0,none⟩), .int .i64 lv] w fun e w'=>e=.returned (.int .i64 (sizeV n L lv:Nat))∧w'=w):=pl_size h lv l0 l1
 clear h
 generalize sizeV n L lv=z at SZ ⊢
 by_cases a:0≤sl
 ·have t1:decide (0≤sl)=true:=by simpa using a
  have e:decide (0≤sl∧sl<(z:Int))=decide (sl<(z:Int)):=by
   by_cases b:sl<(z:Int)
   ·rw [decide_eq_true b,decide_eq_true ⟨a,b⟩]
   ·rw [decide_eq_false b,decide_eq_false (fun x=>b x.2)]
  rw [e]
  obtain ⟨d,hd⟩:∃ d,decide (sl<(z:Int))=d:=⟨_,rfl⟩
  rw [hd]
  clear e
  go_enter Tryz.func138,Tryz.ntmps138
  go_wp2_with fail
  refine Calls.mono SZ.out ?_
  rintro e w2 ⟨rfl,hw⟩
  have hw':w=w2:=hw.symm
  subst hw'
  clear hw SZ
  go_wp2_with fail
  go_ret
  exact ⟨rfl,rfl⟩
 ·have t1:decide (0≤sl)=false:=by simpa using a
  rw [decide_eq_false (fun x=>a x.1)]
  go_enter Tryz.func138,Tryz.ntmps138
  go_wp2_with fail
  go_ret
  exact ⟨rfl,rfl⟩
set_option maxRecDepth 10000 in
set_option maxHeartbeats 4000000 in
theorem pl_seg {w:World} {p:Nat} {S:Nat→Prop} {eps:Int} {f:Nat→Int} {n:Nat} {L:List (List Sg)} (h:HPile w p S eps f n L) (lv sl:Int) (l0:-9223372036854775808≤lv) (l1:lv<9223372036854775808) (s0:-9223372036854775808≤sl) (s1:sl<9223372036854775808) :
  Calls Tryz.prog 103 #[.pointer (some ⟨p,0,none⟩), .int .i64 lv, .int .i64 sl] w fun e w'=>e=.returned (sgV (segW L lv sl))∧Gw w w':=by
 have HA:Hid (Calls Tryz.prog 138 #[.pointer (some ⟨p,0,none⟩), .int .i64 lv, .int .i64 sl] (w.alloc (.cells #[.int .u64 0, .float .f64 0, .float .f64 0, .int .i64 0, .int .i64 0] 100)) fun e w'=>e=.returned (.bool (decide (0≤sl∧sl<(sizeV n L lv:Nat))))∧w'=(w.alloc (.cells #[.int .u64 0, .float .f64 0, .float .f64 0, .int .i64 0, .int .i64 0] 100))):=pl_has (h.keep fun q hq=>heap_alloc_old w _ (h.lt q hq)) lv sl l0 l1
 obtain ⟨ko,kc,lo,lc,h1,hk,hv⟩:=h.opened
 obtain ⟨c0,c1,c2⟩:=pl_cells h1
 have pl:p<w.heap.size:=(Array.getElem?_eq_some_iff.1 h1).1
 have hl:=h.sh.1
 obtain ⟨ln,hln⟩:∃ ln,L.length=ln:=⟨_,rfl⟩
 have LN:Aside (L.length=ln):=hln
 rw [hln] at c2 hl
 have HV:Aside (VS w lo L):=hv
 clear h h1 hk hv hln
 by_cases z:lv=0
 ·have e:segW L lv sl=sg0:=by unfold segW;rw [if_neg (fun x=>by have:=x.1.1;omega)]
  have t0:(lv == 0)=true:=by simpa using z
  rw [e]
  show Calls _ _ _ _ fun e w'=>e=.returned (.agg #[.int .u64 0, .float .f64 0, .float .f64 0, .int .i64 0, .int .i64 0])∧Gw w w'
  clear e z HA
  go_enter Tryz.func103,Tryz.ntmps103
  go_wp2_with fail
  exact bodyPost_ret (v:=.agg #[.int .u64 0, .float .f64 0, .float .f64 0, .int .i64 0, .int .i64 0]) (by simp [results,Tryz.results103,go_sem]) rfl ⟨rfl,(Gw.refl w).alloc _ _⟩
 ·have t0:(lv == 0)=false:=by simpa using z
  by_cases a:0≤sl∧sl<(sizeV n L lv:Nat)
  ·rw [decide_eq_true a] at HA
   have b:0≤lv∧lv≤L.length:=by
    by_cases x:0≤lv∧lv≤L.length
    ·exact x
    ·have:=a.2;unfold sizeV at this;rw [if_neg x] at this;omega
   rw [LN.out] at b
   obtain ⟨i,hi⟩:∃ i:Nat,lv=(i:Int)+1:=⟨(lv-1).toNat,by omega⟩
   have e:sizeV n L lv=(L.getD i []).length:=by
    unfold sizeV
    rw [if_pos ⟨by omega,by rw [LN.out];omega⟩,show lv.toNat=i+1 by omega]
    rfl
   rw [e] at a
   obtain ⟨m,hm⟩:∃ m:Nat,sl=(m:Int):=⟨sl.toNat,by omega⟩
   have e2:segW L lv sl=(L.getD i []).getD m sg0:=by
    unfold segW
    rw [show lv.toNat-1=i by omega,if_pos ⟨⟨by omega,by rw [LN.out];omega⟩,a.1,a.2⟩,show sl.toNat=m by omega]
   rw [e2]
   have w1:IntKind.i64.wrap (lv-1)=(i:Int):=by rw [IntKind.wrap_i64];omega
   obtain ⟨lb,lf,rfl,hlb,hlc⟩:=HV.out.cells (by rw [LN.out];omega)
   obtain ⟨so,sc,q1,_,_,q4⟩:=hlc i (by rw [LN.out];omega)
   obtain ⟨gb,gf,rfl,hgb,hgc⟩:=q4.cells (by omega)
   have ck:=hgc m (by omega)
   obtain ⟨sn,hsn⟩:∃ sn,(L.getD i []).length=sn:=⟨_,rfl⟩
   rw [hsn] at q1 a
   obtain ⟨⟨k,sp,ic,fr,te⟩,hs⟩:∃ s,(L.getD i []).getD m sg0=s:=⟨_,rfl⟩
   rw [hs] at ck ⊢
   have k0:w.cell? ⟨gb,gf+m*5,none⟩=some (.int .u64 k):=ck.c0
   have k1:w.cell? ⟨gb,gf+m*5+1,none⟩=some (.float .f64 sp):=ck.c1
   have k2:w.cell? ⟨gb,gf+m*5+2,none⟩=some (.float .f64 ic):=ck.c2
   have k3:w.cell? ⟨gb,gf+m*5+3,none⟩=some (.int .i64 fr):=ck.c3
   have k4:w.cell? ⟨gb,gf+m*5+4,none⟩=some (.int .i64 te):=ck.c4
   have il:i<ln:=by omega
   have il':(i:Int)<(ln:Int):=by omega
   have ml:m<sn:=by omega
   have ml':(m:Int)<(sn:Int):=by omega
   subst hm
   clear e z hlc hi ck hgc hs hsn q4 e2 b a
   go_enter Tryz.func103,Tryz.ntmps103
   go_wp2_with fail
   refine Calls.mono HA.out ?_
   rintro e w2 ⟨rfl,rfl⟩
   clear HA
   go_wp2_with fail
   exact bodyPost_ret (v:=.agg #[.int .u64 k, .float .f64 sp, .float .f64 ic, .int .i64 fr, .int .i64 te]) (by simp [results,Tryz.results103,go_sem]) rfl ⟨rfl,(Gw.refl w).alloc _ _⟩
  ·rw [decide_eq_false a] at HA
   have e:segW L lv sl=sg0:=by
    unfold segW
    refine if_neg (fun x=>a ⟨x.2.1,?_⟩)
    have y:=x.2.2
    unfold sizeV
    rw [if_pos ⟨by omega,x.1.2⟩]
    unfold rowN
    rw [if_neg (by have:=x.1.1;omega)]
    exact y
   rw [e]
   show Calls _ _ _ _ fun e w'=>e=.returned (.agg #[.int .u64 0, .float .f64 0, .float .f64 0, .int .i64 0, .int .i64 0])∧Gw w w'
   clear e z a
   go_enter Tryz.func103,Tryz.ntmps103
   go_wp2_with fail
   refine Calls.mono HA.out ?_
   rintro e w2 ⟨rfl,rfl⟩
   clear HA
   go_wp2_with fail
   exact bodyPost_ret (v:=.agg #[.int .u64 0, .float .f64 0, .float .f64 0, .int .i64 0, .int .i64 0]) (by simp [results,Tryz.results103,go_sem]) rfl ⟨rfl,(Gw.refl w).alloc _ _⟩
set_option maxRecDepth 10000 in
set_option maxHeartbeats 4000000 in
theorem pl_key {w:World} {p:Nat} {S:Nat→Prop} {eps:Int} {f:Nat→Int} {n:Nat} {L:List (List Sg)} (h:HPile w p S eps f n L) (lv sl:Int) (l0:-9223372036854775808≤lv) (l1:lv<9223372036854775808) (s0:-9223372036854775808≤sl) (s1:sl<9223372036854775808) :
  Calls Tryz.prog 230 #[.pointer (some ⟨p,0,none⟩), .int .i64 lv, .int .i64 sl] w fun e w'=>e=.returned (.int .u64 (keyV f n L lv sl))∧Gw w w':=by
 have HA:Hid (Calls Tryz.prog 138 #[.pointer (some ⟨p,0,none⟩), .int .i64 0, .int .i64 sl] w fun e w'=>e=.returned (.bool (decide (0≤sl∧sl<(sizeV n L 0:Nat))))∧w'=w):=pl_has h 0 sl (by omega) (by omega)
 have SE:Hid (Calls Tryz.prog 103 #[.pointer (some ⟨p,0,none⟩), .int .i64 lv, .int .i64 sl] w fun e w'=>e=.returned (sgV (segW L lv sl))∧Gw w w'):=pl_seg h lv sl l0 l1 s0 s1
 obtain ⟨ko,kc,lo,lc,h1,hk,hv⟩:=h.opened
 obtain ⟨c0,c1,c2⟩:=pl_cells h1
 have pl:p<w.heap.size:=(Array.getElem?_eq_some_iff.1 h1).1
 have hn:=h.n1
 have z0:sizeV n L 0=n:=by unfold sizeV;rw [if_pos ⟨Int.le_refl _,by omega⟩];rfl
 rw [z0] at HA
 clear h h1 hv z0
 by_cases c:lv=0∧0≤sl∧sl<(n:Int)
 ·obtain ⟨z,a⟩:=c
  rw [decide_eq_true a] at HA
  obtain ⟨m,hm⟩:∃ m:Nat,sl=(m:Int):=⟨sl.toNat,by omega⟩
  have e:keyV f n L lv sl=f m:=by
   unfold keyV
   rw [z,if_pos ⟨⟨Int.le_refl _,by omega⟩,a⟩,show sl.toNat=m by omega]
   rfl
  rw [e]
  have t0:(lv == 0)=true:=by simpa using z
  obtain ⟨kb,kf,rfl,hkb,hkc⟩:=hk.cells (by omega)
  have ck:=hkc m (by omega)
  generalize f m=y at ck ⊢
  have ml:m<n:=by omega
  have ml':(m:Int)<(n:Int):=by omega
  subst hm
  clear e z a hkc hk SE
  go_enter Tryz.func230,Tryz.ntmps230
  go_wp2_with fail
  refine Calls.mono HA.out ?_
  rintro e w2 ⟨rfl,hw⟩
  have hw':w=w2:=hw.symm
  subst hw'
  clear hw HA
  go_wp2_with fail
  go_ret
  exact ⟨rfl,Gw.refl w⟩
 ·have e:keyV f n L lv sl=(segW L lv sl).k:=by
   unfold keyV segW
   by_cases z:lv=0
   ·subst z
    rw [if_neg (fun x=>c ⟨rfl,x.2⟩),if_neg (fun x=>by have:=x.1.1;omega)]
    rfl
   ·by_cases x:(0≤lv∧lv≤(L.length:Int))∧0≤sl∧sl<(rowN n L lv.toNat:Int)
    ·rw [if_pos x]
     obtain ⟨i,hi⟩:∃ i:Nat,lv=(i:Int)+1:=⟨(lv-1).toNat,by omega⟩
     have e1:lv.toNat=i+1:=by omega
     rw [e1] at x ⊢
     rw [if_pos ⟨⟨by omega,x.1.2⟩,x.2⟩]
     rfl
    ·rw [if_neg x]
     rw [if_neg (fun y=>x ⟨⟨by omega,y.1.2⟩,y.2.1,by
      unfold rowN
      rw [if_neg (by have:=y.1.1;omega)]
      exact y.2.2⟩)]
     rfl
  rw [e]
  obtain ⟨⟨k,sp,ic,fr,te⟩,hs⟩:∃ s,segW L lv sl=s:=⟨_,rfl⟩
  rw [hs] at SE ⊢
  clear e hs hk
  show Calls _ _ _ _ fun e w'=>e=.returned (.int .u64 k)∧Gw w w'
  have fk:∀ W:World,(Instr.field 100 (.agg #[.int .u64 k, .float .f64 sp, .float .f64 ic, .int .i64 fr, .int .i64 te]) 0).run Tryz.prog W=.ok (.int .u64 k) W:=fun _=>by kernel_rfl
  by_cases z:lv=0
  ·have t0:(lv == 0)=true:=by simpa using z
   rw [decide_eq_false (fun x=>c ⟨z,x⟩)] at HA
   clear z c
   go_enter Tryz.func230,Tryz.ntmps230
   go_wp2_with fail
   refine Calls.mono HA.out ?_
   rintro e w2 ⟨rfl,hw⟩
   have hw':w=w2:=hw.symm
   subst hw'
   clear hw HA
   go_wp2_with fail
   refine Calls.mono SE.out ?_
   rintro e w3 ⟨rfl,g3⟩
   have G3:Aside (Gw w w3):=g3
   clear g3 SE
   go_wp2_with fail
   go_ret
   exact ⟨rfl,G3.out⟩
  ·have t0:(lv == 0)=false:=by simpa using z
   clear z c HA
   go_enter Tryz.func230,Tryz.ntmps230
   go_wp2_with fail
   refine Calls.mono SE.out ?_
   rintro e w3 ⟨rfl,g3⟩
   have G3:Aside (Gw w w3):=g3
   clear g3 SE
   go_wp2_with fail
   go_ret
   exact ⟨rfl,G3.out⟩
end Go.Proofs.YtinefkljjnepjabGreat
namespace Go.Proofs.YtinefkljjnepjabGreat
open Go.RowKit
set_option linter.unusedVariables false
theorem vs_ok {w:World} {lo:Option Addr} {L:List (List Sg)} (h:VS w lo L):∀ i,i<L.length→∀ j,j<(L.getD i []).length→((L.getD i []).getD j sg0).ok:=fun i hi j hj=>by
 obtain ⟨b,off,_,_,hc⟩:=h.cells (by omega)
 obtain ⟨bo,c,_,_,_,g⟩:=hc i hi
 exact g.ok j hj
def PS9 (w:World) (W:World) (S:Nat→Prop) (A B:List (Int×Int)):Prop:=Gw w W∧∀ q,¬ S q
theorem dsc_pile {w:World} {p:Nat} {S:Nat→Prop} {eps:Int} {f:Nat→Int} {n:Nat} {L:List (List Sg)} (h:HPile w p S eps f n L):DSC 26 28 230 103 (.pointer (some ⟨p,0,none⟩)) w (PS9 w) eps f n L where
 gw x:=x.1
 ge x q hq:=(x.2 q hq).elim
 lt x q hq:=(x.2 q hq).elim
 keep x g _:=⟨g,x.2⟩
 sok:=by
  obtain ⟨ko,kc,lo,lc,_,_,hv⟩:=h.opened
  exact vs_ok hv
 eps x:=pl_eps (h.keep fun q hq=>x.1.below.block q (h.lt q hq))
 height x:=pl_height (h.keep fun q hq=>x.1.below.block q (h.lt q hq))
 key {w1 S1 A B} x la a sl ha hs:=by
  have n1:=h.n1
  have s1:=h.sh
  have sl1:(sl:Int)<9223372036854775808:=by
   have:rowN n L a≤2000000:=by
    unfold rowN
    by_cases z:a=0
    ·rw [if_pos z];exact n1
    ·rw [if_neg z];exact s1.2 _ (by omega)
   omega
  have e:keyV f n L (a:Int) (sl:Int)=rowF f L a sl:=by
   unfold keyV
   rw [if_pos ⟨⟨by omega,by omega⟩,by omega,by simpa using hs⟩]
   simp
  refine (pl_key (h.keep fun q hq=>x.1.below.block q (h.lt q hq)) (a:Int) (sl:Int) (by omega) (by have:=s1.1;omega) (by omega) sl1).mono ?_
  rintro ex w2 ⟨rfl,g2⟩
  rw [e]
  exact ⟨⟨S1,rfl,⟨x.1.trans g2,x.2⟩,fun q hq=>.inl hq⟩,g2.gs _⟩
 seg {w1 S1 A B} x lb a sl ha hs:=by
  have s1:=h.sh
  have:=s1.2 a ha
  have e:segW L ((a:Int)+1) (sl:Int)=(L.getD a []).getD sl sg0:=by
   unfold segW
   rw [show ((a:Int)+1).toNat-1=a by omega,if_pos ⟨⟨by omega,by omega⟩,by omega,by omega⟩]
   simp
  refine (pl_seg (h.keep fun q hq=>x.1.below.block q (h.lt q hq)) ((a:Int)+1) (sl:Int) (by omega) (by have:=s1.1;omega) (by omega) (by omega)).mono ?_
  rintro ex w2 ⟨rfl,g2⟩
  rw [e]
  exact ⟨⟨S1,rfl,⟨x.1.trans g2,x.2⟩,fun q hq=>.inl hq⟩,g2.gs _⟩
end Go.Proofs.YtinefkljjnepjabGreat
namespace Go.Proofs.YtinefkljjnepjabGreat
open Go.RowKit
set_option linter.unusedVariables false
theorem step_append_v {P:Program} (w:World) {ops:Array Oper} {o:Oper} {a:Act} {K:Act→World→Prop} {Q:Exit→Act→World→Prop} {E:Prop} (hgd:o.guard=none) (s x:Operand) (t:TypeId)
  (ho:o.op=.call { callee:=.builtin .append,args:=#[s,x],argTypes:=#[t,t] })
  (base:Nat) (e:TypeId) (i:TypeInfo) (z:Value) (size bytes:Nat) (ht:P.underlying t=some (.slice e)) (hi:P.info? e=some i) (hz:i.zero=some z)
  (hsize:i.size=size) (hby:i.bytes=bytes) (hzs:z.cells.size=size) (hsz:0<size)
  (v:Value) (n:Nat) (xs:List Value) (hs:a.eval s=v) (hown:w.ownsRow base e size v n xs)
  (ad:Addr) (m c:Nat) (news:List Value) (hx:a.eval x=.slice (some ad) m c) (hl:news.length=m*size) (hnews:∀ j u,news[j]?=some u→w.cell? (ad.add j)=some u) (h1:∀ u∈news,u.oneCell'=true)
  (h63:n+m≤maxLen) (hbytes:(n+m)*bytes≤140737488355328) (hbase:base≤w.heap.size)
  (h:∀ v' w',w'.ownsRow base e size v' (n+m) (xs++news)→w.grownBy w' v.ownBlock→(v'=.slice none 0 0↔v=.slice none 0 0∧m=0)→(v'.ownBlock=v.ownBlock∨v'.ownBlock=some w.heap.size)→K (a.put o.dst v') w') :
  if Region.wanted o (yielded ops a.tmps)=true then Oper.wp P o a w K Q else E:=by
 have hw:Region.wanted o (yielded ops a.tmps)=true:=by simp [Region.wanted,hgd]
 rw [if_pos hw]
 obtain ⟨v',w',hr,h2,h3,h4,h5⟩:=run_append_own_at (P:=P) w base t o.type e i z size bytes ht hi hz hsize hby hzs hsz v n xs hown ad m c news hl hnews h1 h63 hbytes hbase
 unfold Oper.wp execOp
 simp only [ho,resolve,invoke,builtin,Sem.run_bind,Sem.run_pure,Result.andThen_ok,List.map_toArray,List.map_cons,List.map_nil,hs,hx,hr]
 exact h v' w' h2 h3 h4 h5
theorem set_pl2 {w:World} {b:Nat} {x y z:Value} {t:TypeId} (h:w.heap[b]?=some (.cells #[x,y,z] t (0,0))) (u:Value):(w.setCell ⟨b,2,none⟩ u).heap[b]?=some (.cells #[x,y,u] t (0,0)):=by simp [World.setCell,Array.getElem?_modify,h]
set_option maxRecDepth 10000 in
set_option maxHeartbeats 1000000 in
theorem clone_k {w:World} {ao:Option Addr} {n cp:Nat} {f:Nat→Int} (h:KS w ao n f) (hn:n≤2000000) :
  Calls Tryz.prog 91 #[.slice ao n cp] w fun e w'=>(∃ bo c,e=.returned (.slice bo n c)∧KS w' bo n f∧n≤c∧∀ a,bo=some a→w.heap.size≤a.block)∧Gw w w':=by
 cases ao with
 | none =>
  have n0:n=0:=by
   rcases Nat.eq_zero_or_pos n with e | e
   ·exact e
   ·obtain ⟨b,off,e',_⟩:=h.cells e;cases e'
  subst n0
  have HK:Aside (KS w none 0 f):=h
  clear h
  have hq:∀ W:World,(binOp .eql 44 (.slice none 0 cp) (.slice none 0 0)).run Tryz.prog W=.ok (.bool true) W:=fun _=>by kernel_rfl
  go_enter Tryz.func91,Tryz.ntmps91
  go_wp2_with fail
  go_ret
  exact ⟨⟨none,0,rfl,HK.out,Nat.le_refl _,fun a e=>by cases e⟩,Gw.refl w⟩
 | some ad =>
  have OW:Hid (∀ x,(some ad:Option Addr)=some x→∀ j u,((List.range n).map fun j=>Value.int .u64 (f j))[j]?=some u→(w.alloc (.cells #[] 37)).cell? (x.add j)=some u):=by
   intro x e j u hu
   cases e
   have hj:j<n:=by
    have:=(List.getElem?_eq_some_iff.1 hu).1
    simpa using this
   obtain ⟨b,off,e',hb,hc⟩:=h.cells (by omega)
   cases e'
   rw [Addr.add_lit]
   refine (((Gw.refl w).alloc _ _).cell _ _ hb).trans ((hc j hj).trans ?_)
   simpa [hj] using hu
  have O0:Hid ((w.alloc (.cells #[] 37)).ownsRow w.heap.size 37 1 (.slice (some ⟨w.heap.size,0,none⟩) 0 0) 0 []):=World.ownsRow_made w #[] 0 (Nat.le_refl _) (Nat.zero_le _) rfl
  obtain ⟨ii,hii,hz,hs,hby⟩:=info_parts info_k
  have BD:Aside (∀ i,i<n→0≤f i∧f i<18446744073709551616):=h.bd
  have NL:Aside (((List.range n).map fun j=>Value.int .u64 (f j)).length=n*1):=by show _=_;simp
  have N1:Aside (∀ u∈((List.range n).map fun j=>Value.int .u64 (f j)),u.oneCell'=true):=by
   intro u hu
   obtain ⟨j,_,rfl⟩:=List.mem_map.1 hu
   rfl
  clear h
  have hq:∀ W:World,(binOp .eql 44 (.slice (some ad) n cp) (.slice none 0 0)).run Tryz.prog W=.ok (.bool false) W:=fun _=>by kernel_rfl
  go_enter Tryz.func91,Tryz.ntmps91
  go_wp2_with (at_builtin;refine wpList_append_src _ rfl _ _ 44 rfl w.heap.size 37 ii (.int .u64 0) 1 8 Tryz.underlying44 hii hz hs hby rfl (by decide) _ 0 [] rfl O0.out (some ad) n cp ((List.range n).map fun j=>Value.int .u64 (f j)) rfl (fun q=>by cases q) NL.out OW.out N1.out (by simp only [maxLen];omega) (by omega) (by simp) ?_)
  intro v' w7 q1 q2 q3
  have G7:Aside (Gw w w7):=((Gw.refl w).alloc _ _).grown q2 (fun k hk=>by cases hk;exact Nat.le_refl _)
  have FM:∃ bo c,v'=.slice bo n c∧KS w7 bo n f∧n≤c∧∀ a,bo=some a→w.heap.size≤a.block:=by
   have q1':w7.ownsRow w.heap.size 37 1 v' n ((List.range n).map fun j=>Value.int .u64 (f j)):=by simpa using q1
   rcases q1'.2 with ⟨e,z⟩ | ⟨g,cap,cur,e,hb,hh,hc,_⟩
   ·subst z
    exact ⟨none,0,e,⟨fun h0=>by omega,BD.out⟩,Nat.le_refl _,fun a q=>by cases q⟩
   ·subst e
    exact ⟨some ⟨g,0,none⟩,cap,rfl,ks_own q1' (Nat.le_refl _) (fun j hj=>by simp [hj]) BD.out,hc,fun a q=>by cases q;exact hb⟩
  obtain ⟨bo,c,rfl,r1,r2,r3⟩:=FM
  have RES:Aside (KS w7 bo n f∧n≤c∧∀ a,bo=some a→w.heap.size≤a.block):=⟨r1,r2,r3⟩
  clear q1 q2 q3 hii hz hs hby r1 r2 r3
  go_wp2_with fail
  go_ret
  exact ⟨⟨bo,c,rfl,RES.out⟩,G7.out⟩
set_option maxRecDepth 10000 in
set_option maxHeartbeats 1000000 in
theorem clone_g {w:World} {ao:Option Addr} {cp:Nat} {l:List Sg} (h:GS w ao l) (hn:l.length≤2000000) :
  Calls Tryz.prog 92 #[.slice ao l.length cp] w fun e w'=>(∃ bo c,e=.returned (.slice bo l.length c)∧SR w' w.heap.size (.slice bo l.length c) l)∧Gw w w':=by
 cases ao with
 | none =>
  have n0:l.length=0:=by
   rcases Nat.eq_zero_or_pos l.length with e | e
   ·exact e
   ·obtain ⟨b,off,e',_⟩:=h.cells e;cases e'
  have l0:l=[]:=List.eq_nil_of_length_eq_zero n0
  subst l0
  clear h n0
  show Calls _ _ #[.slice none 0 cp] _ _
  have hq:∀ W:World,(binOp .eql 68 (.slice none 0 cp) (.slice none 0 0)).run Tryz.prog W=.ok (.bool true) W:=fun _=>by kernel_rfl
  go_enter Tryz.func92,Tryz.ntmps92
  go_wp2_with fail
  go_ret
  exact ⟨⟨none,0,rfl,World.ownsRow_nil _ _ _ _⟩,Gw.refl w⟩
 | some ad =>
  have OW:Hid (∀ x,(some ad:Option Addr)=some x→∀ j u,(l.flatMap sgc)[j]?=some u→(w.alloc (.cells #[] 100)).cell? (x.add j)=some u):=by
   intro x e j u hu
   cases e
   have hj:j<l.length*5:=by
    have:=(List.getElem?_eq_some_iff.1 hu).1
    rw [flat_len] at this
    exact this
   obtain ⟨b,off,e',hb,hc⟩:=gs_flat h (by omega)
   cases e'
   rw [Addr.add_lit]
   refine (((Gw.refl w).alloc _ _).cell _ _ hb).trans ((hc j hj).trans ?_)
   rw [←flc_get l j hj]
   exact hu
  have O0:Hid ((w.alloc (.cells #[] 100)).ownsRow w.heap.size 100 5 (.slice (some ⟨w.heap.size,0,none⟩) 0 0) 0 []):=World.ownsRow_made w #[] 0 (Nat.le_refl _) (Nat.zero_le _) rfl
  obtain ⟨ii,hii,hz,hs,hby⟩:=info_parts info_sg
  have NL:Aside ((l.flatMap sgc).length=l.length*5):=flat_len l
  have N1:Aside (∀ u∈l.flatMap sgc,u.oneCell'=true):=by
   intro u hu
   obtain ⟨s,-,hs⟩:=List.mem_flatMap.1 hu
   exact sgc_one s u hs
  clear h
  obtain ⟨n,hln⟩:∃ n,l.length=n:=⟨_,rfl⟩
  have LN:Aside (l.length=n):=hln
  rw [hln] at hn NL ⊢
  clear hln
  have hq:∀ W:World,(binOp .eql 68 (.slice (some ad) n cp) (.slice none 0 0)).run Tryz.prog W=.ok (.bool false) W:=fun _=>by kernel_rfl
  go_enter Tryz.func92,Tryz.ntmps92
  go_wp2_with (at_builtin;refine wpList_append_src _ rfl _ _ 68 rfl w.heap.size 100 ii (.agg #[.int .u64 0, .float .f64 0, .float .f64 0, .int .i64 0, .int .i64 0]) 5 40 Tryz.underlying68 hii hz hs hby rfl (by decide) _ 0 [] rfl O0.out (some ad) n cp (l.flatMap sgc) rfl (fun q=>by cases q) NL.out OW.out N1.out (by simp only [maxLen];omega) (by omega) (by simp) ?_)
  intro v' w7 q1 q2 q3
  have G7:Aside (Gw w w7):=((Gw.refl w).alloc _ _).grown q2 (fun k hk=>by cases hk;exact Nat.le_refl _)
  have FM:∃ bo c,v'=.slice bo n c∧SR w7 w.heap.size (.slice bo n c) l:=by
   have q1':w7.ownsRow w.heap.size 100 5 v' n (l.flatMap sgc):=by simpa using q1
   have q2':SR w7 w.heap.size v' l:=by show World.ownsRow _ _ _ _ _ _ _;rw [LN.out];exact q1'
   rcases q1'.2 with ⟨e,z⟩ | ⟨g,cap,cur,e,hb,hh,hc,_⟩
   ·subst z
    exact ⟨none,0,e,by rw [←e];exact q2'⟩
   ·subst e
    exact ⟨some ⟨g,0,none⟩,cap,rfl,q2'⟩
  obtain ⟨bo,c,rfl,r1⟩:=FM
  have RES:Aside (SR w7 w.heap.size (.slice bo n c) l):=r1
  clear q1 q2 q3 hii hz hs hby r1
  go_wp2_with fail
  go_ret
  exact ⟨⟨bo,c,rfl,RES.out⟩,G7.out⟩
set_option maxRecDepth 10000 in
set_option maxHeartbeats 4000000 in
theorem of9 (M:ModelC) (eps:Int) (ao:Option Addr) (n cp:Nat) (f:Nat→Int) (lo:Option Addr) (lc:Nat) (L:List (List Sg)) (e0:-9223372036854775808≤eps) (e1:eps<9223372036854775808) (hn:n≤2000000) (hcp:n≤cp) (hS:Short L) (hlc:L.length≤lc) (w:World) (hk:KS w ao n f) (hv:VS w lo L) :
  Calls Tryz.prog 60 #[.slice ao n cp, .int .i64 eps, .slice lo L.length lc] w fun ex w'=>PileOut HPile w w' ex eps f n L∧Gw w w':=by
 have CK:Hid (Calls Tryz.prog 90 #[.slice ao n cp, .int .i64 eps, .slice lo L.length lc] w fun ex w'=>CheckOut ex eps f n L∧Gw w w'):=xcheck8_any M eps ao n cp f lo lc L e0 e1 hn hcp hS w hk hv
 have HK:Aside (KS w ao n f):=hk
 have HV:Aside (VS w lo L):=hv
 have SH:Aside (Short L):=hS
 obtain ⟨ln,hln⟩:∃ ln,L.length=ln:=⟨_,rfl⟩
 have LN:Aside (L.length=ln):=hln
 have ln1:ln≤2000000:=by have:=hS.1;omega
 rw [hln] at CK hlc ⊢
 clear hk hv hS hln M
 go_enter Tryz.func60,Tryz.ntmps60
 go_wp2_with fail
 refine Calls.mono CK.out ?_
 rintro e w1 ⟨⟨E,rfl,hR⟩,g1⟩
 have CR:Aside (CheckR eps f n L E):=hR
 have G1:Aside (Gw w w1):=g1
 clear hR g1 CK
 by_cases E0:E=0
 ·subst E0
  have K1:Aside (KS w1 ao n f):=HK.out.gw G1.out
  go_wp2_with fail
  refine (clone_k K1.out hn).mono ?_
  rintro e w2 ⟨⟨ko,kc,rfl,hk2,hkc,hkb⟩,g2⟩
  have K2:Aside (KS w2 ko n f∧n≤kc∧∀ a,ko=some a→w1.heap.size≤a.block):=⟨hk2,hkc,hkb⟩
  have G2:Aside (Gw w1 w2):=g2
  clear hk2 hkc hkb g2 K1
  go_wp2_with fail
  have B3:Aside ((w2.alloc (.cells #[.int .i64 eps, .slice ko n kc, .slice none 0 0] 124)).heap[w2.heap.size]?=some (.cells #[.int .i64 eps, .slice ko n kc, .slice none 0 0] 124 (0,0))):=heap_alloc_new w2 _
  have G3:Aside (Gw w2 (w2.alloc (.cells #[.int .i64 eps, .slice ko n kc, .slice none 0 0] 124))):=(Gw.refl w2).alloc _ _
  have z3:(w2.alloc (.cells #[.int .i64 eps, .slice ko n kc, .slice none 0 0] 124)).heap.size=w2.heap.size+1:=by simp
  obtain ⟨pb,hpb⟩:∃ pb,w2.heap.size=pb:=⟨_,rfl⟩
  have PB:Aside (w2.heap.size=pb):=hpb
  have Z3:Aside ((w2.alloc (.cells #[.int .i64 eps, .slice ko n kc, .slice none 0 0] 124)).heap.size=pb+1):=by rw [←hpb];exact z3
  rw [hpb] at B3 ⊢
  clear hpb z3
  generalize w2.alloc (.cells #[.int .i64 eps, .slice ko n kc, .slice none 0 0] 124)=w3 at B3 G3 Z3 ⊢
  obtain ⟨jj,hjj,jz,js,jby⟩:=info_parts info_sgs
  have WP:Aside (w.heap.size≤pb):=by have:=G1.out.size;have:=G2.out.size;have:=PB.out;show _≤_;omega
  go_loopg [26] ln (fun gg s26 wr=>∃ (i:Nat) (vo:Option Addr) (vc:Nat) (vals:List Value),s26=.int .i64 (i:Int)∧i≤ln∧ln-i≤gg∧Aside (wr.heap[pb]?=some (.cells #[.int .i64 eps, .slice ko n kc, .slice vo i vc] 124 (0,0)))∧Aside (OwnV wr (pb+1) (.slice vo i vc) (L.take i) vals)∧Aside (Gw w2 wr))
  case atStart=>exact ⟨0,none,0,[],rfl,Nat.zero_le _,by omega,B3,(show Aside _ from ownv_nil _ _),G3⟩
  case round =>
   clear B3 G3
   obtain ⟨i,vo,vc,vals,rfl,a1,a2,BK,OV,GG⟩:=hrel
   obtain ⟨wS,hwS⟩:∃ wx,wx=wr:=⟨_,rfl⟩
   subst hwS
   by_cases hlt:i<ln
   ·obtain ⟨ab,af,rfl,hab,hac⟩:=(((HV.out.gw G1.out).gw G2.out).gw GG.out).cells (by rw [LN.out];omega)
    obtain ⟨so,sc,p1,_,_,p4⟩:=hac i (by rw [LN.out];exact hlt)
    obtain ⟨lv,hlv⟩:∃ lv,L.getD i []=lv:=⟨_,rfl⟩
    have LV:Aside (L.getD i []=lv):=hlv
    have TK:Aside (L.take (i+1)=L.take i++[lv]):=by have:=take_next (L:=L) (i:=i) (by rw [LN.out];exact hlt);rw [hlv] at this;exact this
    have TL:Aside ((L.take i).length=i):=by show _=_;rw [List.length_take,LN.out];omega
    rw [hlv] at p1 p4
    have sn1:lv.length≤2000000:=by have:=SH.out.2 i (by rw [LN.out];exact hlt);rw [hlv] at this;exact this
    have GSR:Aside (GS wS so lv):=p4
    have CG:Hid (∀ W,Gw wS W→Calls Tryz.prog 92 #[.slice so lv.length sc] W fun e w'=>(∃ bo c,e=.returned (.slice bo lv.length c)∧SR w' W.heap.size (.slice bo lv.length c) lv)∧Gw W w'):=fun W gW=>clone_g (p4.gw gW) sn1
    obtain ⟨sn,hsn⟩:∃ sn,lv.length=sn:=⟨_,rfl⟩
    have SN:Aside (lv.length=sn):=hsn
    rw [hsn] at p1 CG
    have bl:=(Array.getElem?_eq_some_iff.1 BK.out).1
    have OW:Hid (∀ W,Gw wS W→∀ o,(W.alloc o).ownsRow (pb+1) 68 1 (.slice vo i vc) i vals):=fun W gW o=>by
     have:=(OV.out.gw gW).outer
     rw [TL.out] at this
     exact this.alloc o
    have FIN:Hid (∀ (W:World) (bo:Option Addr) (c:Nat) (v':Value) (w7:World),Gw wS W→SR W wS.heap.size (.slice bo sn c) lv→w7.ownsRow (pb+1) 68 1 v' (i+1) (vals++[.slice bo sn c])→(W.alloc (.cells #[.slice bo sn c] 68)).grownBy w7 (Value.slice vo i vc).ownBlock→(v'.ownBlock=(Value.slice vo i vc).ownBlock∨v'.ownBlock=some (W.heap.size+1))→w7.heap[pb]?=some (.cells #[.int .i64 eps, .slice ko n kc, .slice vo i vc] 124 (0,0))∧(w7.setCell ⟨pb,2,none⟩ v').heap[pb]?=some (.cells #[.int .i64 eps, .slice ko n kc,v'] 124 (0,0))∧OwnV (w7.setCell ⟨pb,2,none⟩ v') (pb+1) v' (L.take (i+1)) (vals++[.slice bo sn c])∧Gw w2 (w7.setCell ⟨pb,2,none⟩ v')):=fun W bo c v' w7 gW hs r1 r2 r4=>by
     have ow:∀ q,(Value.slice vo i vc).ownBlock=some q→pb+1≤q:=fun q e=>((OW.out W gW (.cells #[] 0)).lt q e).1
     have B7:w7.heap[pb]?=some (.cells #[.int .i64 eps, .slice ko n kc, .slice vo i vc] 124 (0,0)):=(r2.block pb (by have:=gW.size;simp;omega) (fun e=>by have:=ow pb e.symm;omega)).trans ((heap_alloc_old _ _ (Nat.lt_of_lt_of_le bl gW.size)).trans ((gW.below.block pb bl).trans BK.out))
     refine ⟨B7,set_pl2 B7 v',?_,?_⟩
     ·rw [TK.out]
      have:=OwnV.more (o:=.cells #[.slice bo sn c] 68) OV.out gW hs (by omega) (by rw [TL.out];exact r1) r2 r4
      exact this.keep fun q hq _=>Go.Deep.blk_setCell_other _ _ _ _ (by show q≠pb;omega)
     ·refine Gw.setCell (((GG.out.trans gW).alloc _ _).grown r2 (fun q hq=>?_)) (by show w2.heap.size≤pb;rw [PB.out];exact Nat.le_refl _) _
      have:=ow q hq
      rw [PB.out]
      omega
    have k2:wS.drew.cell? ⟨pb,2,none⟩=some (.slice vo i vc):=(pl_cells BK.out).2.2
    clear hac hlv hsn p4
    go_wp2_with fail
    go_region_law (first
     | (go_simp;refine (CG.out _ ((Gw.refl wS).drew)).mono ?_;rintro e w4 ⟨⟨bo,c,rfl,hs4⟩,g4⟩;have S4:Hid (SR w4 wS.heap.size (.slice bo sn c) lv):=hs4;have G4:Hid (Gw wS w4):=((Gw.refl wS).drew.trans g4);have k4:w4.cell? ⟨pb,2,none⟩=some (.slice vo i vc):=(g4.cell _ _ bl).trans k2;have l4:pb<w4.heap.size:=Nat.lt_of_lt_of_le bl g4.size;clear hs4 g4)
     | (refine step_append_v _ rfl (.tmp 34) (.tmp 37) 56 rfl (pb+1) 68 jj (.slice none 0 0) 1 24 Tryz.underlying56 hjj jz js jby rfl (by decide) (.slice vo i vc) i vals (by simp [Act.eval]) (OW.out w4 G4.out _) ⟨w4.heap.size,0,none⟩ 1 1 [.slice bo sn c] (by simp [Act.eval]) rfl (new_val w4 (.slice bo sn c) 68) (fun u hu=>by simp at hu;subst hu;rfl) (by simp only [maxLen];omega) (by omega) (Nat.le_trans (show pb+1≤w4.heap.size by omega) ((Gw.refl w4).alloc _ _).size) ?_;intro v' w7 r1 r2 r3 r4;obtain ⟨b8,cap8,ev,_,_,_⟩:=own_slice r1 (by simpa using r3);obtain ⟨B7,Q7⟩:=FIN.out w4 bo c v' w7 G4.out S4.out r1 r2 (by simpa using r4);have k7:=(pl_cells B7).2.2;have f7:w7.frozen? ⟨pb,2,none⟩=false:=(by simp [World.frozen?,B7]);have l7:pb<w7.heap.size:=(Array.getElem?_eq_some_iff.1 B7).1;have Q8:Hid _:=Q7;clear B7 Q7 r1 r2 r3 r4;subst ev))
    all_goals go_wp2_with fail
    all_goals go_roundg (ln-(i+1))
    all_goals first
     | (case measure=>omega)
     | (case rel=>exact ⟨i+1,some ⟨b8,0,none⟩,cap8,vals++[Value.slice bo sn c],by go_num,by omega,Nat.le_refl _,(show Aside _ from Q8.out.1),(show Aside _ from Q8.out.2.1),(show Aside _ from Q8.out.2.2)⟩)
   ·have ei:i=ln:=by omega
    subst ei
    have e1:L.take i=L:=by rw [List.take_of_length_le (by rw [LN.out];exact Nat.le_refl _)]
    have OV':OwnV wS w.heap.size (.slice vo L.length vc) L vals:=by
     have:=OV.out
     rw [e1] at this
     rw [LN.out]
     exact this.base (by have:=WP.out;omega)
    have GA:Aside (Gw w wS):=(G1.out.trans G2.out).trans GG.out
    have VSF:VSf wS w.heap.size vo L:=OV'.vsf (vs_ok8 HV.out)
    have HPL:Aside (HPile wS pb (fun q=>w.heap.size≤q∧q<wS.heap.size) eps f n L):=by
     refine ⟨⟨wS,w.heap.size,ko,kc,vo,vc,fun q=>Iff.rfl,Nat.le_refl _,fun q _ _=>rfl,by rw [LN.out];exact BK.out,WP.out,K2.out.1.gw GG.out,fun a ea=>Nat.le_trans G1.out.size (K2.out.2.2 a ea),VSF⟩,hn,SH.out⟩
    clear OV' VSF e1
    go_wp2_with fail
    go_ret2
    exact ⟨⟨0,CR.out, .inr ⟨rfl,pb,_,rfl,fun q hq=>hq.1,HPL.out⟩⟩,GA.out⟩
 ·have t0:(E == 0)=false:=by simpa using E0
  have HE:Aside (E≠0):=E0
  clear E0
  go_wp2_with fail
  go_ret2
  exact ⟨⟨E,CR.out, .inl ⟨HE.out,rfl⟩⟩,G1.out⟩
end Go.Proofs.YtinefkljjnepjabGreat
