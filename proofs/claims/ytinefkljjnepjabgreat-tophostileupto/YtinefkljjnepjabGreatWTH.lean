/- The tops' holds: the second promise holds of a run, for a number. -/
import Derived.Deep.CutBlock
import Derived.Deep.DeepCutAuto
import Derived.Deep.RegionHeld3
import Derived.Test.YtinefkljjnepjabGreatWTT
import Derived.Test.YtinefkljjnepjabGreatWPXR
import Derived.Test.YtinefkljjnepjabGreatWPMt
namespace Go.Proofs.YtinefkljjnepjabGreat
open Go.RowKit
set_option linter.unusedVariables false
attribute [local go_sem] run_store_float
theorem getV_all (k v:Nat→Int) (g:Nat→Bool) (n:Nat) (q:Int):∃ a b c t,getV k v g n q=(.agg #[.int .u64 a, .int .u64 b, .bool c],t)∧(t=true↔(cntb k q n<n∧k (cntb k q n)=q))∧(t=true→a=k (cntb k q n)∧b=v (cntb k q n)∧c=g (cntb k q n)):=by
 unfold getV
 by_cases h:cntb k q n<n∧k (cntb k q n)=q
 ·rw [if_pos h];exact ⟨_,_,_,_,rfl,⟨fun _=>h,fun _=>rfl⟩,fun _=>⟨rfl,rfl,rfl⟩⟩
 ·rw [if_neg h];exact ⟨_,_,_,_,rfl,⟨fun e=>by (cases e),fun e=>absurd e h⟩,fun e=>by (cases e)⟩
theorem Ready.up0 {eps:Int} {k:Nat→Int} {n:Nat} {L:List (List Sg)} (h:Ready eps k n L):Up k n:=by
 by_cases e:L.length=0
 ·have:=h.z.1 e
  subst this
  intro i hi
  omega
 ·exact (h.lv.lvl 0 (by omega)).up
structure VF (eps q:Int) (k:Nat→Int) (n:Nat) (L:List (List Sg)) (l rk:Nat) (gu lo hi:Int):Prop where
 sl:slotA q L l<(L.getD l []).length
 far:gu-rk≤eps+1∧rk-gu≤eps+1
 near:(rk<rowN n L l∧rowF k L l rk=q)→gu-rk≤eps∧rk-gu≤eps
 g0:0≤gu∧gu≤4294967296
 win:hi-lo≤2*eps+2∧0≤lo∧lo≤4294967296∧0≤hi∧hi≤4294967296
 le:rk≤rowN n L l
 low:∀ r,r<rk→rowF k L l r<q
 top:rk<rowN n L l→q≤rowF k L l rk
theorem Ready.vf {eps q:Int} {k:Nat→Int} {n:Nat} {L:List (List Sg)} (h:Ready eps k n L) (q1:q<18446744073709551616) {l:Nat} (hl:l<L.length):VF eps q k n L l (cntb (rowF k L l) q (rowN n L l)) (guessA q L l) (max (segA q L l).fr (guessA q L l-eps-1)) (min (segA q L l).te (guessA q L l+eps+1)):=by
 have V:=h.lv.vis (q:=q) q1 hl
 obtain ⟨a,b,c,d,e,e',_⟩:=h.lv.bounds (q:=q) q1 hl
 have B:=h.lv.below (q:=q) hl
 have f:=V.far
 have e0:=h.e0
 refine ⟨h.lv.slot hl,?_,fun x=>?_,by omega,by omega,cntb_le _ _ _,B.1,fun x=>B.2 _ (Nat.le_refl _) x⟩
 ·unfold guessA;omega
 ·have:=V.near x
  unfold guessA
  omega
theorem path_at {eps q:Int} {f:Nat→Int} {n:Nat} {L:List (List Sg)} {k:Nat} (hk:k<L.length):(pathL eps q f n L).getD k vis0=visAt eps q f n L (L.length-1-k):=by
 unfold pathL
 simp [List.getD,hk]
def cntP (p:Nat→Bool):Nat→Nat
 | 0=>0
 | k+1=>cntP p k+(if p k=true then 1 else 0)
theorem cntP_le (p:Nat→Bool):∀ k,cntP p k≤k
 | 0=>Nat.le_refl _
 | k+1=>by
  have:=cntP_le p k
  show cntP p k+_≤_
  split<;>omega
theorem cntP_or {p q r:Nat→Bool}:∀ k,(∀ j,j<k→(r j=true↔(p j=true∨q j=true))∧¬ (p j=true∧q j=true))→cntP r k=cntP p k+cntP q k
 | 0,_=>rfl
 | k+1,h=>by
  have ih:=cntP_or k fun j hj=>h j (by omega)
  obtain ⟨a,b⟩:=h k (by omega)
  show cntP r k+_=cntP p k+_+(cntP q k+_)
  rw [ih]
  by_cases x:p k=true
  ·by_cases y:q k=true
   ·exact absurd ⟨x,y⟩ b
   ·rw [if_pos x,if_neg y,if_pos (a.2 (.inl x))];omega
  ·by_cases y:q k=true
   ·rw [if_neg x,if_pos y,if_pos (a.2 (.inr y))];omega
   ·rw [if_neg x,if_neg y,if_neg (fun z=>(a.1 z).elim x y)];omega
theorem cntP_all {p:Nat→Bool}:∀ k,(∀ j,j<k→p j=true)→cntP p k=k
 | 0,_=>rfl
 | k+1,h=>by
  show cntP p k+_=_
  rw [cntP_all k fun j hj=>h j (by omega),if_pos (h k (by omega))]
theorem cntP_none {p:Nat→Bool}:∀ k,(∀ j,j<k→p j=false)→cntP p k=0
 | 0,_=>rfl
 | k+1,h=>by
  show cntP p k+_=_
  rw [cntP_none k fun j hj=>h j (by omega),if_neg (by rw [h k (by omega)];decide)]
def askG (A:List (Int×Int)) (l:Nat):Nat:=cntP (fun j=>decide ((l:Int)≤(A.getD j (0,0)).1)) A.length
def askL (A:List (Int×Int)) (l:Nat) (k:Nat):Nat:=cntP (fun j=>(A.getD j (0,0)).1 == (l:Int)) k
theorem askG_next (A:List (Int×Int)) (l:Nat):askG A l=askG A (l+1)+askL A l A.length:=by
 refine cntP_or _ fun j _=>?_
 refine ⟨?_,?_⟩
 ·simp only [decide_eq_true_eq,beq_iff_eq]
  omega
 ·simp only [decide_eq_true_eq,beq_iff_eq]
  omega
theorem pair_mem {l:List (Int×Int)} {i:Nat} (h:i<l.length):l.getD i (0,0)∈l:=by
 rw [List.getD_eq_getElem?_getD,List.getElem?_eq_getElem h]
 exact List.getElem_mem h
theorem pair_apart {l:List (Int×Int)} (nd:l.Nodup) {i k:Nat} (hi:i<l.length) (hk:k<i):l.getD i (0,0)≠l.getD k (0,0):=by
 rw [List.getD_eq_getElem?_getD,List.getElem?_eq_getElem hi,List.getD_eq_getElem?_getD,List.getElem?_eq_getElem (show k<l.length by omega)]
 intro e
 have e':l[k]'(by omega)=l[i]:=e.symm
 have:=(List.pairwise_iff_getElem.1 nd) k i (by omega) hi hk
 exact this e'
theorem AskR.all {eps q:Int} {f:Nat→Int} {n:Nat} {L:List (List Sg)} {A B:List (Int×Int)} (h:AskR eps q f n L A B):askG A 0=A.length :=
 cntP_all _ fun j hj=>by
  obtain ⟨i,_,e,_⟩:=h.ain _ (pair_mem hj)
  rw [e]
  simp
theorem AskR.none {eps q:Int} {f:Nat→Int} {n:Nat} {L:List (List Sg)} {A B:List (Int×Int)} (h:AskR eps q f n L A B):askG A L.length=0 :=
 cntP_none _ fun j hj=>by
  obtain ⟨i,hi,e,_⟩:=h.ain _ (pair_mem hj)
  rw [e]
  simp
  omega
theorem info_iT:(Tryz.prog.info? 3).map (fun i=>(i.zero,i.size,i.bytes))=some (some (.int .i64 0),1,8):=by kernel_rfl
theorem cells_intT:Tryz.prog.cellsOf 3=1:=by kernel_rfl
set_option maxRecDepth 100000 in
theorem unlikeT {a b c d:Int} (h:(a,b)≠(c,d)) (W:World):(Op.equalIn 10000 102 (.agg #[.int .i64 a, .int .i64 b]) (.agg #[.int .i64 c, .int .i64 d])).run Tryz.prog W=.ok false W:=by
 obtain ⟨i,hi,_,hs,_⟩:=info_parts info_iT
 have e:(10000:Nat)=9999+1:=rfl
 rw [e,run_equalIn_array W 9999 _ _ Tryz.underlying102 hi,cells_intT,show List.range 2=[0,1] from rfl]
 have r:∀ (x y:Int) (W:World),(Op.equalIn 9999 3 (.int .i64 x) (.int .i64 y)).run Tryz.prog W=.ok (x == y) W:=fun x y W=>run_equalIn_int W 9998 3 .i64 .i64 x y Tryz.underlying3
 have p0:∀ (x y:Int) (W:World),(part 3 #[.int .i64 x, .int .i64 y] 0).run Tryz.prog W=.ok (.int .i64 x) W:=fun x y W=>by kernel_rfl
 have p1:∀ (x y:Int) (W:World),(part 3 #[.int .i64 x, .int .i64 y] 1).run Tryz.prog W=.ok (.int .i64 y) W:=fun x y W=>by kernel_rfl
 simp only [Op.eqItems,Nat.mul_one,Sem.run_bind,p0,Result.andThen_ok,r]
 by_cases e1:a=c
 ·have e2:¬ b=d:=fun e2=>h (by rw [e1,e2])
  have b1:(a == c)=true:=by simpa using e1
  have b2:(b == d)=false:=by simpa using e2
  simp [b1,b2,p1,r]
 ·have b1:(a == c)=false:=by simpa using e1
  simp [b1]
set_option maxRecDepth 10000 in
set_option maxHeartbeats 8000000 in
theorem holds_any {HR:World→Nat→(Nat→Prop)→Int→(Nat→Int)→(Nat→Int)→(Nat→Bool)→Nat→List (List Sg)→Prop} (H:RunC HR) (M:ModelC) {w:World} {p:Nat} {S:Nat→Prop} {eps:Int} {k v:Nat→Int} {g:Nat→Bool} {n:Nat} {L:List (List Sg)} (h:HR w p S eps k v g n L) (bd:∀ i,i<n→(0≤k i∧k i<18446744073709551616)∧(0≤v i∧v i<18446744073709551616)) (q:Int) (q0:0≤q) (q1:q<18446744073709551616) :
  Calls Tryz.prog 17 #[.pointer (some ⟨p,0,none⟩), .int .u64 q] w fun e w'=>e=.returned (.bool true)∧Gw w w':=by
 have HH:Aside (RunC HR):=H
 have R0:Aside (HR w p S eps k v g n L):=h
 have BD:Aside (∀ i,i<n→(0≤k i∧k i<18446744073709551616)∧(0≤v i∧v i<18446744073709551616)):=bd
 have RD:=H.ready h
 have RY:Aside (Ready eps k n L):=RD
 have n1:=RD.n1
 have e0:=RD.e0
 have e1:=RD.e1
 obtain ⟨pp,Sp,cp0,hp,_⟩:=H.pile h
 have pl:p<w.heap.size:=H.lt h p (H.own h)
 obtain ⟨ln,hln⟩:∃ ln,L.length=ln:=⟨_,rfl⟩
 have LN:Aside (L.length=ln):=hln
 have s1:ln≤2000000:=hln▸RD.sh.1
 have HL:Aside (∀ i,i<ln→(L.getD i []).length≤2000000):=fun i hi=>RY.out.sh.2 i (by rw [LN.out];exact hi)
 have PI:Aside (∀ W,Gw w W→HPile W pp Sp eps k n L):=fun W gg=>hp.keep fun q hq=>gg.below.block q (hp.lt q hq)
 have UP0:Aside (Up k n):=RD.up0
 have EP:Hid (∀ W,Gw w W→Calls Tryz.prog 26 #[.pointer (some ⟨pp,0,none⟩)] W fun e w'=>e=.returned (.int .i64 eps)∧w'=W):=fun W gg=>pl_eps (PI.out W gg)
 have LI:Hid (∀ W,Gw w W→Calls Tryz.prog 10 #[.pointer (some ⟨p,0,none⟩)] W fun e w'=>(∃ bo c,e=.returned (.slice bo n c)∧ES w' bo n k v g)∧Gw W w'):=fun W gg=>(HH.out.list (HH.out.gw R0.out gg)).mono fun e w' ⟨⟨bo,c,a,er⟩,b⟩=>⟨⟨bo,c,a,er_es er BD.out⟩,b⟩
 have LV:Hid (Calls Tryz.prog 29 #[.pointer (some ⟨p,0,none⟩)] w fun e w'=>(∃ mo mc,e=.returned (.slice mo ln mc)∧VS w' mo L)∧Gw w w'):=(HH.out.levels R0.out).mono fun e w' ⟨⟨mo,mc,vals,a,ow,lok,hl⟩,b⟩=>⟨⟨mo,mc,by rw [←LN.out];exact a,(ow.vsf lok).vs⟩,b⟩
 have CP:Hid (∀ W,Gw w W→W.cell? ⟨p,0,none⟩=some (.pointer (some ⟨pp,0,none⟩))∧p<W.heap.size):=fun W gg=>⟨(gg.cell _ _ pl).trans cp0,Nat.lt_of_lt_of_le pl gg.size⟩
 obtain ⟨ga,gb,gc,gt,hg,hgt,hgv⟩:=getV_all k v g n q
 have GR:Hid (∀ W,Gw w W→Calls Tryz.prog 11 #[.pointer (some ⟨p,0,none⟩), .int .u64 q] W fun e w'=>e=.returned (.tuple #[.agg #[.int .u64 ga, .int .u64 gb, .bool gc], .bool gt])∧Gw W w'):=fun W gg=>by
  have:=HH.out.get (HH.out.gw R0.out gg) q q0 q1
  rw [hg] at this
  exact this
 have cle:=cntb_le k q n
 have FV:foundV k n q=.tuple #[.int .i64 ((cntb k q n:Nat):Int), .bool gt]:=by
  unfold foundV
  have e:decide (cntb k q n<n∧k (cntb k q n)=q)=gt:=by
   rw [Bool.eq_iff_iff,hgt]
   simp
  rw [e]
 have BL:Hid (∀ (W:World) (ko:Option Addr) (kc:Nat),KS W ko n k→Calls Tryz.prog 49 #[.slice ko n kc, .int .u64 q] W fun e w'=>e=.returned (.tuple #[.int .i64 ((cntb k q n:Nat):Int), .bool gt])∧Gw W w'):=fun W ko kc hk=>by
  have:=tbelow_any ko n kc k q (by omega) UP0.out W hk
  have e:decide (cntb k q n<n∧k (cntb k q n)=q)=gt:=by
   rw [Bool.eq_iff_iff,hgt]
   simp
  rw [e] at this
  exact this
 have KR0:=fun W gg=>HH.out.rank (HH.out.gw R0.out (w':=W) gg) q q0 q1
 have CC0:Aside (cntb (rowF k L 0) q (rowN n L 0)=cntb k q n):=rfl
 obtain ⟨cc,hcc⟩:∃ c,cntb k q n=c:=⟨_,rfl⟩
 rw [hcc] at hgt hgv cle CC0 KR0 FV BL
 have KQ:Hid (∀ W,Gw w W→Calls Tryz.prog 12 #[.pointer (some ⟨p,0,none⟩), .int .u64 q] W fun e w'=>e=.returned (.int .i64 (cc:Int))∧Gw W w'):=KR0
 have GT:Aside ((gt=true↔(cc<n∧k cc=q))∧(gt=true→ga=k cc∧gb=v cc∧gc=g cc)):=⟨hgt,hgv⟩
 have PT:Hid (∀ W,Gw w W→Calls Tryz.prog 50 #[.pointer (some ⟨p,0,none⟩), .int .u64 q] W fun ex w'=>(∃ bo c,ex=.returned (.slice bo ln c)∧PV w' bo (pathL eps q k n L))∧Gw W w'):=fun W gg=>by
  have:=rpath11 M (CP.out W gg).1 (CP.out W gg).2 (PI.out W gg) RY.out q q0 q1
  rw [LN.out] at this
  exact this.mono fun e w' ⟨⟨bo,c,a,b,_⟩,d⟩=>⟨⟨bo,c,a,b⟩,d⟩
 have FW:Hid (∀ (w0 W:World) (pm:Nat),Gw w w0→WS w0 pm p W (fun q=>q=pm) [] []→Calls Tryz.prog 48 #[.pointer (some ⟨pm,0,none⟩), .int .u64 q] W fun e w'=>(e=.returned (.tuple #[.int .i64 (cc:Int), .bool gt])∧∃ S' A B,WT w' pm p S' A∧AskR eps q k n L A B)∧Gw w0 w'):=fun w0 W pm gg hm=>by
  have D:=dsc_watch (p:=pm) (CP.out w0 gg).1 (CP.out w0 gg).2 (PI.out w0 gg)
  refine (xfind_watch D M RY.out q q0 q1 hm (by simp) (by simp)).mono ?_
  rintro e w' ⟨⟨S',A',B',rfl,ms,ar,_⟩,_⟩
  rw [FV]
  exact ⟨⟨rfl,S',A',B',by have:=ms.2.2;rwa [List.nil_append] at this,ar⟩,ms.1⟩
 have GM:Hid (∀ (s:Sg),s.ok→∀ W,Calls Tryz.prog 52 #[sgV s, .int .u64 q] W fun e w'=>e=.returned (.int .i64 (guessV s.k s.sl s.ic s.fr s.te q))∧Gw W w'):=fun s so W=>M.guess s.k s.sl s.ic s.fr s.te q so q0 q1 W
 have RC:Aside (∀ l,l<ln→VF eps q k n L l (cntb (rowF k L l) q (rowN n L l)) (guessA q L l) (max (segA q L l).fr (guessA q L l-eps-1)) (min (segA q L l).te (guessA q L l+eps+1))):=fun l hl=>RY.out.vf q1 (by rw [LN.out];exact hl)
 clear h H M RD hp cp0 pl hg hgt hgv hcc hln bd KR0 FV
 go_enter Tryz.func17,Tryz.ntmps17
 go_wp2_with fail
 refine Calls.mono LV.out ?_
 rintro e w1 ⟨⟨vo,vc,rfl,va⟩,g1⟩
 have V1:Aside (VS w1 vo L):=va
 have G1:Aside (Gw w w1):=g1
 clear va g1 LV
 go_wp2_with fail
 refine Calls.mono (LI.out _ G1.out) ?_
 rintro e w2 ⟨⟨lo,lc,rfl,ea⟩,g2⟩
 have E2:Aside (ES w2 lo n k v g):=ea
 have G12:Aside (Gw w1 w2):=g2
 clear ea g2 LI
 go_wp2_with fail
 refine Calls.mono (tof_any lo n lc k v g (by omega) w2 E2.out) ?_
 rintro e w3 ⟨⟨kb,kc,rfl,_,_,hk⟩,g3⟩
 have K3:Aside (KS w3 (some ⟨kb,0,none⟩) n k):=hk
 have E3:Aside (ES w3 lo n k v g):=E2.out.gw g3
 have G13:Aside (Gw w1 w3):=G12.out.trans g3
 have G3:Aside (Gw w w3):=G1.out.trans G13.out
 have V3:Aside (VS w3 vo L):=V1.out.gw G13.out
 clear hk g3 E2 G12 G13 V1 G1
 obtain ⟨c0,l0⟩:=CP.out _ G3.out
 go_wp2_with fail
 refine Calls.mono (EP.out _ G3.out) ?_
 rintro e w4 ⟨rfl,e4⟩
 have e5:=e4.symm
 subst e5
 clear e4 c0 l0 EP
 have HW:Aside (WS w3 w3.heap.size p (w3.alloc (.cells #[.pointer (some ⟨p,0,none⟩), .slice none 0 0] 90)) (fun q=>q=w3.heap.size) [] []):=by
  refine ⟨(Gw.refl w3).alloc _ _,fun q hq=>by rw [hq];exact Nat.le_refl _,⟨.slice none 0 0,heap_alloc_new w3 _,ar_nil _,by simp [Value.ownBlock],fun q=>by simp [Value.ownBlock]⟩⟩
 go_wp2_with fail
 obtain ⟨pm,hpm⟩:∃ x,w3.heap.size=x:=⟨_,rfl⟩
 rw [hpm] at HW ⊢
 generalize w3.alloc (.cells #[.pointer (some ⟨p,0,none⟩), .slice none 0 0] 90)=wA at HW ⊢
 refine Calls.mono (FW.out w3 _ _ G3.out HW.out) ?_
 rintro e w5 ⟨⟨rfl,S5,A,B,wt,ak⟩,g5⟩
 have G5:Aside (Gw w3 w5):=g5
 obtain ⟨va,hblk,har,_,_⟩:=wt.blk
 obtain ⟨aA,cA,rfl,_,pA⟩:=ar_form har
 have PA:Aside (PSz w5 aA A):=pA
 have AK:Aside (AskR eps q k n L A B):=ak
 have few:=ak.few (by omega)
 obtain ⟨an,han⟩:∃ an,A.length=an:=⟨_,rfl⟩
 have AN:Aside (A.length=an):=han
 rw [LN.out,han] at few
 have fb:(ln:Int)*(2*eps+3)≤2000000*131:=Int.mul_le_mul (by omega) (by omega) (by omega) (by omega)
 have f0:0≤(ln:Int)*(2*eps+3):=Int.mul_nonneg (by omega) (by omega)
 have anb:an≤262000000:=by omega
 have CW:Hid (∀ W,Gw w5 W→W.cell? ⟨pm,1,none⟩=some (.slice aA an cA)∧pm<W.heap.size):=by
  have c1:w5.cell? ⟨pm,1,none⟩=some (.slice aA an cA):=by rw [←han];simp [World.cell?,hblk]
  have pl:pm<w5.heap.size:=(Array.getElem?_eq_some_iff.1 hblk).1
  exact fun W gg=>⟨(gg.cell _ _ pl).trans c1,Nat.lt_of_lt_of_le pl gg.size⟩
 have E5:Aside (ES w5 lo n k v g):=E3.out.gw g5
 have K5:Aside (KS w5 (some ⟨kb,0,none⟩) n k):=K3.out.gw g5
 have V5:Aside (VS w5 vo L):=V3.out.gw g5
 have G05:Aside (Gw w w5):=G3.out.trans g5
 clear g5 wt ak hblk har pA han HW FW E3 K3 V3 G3 G5 hpm
 go_wp2_with fail
 refine Calls.mono (BL.out w5 _ _ K5.out) ?_
 rintro e w6 ⟨rfl,g6⟩
 have G6:Aside (Gw w5 w6):=g6
 clear g6 BL
 go_wp2_with fail
 refine Calls.mono (GR.out _ (G05.out.trans G6.out)) ?_
 rintro e w7 ⟨rfl,g7⟩
 have G8:Aside (Gw w5 (w7.alloc (.cells #[.int .u64 ga, .int .u64 gb, .bool gc] 39))):=(G6.out.trans g7).alloc _ _
 have E8:Aside ((w7.alloc (.cells #[.int .u64 ga, .int .u64 gb, .bool gc] 39)).heap[w7.heap.size]?=some (.cells #[.int .u64 ga, .int .u64 gb, .bool gc] 39)):=heap_alloc_new w7 _
 clear g7 GR G6
 go_upto_region 9 with fail
 obtain ⟨b8,hb8⟩:∃ b,w7.heap.size=b:=⟨_,rfl⟩
 rw [hb8] at E8 ⊢
 generalize w7.alloc (.cells #[.int .u64 ga, .int .u64 gb, .bool gc] 39)=w8 at G8 E8 ⊢
 clear hb8
 have T20:Aside (gt=true→cc<n):=fun e=>(GT.out.1.1 e).1
 have G08:Aside (Gw w w8):=G05.out.trans G8.out
 obtain ⟨x0,x1,x2⟩:w8.cell? ⟨b8,0,none⟩=some (.int .u64 ga)∧w8.cell? ⟨b8,1,none⟩=some (.int .u64 gb)∧w8.cell? ⟨b8,2,none⟩=some (.bool gc):=by
  have e:=E8.out
  refine ⟨?_,?_,?_⟩<;>simp [World.cell?,e]
 have bl:b8<w8.heap.size:=(Array.getElem?_eq_some_iff.1 E8.out).1
 have y0:=GX.cell x0 bl
 have y1:=GX.cell x1 bl
 have y2:=GX.cell x2 bl
 have ne:=GX.some w8
 go_cut [11,13,15,91] (fun a b c s wx=>a=.bool gt∧b=.bool gt∧c=.bool gt∧s=.bool false∧Aside (Gw w8 wx))
 case first=>as_aux_lemma =>
  cases hgt:gt with
  | true =>
   have xn:cc<n:=T20.out hgt
   have xn':(cc:Int)<(n:Int):=by omega
   obtain ⟨v1,v2,v3⟩:=GT.out.2 hgt
   obtain ⟨lb,loff,rfl,hlb,hlc⟩:=(E5.out.gw G8.out).cells (by omega)
   obtain ⟨k0,k1,k2⟩:=hlc cc xn
   rw [←v1] at k0
   rw [←v2] at k1
   rw [←v3] at k2
   have z0:=GX.cell k0 hlb
   have z1:=GX.cell k1 hlb
   have z2:=GX.cell k2 hlb
   clear hlc v1 v2 v3 k0 k1 k2 x0 x1 x2
   refine wp_region_growx (by kernel_rfl) (by kernel_rfl) ?_
   repeat (go_big_quiet_step (fail))
   go_big_quiet_want
   go_big_quiet_op
   go_big_quiet_call (exact growx_of (KQ.out _ (G08.out.trans (GX.gw _))))
   repeat (go_big_quiet_step (fail))
   refine wpQuiet_nil ?_
   rintro _ ⟨gw,rfl⟩
   go_wp2_with fail
   go_meet
   case rel=>exact ⟨by rw [hgt],by rw [hgt],by rw [hgt],rfl,(show Aside _ from gw.gw)⟩
  | false =>
   clear x0 x1 x2
   refine wp_region_growx (by kernel_rfl) (by kernel_rfl) ?_
   repeat (go_big_quiet_step (fail))
   go_big_quiet_want
   go_big_quiet_op
   go_big_quiet_call (exact growx_of (KQ.out _ (G08.out.trans (GX.gw _))))
   repeat (go_big_quiet_step (fail))
   refine wpQuiet_nil ?_
   rintro _ ⟨gw,rfl⟩
   go_wp2_with fail
   go_meet
   case rel=>exact ⟨by rw [hgt],by rw [hgt],by rw [hgt],rfl,(show Aside _ from gw.gw)⟩
 case rest=>as_aux_lemma =>
  obtain ⟨rfl,rfl,rfl,rfl,g9⟩:=hcut
  obtain ⟨w9,hw9⟩:∃ wx,wx=wc:=⟨_,rfl⟩
  subst hw9
  clear y0 y1 y2 ne x0 x1 x2 bl E8
  have G9:Aside (Gw w5 w9):=G8.out.trans g9.out
  clear g9 G8 G08 KQ T20
  go_wp2_with fail
  refine Calls.mono (PT.out _ (G05.out.trans G9.out)) ?_
  rintro e w10 ⟨⟨po,pc,rfl,pv⟩,g10⟩
  have P10:Aside (PV w10 po (pathL eps q k n L)):=pv
  have G10:Aside (Gw w5 w10):=G9.out.trans g10
  clear pv g10 G9 PT
  have l1:Aside (∀ j,j<ln→j<(pathL eps q k n L).length):=fun j hj=>by rw [pathL_len,LN.out];exact hj
  have A0:Aside (askG A ln=0):=by
   have:=AK.out.none
   rw [LN.out] at this
   exact this
  go_wp2_with fail
  go_loopg [17,18] ln (fun gg s17 s18 wr=>∃ j:Nat,s17=.int .i64 ((askG A (ln-j):Nat):Int)∧s18=.int .i64 (j:Int)∧j≤ln∧ln-j≤gg∧Aside (Gw w10 wr))
  case atStart=>exact ⟨0,by rw [Nat.sub_zero,A0.out];rfl,rfl,Nat.zero_le _,by omega,(show Aside _ from Gw.refl w10)⟩
  case round=>as_aux_lemma =>
   obtain ⟨j,rfl,rfl,b1,b2,G11⟩:=hrel
   obtain ⟨wT,hwT⟩:∃ wx,wx=wr:=⟨_,rfl⟩
   subst hwT
   by_cases jlt:j<ln
   ·have jlt':(j:Int)<(ln:Int):=by omega
    obtain ⟨vb,vf,rfl,hvb,hvc⟩:=(P10.out.gw G11.out).cells (by have:=l1.out j jlt;omega)
    have V:=hvc j (l1.out j jlt)
    rw [path_at (by rw [LN.out];exact jlt),LN.out] at V
    obtain ⟨l,hl⟩:∃ l,ln-1-j=l:=⟨_,rfl⟩
    rw [hl] at V
    have llt:l<ln:=by omega
    have F:=RC.out l llt
    have v0:wT.cell? ⟨vb,vf+j*6,none⟩=some (.int .i64 (l:Int)):=V.c0
    have v1:wT.cell? ⟨vb,vf+j*6+1,none⟩=some (.int .i64 ((slotA q L l:Nat):Int)):=V.c1
    have v2:wT.cell? ⟨vb,vf+j*6+2,none⟩=some (.int .i64 (guessA q L l)):=V.c2
    have v3:wT.cell? ⟨vb,vf+j*6+3,none⟩=some (.int .i64 (max (segA q L l).fr (guessA q L l-eps-1))):=V.c3
    have v4:wT.cell? ⟨vb,vf+j*6+4,none⟩=some (.int .i64 (min (segA q L l).te (guessA q L l+eps+1))):=V.c4
    have v5:wT.cell? ⟨vb,vf+j*6+5,none⟩=some (.int .i64 ((cntb (rowF k L l) q (rowN n L l):Nat):Int)):=V.c5
    have RK0:Aside (l=0→rowN n L l=n∧rowF k L l=k):=fun e=>by subst e;exact ⟨rfl,rfl⟩
    have GD:Aside (guessA q L l=guessV (segA q L l).k (segA q L l).sl (segA q L l).ic (segA q L l).fr (segA q L l).te q):=rfl
    have SD:Aside (segA q L l=(L.getD l []).getD (slotA q L l) sg0):=rfl
    have AI:Aside (∀ t,t<an→(A.getD t (0,0)).1=(l:Int)→max (segA q L l).fr (guessA q L l-eps-1)≤(A.getD t (0,0)).2∧(A.getD t (0,0)).2≤min (segA q L l).te (guessA q L l+eps+1)∧(A.getD t (0,0)).2<(segA q L l).te):=fun t ht e=>by
     obtain ⟨i,_,h1,h2,h3,h4⟩:=AK.out.ain _ (pair_mem (l:=A) (i:=t) (by rw [AN.out];exact ht))
     have ei:i=l:=by omega
     subst ei
     exact ⟨h2,h3,h4⟩
    have wf:max (segA q L l).fr (guessA q L l-eps-1)≥(segA q L l).fr∧min (segA q L l).te (guessA q L l+eps+1)≤(segA q L l).te:=by omega
    generalize segA q L l=sg at v3 v4 F GD SD AI wf
    generalize guessA q L l=gu at v2 v3 v4 F GD AI wf
    generalize max sg.fr (gu-eps-1)=wlo at v3 F AI wf
    generalize min sg.te (gu+eps+1)=whi at v4 F AI wf
    clear hvc V
    have stl:=F.sl
    obtain ⟨rk,hrk⟩:∃ x,cntb (rowF k L l) q (rowN n L l)=x:=⟨_,rfl⟩
    rw [hrk] at v5 F
    have WI:=F.win
    have FR:=F.far
    have GZ:=F.g0
    have FLE:=F.le
    have UPR:Up (rowF k L l) (rowN n L l):=(RY.out.lv.lvl l (by rw [LN.out];exact llt)).up
    obtain ⟨rn,hrn⟩:∃ x,rowN n L l=x:=⟨_,rfl⟩
    obtain ⟨rf,hrf⟩:∃ x,rowF k L l=x:=⟨_,rfl⟩
    rw [hrn,hrf] at hrk UPR
    have FN:Aside ((rk<rn∧rf rk=q)→gu-rk≤eps∧rk-gu≤eps):=by
     have c:=F.near
     rw [hrf,hrn] at c
     exact c
    have RK1:Aside (l=0→rn=n∧rf=k):=by
     show l=0→_
     intro e
     have:=RK0.out e
     rw [hrn,hrf] at this
     exact this
    have RK2:Aside (∀ l',l=l'+1→rn=(L.getD l' []).length∧rf=fst8 (L.getD l' [])):=by
     show ∀ l',l=l'+1→_
     intro l' e
     subst e
     exact ⟨hrn.symm,hrf.symm⟩
    rw [hrn] at FLE
    have rnb:rn≤2000000:=by
     by_cases e:l=0
     ·have:=(RK1.out e).1;omega
     ·obtain ⟨l',hl'⟩:∃ x,l=x+1:=⟨l-1,by omega⟩
      have:=(RK2.out l' hl').1
      have:=HL.out l' (by omega)
      omega
    obtain ⟨sd,hsd⟩:∃ sd:Bool,decide (rk<rn∧rf rk=q)=sd:=⟨_,rfl⟩
    have SDB:Aside (sd=true↔(rk<rn∧rf rk=q)):=by
     show _↔_
     rw [←hsd]
     simp
    have BW:Hid (∀ (W:World) (ro:Option Addr) (rc:Nat),KS W ro rn rf→Calls Tryz.prog 49 #[.slice ro rn rc, .int .u64 q] W fun e w'=>e=.returned (.tuple #[.int .i64 (rk:Int), .bool sd])∧Gw W w'):=fun W ro rc hk=>by
     have:=tbelow_any ro rn rc rf q (by omega) UPR W hk
     rw [hrk,hsd] at this
     exact this
    have VW:Aside (VS wT vo L):=V5.out.gw (G10.out.trans G11.out)
    have KW:Aside (KS wT (some ⟨kb,0,none⟩) n k):=K5.out.gw (G10.out.trans G11.out)
    obtain ⟨ub,uf,rfl,hub,huc⟩:=VW.out.cells (by rw [LN.out];omega)
    obtain ⟨so,sc,p1,p2,p3,p4⟩:=huc l (by rw [LN.out];exact llt)
    have sok:=p4.ok (slotA q L l) stl
    obtain ⟨sb,sf,rfl,hsb,hsc⟩:=p4.cells (by omega)
    have SC:=hsc (slotA q L l) stl
    have snb:=HL.out l llt
    obtain ⟨sn,hsn⟩:∃ x,(L.getD l []).length=x:=⟨_,rfl⟩
    rw [hsn] at p1 stl snb
    rw [←SD.out] at sok SC
    generalize slotA q L l=st at v1 SD stl SC
    obtain ⟨sk,ssl,sic,sfr,ste⟩:=sg
    have s0:wT.cell? ⟨sb,sf+st*5,none⟩=some (.int .u64 sk):=SC.c0
    have s1':wT.cell? ⟨sb,sf+st*5+1,none⟩=some (.float .f64 ssl):=SC.c1
    have s2:wT.cell? ⟨sb,sf+st*5+2,none⟩=some (.float .f64 sic):=SC.c2
    have s3:wT.cell? ⟨sb,sf+st*5+3,none⟩=some (.int .i64 sfr):=SC.c3
    have s4:wT.cell? ⟨sb,sf+st*5+4,none⟩=some (.int .i64 ste):=SC.c4
    have wf1:¬ wlo<sfr:=by have:sfr≤wlo:=wf.1;omega
    have wf2:¬ ste<whi:=by have:whi≤ste:=wf.2;omega
    have AIT:Aside (∀ t,t<an→(A.getD t (0,0)).1=(l:Int)→wlo≤(A.getD t (0,0)).2∧(A.getD t (0,0)).2≤whi∧(A.getD t (0,0)).2<ste):=AI
    have GS7:Hid (∀ W,Calls Tryz.prog 52 #[.agg #[.int .u64 sk, .float .f64 ssl, .float .f64 sic, .int .i64 sfr, .int .i64 ste], .int .u64 q] W fun e w'=>e=.returned (.int .i64 gu)∧Gw W w'):=by
     have e:=GD.out
     show ∀ W,_
     intro W
     rw [e]
     exact GM.out (Sg.mk sk ssl sic sfr ste) sok W
    have SV:Aside (∀ W,Gw wT W→(W.cell? ⟨sb,sf+st*5,none⟩=some (.int .u64 sk)∧W.cell? ⟨sb,sf+st*5+1,none⟩=some (.float .f64 ssl)∧W.cell? ⟨sb,sf+st*5+2,none⟩=some (.float .f64 sic)∧W.cell? ⟨sb,sf+st*5+3,none⟩=some (.int .i64 sfr)∧W.cell? ⟨sb,sf+st*5+4,none⟩=some (.int .i64 ste))∧sb<W.heap.size):=by
     show ∀ W,_
     intro W gg
     exact ⟨⟨(gg.cell _ _ hsb).trans s0,(gg.cell _ _ hsb).trans s1',(gg.cell _ _ hsb).trans s2,(gg.cell _ _ hsb).trans s3,(gg.cell _ _ hsb).trans s4⟩,Nat.lt_of_lt_of_le hsb gg.size⟩
    have CV:Aside (∀ W,Gw wT W→(W.cell? ⟨vb,vf+j*6,none⟩=some (.int .i64 (l:Int))∧W.cell? ⟨vb,vf+j*6+1,none⟩=some (.int .i64 (st:Int))∧W.cell? ⟨vb,vf+j*6+2,none⟩=some (.int .i64 gu)∧W.cell? ⟨vb,vf+j*6+3,none⟩=some (.int .i64 wlo)∧W.cell? ⟨vb,vf+j*6+4,none⟩=some (.int .i64 whi)∧W.cell? ⟨vb,vf+j*6+5,none⟩=some (.int .i64 (rk:Int)))∧vb<W.heap.size∧W.cell? ⟨ub,uf+l,none⟩=some (.slice (some ⟨sb,sf,none⟩) sn sc)∧ub<W.heap.size):=by
     show ∀ W,_
     intro W gg
     exact ⟨⟨(gg.cell _ _ hvb).trans v0,(gg.cell _ _ hvb).trans v1,(gg.cell _ _ hvb).trans v2,(gg.cell _ _ hvb).trans v3,(gg.cell _ _ hvb).trans v4,(gg.cell _ _ hvb).trans v5⟩,Nat.lt_of_lt_of_le hvb gg.size,(gg.cell _ _ hub).trans p1,Nat.lt_of_lt_of_le hub gg.size⟩
    have llt':(l:Int)<(ln:Int):=by omega
    have stl':(st:Int)<(sn:Int):=by omega
    have stn:¬ (sn:Int)≤(st:Int):=by omega
    have st0:¬ (st:Int)<0:=by omega
    have wv1:IntKind.i64.wrap ((ln:Int)-1)=(ln:Int)-1:=by rw [IntKind.wrap_i64];omega
    have wv2:IntKind.i64.wrap ((ln:Int)-1-(j:Int))=(l:Int):=by rw [IntKind.wrap_i64];omega
    have ALN:Aside (ln-j=l+1∧ln-(j+1)=l):=⟨by omega,by omega⟩
    have AG:Aside (askG A (l+1)+askL A l an=askG A l):=by
     have:=askG_next A l
     rw [AN.out] at this
     exact this.symm
    have ral:askG A (ln-j)≤an:=by rw [←AN.out];exact cntP_le _ _
    have RA0:Aside (askG A (ln-j)=askG A (l+1)):=by show _=_;rw [ALN.out.1]
    obtain ⟨ra,hra⟩:∃ x,askG A (ln-j)=x:=⟨_,rfl⟩
    rw [hra] at ral RA0 ⊢
    have RB:Aside (ra+askL A l an=askG A (ln-(j+1))):=by
     show _=_
     rw [RA0.out,ALN.out.2]
     exact AG.out
    clear hrk hrn hrf hsd RK0 F GD SD SC hsc huc p2 p3 p4 hsn sok s0 s1' s2 s3 s4 wf AI hl hra RA0 AG UPR GM
    go_wp2_with fail
    go_quiet (fail)
    have D:Aside (Gw wT (wT.drewN nq)):=(Gw.refl wT).drewN _
    generalize wT.drewN nq=wU at D ⊢
    clear v0 v1 v2 v3 v4 v5 p1 hvb hub hsb wv1 wv2 stn st0
    go_upto_if 141 with fail
    go_cut [20] (fun s wx=>∃ ro rc,s=.slice ro rn rc∧Aside (KS wx ro rn rf)∧Aside (Gw wT wx))
    case first=>as_aux_lemma =>
     by_cases lz:l=0
     ·have lz':¬ (0:Int)<(l:Int):=by omega
      have R0:Aside (rn=n∧rf=k):=RK1.out lz
      clear lz
      go_wp2_with fail
      go_meet
      case rel=>exact ⟨some ⟨kb,0,none⟩,kc,by rw [R0.out.1],(by show KS _ _ _ _;rw [R0.out.1,R0.out.2];exact KW.out.gw D.out),D⟩
     ·have lz':(0:Int)<(l:Int):=by omega
      obtain ⟨l',hl'⟩:∃ x,l=x+1:=⟨l-1,by omega⟩
      have wm:IntKind.i64.wrap ((l:Int)-1)=(l':Int):=by rw [IntKind.wrap_i64];omega
      have wm2:(l:Int)-1=(l':Int):=by omega
      have lt2:(l':Int)<(ln:Int):=by omega
      have lt3:l'<ln:=by omega
      obtain ⟨x2,x3⟩:=RK2.out l' hl'
      obtain ⟨ub',uf',eu,hub',huc⟩:=(VW.out.gw D.out).cells (by rw [LN.out];omega)
      cases eu
      obtain ⟨to_,tc,t1,t2,t3,t4⟩:=huc l' (by rw [LN.out];exact lt3)
      have TF:Hid (Calls Tryz.prog 51 #[.slice to_ rn tc] wU fun e w'=>(∃ b cap,e=.returned (.slice (some ⟨b,0,none⟩) rn cap)∧KS w' (some ⟨b,0,none⟩) rn rf)∧Gw wU w'):=by
       have:=tfirsts_any to_ tc (L.getD l' []) (by have:=HL.out l' lt3;omega) wU t4
       rw [←x2,←x3] at this
       exact this.mono fun e w' ⟨⟨b,c,a1,_,_,a4⟩,a5⟩=>⟨⟨b,c,a1,a4⟩,a5⟩
      rw [←x2] at t1
      clear x2 x3 huc t2 t3 t4 lz hl'
      go_wp2_with fail
      refine Calls.mono TF.out ?_
      rintro e wV ⟨⟨fb',fc,rfl,fk⟩,gV⟩
      have FK:Aside (KS wV (some ⟨fb',0,none⟩) rn rf):=fk
      have GV:Aside (Gw wT wV):=D.out.trans gV
      clear fk gV TF
      go_wp2_with fail
      go_meet
      case rel=>exact ⟨some ⟨fb',0,none⟩,fc,rfl,FK,GV⟩
    case rest=>as_aux_lemma =>
     obtain ⟨ro,rc,rfl,RK,GR0⟩:=hcut
     obtain ⟨wV,hwV⟩:∃ wx,wx=wc:=⟨_,rfl⟩
     subst hwV
     clear RK1 RK2 D VW KW
     go_wp2_with fail
     refine Calls.mono (BW.out _ _ _ RK.out) ?_
     rintro e wW ⟨rfl,gW⟩
     have GW:Aside (Gw wT wW):=GR0.out.trans gW
     clear gW GR0 RK BW
     obtain ⟨fr,hfr⟩:∃ fr:Int,fr=if sd then eps else eps+1:=⟨_,rfl⟩
     have FD:Aside (fr=if sd then eps else eps+1):=hfr
     have FB:gu-rk≤fr∧-(gu-rk)≤fr:=by
      rw [hfr]
      by_cases hs:sd=true
      ·have:=FN.out (SDB.out.1 hs)
       rw [if_pos hs]
       omega
      ·rw [if_neg hs]
       omega
     have w1e:IntKind.i64.wrap (eps+1)=eps+1:=by rw [IntKind.wrap_i64];omega
     have wd:IntKind.i64.wrap (gu-rk)=gu-rk:=by rw [IntKind.wrap_i64];omega
     have wn:IntKind.i64.wrap (-(gu-rk))=-(gu-rk):=by rw [IntKind.wrap_i64];omega
     have ww:IntKind.i64.wrap (whi-wlo)=whi-wlo:=by rw [IntKind.wrap_i64];omega
     have w2e:IntKind.i64.wrap (2*eps)=2*eps:=by rw [IntKind.wrap_i64];omega
     have w3e:IntKind.i64.wrap (2*eps+2)=2*eps+2:=by rw [IntKind.wrap_i64];omega
     have t1:¬ fr<gu-rk:=by omega
     have t2:¬ fr < -(gu-rk):=by omega
     have t3:¬ 2*eps+2<whi-wlo:=by omega
     clear hfr FB WI FR GZ FLE FN SDB
     go_upto_if 156 with fail
     go_cut [22,23] (fun a b wx=>a=.bool sd∧b=.int .i64 fr∧wx=wW)
     case first=>as_aux_lemma =>
      cases hs:sd with
      | true =>
       have e:Aside (fr=eps):=by have:=FD.out;rw [hs] at this;exact this
       go_wp2_with fail
       go_meet
       case rel=>exact ⟨by rw [hs],by rw [e.out],rfl⟩
      | false =>
       have e:Aside (fr=eps+1):=by have:=FD.out;rw [hs] at this;exact this
       go_wp2_with fail
       go_meet
       case rel=>exact ⟨by rw [hs],by rw [e.out],rfl⟩
     case rest=>as_aux_lemma =>
      obtain ⟨rfl,rfl,hwu⟩:=hcut
      have hwu':=hwu.symm
      subst hwu'
      clear hwu FD w1e
      obtain ⟨⟨s0,s1,s2,s3,s4⟩,hsb⟩:=SV.out wW GW.out
      obtain ⟨⟨v0,v1,v2,v3,v4,v5⟩,hvb,p1,hub⟩:=CV.out wW GW.out
      go_upto_region 28 with fail
      go_cut [24] (fun s wx=>∃ b,s=.pointer (some ⟨b,0,none⟩)∧Aside (wx.heap[b]?=some (.cells #[.int .u64 sk, .float .f64 ssl, .float .f64 sic, .int .i64 sfr, .int .i64 ste] 100 (0,0)))∧Aside (Gw wT wx))
      case first=>as_aux_lemma =>
       clear CV SV AIT
       go_region
       all_goals go_wp2_with fail
       all_goals go_meet
       all_goals (case rel=>exact ⟨_,rfl,(show Aside _ from heap_alloc_new wW _),(show Aside _ from (GW.out.alloc _ _).drew)⟩)
      case rest=>as_aux_lemma =>
       obtain ⟨bz,rfl,BZ,GZ⟩:=hcut
       obtain ⟨wZ,hwZ⟩:∃ wx,wx=wc:=⟨_,rfl⟩
       subst hwZ
       clear s0 s1 s2 s3 s4 hsb v0 v1 v2 v3 v4 v5 hvb p1 hub
       obtain ⟨⟨v0,v1,v2,v3,v4,v5⟩,hvb,p1,hub⟩:=CV.out wZ GZ.out
       have SZ:Aside (∀ W,Gw wZ W→(W.cell? ⟨bz,0,none⟩=some (.int .u64 sk)∧W.cell? ⟨bz,1,none⟩=some (.float .f64 ssl)∧W.cell? ⟨bz,2,none⟩=some (.float .f64 sic)∧W.cell? ⟨bz,3,none⟩=some (.int .i64 sfr)∧W.cell? ⟨bz,4,none⟩=some (.int .i64 ste))∧bz<W.heap.size):=by
        have bl:bz<wZ.heap.size:=(Array.getElem?_eq_some_iff.1 BZ.out).1
        show ∀ W,_
        intro W gg
        have e:=(gg.below.block bz bl).trans BZ.out
        exact ⟨⟨by simp [World.cell?,e],by simp [World.cell?,e],by simp [World.cell?,e],by simp [World.cell?,e],by simp [World.cell?,e]⟩,Nat.lt_of_lt_of_le bl gg.size⟩
       obtain ⟨⟨s0,s1,s2,s3,s4⟩,hsb⟩:=SZ.out wZ (Gw.refl wZ)
       have y0:=GX.cell s0 hsb
       have y1:=GX.cell s1 hsb
       have y2:=GX.cell s2 hsb
       have y3:=GX.cell s3 hsb
       have y4:=GX.cell s4 hsb
       have z2:=GX.cell v2 hvb
       have z3:=GX.cell v3 hvb
       have z4:=GX.cell v4 hvb
       have z5:=GX.cell v5 hvb
       have ne:=GX.some wZ
       have t1':decide (fr<gu-(rk:Int))=false:=decide_eq_false (by omega)
       have t2':decide (fr < -(gu-(rk:Int)))=false:=decide_eq_false (by omega)
       have t3':decide (2*eps+2<whi-wlo)=false:=decide_eq_false (by omega)
       have t4':decide (wlo<sfr)=false:=decide_eq_false (by omega)
       have t5':decide (ste<whi)=false:=decide_eq_false (by omega)
       clear BZ t1 t2 t3 wf1 wf2
       go_wp2_with fail
       try dsimp only [List.append]
       refine wp_region_growx (by kernel_rfl) (by kernel_rfl) ?_
       repeat (go_big_quiet_step (fail))
       go_big_quiet_want
       go_big_quiet_op
       go_big_quiet_call (exact growx_of (GS7.out _))
       repeat (go_big_quiet_step (fail))
       refine wpQuiet_nil ?_
       rintro _ ⟨gw,rfl⟩
       have D2:Aside (Gw wZ gw.1):=gw.gw
       obtain ⟨wY,hwY⟩:∃ wx,wx=gw.1:=⟨_,rfl⟩
       rw [←hwY] at D2
       rw [←hwY]
       clear hwY gw y0 y1 y2 y3 y4 z2 z3 z4 z5 v0 v1 v2 v3 v4 v5 p1 hvb hub ne s0 s1 s2 s3 s4 hsb
       have GY:Aside (Gw w10 wY):=G11.out.trans (GZ.out.trans D2.out)
       have GTY:Aside (Gw wT wY):=GZ.out.trans D2.out
       clear GS7 SV wd wn ww w2e w3e t1' t2' t3' t4' t5' G11 GW
       go_wp2_with fail
       go_loopg [17,26] an (fun gg s17 s26 wr=>∃ t:Nat,s17=.int .i64 ((ra+askL A l t:Nat):Int)∧s26=.int .i64 (t:Int)∧t≤an∧an-t≤gg∧Aside (Gw wY wr))
       case atStart=>exact ⟨0,rfl,rfl,Nat.zero_le _,by omega,(show Aside _ from Gw.refl wY)⟩
       case round=>as_aux_lemma =>
        obtain ⟨t,rfl,rfl,d1,d2,GL⟩:=hrel
        obtain ⟨wL,hwL⟩:∃ wx,wx=wr:=⟨_,rfl⟩
        subst hwL
        obtain ⟨c1,cl⟩:=CW.out wL ((G10.out.trans GY.out).trans GL.out)
        have tb:askL A l t≤t:=cntP_le _ _
        by_cases tlt:t<an
        ·have tlt':(t:Int)<(an:Int):=by omega
         obtain ⟨bb,rfl,hbb,hbc⟩:=(PA.out.gw ((G10.out.trans GY.out).trans GL.out)).cells (by rw [AN.out];omega)
         have xc:=hbc t (by rw [AN.out];exact tlt)
         have AT:=AIT.out t tlt
         have AS:askL A l (t+1)=askL A l t+(if ((A.getD t (0,0)).1 == (l:Int))=true then 1 else 0):=rfl
         obtain ⟨⟨x0,x1⟩,hx⟩:∃ x,A.getD t (0,0)=x:=⟨_,rfl⟩
         rw [hx] at xc AT AS
         have xc0:wL.cell? ⟨bb,t*2,none⟩=some (.int .i64 x0):=xc.1
         have xc1:wL.cell? ⟨bb,t*2+1,none⟩=some (.int .i64 x1):=xc.2
         have BX:Aside (A.getD t (0,0)=(x0,x1)):=hx
         have AT':x0=(l:Int)→wlo≤x1∧x1≤whi∧x1<ste:=AT
         have AS':Aside (askL A l (t+1)=askL A l t+(if (x0 == (l:Int))=true then 1 else 0)):=AS
         clear xc hx hbc AT AS
         obtain ⟨yl,hyl⟩:∃ x,askL A l t=x:=⟨_,rfl⟩
         rw [hyl] at tb AS' ⊢
         clear hyl
         by_cases xe:x0=(l:Int)
         ·obtain ⟨h1,h2,h3⟩:=AT' xe
          have xe':(x0 == (l:Int))=true:=by simpa using xe
          have AS1:Aside (askL A l (t+1)=yl+1):=by
           have:=AS'.out
           rw [if_pos xe'] at this
           exact this
          have h1':¬ x1<wlo:=by omega
          have h2':¬ whi<x1:=by omega
          have h3':¬ ste≤x1:=by omega
          have wr1:IntKind.i64.wrap (((ra+yl:Nat):Int)+1)=((ra+(yl+1):Nat):Int):=by rw [IntKind.wrap_i64];omega
          obtain ⟨⟨v0,v1,v2,v3,v4,v5⟩,hvb,_,_⟩:=CV.out wL (GTY.out.trans GL.out)
          obtain ⟨⟨_,_,_,_,s4⟩,hsb⟩:=SZ.out wL (D2.out.trans GL.out)
          clear AT' AS' xe h1 h2 h3 v0 v1 v2 v5
          go_wp2_with fail
          go_loopg [28] t (fun gg s28 wr=>∃ y:Nat,s28=.int .i64 (y:Int)∧y≤t∧t-y≤gg∧Aside (Gw wL wr))
          case atStart=>exact ⟨0,rfl,Nat.zero_le _,by omega,(show Aside _ from Gw.refl wL)⟩
          case round=>as_aux_lemma =>
           obtain ⟨y,rfl,m1,m2,GN⟩:=hrel
           obtain ⟨wM,hwM⟩:∃ wx,wx=wr:=⟨_,rfl⟩
           subst hwM
           clear v3 v4 hvb s4 hsb
           by_cases ylt:y<t
           ·have ylt':(y:Int)<(t:Int):=by omega
            have e3:wM.cell? ⟨pm,1,none⟩=some (.slice (some ⟨bb,0,none⟩) an cA):=(GN.out.cell _ _ cl).trans c1
            have pM:pm<wM.heap.size:=Nat.lt_of_lt_of_le cl GN.out.size
            have f0':wM.cell? ⟨bb,t*2,none⟩=some (.int .i64 x0):=(GN.out.cell _ _ hbb).trans xc0
            have f1':wM.cell? ⟨bb,t*2+1,none⟩=some (.int .i64 x1):=(GN.out.cell _ _ hbb).trans xc1
            have bM:bb<wM.heap.size:=Nat.lt_of_lt_of_le hbb GN.out.size
            obtain ⟨_,eb,_,hbc⟩:=(PA.out.gw (((G10.out.trans GY.out).trans GL.out).trans GN.out)).cells (by rw [AN.out];omega)
            cases eb
            have zc:=hbc y (by rw [AN.out];omega)
            have ne:=pair_apart AK.out.an (i:=t) (k:=y) (by rw [AN.out];exact tlt) ylt
            obtain ⟨⟨z0,z1⟩,hz⟩:∃ x,A.getD y (0,0)=x:=⟨_,rfl⟩
            rw [hz] at zc ne
            rw [BX.out] at ne
            have z0c:wM.cell? ⟨bb,y*2,none⟩=some (.int .i64 z0):=zc.1
            have z1c:wM.cell? ⟨bb,y*2+1,none⟩=some (.int .i64 z1):=zc.2
            have NE:=fun W=>unlikeT ne.symm W
            have ya:(y:Int)<(an:Int):=by omega
            clear zc hz hbc ne c1 cl xc0 xc1 hbb
            go_wp2_with fail
            go_quiet (fail)
            go_wp2_with fail
            go_roundg (t-(y+1))
            case measure=>omega
            case rel=>exact ⟨y+1,by go_num,by omega,Nat.le_refl _,(show Aside _ from GN.out.drewN _)⟩
           ·have ey:y=t:=by omega
            subst ey
            go_wp2_with fail
            go_roundg (an-(y+1))
            case measure=>omega
            case rel=>exact ⟨y+1,by rw [AS1.out];first | done | go_num | (congr 1;omega),by go_num,by omega,Nat.le_refl _,(show Aside _ from GL.out.trans GN.out)⟩
         ·have xe':(x0 == (l:Int))=false:=by simpa using xe
          have AS1:Aside (askL A l (t+1)=yl):=by
           have:=AS'.out
           rw [if_neg (by rw [xe'];decide)] at this
           exact this
          clear AT' AS' xe
          go_wp2_with fail
          go_roundg (an-(t+1))
          case measure=>omega
          case rel=>exact ⟨t+1,by rw [AS1.out],by go_num,by omega,Nat.le_refl _,GL⟩
        ·have et:t=an:=by omega
         subst et
         have RBt:ra+askL A l t=askG A (ln-(j+1)):=RB.out
         rw [RBt]
         clear RBt tb
         go_wp2_with fail
         go_roundg (ln-(j+1))
         case measure=>omega
         case rel=>exact ⟨j+1,rfl,by go_num,by omega,Nat.le_refl _,(show Aside _ from GY.out.trans GL.out)⟩
   ·have ej:j=ln:=by omega
    subst ej
    obtain ⟨c1,cl⟩:=CW.out _ (G10.out.trans G11.out)
    have AL:Aside (askG A (j-j)=an):=by
     show _=_
     rw [Nat.sub_self,AK.out.all,AN.out]
    rw [AL.out]
    have w1':IntKind.i64.wrap (2*eps)=2*eps:=by rw [IntKind.wrap_i64];omega
    have w2':IntKind.i64.wrap (2*eps+3)=2*eps+3:=by rw [IntKind.wrap_i64];omega
    have w3':IntKind.i64.wrap ((j:Int)*(2*eps+3))=(j:Int)*(2*eps+3):=by rw [IntKind.wrap_i64];omega
    have t1:(an:Int)≤(j:Int)*(2*eps+3):=few
    go_wp2_with fail
    go_ret
    exact ⟨rfl,(G05.out.trans G10.out).trans G11.out⟩
end Go.Proofs.YtinefkljjnepjabGreat
