/- Package classes: what is live; a classes' block; New, Most, above, free, told, together. -/
import Derived.Test.YtjhaiiegdnamcabGreatGUMem
namespace Go.Proofs.YtjhaiiegdnamcabGreat
open Go.RowKit
set_option linter.unusedVariables false
set_option maxRecDepth 10000 in
set_option maxHeartbeats 2000000 in
theorem live15 {HR:HRt} (H:RunC HR) (ao:Option Addr) (c:Nat) (rs:List (Option Rn)) (q:Int) (q0:0≤q) (q1:q<18446744073709551616) (hl:rs.length≤2000000) (w:World) (h:PR HR w ao rs) :
  Calls Tryz.prog 55 #[.slice ao rs.length c, .int .u64 q] w fun e w'=>e=.returned (.bool (liveQ rs q))∧Gw w w':=by
 obtain ⟨x,y,z,t,f1,f2,f3⟩:=lookV_form (nw q rs)
 have NW:Hid (Calls Tryz.prog 62 #[.slice ao rs.length c, .int .u64 q] w fun e w'=>e=.returned (.tuple #[.agg #[.int .u64 x, .int .u64 y, .bool z], .bool t])∧Gw w w'):=by
  have:=newest15 H ao c rs q q0 q1 hl w h
  rw [f1] at this
  exact this
 have LV:liveQ rs q=(t&&!z):=f3
 rw [LV]
 generalize rs.length=n at NW hl ⊢
 clear f1 f2 f3 LV h H
 cases t with
 | false =>
  go_enter Tryz.func55,Tryz.ntmps55
  go_wp2_with fail
  refine Calls.mono NW.out ?_
  rintro e u1 ⟨rfl,gg⟩
  have G1:Aside (Gw w u1):=gg
  clear gg NW
  go_wp2_with fail
  go_ret
  exact ⟨rfl,G1.out.alloc _ _⟩
 | true =>
  go_enter Tryz.func55,Tryz.ntmps55
  go_wp2_with fail
  refine Calls.mono NW.out ?_
  rintro e u1 ⟨rfl,gg⟩
  have G1:Aside (Gw w u1):=gg
  clear gg NW
  go_wp2_with fail
  go_ret
  exact ⟨rfl,G1.out.alloc _ _⟩
def clsL (eps buf:Int) (rs:List (Option Rn)) (B W:Int):List Value:=.int .i64 eps::.int .i64 buf::(rs.map ptr++[.int .i64 B, .int .i64 W])
structure HCl (HR:HRt) (w:World) (p:Nat) (rs:List (Option Rn)) (eps buf B W:Int):Prop where
 blk:w.heap[p]?=some (.cells (clsL eps buf rs B W).toArray 107 (0,0))
 len:rs.length=40
 runs:∀ r,some r∈rs→RA HR w r∧¬ r.S p
 e0:2≤eps
 e1:eps≤64
 b0:1≤buf
 b1:buf≤4294967296
section
variable {HR:HRt} {w w':World} {p:Nat} {rs:List (Option Rn)} {eps buf B W:Int}
theorem HCl.gw (K:Kp HR) (h:HCl HR w p rs eps buf B W) (g:Gw w w'):HCl HR w' p rs eps buf B W :=
 ⟨(g.below.block p (blkl h.blk)).trans h.blk,h.len,fun r hr=>⟨(h.runs r hr).1.gw K g,(h.runs r hr).2⟩,h.e0,h.e1,h.b0,h.b1⟩
theorem HCl.gx (K:Kp HR) {F:Nat→Prop} (h:HCl HR w p rs eps buf B W) (g:Gx F w w') (np:¬ F p) (d:∀ q,F q→∀ r,some r∈rs→¬ r.S q):HCl HR w' p rs eps buf B W :=
 ⟨(g.block p (blkl h.blk) np).trans h.blk,h.len,fun r hr=>⟨(h.runs r hr).1.gx K g (fun q hq=>d q hq r hr),(h.runs r hr).2⟩,h.e0,h.e1,h.b0,h.b1⟩
theorem HCl.lt (h:HCl HR w p rs eps buf B W):p<w.heap.size:=blkl h.blk
theorem clsL_at {i:Nat} (h:rs.length=40) (hi:i<40):(clsL eps buf rs B W).toArray[2+i]?=some (ptr (rs.getD i none)):=by
 have e:2+i=i+1+1:=by omega
 rw [List.getElem?_toArray,e]
 show (rs.map ptr++_)[i]?=_
 rw [List.getElem?_append_left (by simp;omega),List.getElem?_map,List.getElem?_eq_getElem (by omega),getD_rs (by omega)]
 rfl
theorem clsL_b (h:rs.length=40):(clsL eps buf rs B W).toArray[42]?=some (.int .i64 B)∧(clsL eps buf rs B W).toArray[43]?=some (.int .i64 W):=by
 refine ⟨?_,?_⟩
 ·rw [List.getElem?_toArray]
  show (rs.map ptr++_)[40]?=_
  rw [List.getElem?_append_right (by simp [h]),List.length_map,h]
  rfl
 ·rw [List.getElem?_toArray]
  show (rs.map ptr++_)[41]?=_
  rw [List.getElem?_append_right (by simp [h]),List.length_map,h]
  rfl
theorem HCl.c0 (h:HCl HR w p rs eps buf B W):w.cell? ⟨p,0,none⟩=some (.int .i64 eps):=blkc h.blk rfl
theorem HCl.c1 (h:HCl HR w p rs eps buf B W):w.cell? ⟨p,1,none⟩=some (.int .i64 buf):=blkc h.blk rfl
theorem HCl.c2 (h:HCl HR w p rs eps buf B W):w.cell? ⟨p,42,none⟩=some (.int .i64 B):=blkc h.blk (clsL_b h.len).1
theorem HCl.c3 (h:HCl HR w p rs eps buf B W):w.cell? ⟨p,43,none⟩=some (.int .i64 W):=blkc h.blk (clsL_b h.len).2
theorem HCl.cell (h:HCl HR w p rs eps buf B W) {i:Nat} (hi:i<40):w.cell? ⟨p,2+i,none⟩=some (ptr (rs.getD i none)):=blkc h.blk (clsL_at h.len hi)
theorem HCl.drop (h:HCl HR w p rs eps buf B W) (j:Nat):PR HR w (some ⟨p,2+j,none⟩) (rs.drop j) :=
 ⟨fun h0=>⟨p,2+j,rfl,h.lt,fun i hi=>by
  have l:=h.len
  rw [List.length_drop] at hi
  rw [show 2+j+i=2+(j+i) by omega,h.cell (by omega),getD_rs (by omega),getD_rs (by rw [List.length_drop];omega),List.getElem_drop]⟩,fun r hr=>(h.runs r (List.mem_of_mem_drop hr)).1⟩
theorem HCl.take (h:HCl HR w p rs eps buf B W) (j:Nat):PR HR w (some ⟨p,2,none⟩) (rs.take j) :=
 ⟨fun h0=>⟨p,2,rfl,h.lt,fun i hi=>by
  have l:=h.len
  rw [List.length_take] at hi
  rw [h.cell (by omega),getD_rs (by omega),getD_rs (by rw [List.length_take];omega),List.getElem_take]⟩,fun r hr=>(h.runs r (List.mem_of_mem_take hr)).1⟩
end
set_option maxRecDepth 10000 in
set_option maxHeartbeats 2000000 in
theorem above15 {HR:HRt} {w:World} {p:Nat} {rs:List (Option Rn)} {eps buf B W:Int} (h:HCl HR w p rs eps buf B W) (j:Nat) (hj:j<40) :
  Calls Tryz.prog 54 #[.pointer (some ⟨p,0,none⟩), .int .i64 (j:Int)] w fun e w'=>(∃ ao,e=.returned (.slice ao (rs.drop (j+1)).length (39-j))∧PR HR w ao (rs.drop (j+1)))∧w'=w:=by
 have HD:Aside (PR HR w (some ⟨p,2+(j+1),none⟩) (rs.drop (j+1))):=h.drop (j+1)
 have LE:Aside ((rs.drop (j+1)).length=39-j):=by show _=_;rw [List.length_drop,h.len];omega
 obtain ⟨k,hk⟩:∃ k,j+1=k:=⟨_,rfl⟩
 have hp:=h.lt
 have wk:IntKind.i64.wrap ((j:Int)+1)=(k:Int):=by rw [IntKind.wrap_i64];omega
 clear h
 by_cases q:j=39
 ·subst q
  have RES:Aside (PR HR w (some ⟨p,2,none⟩) (rs.drop 40)):=⟨fun h0=>by have h1:(rs.drop 40).length=0:=LE.out;omega,HD.out.runs⟩
  subst hk
  clear wk
  go_enter Tryz.func54,Tryz.ntmps54
  go_wp2_with fail
  go_ret
  exact ⟨⟨_,by rw [LE.out];rfl,RES.out⟩,rfl⟩
 ·have h1:¬ (40:Int)=(k:Int):=by omega
  have h2:(k:Int)≤40:=by omega
  have h3:¬ (40:Nat)=k:=by omega
  have h4:k≤40:=by omega
  have HK:Aside (j+1=k):=hk
  clear hk q
  go_enter Tryz.func54,Tryz.ntmps54
  go_wp2_with fail
  go_ret
  refine ⟨⟨some ⟨p,2+k,none⟩,?_,?_⟩,rfl⟩
  ·rw [LE.out,show 39-j=40-k by have:=HK.out;omega];rfl
  ·have:=HD.out;rw [HK.out] at this ⊢;exact this
def NewOk (eps buf:Int):Prop:=(2≤eps∧eps≤64)∧1≤buf∧buf≤4294967296
set_option maxRecDepth 10000 in
set_option maxHeartbeats 2000000 in
theorem new15 {HR:HRt} (eps buf:Int) (w:World) :
  Calls Tryz.prog 20 #[.int .i64 eps, .int .i64 buf] w fun e w'=>((¬ NewOk eps buf∧e=.returned (.tuple #[.pointer none, .int .i64 1]))∨(NewOk eps buf∧∃ p,e=.returned (.tuple #[.pointer (some ⟨p,0,none⟩), .int .i64 0])∧w.heap.size≤p∧HCl HR w' p (List.replicate 40 none) eps buf 0 0))∧Gw w w':=by
 have NO:(eps<2∨(¬ eps<2∧64<eps)∨(¬ eps<2∧¬ 64<eps∧buf<1)∨(¬ eps<2∧¬ 64<eps∧¬ buf<1∧4294967296<buf))∧¬ NewOk eps buf∨NewOk eps buf:=by
  by_cases h:NewOk eps buf
  ·exact .inr h
  ·refine .inl ⟨?_,h⟩
   unfold NewOk at h
   omega
 rcases NO with ⟨a,b⟩ | a
 ·have BB:Aside (¬ NewOk eps buf):=b
  clear b
  rcases a with a | ⟨a,b⟩ | ⟨a,b,c⟩ | ⟨a,b,c,d⟩
  ·have t1:decide (eps<2)=true:=by simpa using a
   clear a
   go_enter Tryz.func20,Tryz.ntmps20
   go_wp2_with fail
   go_ret2
   exact ⟨.inl ⟨BB.out,rfl⟩,Gw.refl w⟩
  ·have t1:decide (eps<2)=false:=by simpa using a
   have t2:decide (64<eps)=true:=by simpa using b
   clear a b
   go_enter Tryz.func20,Tryz.ntmps20
   go_wp2_with fail
   go_ret2
   exact ⟨.inl ⟨BB.out,rfl⟩,Gw.refl w⟩
  ·have t1:decide (eps<2)=false:=by simpa using a
   have t2:decide (64<eps)=false:=by simpa using b
   have t3:decide (buf<1)=true:=by simpa using c
   clear a b c
   go_enter Tryz.func20,Tryz.ntmps20
   go_wp2_with fail
   go_ret2
   exact ⟨.inl ⟨BB.out,rfl⟩,Gw.refl w⟩
  ·have t1:decide (eps<2)=false:=by simpa using a
   have t2:decide (64<eps)=false:=by simpa using b
   have t3:decide (buf<1)=false:=by simpa using c
   have t4:decide (4294967296<buf)=true:=by simpa using d
   clear a b c d
   go_enter Tryz.func20,Tryz.ntmps20
   go_wp2_with fail
   go_ret2
   exact ⟨.inl ⟨BB.out,rfl⟩,Gw.refl w⟩
 ·have AA:Aside (NewOk eps buf):=a
  obtain ⟨⟨a1,a2⟩,a3,a4⟩:=a
  have t1:decide (eps<2)=false:=by simpa using a1
  have t2:decide (64<eps)=false:=by simpa using a2
  have t3:decide (buf<1)=false:=by simpa using a3
  have t4:decide (4294967296<buf)=false:=by simpa using a4
  have HC:Aside (HCl HR (w.alloc (.cells (clsL eps buf (List.replicate 40 none) 0 0).toArray 107)) w.heap.size (List.replicate 40 none) eps buf 0 0):=⟨heap_alloc_new w _,by simp,fun r hr=>by simp at hr,a1,a2,a3,a4⟩
  clear a1 a2 a3 a4
  go_enter Tryz.func20,Tryz.ntmps20
  go_wp2_with fail
  go_ret2
  exact ⟨.inr ⟨AA.out,_,rfl,Nat.le_refl _,HC.out⟩,(Gw.refl w).alloc _ _⟩
set_option maxRecDepth 10000 in
set_option maxHeartbeats 2000000 in
theorem index15 {HR:HRt} (ao:Option Addr) (c:Nat) (rs:List (Option Rn)) (hl:rs.length≤2000000) (w:World) (h:PR HR w ao rs) :
  Calls Tryz.prog 94 #[.slice ao rs.length c, .pointer none] w fun e w'=>e=.returned (.int .i64 (if free rs<rs.length then (free rs:Int) else -1))∧w'=w:=by
 have HP:Aside (PR HR w ao rs):=h
 obtain ⟨n,hn⟩:∃ n,rs.length=n:=⟨_,rfl⟩
 have LN:Aside (rs.length=n):=hn
 rw [hn] at hl ⊢
 obtain ⟨A,hA⟩:∃ A,(if free rs<n then (free rs:Int) else -1)=A:=⟨_,rfl⟩
 have RES:Aside ((if free rs<n then (free rs:Int) else -1)=A):=hA
 rw [hA]
 clear h hn hA
 go_enter Tryz.func94,Tryz.ntmps94
 go_wp2_with fail
 go_loopg [8] n (fun gg s8 wr=>∃ i:Nat,s8=.int .i64 (i:Int)∧i≤n∧n-i≤gg∧wr=w∧Aside (∀ j,j<i→∃ r,rs[j]?=some (some r)))
 case atStart=>exact ⟨0,rfl,Nat.zero_le _,by omega,rfl,(show Aside _ from fun j hj=>by omega)⟩
 case round =>
  obtain ⟨i,rfl,a1,a2,hw,N⟩:=hrel
  subst hw
  by_cases hlt:i<n
  ·have hlt':(i:Int)<(n:Int):=by omega
   have hi:i<rs.length:=by rw [LN.out];exact hlt
   obtain ⟨b,off,rfl,hb,hc⟩:=HP.out.cells (by omega)
   have ci:=hc i hi
   have gi:rs[i]?=some (rs.getD i none):=by rw [getD_rs hi];exact List.getElem?_eq_getElem hi
   clear hc
   rcases cases_rs rs i with e | ⟨r,e⟩
   ·rw [e] at ci gi
    have fr:free rs=i:=free_at N.out (.inl gi)
    have e2:A=(i:Int):=by rw [←RES.out,fr,if_pos hlt]
    subst e2
    have ci':wr.cell? ⟨b,off+i,none⟩=some (.pointer none):=ci
    clear ci e gi fr N RES hi
    go_wp2_with fail
    go_ret
    exact ⟨rfl,rfl⟩
   ·rw [e] at ci gi
    have ci':wr.cell? ⟨b,off+i,none⟩=some (.pointer (some ⟨r.p,0,none⟩)):=ci
    have N':Aside (∀ j,j<i+1→∃ r,rs[j]?=some (some r)):=fun j hj=>by
     by_cases x:j=i
     ·subst x;exact ⟨r,gi⟩
     ·exact N.out j (by omega)
    generalize r.p=rp at ci'
    have hq:∀ W:World,(binOp .eql 79 (.pointer none) (.pointer (some ⟨rp,0,none⟩))).run Tryz.prog W=.ok (.bool false) W:=fun _=>by kernel_rfl
    clear ci e gi N hi
    go_wp2_with fail
    go_roundg (n-(i+1))
    case measure=>omega
    case rel=>exact ⟨i+1,by go_num,by omega,Nat.le_refl _,rfl,N'⟩
  ·have ei:i=n:=by omega
   subst ei
   have fr:free rs=i:=free_at N.out (.inr LN.out)
   have e2:A=-1:=by rw [←RES.out,fr,if_neg (Nat.lt_irrefl _)]
   subst e2
   clear fr N RES
   go_wp2_with fail
   go_ret
   exact ⟨rfl,rfl⟩
set_option maxRecDepth 10000 in
set_option maxHeartbeats 2000000 in
theorem free15 {HR:HRt} {w:World} {p:Nat} {rs:List (Option Rn)} {eps buf B W:Int} (h:HCl HR w p rs eps buf B W) :
  Calls Tryz.prog 50 #[.pointer (some ⟨p,0,none⟩)] w fun e w'=>e=.returned (.int .i64 (freeC rs:Nat))∧w'=w:=by
 have IX:Hid (Calls Tryz.prog 94 #[.slice (some ⟨p,2,none⟩) 40 40, .pointer none] w fun e w'=>e=.returned (.int .i64 (if free rs<40 then (free rs:Int) else -1))∧w'=w):=by
  have:=index15 (some ⟨p,2,none⟩) 40 rs (by rw [h.len];omega) w (h.drop 0)
  rw [h.len] at this
  exact this
 have hp:=h.lt
 clear h
 unfold freeC
 generalize free rs=f at IX ⊢
 by_cases q:f<40
 ·rw [if_pos q] at IX
  have t:decide ((f:Int)<0)=false:=by simp
  have MM:Aside (min f 39=f):=by show _=_;omega
  clear q
  go_enter Tryz.func50,Tryz.ntmps50
  go_wp2_with fail
  refine Calls.mono IX.out ?_
  rintro e w1 ⟨rfl,rfl⟩
  go_wp2_with fail
  go_ret
  exact ⟨by rw [MM.out];rfl,rfl⟩
 ·rw [if_neg q] at IX
  have MM:Aside (min f 39=39):=by show _=_;omega
  clear q
  go_enter Tryz.func50,Tryz.ntmps50
  go_wp2_with fail
  refine Calls.mono IX.out ?_
  rintro e w1 ⟨rfl,rfl⟩
  go_wp2_with fail
  go_ret
  exact ⟨by rw [MM.out];rfl,rfl⟩
end Go.Proofs.YtjhaiiegdnamcabGreat
