/- Promoted methods, found through the embedded pointer. -/
import Derived.StillTailTactics
import Derived.Test.YtinefkljjnepjaaGreatCPVo
import Derived.Test.YtinefkljjnepjaaGreatCPZa
import Derived.Test.YtinefkljjnepjaaGreatCPE3
import Derived.Test.YtinefkljjnepjaaGreatCXClimb
import Derived.Test.YtinefkljjnepjaaGreatCPY2
import Derived.Test.YtinefkljjnepjaaGreatCPZi
import Derived.Test.YtinefkljjnepjaaGreatCPRd
namespace Go.Proofs.YtinefkljjnepjaaGreat
open Go.RowKit
set_option linter.unusedVariables false
end Go.Proofs.YtinefkljjnepjaaGreat
namespace Go.Proofs.YtinefkljjnepjaaGreat
open Go.RowKit
set_option linter.unusedVariables false
end Go.Proofs.YtinefkljjnepjaaGreat
namespace Go.Proofs.YtinefkljjnepjaaGreat
open Go.RowKit
set_option linter.unusedVariables false
attribute [local go_sem] run_store_float
end Go.Proofs.YtinefkljjnepjaaGreat
namespace Go.Proofs.YtinefkljjnepjaaGreat
open Go.RowKit
set_option linter.unusedVariables false
attribute [local go_sem] run_store_float
end Go.Proofs.YtinefkljjnepjaaGreat
namespace Go.Proofs.YtinefkljjnepjaaGreat
open Go.RowKit
set_option linter.unusedVariables false
end Go.Proofs.YtinefkljjnepjaaGreat
namespace Go.Proofs.YtinefkljjnepjaaGreat
open Go.RowKit
set_option linter.unusedVariables false
def fillT {α:Type} (l:List α) (d:α) (i:Nat):List α:=l.take i++List.replicate (l.length-i) d
theorem fillT_len {α:Type} (l:List α) (d:α) (i:Nat) (h:i≤l.length):(fillT l d i).length=l.length:=by simp [fillT];omega
theorem fillT_zero {α:Type} (l:List α) (d:α):fillT l d 0=List.replicate l.length d:=by simp [fillT]
theorem fillT_all {α:Type} (l:List α) (d:α):fillT l d l.length=l:=by simp [fillT]
theorem fillT_set {α:Type} (l:List α) (d d':α) {i:Nat} (h:i<l.length):(fillT l d i).set i (l.getD i d')=fillT l d (i+1):=by
 unfold fillT
 rw [List.set_append_right _ _ (by simp;omega),show l.length-i=(l.length-(i+1))+1 by omega,List.replicate_succ]
 have e:i-(l.take i).length=0:=by simp;omega
 have e3:l.take (i+1)=l.take i++[l.getD i d']:=by
  rw [List.take_add_one,List.getElem?_eq_getElem h,List.getD_eq_getElem?_getD,List.getElem?_eq_getElem h]
  rfl
 rw [e,List.set_cons_zero,e3,List.append_assoc]
 rfl
theorem made_sgm (n:Nat) (hn:n≤4000000) (w:World) :
  (Instr.makeSlice 62 (.int .i64 (n:Int)) (.int .i64 (n:Int))).run Tryz.prog w=.ok (.slice (some ⟨w.heap.size,0,none⟩) n n) (w.alloc (.cells (madeCells #[.int .u64 0, .float .f64 0, .float .f64 0, .int .i64 0, .int .i64 0] (n*5)) 65)):=by
 obtain ⟨i,hi,hz,hs,hb⟩:=info_parts info_sg
 have hr:=run_make (P:=Tryz.prog) w 62 65 i _ Tryz.underlying62 hi hz .i64 .i64 (n:Int) (n:Int) (by omega) (Int.le_refl _) (by rw [hb];omega) (by omega)
 rw [hr,hs]
 have e1:(n:Int).toNat=n:=by omega
 rw [e1]
 rfl
theorem madeCells_sg (n:Nat):(madeCells #[.int .u64 0, .float .f64 0, .float .f64 0, .int .i64 0, .int .i64 0] (n*5)).toList=(List.replicate n sg0).flatMap sgc:=by
 apply List.ext_getElem?
 intro j
 by_cases h:j<n*5
 ·have F:=flat_get (List.replicate n sg0) (j/5) (by simp;omega) (j%5) (by omega)
  rw [show j/5*5+j%5=j by omega] at F
  rw [F,List.getD_eq_getElem?_getD,List.getElem?_replicate,if_pos (by omega)]
  have r5:j%5<5:=by omega
  simp only [madeCells,Array.getElem?_toList]
  rw [Array.getElem?_map,Array.getElem?_range,if_pos h]
  simp only [Option.map_some]
  show some (#[Value.int .u64 0, .float .f64 0, .float .f64 0, .int .i64 0, .int .i64 0][j%5]!)=_
  generalize j%5=r at *
  match r,r5 with
  | 0,_=>rfl
  | 1,_=>rfl
  | 2,_=>rfl
  | 3,_=>rfl
  | 4,_=>rfl
 ·rw [List.getElem?_eq_none (by simp [size_madeCells];omega),List.getElem?_eq_none (by rw [flat_len];simp;omega)]
theorem sr_made (w:World) (n:Nat) (hn:n≤4000000):SR (w.alloc (.cells (madeCells #[.int .u64 0, .float .f64 0, .float .f64 0, .int .i64 0, .int .i64 0] (n*5)) 65)) w.heap.size (.slice (some ⟨w.heap.size,0,none⟩) n n) (List.replicate n sg0):=by
 show World.ownsRow _ _ _ _ _ _ _
 rw [List.length_replicate]
 refine ⟨by rw [flat_len];simp, .inr ⟨w.heap.size,n,_,rfl,Nat.le_refl _,heap_alloc_new w _,Nat.le_refl _,by simp only [maxLen];omega,size_madeCells _ _,?_⟩⟩
 rw [←madeCells_sg,List.take_of_length_le (by simp [size_madeCells])]
theorem made_vsm (n:Nat) (hn:n≤4000000) (w:World) :
  (Instr.makeSlice 41 (.int .i64 (n:Int)) (.int .i64 (n:Int))).run Tryz.prog w=.ok (.slice (some ⟨w.heap.size,0,none⟩) n n) (w.alloc (.cells (madeCells #[.slice none 0 0] n) 62)):=by
 obtain ⟨i,hi,hz,hs,hb⟩:=info_parts info_sgs
 have hr:=run_make (P:=Tryz.prog) w 41 62 i _ Tryz.underlying41 hi hz .i64 .i64 (n:Int) (n:Int) (by omega) (Int.le_refl _) (by rw [hb];omega) (by omega)
 rw [hr,hs]
 have e1:(n:Int).toNat=n:=by omega
 rw [e1,Nat.mul_one]
 rfl
theorem madeCells_vs (n:Nat):(madeCells #[.slice none 0 0] n).toList=List.replicate n nilS:=by
 apply List.ext_getElem?
 intro j
 by_cases h:j<n
 ·simp only [madeCells,Array.getElem?_toList]
  rw [Array.getElem?_map,Array.getElem?_range,if_pos h,List.getElem?_replicate,if_pos h]
  show some (#[Value.slice none 0 0][j%1]!)=_
  rw [show j%1=0 by omega]
  rfl
 ·rw [List.getElem?_eq_none (by simp [size_madeCells];omega),List.getElem?_eq_none (by simp;omega)]
theorem ownv_made (w:World) (n:Nat) (hn:n≤4000000):OwnV (w.alloc (.cells (madeCells #[.slice none 0 0] n) 62)) w.heap.size (.slice (some ⟨w.heap.size,0,none⟩) n n) (List.replicate n []) (List.replicate n nilS):=by
 have e1:∀ i,i<n→(List.replicate n nilS).getD i nilS=nilS:=fun i hi=>by rw [List.getD_eq_getElem?_getD,List.getElem?_replicate,if_pos hi];rfl
 have e2:∀ i,i<n→(List.replicate n ([]:List Sg)).getD i []=[]:=fun i hi=>by rw [List.getD_eq_getElem?_getD,List.getElem?_replicate,if_pos hi];rfl
 refine ⟨?_,fun i hi=>?_,fun i hi q hq=>?_⟩
 ·rw [List.length_replicate]
  refine ⟨by simp, .inr ⟨w.heap.size,n,_,rfl,Nat.le_refl _,heap_alloc_new w _,Nat.le_refl _,by simp only [maxLen];omega,by rw [size_madeCells];omega,?_⟩⟩
  rw [←madeCells_vs,List.take_of_length_le (by simp [size_madeCells])]
 ·rw [List.length_replicate] at hi
  rw [e1 i hi,e2 i hi]
  exact World.ownsRow_nil _ _ _ _
 ·rw [List.length_replicate] at hi
  rw [e1 i hi] at hq
  cases hq
theorem sr_low {w:World} {base base':Nat} {v:Value} {l:List Sg} (h:SR w base v l) (hb:base'≤base):SR w base' v l:=by
 refine ⟨h.1,?_⟩
 rcases h.2 with q | ⟨b,cap,cur,e1,e2,e3⟩
 ·exact .inl q
 ·exact .inr ⟨b,cap,cur,e1,Nat.le_trans hb e2,e3⟩
theorem OwnV.put {w w1:World} {B g cap i:Nat} {L:List (List Sg)} {vals:List Value} {vl:Value} {lv:List Sg} (h0:OwnV w B (.slice (some ⟨g,0,none⟩) L.length cap) L vals) (gg:Gw w w1) (hs:SR w1 w.heap.size vl lv) (hB:B≤w.heap.size) (hi:i<L.length):OwnV (w1.setCell ⟨g,i,none⟩ vl) B (.slice (some ⟨g,0,none⟩) (L.set i lv).length cap) (L.set i lv) (vals.set i vl):=by
 have vn:=h0.len
 have h:=h0.gw gg
 have gl:g<w.heap.size:=(h0.outer.lt g rfl).2
 have lq:∀ q,vl.ownBlock=some q→w.heap.size≤q:=fun q hq=>(sr_lt hs q hq).1
 have oq:∀ j,j<L.length→∀ q,(vals.getD j nilS).ownBlock=some q→q<w.heap.size:=fun j hj q hq=>(sr_lt (h0.rows j hj) q hq).2
 have oth:∀ q,q≠g→(w1.setCell ⟨g,i,none⟩ vl).heap[q]?=w1.heap[q]?:=fun q hq=>Go.Deep.blk_setCell_other _ _ _ _ hq
 have gs:∀ j,j≠i→(vals.set i vl).getD j nilS=vals.getD j nilS∧(L.set i lv).getD j []=L.getD j []:=fun j hj=>by
  constructor
  ·simp [List.getD,List.getElem?_set_ne (Ne.symm hj)]
  ·simp [List.getD,List.getElem?_set_ne (Ne.symm hj)]
 have ge:(vals.set i vl).getD i nilS=vl∧(L.set i lv).getD i []=lv:=by
  constructor
  ·simp [List.getD,List.getElem?_set_self (show i<vals.length by omega)]
  ·simp [List.getD,List.getElem?_set_self hi]
 refine ⟨?_,fun j hj=>?_,fun j hj q hq=>?_⟩
 ·rw [List.length_set]
  exact (h.outer.stored i vl).1
 ·rw [List.length_set] at hj
  by_cases e:j=i
  ·subst e
   rw [ge.1,ge.2]
   exact sr_low (sr_keep hs fun q hq=>oth q (by have:=lq q hq;omega)) hB
  ·rw [(gs j e).1,(gs j e).2]
   exact sr_keep (h.rows j hj) fun q hq=>oth q (fun x=>(h0.apart j hj q hq).1 (by rw [x];rfl))
 ·rw [List.length_set] at hj ⊢
  by_cases e:j=i
  ·subst e
   rw [ge.1] at hq
   have q1:=lq q hq
   refine ⟨fun x=>?_,fun m hm hmq=>?_⟩
   ·have:g=q:=by simpa [Value.ownBlock] using x
    omega
   ·by_cases e2:m=j
    ·exact e2
    ·rw [(gs m e2).1] at hmq
     have:=oq m hm q hmq
     omega
  ·rw [(gs j e).1] at hq
   have q1:=oq j hj q hq
   have ap:=h0.apart j hj q hq
   refine ⟨fun x=>ap.1 (by
                have:g=q:=by simpa [Value.ownBlock] using x
                rw [this];rfl),fun m hm hmq=>?_⟩
   by_cases e2:m=i
   ·subst e2
    rw [ge.1] at hmq
    have:=lq q hmq
    omega
   ·rw [(gs m e2).1] at hmq
    exact ap.2 m hm hmq
end Go.Proofs.YtinefkljjnepjaaGreat
namespace Go.Proofs.YtinefkljjnepjaaGreat
open Go.RowKit
set_option linter.unusedVariables false
structure HRun (w:World) (p:Nat) (S:Nat→Prop) (eps:Int) (k v:Nat→Int) (g:Nat→Bool) (n:Nat) (L:List (List Sg)):Prop where
 lies:∃ (u:World) (base pp:Nat) (Sp:Nat→Prop) (eo:Option Addr) (ec:Nat),(∀ q,S q↔base≤q∧q<u.heap.size)∧u.heap.size≤w.heap.size∧(∀ q,base≤q→q<u.heap.size→w.heap[q]?=u.heap[q]?)∧u.heap[p]?=some (.cells #[.pointer (some ⟨pp,0,none⟩), .slice eo n ec] 50 (0,0))∧base≤p∧HPile u pp Sp eps k n L∧(∀ q,Sp q→base≤q)∧ES u eo n k v g∧(∀ a,eo=some a→base≤a.block)
 rdy:Ready eps k n L
section
variable {w:World} {p:Nat} {S:Nat→Prop} {eps:Int} {k v:Nat→Int} {g:Nat→Bool} {n:Nat} {L:List (List Sg)}
theorem HRun.lt (h:HRun w p S eps k v g n L):∀ q,S q→q<w.heap.size:=by
 obtain ⟨u,base,pp,Sp,eo,ec,h1,h2,_⟩:=h.lies
 intro q hq
 have:=(h1 q).1 hq
 omega
theorem HRun.keep {w':World} (h:HRun w p S eps k v g n L) (kk:∀ q,S q→w'.heap[q]?=w.heap[q]?):HRun w' p S eps k v g n L:=by
 obtain ⟨u,base,pp,Sp,eo,ec,h1,h2,h3,h4,h5,h6⟩:=h.lies
 have pu:p<u.heap.size:=(Array.getElem?_eq_some_iff.1 h4).1
 refine ⟨⟨u,base,pp,Sp,eo,ec,h1,?_,fun q a b=>(kk q ((h1 q).2 ⟨a,b⟩)).trans (h3 q a b),h4,h5,h6⟩,h.rdy⟩
 have e:=kk (u.heap.size-1) ((h1 _).2 ⟨by omega,by omega⟩)
 rw [Array.getElem?_eq_getElem (show u.heap.size-1<w.heap.size by omega)] at e
 have:=(Array.getElem?_eq_some_iff.1 e).1
 omega
theorem HRun.gw {w':World} (h:HRun w p S eps k v g n L) (gg:Gw w w'):HRun w' p S eps k v g n L:=h.keep fun q hq=>gg.below.block q (h.lt q hq)
theorem HRun.own (h:HRun w p S eps k v g n L):S p:=by
 obtain ⟨u,base,pp,Sp,eo,ec,h1,h2,h3,h4,h5,_⟩:=h.lies
 exact (h1 p).2 ⟨h5,(Array.getElem?_eq_some_iff.1 h4).1⟩
theorem HRun.opened (h:HRun w p S eps k v g n L):∃ pp Sp eo ec,w.heap[p]?=some (.cells #[.pointer (some ⟨pp,0,none⟩), .slice eo n ec] 50 (0,0))∧HPile w pp Sp eps k n L∧(∀ q,Sp q→S q)∧ES w eo n k v g:=by
 obtain ⟨u,base,pp,Sp,eo,ec,h1,h2,h3,h4,h5,h6,h7,h8,h9⟩:=h.lies
 have pu:p<u.heap.size:=(Array.getElem?_eq_some_iff.1 h4).1
 exact ⟨pp,Sp,eo,ec,(h3 p h5 pu).trans h4,h6.keep fun q hq=>h3 q (h7 q hq) (h6.lt q hq),fun q hq=>(h1 q).2 ⟨h7 q hq,h6.lt q hq⟩,h8.kept h9 h2 h3⟩
end
theorem rn_cells {w:World} {p:Nat} {a b:Value} {t:TypeId} (h:w.heap[p]?=some (.cells #[a,b] t (0,0))):w.cell? ⟨p,0,none⟩=some a∧w.cell? ⟨p,1,none⟩=some b:=by
 refine ⟨?_,?_⟩<;>simp [World.cell?,h]
theorem BuildR.takenW {eps:Int} {f:Nat→Int} {n:Nat} {L:List (List Sg)} (e1:2≤eps) (e2:eps≤64) (n1:n≤2000000) (bd:∀ t,t<n→0≤f t∧f t<18446744073709551616) (u:Up f n) (h:BuildR eps f n L):CheckR eps f n L 0:=by
 refine .inr (.inr (.inr ⟨⟨e1,e2⟩,u,⟨?_,?_⟩,(h.chk n1 bd u).symm⟩))
 ·have a:=h.low e1 n1 bd u
  have b:=hgt_mono (e:=eps.toNat) (by omega) 4294967296 n (by omega)
  unfold mxh
  rw [if_pos ⟨e1,e2,by decide⟩]
  show (L.length:Int)≤((hgt eps.toNat 4294967296:Nat):Int)
  omega
 ·rw [List.length_eq_zero_iff];exact h.none
set_option maxRecDepth 10000 in
set_option maxHeartbeats 1000000 in
theorem clone_e {w:World} {ao:Option Addr} {n cp:Nat} {k v:Nat→Int} {g:Nat→Bool} (h:ES w ao n k v g) (hn:n≤2000000) :
  Calls Tryz.prog 54 #[.slice ao n cp] w fun e w'=>(∃ bo c,e=.returned (.slice bo n c)∧ER w' w.heap.size (.slice bo n c) k v g n)∧Gw w w':=by
 cases ao with
 | none =>
  have n0:n=0:=by
   rcases Nat.eq_zero_or_pos n with e | e
   ·exact e
   ·obtain ⟨b,off,e',_⟩:=h.cells e;cases e'
  subst n0
  clear h
  have hq:∀ W:World,(binOp .eql 22 (.slice none 0 cp) (.slice none 0 0)).run Tryz.prog W=.ok (.bool true) W:=fun _=>by kernel_rfl
  go_enter Tryz.func54,Tryz.ntmps54
  go_wp2_with fail
  go_ret
  exact ⟨⟨none,0,rfl,World.ownsRow_nil _ _ _ _⟩,Gw.refl w⟩
 | some ad =>
  have O0:Hid ((w.alloc (.cells #[] 54)).ownsRow w.heap.size 54 3 (.slice (some ⟨w.heap.size,0,none⟩) 0 0) 0 []):=World.ownsRow_made w #[] 0 (Nat.le_refl _) (Nat.zero_le _) rfl
  have NW:Hid (∀ x,(some ad:Option Addr)=some x→∀ j u,(ecs k v g n)[j]?=some u→(w.alloc (.cells #[] 54)).cell? (x.add j)=some u):=es_news (h.gw ((Gw.refl w).alloc _ _))
  obtain ⟨ii,hii,hz,hs,hby⟩:=info_parts info_e
  clear h
  have hq:∀ W:World,(binOp .eql 22 (.slice (some ad) n cp) (.slice none 0 0)).run Tryz.prog W=.ok (.bool false) W:=fun _=>by kernel_rfl
  go_enter Tryz.func54,Tryz.ntmps54
  go_wp2_with (at_builtin;refine wpList_append_src _ rfl _ _ 22 rfl w.heap.size 54 ii (.agg #[.int .u64 0, .int .u64 0, .bool false]) 3 24 Tryz.underlying22 hii hz hs hby rfl (by decide) _ 0 [] rfl O0.out (some ad) n cp (ecs k v g n) rfl (fun q=>by cases q) (ecs_len k v g n) NW.out (ecs_one k v g n) (by simp only [maxLen];omega) (by omega) (by simp) ?_)
  intro v' w7 q1 q2 q3
  have G7:Aside (Gw w w7):=((Gw.refl w).alloc _ _).grown q2 (fun k hk=>by cases hk;exact Nat.le_refl _)
  have R5:ER w7 w.heap.size v' k v g n:=by show World.ownsRow _ _ _ _ _ _ _;simpa using q1
  obtain ⟨bo,bc,rfl,_,_⟩:=er_form R5
  have RES:Aside (ER w7 w.heap.size (.slice bo n bc) k v g n):=R5
  clear q1 q2 q3 hii hz hs hby R5
  go_wp2_with fail
  go_ret
  exact ⟨⟨bo,bc,rfl,RES.out⟩,G7.out⟩
set_option maxRecDepth 10000 in
set_option maxHeartbeats 1000000 in
theorem rcheck11 (eps:Int) (ao:Option Addr) (n cp:Nat) (k v:Nat→Int) (g:Nat→Bool) (hn:n≤2000000) (hcp:n≤cp) (w:World) (h:ES w ao n k v g) :
  Calls Tryz.prog 62 #[.slice ao n cp, .int .i64 eps] w fun ex w'=>(∃ r,ex=.returned (.int .i64 r)∧NewE eps k v g n r)∧Gw w w':=by
 have CK:Hid (Calls Tryz.prog 88 #[.slice ao n cp] w fun e w'=>(∃ r:Int,e=.returned (.int .i64 r)∧ChkR k v g n r)∧Gw w w'):=check3_any ao n cp k v g (by omega) hcp w h
 clear h
 by_cases b:2≤eps∧eps≤64
 ·have t1:decide (eps<2)=false:=by simp;omega
  have t2:decide (64<eps)=false:=by simp;omega
  have BN:Aside (2≤eps∧eps≤64):=b
  clear b
  go_enter Tryz.func62,Tryz.ntmps62
  go_wp2_with fail
  refine Calls.mono CK.out ?_
  rintro e w1 ⟨⟨r,rfl,cr⟩,g1⟩
  have CR:Aside (ChkR k v g n r):=cr
  have G1:Aside (Gw w w1):=g1
  clear CK cr g1
  go_wp2_with fail
  go_ret
  exact ⟨⟨r,rfl, .inr ⟨BN.out,CR.out⟩⟩,G1.out⟩
 ·have BN:Aside (¬ (2≤eps∧eps≤64)):=b
  by_cases c:eps<2
  ·have t1:decide (eps<2)=true:=by simpa using c
   clear b c
   go_enter Tryz.func62,Tryz.ntmps62
   go_wp2_with fail
   go_ret
   exact ⟨⟨1,rfl, .inl ⟨BN.out,rfl⟩⟩,Gw.refl w⟩
  ·have t1:decide (eps<2)=false:=by simpa using c
   have t2:decide (64<eps)=true:=by simp;omega
   clear b c
   go_enter Tryz.func62,Tryz.ntmps62
   go_wp2_with fail
   go_ret
   exact ⟨⟨1,rfl, .inl ⟨BN.out,rfl⟩⟩,Gw.refl w⟩
set_option maxRecDepth 10000 in
set_option maxHeartbeats 2000000 in
theorem rof11 (M:ModelC) (eps:Int) (ao:Option Addr) (n cp:Nat) (k v:Nat→Int) (g:Nat→Bool) (lo:Option Addr) (lc:Nat) (L:List (List Sg)) (e0:-9223372036854775808≤eps) (e1:eps<9223372036854775808) (hn:n≤2000000) (hcp:n≤cp) (hS:Short L) (hlc:L.length≤lc) (w:World) (h:ES w ao n k v g) (hv:VS w lo L) :
  Calls Tryz.prog 27 #[.slice ao n cp, .int .i64 eps, .slice lo L.length lc] w fun ex w'=>OfOutR HRun w w' ex eps k v g n L∧Gw w w':=by
 have CK:Hid (Calls Tryz.prog 62 #[.slice ao n cp, .int .i64 eps] w fun ex w'=>(∃ r,ex=.returned (.int .i64 r)∧NewE eps k v g n r)∧Gw w w'):=rcheck11 eps ao n cp k v g hn hcp w h
 have HE:Aside (ES w ao n k v g):=h
 have HV:Aside (VS w lo L):=hv
 have SH:Aside (Short L):=hS
 have KB:Aside (∀ t,t<n→0≤k t∧k t<18446744073709551616):=fun t ht=>(h.bd t ht).1
 have P9:Hid (∀ (ko:Option Addr) (W:World),KS W ko n k→VS W lo L→Calls Tryz.prog 66 #[.slice ko n n, .int .i64 eps, .slice lo L.length lc] W fun ex w'=>PileOut HPile W w' ex eps k n L∧Gw W w'):=fun ko W hk hw=>of9 M eps ko n n k lo lc L e0 e1 hn (Nat.le_refl _) hS hlc W hk hw
 obtain ⟨ln,hln⟩:∃ ln,L.length=ln:=⟨_,rfl⟩
 rw [hln] at P9 hlc ⊢
 clear h hv hS hln M
 go_enter Tryz.func27,Tryz.ntmps27
 go_wp2_with fail
 refine Calls.mono CK.out ?_
 rintro e w1 ⟨⟨r,rfl,cr⟩,g1⟩
 have CR:Aside (NewE eps k v g n r):=cr
 have G1:Aside (Gw w w1):=g1
 clear CK cr g1
 by_cases r0:r=0
 ·subst r0
  go_wp2_with fail
  refine Calls.mono (of3_any ao n cp k v g (by omega) w1 (HE.out.gw G1.out)) ?_
  rintro e w2 ⟨⟨kb,rfl,hkb,rw2⟩,g2⟩
  have G2:Aside (Gw w w2):=G1.out.trans g2
  have K2:Aside (KS w2 (some ⟨kb,0,none⟩) n k):=⟨fun _=>⟨kb,0,rfl,rw2.lt,fun i hi=>by rw [Nat.zero_add];exact rw2.cell hi⟩,KB.out⟩
  clear rw2 g2 hkb G1
  go_wp2_with fail
  refine Calls.mono (P9.out _ w2 K2.out (HV.out.gw G2.out)) ?_
  rintro e w3 ⟨⟨E,cE,x⟩,g3⟩
  have G3:Aside (Gw w w3):=G2.out.trans g3
  have CE:Aside (CheckR eps k n L E):=cE
  have Z2:Aside (w.heap.size≤w2.heap.size):=G2.out.size
  clear cE g3 K2 G2
  rcases x with ⟨x0,rfl⟩ | ⟨rfl,pp,Sp,rfl,hS,hp⟩
  ·have x0':(E != 0)=true:=by simpa using x0
   have X0:Aside (E≠0):=x0
   clear x0
   go_wp2_with fail
   go_ret2
   exact ⟨⟨E,⟨0,CR.out, .inr ⟨rfl,CE.out⟩⟩, .inl ⟨X0.out,rfl⟩⟩,G3.out⟩
  ·have HP:Aside (HPile w3 pp Sp eps k n L∧∀ q,Sp q→w2.heap.size≤q):=⟨hp,hS⟩
   clear hp hS
   go_wp2_with fail
   refine Calls.mono (clone_e (HE.out.gw G3.out) hn) ?_
   rintro e w4 ⟨⟨bo,bc,rfl,er⟩,g4⟩
   obtain ⟨bo',bc',e',_,hbl⟩:=er_form er
   cases e'
   have E4:Aside (ES w4 bo n k v g∧∀ a,bo=some a→w3.heap.size≤a.block∧a.block<w4.heap.size):=⟨er_es er HE.out.bd,hbl⟩
   have H34:Aside (Gw w3 w4):=g4
   clear er g4 hbl
   have RES:Aside (OfOutR HRun w (w4.alloc (.cells #[.pointer (some ⟨pp,0,none⟩), .slice bo n bc] 50)) (.returned (.tuple #[.pointer (some ⟨w4.heap.size,0,none⟩), .int .i64 0])) eps k v g n L):=by
    have zz:=H34.out.size
    have z3:=G3.out.size
    have z2:=Z2.out
    have gA:Gw w4 (w4.alloc (.cells #[.pointer (some ⟨pp,0,none⟩), .slice bo n bc] 50)):=(Gw.refl w4).alloc _ _
    have g3A:=H34.out.trans gA
    refine ⟨0,⟨0,CR.out, .inr ⟨rfl,CE.out⟩⟩, .inr ⟨rfl,w4.heap.size,fun q=>w.heap.size≤q∧q<w4.heap.size+1,rfl,fun q hq=>hq.1,⟨⟨_,w.heap.size,pp,Sp,bo,bc,fun q=>by simp,Nat.le_refl _,fun _ _ _=>rfl,heap_alloc_new w4 _,by omega,HP.out.1.keep fun q hq=>g3A.below.block q (HP.out.1.lt q hq),fun q hq=>Nat.le_trans z2 (HP.out.2 q hq),E4.out.1.gw gA,fun a ea=>by have:=(E4.out.2 a ea).1;omega⟩,Ready.of CE.out hn SH.out KB.out⟩⟩⟩
   have G4:Aside (Gw w w4):=G3.out.trans H34.out
   clear E4 H34 HP CE CR
   go_wp2_with fail
   go_ret2
   exact ⟨RES.out,G4.out.alloc _ _⟩
 ·have r0':(r != 0)=true:=by simpa using r0
  have R0:Aside (r≠0):=r0
  clear r0
  go_wp2_with fail
  go_ret2
  exact ⟨⟨r,⟨r,CR.out, .inl ⟨R0.out,rfl⟩⟩, .inl ⟨R0.out,rfl⟩⟩,G1.out⟩
set_option maxRecDepth 10000 in
set_option maxHeartbeats 2000000 in
theorem rnew11 (BO:BuildOwn) (OF:∀ (eps:Int) (ao:Option Addr) (n cp:Nat) (k v:Nat→Int) (g:Nat→Bool) (lo:Option Addr) (lc:Nat) (L:List (List Sg)),-9223372036854775808≤eps→eps<9223372036854775808→n≤2000000→n≤cp→Short L→L.length≤lc→∀ w:World,ES w ao n k v g→VS w lo L→Calls Tryz.prog 27 #[.slice ao n cp, .int .i64 eps, .slice lo L.length lc] w fun ex w'=>OfOutR HRun w w' ex eps k v g n L∧Gw w w') (eps:Int) (ao:Option Addr) (n cp:Nat) (k v:Nat→Int) (g:Nat→Bool) (e0:-9223372036854775808≤eps) (e1:eps<9223372036854775808) (hn:n≤2000000) (hcp:n≤cp) (w:World) (h:ES w ao n k v g) :
  Calls Tryz.prog 23 #[.slice ao n cp, .int .i64 eps] w fun ex w'=>RunOut HRun w w' ex eps k v g n∧Gw w w':=by
 have CK:Hid (Calls Tryz.prog 62 #[.slice ao n cp, .int .i64 eps] w fun ex w'=>(∃ r,ex=.returned (.int .i64 r)∧NewE eps k v g n r)∧Gw w w'):=rcheck11 eps ao n cp k v g hn hcp w h
 have HE:Aside (ES w ao n k v g):=h
 have KB:Aside (∀ t,t<n→0≤k t∧k t<18446744073709551616):=fun t ht=>(h.bd t ht).1
 clear h
 go_enter Tryz.func23,Tryz.ntmps23
 go_wp2_with fail
 refine Calls.mono CK.out ?_
 rintro e w1 ⟨⟨r,rfl,cr⟩,g1⟩
 have CR:Aside (NewE eps k v g n r):=cr
 have G1:Aside (Gw w w1):=g1
 clear CK cr g1
 by_cases r0:r=0
 ·subst r0
  go_wp2_with fail
  refine Calls.mono (of3_any ao n cp k v g (by omega) w1 (HE.out.gw G1.out)) ?_
  rintro e w2 ⟨⟨kb,rfl,hkb,rw2⟩,g2⟩
  have G2:Aside (Gw w w2):=G1.out.trans g2
  have K2:Aside (KS w2 (some ⟨kb,0,none⟩) n k):=⟨fun _=>⟨kb,0,rfl,rw2.lt,fun i hi=>by rw [Nat.zero_add];exact rw2.cell hi⟩,KB.out⟩
  clear rw2 g2 hkb G1
  go_wp2_with fail
  refine Calls.mono (BO eps _ n n k e0 e1 hn (Nat.le_refl _) w2 K2.out) ?_
  rintro e w3 ⟨⟨lo,lc,L,err,vals,rfl,be,hlc,ow,lok⟩,g3⟩
  obtain ⟨⟨a1,a2⟩,up⟩:=NewE.up CR.out
  have BR8:BuildR eps k n L∧err=0:=by
   rcases be with ⟨x,_⟩ | ⟨_,x,_⟩ | ⟨_,_,x,y⟩
   ·exact absurd ⟨a1,a2⟩ x
   ·exact absurd up x
   ·exact ⟨x,y⟩
  obtain ⟨br,rfl⟩:=BR8
  have G3:Aside (Gw w w3):=G2.out.trans g3
  have OFF:Hid (Calls Tryz.prog 27 #[.slice ao n cp, .int .i64 eps, .slice lo L.length lc] w3 fun ex w'=>OfOutR HRun w3 w' ex eps k v g n L∧Gw w3 w'):=OF eps ao n cp k v g lo lc L e0 e1 hn hcp (br.fine a1 hn KB.out up) hlc w3 (HE.out.gw G3.out) (ow.vsf lok).vs
  have BR:Aside (BuildR eps k n L∧CheckR eps k n L 0):=⟨br,br.takenW a1 a2 hn KB.out up⟩
  obtain ⟨ln,hln⟩:∃ ln,L.length=ln:=⟨_,rfl⟩
  rw [hln] at OFF ⊢
  clear br be ow lok hlc g3 G2 K2 hln up a1 a2
  go_wp2_with fail
  refine Calls.mono OFF.out ?_
  rintro e w4 ⟨⟨E,⟨r,ne,oe⟩,x⟩,g4⟩
  have G4:Aside (Gw w w4):=G3.out.trans g4
  have er:=ne.one CR.out
  subst er
  rcases oe with ⟨oe,_⟩ | ⟨_,oe⟩
  ·exact absurd rfl oe
  have eE:=oe.one BR.out.2
  subst eE
  rcases x with ⟨x,_⟩ | ⟨_,p,S,rfl,hS,hr⟩
  ·exact absurd rfl x
  have RES:Aside (RunOut HRun w w4 (.returned (.tuple #[.pointer (some ⟨p,0,none⟩), .int .i64 0])) eps k v g n):=⟨0,CR.out, .inr ⟨rfl,p,S,L,rfl,fun q hq=>Nat.le_trans G3.out.size (hS q hq),BR.out.1,hr⟩⟩
  clear g4 ne oe hS hr BR G3 OFF CR
  go_wp2_with fail
  go_ret2
  exact ⟨RES.out,G4.out⟩
 ·have r0':(r != 0)=true:=by simpa using r0
  have R0:Aside (r≠0):=r0
  clear r0
  go_wp2_with fail
  go_ret2
  exact ⟨⟨r,CR.out, .inl ⟨R0.out,rfl⟩⟩,G1.out⟩
end Go.Proofs.YtinefkljjnepjaaGreat
namespace Go.Proofs.YtinefkljjnepjaaGreat
open Go.RowKit
set_option linter.unusedVariables false
attribute [local go_sem] run_store_float
theorem rn_len {w:World} {p:Nat} {S:Nat→Prop} {eps:Int} {k v:Nat→Int} {g:Nat→Bool} {n:Nat} {L:List (List Sg)} (h:HRun w p S eps k v g n L):Calls Tryz.prog 25 #[.pointer (some ⟨p,0,none⟩)] w fun e w'=>e=.returned (.int .i64 (n:Int))∧Gw w w':=by
 obtain ⟨pp,Sp,eo,ec,h1,hp,hs,he⟩:=h.opened
 obtain ⟨c0,c1⟩:=rn_cells h1
 clear h h1 hp hs he
 go_enter Tryz.func25,Tryz.ntmps25
 go_wp2_with fail
 go_ret
 exact ⟨rfl,Gw.refl w⟩
set_option maxRecDepth 10000 in
set_option maxHeartbeats 4000000 in
theorem rn_at {w:World} {p:Nat} {S:Nat→Prop} {eps:Int} {k v:Nat→Int} {g:Nat→Bool} {n:Nat} {L:List (List Sg)} (h:HRun w p S eps k v g n L) (i:Int) :
  Calls Tryz.prog 24 #[.pointer (some ⟨p,0,none⟩), .int .i64 i] w fun e w'=>e=.returned (.tuple #[(atV k v g n i).1, .int .i64 (atV k v g n i).2])∧Gw w w':=by
 obtain ⟨pp,Sp,eo,ec,h1,hp,hs,hk⟩:=h.opened
 obtain ⟨c0,c1⟩:=rn_cells h1
 have pl:p<w.heap.size:=(Array.getElem?_eq_some_iff.1 h1).1
 have hn:=h.rdy.n1
 clear h h1 hp hs
 unfold atV
 by_cases a:i<0
 ·have t1:decide (i<0)=true:=by simpa using a
  rw [if_neg (by omega)]
  clear hk a
  go_enter Tryz.func24,Tryz.ntmps24
  go_wp2_with fail
  exact bodyPost_ret (v:=.tuple #[.agg #[.int .u64 0, .int .u64 0, .bool false], .int .i64 1]) (by simp [results,Tryz.results24,go_sem]) rfl ⟨rfl,(Gw.refl w).alloc _ _⟩
 ·have t1:decide (i<0)=false:=by simpa using a
  by_cases b:(n:Int)≤i
  ·have t2:decide ((n:Int)≤i)=true:=by simpa using b
   rw [if_neg (by omega)]
   clear hk a
   go_enter Tryz.func24,Tryz.ntmps24
   go_wp2_with fail
   exact bodyPost_ret (v:=.tuple #[.agg #[.int .u64 0, .int .u64 0, .bool false], .int .i64 1]) (by simp [results,Tryz.results24,go_sem]) rfl ⟨rfl,(Gw.refl w).alloc _ _⟩
  ·have t2:decide ((n:Int)≤i)=false:=by simpa using b
   rw [if_pos (by omega)]
   obtain ⟨j,rfl⟩:∃ j:Nat,i=(j:Int):=⟨i.toNat,by omega⟩
   obtain ⟨kb,ko,rfl,hkb,hkc⟩:=hk.cells (by omega)
   obtain ⟨d1,d2,d3⟩:=hkc j (by omega)
   have jl:j<n:=by omega
   have jl':(j:Int)<(n:Int):=by omega
   show Calls _ _ _ _ fun e w'=>e=.returned (.tuple #[.agg #[.int .u64 (k j), .int .u64 (v j), .bool (g j)], .int .i64 0])∧Gw w w'
   generalize k j=kj at d1 ⊢
   generalize v j=vj at d2 ⊢
   generalize g j=gj at d3 ⊢
   clear hk hkc a b
   go_enter Tryz.func24,Tryz.ntmps24
   go_wp2_with fail
   exact bodyPost_ret (v:=.tuple #[.agg #[.int .u64 kj, .int .u64 vj, .bool gj], .int .i64 0]) (by simp [results,Tryz.results24,go_sem]) rfl ⟨rfl,(Gw.refl w).alloc _ _⟩
theorem rn_list {w:World} {p:Nat} {S:Nat→Prop} {eps:Int} {k v:Nat→Int} {g:Nat→Bool} {n:Nat} {L:List (List Sg)} (h:HRun w p S eps k v g n L):Calls Tryz.prog 16 #[.pointer (some ⟨p,0,none⟩)] w fun e w'=>(∃ bo c,e=.returned (.slice bo n c)∧ER w' w.heap.size (.slice bo n c) k v g n)∧Gw w w':=by
 obtain ⟨pp,Sp,eo,ec,h1,hp,hs,he⟩:=h.opened
 obtain ⟨c0,c1⟩:=rn_cells h1
 have CE:Hid (Calls Tryz.prog 54 #[.slice eo n ec] w fun e w'=>(∃ bo c,e=.returned (.slice bo n c)∧ER w' w.heap.size (.slice bo n c) k v g n)∧Gw w w'):=clone_e he h.rdy.n1
 clear h h1 hp hs he
 go_enter Tryz.func16,Tryz.ntmps16
 go_wp2_with fail
 refine Calls.mono CE.out ?_
 rintro e w2 ⟨⟨bo,c,rfl,er⟩,g2⟩
 have ER2:Aside (ER w2 w.heap.size (.slice bo n c) k v g n):=er
 have G2:Aside (Gw w w2):=g2
 clear er g2 CE c0 c1
 go_wp2_with fail
 go_ret
 exact ⟨⟨bo,c,rfl,ER2.out⟩,G2.out⟩
set_option maxRecDepth 10000 in
set_option maxHeartbeats 4000000 in
theorem rn_segs {w:World} {p:Nat} {S:Nat→Prop} {eps:Int} {k v:Nat→Int} {g:Nat→Bool} {n:Nat} {L:List (List Sg)} (h:HRun w p S eps k v g n L) (lv:Nat) (hlv:lv<L.length) :
  Calls Tryz.prog 55 #[.pointer (some ⟨p,0,none⟩), .int .i64 ((lv:Int)+1)] w fun e w'=>(∃ bo c,e=.returned (.slice bo (L.getD lv []).length c)∧SR w' w.heap.size (.slice bo (L.getD lv []).length c) (L.getD lv []))∧Gw w w':=by
 obtain ⟨pp,Sp,eo,ec,h1,hp,hs,he⟩:=h.opened
 obtain ⟨c0,_⟩:=rn_cells h1
 have pl:p<w.heap.size:=(Array.getElem?_eq_some_iff.1 h1).1
 have lsh:=h.rdy.sh
 have l1:=lsh.1
 obtain ⟨row,hrow⟩:∃ r,L.getD lv []=r:=⟨_,rfl⟩
 have rl:row.length≤2000000:=by rw [←hrow];exact lsh.2 lv hlv
 have CP:Aside (w.cell? ⟨p,0,none⟩=some (.pointer (some ⟨pp,0,none⟩))∧p<w.heap.size):=⟨c0,pl⟩
 have KP:Hid (∀ W,Gw w W→HPile W pp Sp eps k n L):=fun W gg=>hp.keep fun q hq=>gg.below.block q (hp.lt q hq)
 have ez:sizeV n L ((lv:Int)+1)=row.length:=by
  unfold sizeV rowN
  rw [if_pos (by omega),if_neg (by omega),←hrow]
  congr 2
 have ZR:Hid (Calls Tryz.prog 82 #[.pointer (some ⟨pp,0,none⟩), .int .i64 ((lv:Int)+1)] w fun e w'=>e=.returned (.int .i64 (row.length:Int))∧w'=w):=by
  have:=pl_size hp ((lv:Int)+1) (by omega) (by omega)
  rw [ez] at this
  exact this
 have SG:Hid (∀ (W:World) (t:Nat),Gw w W→t<row.length→∃ sk ssl sic sfr ste,row.getD t sg0=⟨sk,ssl,sic,sfr,ste⟩∧Calls Tryz.prog 83 #[.pointer (some ⟨pp,0,none⟩), .int .i64 ((lv:Int)+1), .int .i64 (t:Int)] W fun e w'=>e=.returned (.agg #[.int .u64 sk, .float .f64 ssl, .float .f64 sic, .int .i64 sfr, .int .i64 ste])∧Gw W w'):=fun W t gg ht=>by
  have:=pl_seg (KP.out W gg) ((lv:Int)+1) (t:Int) (by omega) (by omega) (by omega) (by omega)
  have e:segW L ((lv:Int)+1) (t:Int)=row.getD t sg0:=by
   unfold segW
   rw [show ((lv:Int)+1).toNat-1=lv by omega,hrow,if_pos ⟨⟨by omega,by omega⟩,by omega,by omega⟩]
   simp
  rw [e] at this
  exact ⟨_,_,_,_,_,rfl,this⟩
 rw [hrow]
 obtain ⟨m,hm⟩:∃ m,row.length=m:=⟨_,rfl⟩
 have RM:Aside (row.length=m):=hm
 rw [hm] at ZR SG rl ⊢
 have hmk:=made_sgm m (by omega)
 have S0:Hid (∀ W:World,SR (W.alloc (.cells (madeCells #[.int .u64 0, .float .f64 0, .float .f64 0, .int .i64 0, .int .i64 0] (m*5)) 65)) W.heap.size (.slice (some ⟨W.heap.size,0,none⟩) m m) (List.replicate m sg0)):=fun W=>sr_made W m (by omega)
 clear h h1 hp hs he hrow ez hm lsh
 go_enter Tryz.func55,Tryz.ntmps55
 go_wp2_with fail
 refine Calls.mono ZR.out ?_
 rintro e w1 ⟨rfl,e1⟩
 have e2:=e1.symm
 subst e2
 clear ZR c0 e1
 have B0:Aside (SR (w.alloc (.cells (madeCells #[.int .u64 0, .float .f64 0, .float .f64 0, .int .i64 0, .int .i64 0] (m*5)) 65)) w.heap.size (.slice (some ⟨w.heap.size,0,none⟩) m m) (fillT row sg0 0)):=by
  have:=S0.out w
  rw [←RM.out,←fillT_zero] at this
  rw [←RM.out]
  exact this
 have G0:Aside (Gw w (w.alloc (.cells (madeCells #[.int .u64 0, .float .f64 0, .float .f64 0, .int .i64 0, .int .i64 0] (m*5)) 65))):=(Gw.refl w).alloc _ _
 obtain ⟨b,hb⟩:∃ b,w.heap.size=b:=⟨_,rfl⟩
 have BB:Aside (w.heap.size=b):=hb
 go_wp2_with fail
 rw [hb] at B0
 try rw [hb]
 clear hb S0
 generalize w.alloc (.cells (madeCells #[.int .u64 0, .float .f64 0, .float .f64 0, .int .i64 0, .int .i64 0] (m*5)) 65)=wA at B0 G0 ⊢
 go_loopg [16] m (fun gg s16 wr=>∃ i:Nat,s16=.int .i64 (i:Int)∧i≤m∧m-i≤gg∧Aside (SR wr b (.slice (some ⟨b,0,none⟩) m m) (fillT row sg0 i))∧Aside (Gw w wr))
 case atStart=>exact ⟨0,rfl,Nat.zero_le _,by omega,B0,G0⟩
 case round =>
  clear B0 G0
  obtain ⟨i,rfl,a1,a2,SS,GG⟩:=hrel
  obtain ⟨wS,hwS⟩:∃ wx,wx=wr:=⟨_,rfl⟩
  subst hwS
  by_cases hlt:i<m
  ·obtain ⟨sk,ssl,sic,sfr,ste,es,CS⟩:=SG.out wS i GG.out hlt
   have c0:wS.cell? ⟨p,0,none⟩=some (.pointer (some ⟨pp,0,none⟩)):=(GG.out.cell _ _ CP.out.2).trans CP.out.1
   have pl':p<wS.heap.size:=Nat.lt_of_lt_of_le CP.out.2 GG.out.size
   have ES0:Aside (row.getD i sg0=⟨sk,ssl,sic,sfr,ste⟩):=es
   have hlt':(i:Int)<(m:Int):=by omega
   clear es
   go_wp2_with fail
   clear c0 pl'
   refine Calls.mono CS ?_
   rintro e u1 ⟨rfl,gg⟩
   have S1:Aside (SR u1 b (.slice (some ⟨b,0,none⟩) m m) (fillT row sg0 i)):=sr_gw SS.out gg
   have FL:Aside ((fillT row sg0 i).length=m):=by rw [fillT_len _ _ _ (by rw [RM.out];omega)];exact RM.out
   have ow:u1.ownsRow b 65 5 (.slice (some ⟨b,0,none⟩) m m) m ((fillT row sg0 i).flatMap sgc):=by
    have:u1.ownsRow b 65 5 (.slice (some ⟨b,0,none⟩) m m) (fillT row sg0 i).length ((fillT row sg0 i).flatMap sgc):=S1.out
    rw [FL.out] at this
    exact this
   have fz:∀ o,u1.frozen? ⟨b,o,none⟩=false:=fun o=>by
    rcases ow.2 with ⟨e,_⟩ | ⟨g',cap,cur,e,hb',hh,_⟩
    ·cases e
    ·cases e
     simp [World.frozen?,hh]
   have cl:∀ j,j<5→(u1.cell? ⟨b,i*5+j,none⟩).isSome=true:=fun j hj=>by
    have:=ow.cellAt (i*5+j) (by omega)
    rw [this,flat_get _ i (by rw [FL.out];exact hlt) j hj]
    match j,hj with
    | 0,_=>rfl
    | 1,_=>rfl
    | 2,_=>rfl
    | 3,_=>rfl
    | 4,_=>rfl
   obtain ⟨y0,f0⟩:=Option.isSome_iff_exists.1 (cl 0 (by decide))
   obtain ⟨y1,f1⟩:=Option.isSome_iff_exists.1 (cl 1 (by decide))
   obtain ⟨y2,f2⟩:=Option.isSome_iff_exists.1 (cl 2 (by decide))
   obtain ⟨y3,f3⟩:=Option.isSome_iff_exists.1 (cl 3 (by decide))
   obtain ⟨y4,f4⟩:=Option.isSome_iff_exists.1 (cl 4 (by decide))
   have z0:=fz (i*5+0)
   have z1:=fz (i*5+1)
   have z2:=fz (i*5+2)
   have z3:=fz (i*5+3)
   have z4:=fz (i*5+4)
   rw [Nat.add_zero] at f0 z0
   have bl:b<u1.heap.size:=(ow.lt b rfl).2
   clear ow fz cl
   have S2:Aside (SR (put5 u1 b (i*5) ⟨sk,ssl,sic,sfr,ste⟩) b (.slice (some ⟨b,0,none⟩) m m) (fillT row sg0 (i+1))):=by
    have h1:SR u1 b (.slice (some ⟨b,0,none⟩) (fillT row sg0 i).length m) (fillT row sg0 i):=by rw [FL.out];exact S1.out
    have h2:=sr_put h1 (k:=i) (by rw [FL.out];exact hlt) ⟨sk,ssl,sic,sfr,ste⟩
    have h3:=fillT_set row sg0 sg0 (i:=i) (by rw [RM.out];exact hlt)
    rw [ES0.out] at h3
    rw [h3,fillT_len _ _ _ (by rw [RM.out];omega),RM.out] at h2
    exact h2
   have G2:Aside (Gw w (put5 u1 b (i*5) ⟨sk,ssl,sic,sfr,ste⟩)):=put5_gw (GG.out.trans gg) (Nat.le_of_eq BB.out)
   clear gg S1 FL ES0
   go_wp2_with fail
   go_roundg (m-(i+1))
   case measure=>omega
   case rel=>exact ⟨i+1,by go_num,by omega,Nat.le_refl _,S2,G2⟩
  ·have ei:i=m:=by omega
   subst ei
   go_wp2_with fail
   go_ret
   have e:=fillT_all row sg0
   rw [RM.out] at e
   exact ⟨⟨some ⟨b,0,none⟩,_,rfl,by rw [BB.out];have:=SS.out;rw [e] at this;exact this⟩,GG.out⟩
set_option maxRecDepth 10000 in
set_option maxHeartbeats 4000000 in
theorem rn_levels {w:World} {p:Nat} {S:Nat→Prop} {eps:Int} {k v:Nat→Int} {g:Nat→Bool} {n:Nat} {L:List (List Sg)} (h:HRun w p S eps k v g n L) :
  Calls Tryz.prog 17 #[.pointer (some ⟨p,0,none⟩)] w fun e w'=>(∃ lo lc vals,e=.returned (.slice lo L.length lc)∧OwnV w' w.heap.size (.slice lo L.length lc) L vals∧Lok L∧L.length≤lc)∧Gw w w':=by
 obtain ⟨pp,Sp,eo,ec,h1,hp,hs,he⟩:=h.opened
 obtain ⟨c0,_⟩:=rn_cells h1
 have pl:p<w.heap.size:=(Array.getElem?_eq_some_iff.1 h1).1
 have l1:=h.rdy.sh.1
 have LOK:Aside (Lok L):=by
  obtain ⟨ko,kc,lo,lc,_,_,hv⟩:=hp.opened
  exact vs_ok hv
 obtain ⟨m,hm⟩:∃ m,L.length=m:=⟨_,rfl⟩
 have RM:Aside (L.length=m):=hm
 have HT:Hid (Calls Tryz.prog 32 #[.pointer (some ⟨pp,0,none⟩)] w fun e w'=>e=.returned (.int .i64 (m:Int))∧w'=w):=by
  have:=pl_height hp
  rw [hm] at this
  exact this
 have SG:Hid (∀ (W:World) (i:Nat),Gw w W→i<m→Calls Tryz.prog 55 #[.pointer (some ⟨p,0,none⟩), .int .i64 ((i:Int)+1)] W fun e w'=>(∃ bo c sn,e=.returned (.slice bo sn c)∧SR w' W.heap.size (.slice bo sn c) (L.getD i []))∧Gw W w'):=fun W i gg hi=>(rn_segs (h.gw gg) i (by rw [RM.out];exact hi)).mono fun e w' ⟨⟨bo,c,a,s⟩,b⟩=>⟨⟨bo,c,_,a,s⟩,b⟩
 rw [hm] at l1 ⊢
 have hmk:=made_vsm m (by omega)
 have B0:Aside (OwnV (w.alloc (.cells (madeCells #[.slice none 0 0] m) 62)) w.heap.size (.slice (some ⟨w.heap.size,0,none⟩) m m) (fillT L [] 0) (List.replicate m nilS)):=by
  have:=ownv_made w m (by omega)
  rw [fillT_zero,RM.out]
  exact this
 have G0:Aside (Gw w (w.alloc (.cells (madeCells #[.slice none 0 0] m) 62))):=(Gw.refl w).alloc _ _
 obtain ⟨b,hb⟩:∃ b,w.heap.size=b:=⟨_,rfl⟩
 have BB:Aside (w.heap.size=b):=hb
 clear h h1 hp hs he hm
 go_enter Tryz.func17,Tryz.ntmps17
 go_wp2_with fail
 refine Calls.mono HT.out ?_
 rintro e w1 ⟨rfl,e1⟩
 have e2:=e1.symm
 subst e2
 clear HT c0 e1
 go_wp2_with fail
 rw [hb] at B0
 try rw [hb]
 clear hb
 generalize w.alloc (.cells (madeCells #[.slice none 0 0] m) 62)=wA at B0 G0 ⊢
 go_loopg [13] m (fun gg s13 wr=>∃ (i:Nat) (vals:List Value),s13=.int .i64 (i:Int)∧i≤m∧m-i≤gg∧Aside (OwnV wr b (.slice (some ⟨b,0,none⟩) m m) (fillT L [] i) vals)∧Aside (Gw w wr))
 case atStart=>exact ⟨0,_,rfl,Nat.zero_le _,by omega,B0,G0⟩
 case round =>
  clear B0 G0
  obtain ⟨i,vals,rfl,a1,a2,OV,GG⟩:=hrel
  obtain ⟨wS,hwS⟩:∃ wx,wx=wr:=⟨_,rfl⟩
  subst hwS
  by_cases hlt:i<m
  ·have hlt':(i:Int)<(m:Int):=by omega
   have wi:IntKind.i64.wrap ((i:Int)+1)=(i:Int)+1:=by rw [IntKind.wrap_i64];omega
   have FL:Aside ((fillT L [] i).length=m):=by show _=_;rw [fillT_len _ _ _ (by rw [RM.out];omega)];exact RM.out
   go_wp2_with fail
   refine Calls.mono (SG.out _ i GG.out hlt) ?_
   rintro e u1 ⟨⟨bo,c,sn,rfl,sr⟩,gg⟩
   have ow:u1.ownsRow b 62 1 (.slice (some ⟨b,0,none⟩) m m) m vals:=by
    have:=(OV.out.gw gg).outer
    rw [FL.out] at this
    exact this
   have fz:u1.frozen? ⟨b,i,none⟩=false:=by
    rcases ow.2 with ⟨e,_⟩ | ⟨g',cap,cur,e,hb',hh,_⟩
    ·cases e
    ·cases e
     simp [World.frozen?,hh]
   have cl:∃ y,u1.cell? ⟨b,i,none⟩=some y:=by
    have vl:=OV.out.len
    rw [FL.out] at vl
    have:=ow.cellAt i (by omega)
    rw [List.getElem?_eq_getElem (by omega)] at this
    exact ⟨_,this⟩
   obtain ⟨y,cy⟩:=cl
   have bl:b<u1.heap.size:=(ow.lt b rfl).2
   have O2:Aside (OwnV (u1.setCell ⟨b,i,none⟩ (.slice bo sn c)) b (.slice (some ⟨b,0,none⟩) m m) (fillT L [] (i+1)) (vals.set i (.slice bo sn c))):=by
    have h1:OwnV wS b (.slice (some ⟨b,0,none⟩) (fillT L [] i).length m) (fillT L [] i) vals:=by rw [FL.out];exact OV.out
    have h2:=h1.put (i:=i) gg sr (by rw [←BB.out];exact GG.out.size) (by rw [FL.out];exact hlt)
    have h3:=fillT_set L [] [] (i:=i) (by rw [RM.out];exact hlt)
    rw [h3,fillT_len _ _ _ (by rw [RM.out];omega),RM.out] at h2
    exact h2
   have G2:Aside (Gw w (u1.setCell ⟨b,i,none⟩ (.slice bo sn c))):=(GG.out.trans gg).setCell (Nat.le_of_eq BB.out) _
   clear gg sr ow FL
   go_wp2_with fail
   go_roundg (m-(i+1))
   case measure=>omega
   case rel=>exact ⟨i+1,_,by go_num,by omega,Nat.le_refl _,O2,G2⟩
  ·have ei:i=m:=by omega
   subst ei
   go_wp2_with fail
   go_ret
   have e:=fillT_all L []
   rw [RM.out] at e
   exact ⟨⟨some ⟨b,0,none⟩,_,vals,rfl,by rw [BB.out];have:=OV.out;rw [e] at this;exact this,LOK.out,Nat.le_refl _⟩,GG.out⟩
end Go.Proofs.YtinefkljjnepjaaGreat
namespace Go.Proofs.YtinefkljjnepjaaGreat
open Go.RowKit
set_option linter.unusedVariables false
theorem runc:RunC HRun where
 keep h k:=h.keep k
 lt h:=h.lt
 own h:=h.own
 ready h:=h.rdy
 pile h:=by
  obtain ⟨pp,Sp,eo,ec,h1,hp,hs,_⟩:=h.opened
  exact ⟨pp,Sp,(rn_cells h1).1,hp,hs⟩
 new eps ao n cp k v g e0 e1 hn hcp hz w h:=rnew11 buildown (fun eps ao n cp k v g lo lc L e0 e1 hn hcp hS hlc w h hv=>rof11 modelc eps ao n cp k v g lo lc L e0 e1 hn hcp hS hlc w h hv) eps ao n cp k v g e0 e1 hn hcp w h
 of eps ao n cp k v g lo lc L e0 e1 hn hcp hz hS hlc w h hv:=rof11 modelc eps ao n cp k v g lo lc L e0 e1 hn hcp hS hlc w h hv
 len h:=rn_len h
 at_ h i i0 i1:=rn_at h i
 list h:=rn_list h
 levels h:=rn_levels h
end Go.Proofs.YtinefkljjnepjaaGreat
