/- The document's layer 15: classes in memory; New, Newest, Get. -/
import Derived.Test.YtpoohadckhphpaaGreatBUOf2
import Derived.Test.YtpoohadckhphpaaGreatBPEl
set_option linter.unusedVariables false
set_option maxHeartbeats 4000000
set_option maxRecDepth 10000
open Go.Proofs.Tryz
namespace Go.Proofs.YtpoohadckhphpaaGreat
open Go.RowKit
theorem HDoc.kp:Kp HDoc:=⟨fun h k=>h.keep k,fun h=>h.lt⟩
structure HDl (w:World) (p b:Nat) (rs:List (Option Rn)) (eps buf B W:Int):Prop where
 blk:∃ c,40<=c/\w.heap[p]?=some (.cells #[.int .i64 eps,.int .i64 buf,.slice (some ⟨b,0,none⟩) 40 c,.int .i64 B,.int .i64 W] 164 (0,0))
 row:∃ x:List Value,w.heap[b]?=some (.cells (rs.map ptr++x).toArray 62 (0,0))
 len:rs.length=40
 runs:∀ r,some r∈rs->RA HDoc w r/\¬ r.S p/\¬ r.S b
 ne:b≠p
 e0:2<=eps
 e1:eps<=64
 b0:1<=buf
 b1:buf<=4294967296
section
variable {w w':World} {p b:Nat} {rs:List (Option Rn)} {eps buf B W:Int}
theorem HDl.plt (h:HDl w p b rs eps buf B W):p<w.heap.size:=h.blk.elim fun _ x=>blkl x.2
theorem HDl.blt (h:HDl w p b rs eps buf B W):b<w.heap.size:=h.row.elim fun _ x=>blkl x
theorem HDl.fz (h:HDl w p b rs eps buf B W) (i:Nat):w.frozen? ⟨b,i,none⟩=false:=h.row.elim fun _ x=>blkf x
theorem HDl.gw (h:HDl w p b rs eps buf B W) (g:Gw w w'):HDl w' p b rs eps buf B W :=
 ⟨h.blk.elim fun c x=>⟨c,x.1,(g.below.block p (blkl x.2)).trans x.2⟩,h.row.elim fun y x=>⟨y,(g.below.block b (blkl x)).trans x⟩,h.len,fun r hr=>⟨(h.runs r hr).1.gw HDoc.kp g,(h.runs r hr).2⟩,h.ne,h.e0,h.e1,h.b0,h.b1⟩
theorem HDl.c2 (h:HDl w p b rs eps buf B W):∃ c,40<=c/\w.cell? ⟨p,2,none⟩=some (.slice (some ⟨b,0,none⟩) 40 c):=h.blk.elim fun c x=>⟨c,x.1,blkc x.2 rfl⟩
theorem HDl.cell (h:HDl w p b rs eps buf B W) {i:Nat} (hi:i<40):w.cell? ⟨b,i,none⟩=some (ptr (rs.getD i none)):=by
 have hl:i<rs.length:=by rw [h.len];exact hi
 obtain ⟨y,x⟩:=h.row;refine blkc x ?_;rw [List.getElem?_toArray,List.getElem?_append_left (by simpa using hl),List.getElem?_map,List.getElem?_eq_getElem hl,getD_rs hl]
 rfl
end
theorem info_d15:(prog.info? 62).map (fun i=>(i.zero,i.size,i.bytes))=some (some (.pointer none),1,8):=by kernel_rfl
theorem made_d15 (w:World):(Instr.makeSlice 61 (.int .i64 40) (.int .i64 40)).run prog w=.ok (.slice (some ⟨w.heap.size,0,none⟩) 40 40) (w.alloc (.cells (madeCells #[.pointer none] 40) 62)):=by
 obtain ⟨i,hi,hz',hs,hb⟩:=info_parts info_d15;exact run_make_row (P:=prog) 61 62 i (.pointer none) underlying61 hi hz' hs rfl .i64 .i64 40 (by rw [hb];omega) (by omega) w
theorem mades15:madeCells #[Value.pointer none] 40=((List.replicate 40 (none:Option Rn)).map ptr).toArray:=by
 rw [rep_ptr];refine Array.ext_getElem? fun i=>?_
 by_cases h:i<40
 ·have e1:(madeCells #[Value.pointer none] 40)[i]?=some (.pointer none):=by simp [madeCells,h,Nat.mod_one]
  have e2:((List.replicate 40 (Value.pointer none)).toArray)[i]?=some (.pointer none):=by rw [List.getElem?_toArray,List.getElem?_replicate,if_pos h]
  rw [e1,e2]
 ·have e1:(madeCells #[Value.pointer none] 40)[i]?=none:=Array.getElem?_eq_none (by simp [madeCells];omega)
  have e2:((List.replicate 40 (Value.pointer none)).toArray)[i]?=none:=by rw [List.getElem?_toArray,List.getElem?_replicate,if_neg h]
  rw [e1,e2]
theorem rnew15 (eps buf:Int) (w:World) :
  Calls prog 91 #[.int .i64 eps,.int .i64 buf] w fun e w'=>((¬ NewOk eps buf/\e=.returned (.tuple #[.pointer none,.int .i64 1]))\/(NewOk eps buf/\∃ p b,e=.returned (.tuple #[.pointer (some ⟨p,0,none⟩),.int .i64 0])/\w.heap.size<=p/\w.heap.size<=b/\HDl w' p b (List.replicate 40 none) eps buf 0 0))/\Gw w w':=by
 have NO:(eps<2\/(¬ eps<2/\64<eps)\/(¬ eps<2/\¬ 64<eps/\buf<1)\/(¬ eps<2/\¬ 64<eps/\¬ buf<1/\4294967296<buf))/\¬ NewOk eps buf\/NewOk eps buf:=by
  by_cases h:NewOk eps buf
  ·exact .inr h
  ·refine .inl ⟨?_,h⟩
   unfold NewOk at h;omega
 rcases NO with ⟨a,b⟩ | a
 ·have BB:Aside (¬ NewOk eps buf):=b
  clear b;rcases a with a | ⟨a,b⟩ | ⟨a,b,c⟩ | ⟨a,b,c,d⟩
  ·have t1:decide (eps<2)=true:=by simpa using a
   clear a;go_enter func91,ntmps91;go_wp2_with fail;go_ret2;exact ⟨.inl ⟨BB.out,rfl⟩,Gw.refl w⟩
  ·have t1:decide (eps<2)=false:=by simpa using a
   have t2:decide (64<eps)=true:=by simpa using b
   clear a b;go_enter func91,ntmps91;go_wp2_with fail;go_ret2;exact ⟨.inl ⟨BB.out,rfl⟩,Gw.refl w⟩
  ·have t1:decide (eps<2)=false:=by simpa using a
   have t2:decide (64<eps)=false:=by simpa using b
   have t3:decide (buf<1)=true:=by simpa using c
   clear a b c;go_enter func91,ntmps91;go_wp2_with fail;go_ret2;exact ⟨.inl ⟨BB.out,rfl⟩,Gw.refl w⟩
  ·have t1:decide (eps<2)=false:=by simpa using a
   have t2:decide (64<eps)=false:=by simpa using b
   have t3:decide (buf<1)=false:=by simpa using c
   have t4:decide (4294967296<buf)=true:=by simpa using d
   clear a b c d;go_enter func91,ntmps91;go_wp2_with fail;go_ret2;exact ⟨.inl ⟨BB.out,rfl⟩,Gw.refl w⟩
 ·have AA:Aside (NewOk eps buf):=a
  obtain ⟨⟨a1,a2⟩,a3,a4⟩:=a;have t1:decide (eps<2)=false:=by simpa using a1
  have t2:decide (64<eps)=false:=by simpa using a2
  have t3:decide (buf<1)=false:=by simpa using a3
  have t4:decide (4294967296<buf)=false:=by simpa using a4
  obtain ⟨W1,hW1⟩:∃ W1,w.alloc (.cells (madeCells #[.pointer none] 40) 62)=W1:=⟨_,rfl⟩;obtain ⟨bq,hbq⟩:∃ b,w.heap.size=b:=⟨_,rfl⟩;have mk:=made_d15 w;rw [hW1,hbq] at mk;have HC:Aside (HDl (W1.alloc (.cells #[.int .i64 eps,.int .i64 buf,.slice (some ⟨bq,0,none⟩) 40 40,.int .i64 0,.int .i64 0] 164)) W1.heap.size bq (List.replicate 40 none) eps buf 0 0):=by
   have s1:W1.heap.size=bq+1:=by rw [<-hW1,<-hbq];simp
   refine ⟨⟨40,Nat.le_refl _,heap_alloc_new _ _⟩,⟨[],?_⟩,by simp,(fun r hr=>by simp at hr),by omega,a1,a2,a3,a4⟩
   rw [List.append_nil,heap_alloc_old _ _ (by omega),<-hW1,<-hbq,<-mades15]
   exact heap_alloc_new _ _
  have GG:Aside (Gw w W1/\w.heap.size<=bq):=⟨by rw [<-hW1];exact (Gw.refl w).alloc _ _,Nat.le_of_eq hbq⟩
  clear a1 a2 a3 a4 hW1 hbq;go_enter func91,ntmps91;go_wp2_with fail;go_ret2;exact ⟨.inr ⟨AA.out,_,bq,rfl,GG.out.1.size,GG.out.2,HC.out⟩,GG.out.1.alloc _ _⟩
theorem dlook15 {w:World} {r:Rn} (h:RA HDoc w r) (q:Int) :
  Calls prog 161 #[.pointer (some ⟨r.p,0,none⟩),.int .u64 q] w fun e w'=>e=.returned (.tuple #[(lookV (look Ent.k q r.l)).1,.bool (lookV (look Ent.k q r.l)).2])/\Gw w w':=by
 have:=dc_get h.h h.ok.up q
 rw [getV_look h.ok.rise] at this;exact this
theorem rnewest15 {w:World} {p rb:Nat} {rs:List (Option Rn)} {eps buf B W:Int} (h:HDl w p rb rs eps buf B W) (j:Nat) (hj:j<=40) (q:Int) :
  Calls prog 138 #[.pointer (some ⟨p,0,none⟩),.int .i64 (j:Int),.int .u64 q] w fun e w'=>e=.returned (.tuple #[(lookV (nw q (rs.drop j))).1,.bool (lookV (nw q (rs.drop j))).2])/\Gw w w':=by
 have HC:Aside _:=h;obtain ⟨A,hA⟩:∃ A,lookV (nw q (rs.drop j))=A:=⟨_,rfl⟩;have RES:Aside _:=hA;rw [hA];clear h hA;obtain ⟨bq,hbq⟩:∃ b,w.heap.size=b:=⟨_,rfl⟩;have BQ:Aside _:=hbq;have B0:Aside (Bxs w [(bq,#[.int .u64 0,.int .u64 0,.bool false],81)] (w.alloc (.cells #[.int .u64 0,.int .u64 0,.bool false] 81))):=by rw [<-hbq];exact (Bxs.nil (Gw.refl w)).add _ _
 clear hbq;go_enter func138,ntmps138;go_wp2_with fail;rw [BQ.out];generalize w.alloc (.cells #[.int .u64 0,.int .u64 0,.bool false] 81)=w1 at B0 ⊢;go_loopg [8] 41 (fun gg s8 wr=>∃ i:Nat,s8=.int .i64 (i:Int)/\i<=40/\41-i<=gg/\Aside (Bxs w [(bq,#[.int .u64 0,.int .u64 0,.bool false],81)] wr)/\Aside (lookV (nw q (rs.drop i))=A))
 case atStart=>exact ⟨j,rfl,hj,by omega,B0,RES⟩
 case round =>
  clear B0 RES;obtain ⟨i,rfl,a1,a2,B',N⟩:=hrel;obtain ⟨wS,hwS⟩:∃ wx,wx=wr:=⟨_,rfl⟩;subst hwS;have HCS:=HC.out.gw B'.out.gw0;obtain ⟨cc,_,c2⟩:=HCS.c2;have pl:=HCS.plt;have bl:=HCS.blt;by_cases hlt:i<40
  ·have hlt':(i:Int)<40:=by omega
   have ci:=HCS.cell hlt;have DR:=drop_rs (rs:=rs) (i:=i) (by rw [HC.out.len];exact hlt)
   rcases cases_rs rs i with e | ⟨r,e⟩
   ·rw [e] at ci DR
    have N':Aside (lookV (nw q (rs.drop (i+1)))=A):=by have:=N.out;rw [DR,nw_none] at this;exact this
    have ci':wS.cell? ⟨rb,i,none⟩=some (.pointer none):=ci;clear ci e DR N HCS;go_wp2_with fail;go_roundg (41-(i+1))
    case measure=>omega
    case rel=>exact ⟨i+1,by go_num,by omega,Nat.le_refl _,B',N'⟩
   ·rw [e] at ci DR
    have ci':wS.cell? ⟨rb,i,none⟩=some (.pointer (some ⟨r.p,0,none⟩)):=ci;have RR:=(HCS.runs r (mem_rs (by rw [HC.out.len];exact hlt) e)).1
    obtain ⟨x,y,z,t,f1,f2,f3⟩:=lookV_form (look Ent.k q r.l);have GT:Hid (Calls prog 161 #[.pointer (some ⟨r.p,0,none⟩),.int .u64 q] wS fun e w'=>e=.returned (.tuple #[.agg #[.int .u64 x,.int .u64 y,.bool z],.bool t])/\Gw wS w'):=by
     have:=dlook15 RR q
     rw [f1] at this;exact this
    have NR:=N.out;rw [DR,nw_some] at NR;have NT:Aside (t=true->A=(.agg #[.int .u64 x,.int .u64 y,.bool z],true)):=fun h=>by
     rw [f2] at h;cases hk:look Ent.k q r.l with
     | none=>rw [hk] at h;cases h
     | some en =>
      rw [<-NR,hk];show lookV (some en)=_;rw [<-hk,f1,f2,h]
    have NF:Aside (t=false->lookV (nw q (rs.drop (i+1)))=A):=fun h=>by
     rw [f2] at h;cases hk:look Ent.k q r.l with
     | none=>rw [hk] at NR;exact NR
     | some en=>rw [hk] at h;cases h
    generalize r.p=rp at ci' GT;clear ci e DR N RR f1 f2 f3 NR HCS;go_wp2_with fail;refine Calls.mono GT.out ?_;rintro e u1 ⟨rfl,gg⟩;have B1:=(B'.out.gw gg).add #[.int .u64 x,.int .u64 y,.bool z] 81;obtain ⟨bx,hbx⟩:∃ b,u1.heap.size=b:=⟨_,rfl⟩;have BX:Aside _:=hbx;rw [hbx] at B1;clear gg GT hbx;go_upto_region 6 with fail;rw [BX.out];generalize u1.alloc (.cells #[.int .u64 x,.int .u64 y,.bool z] 81)=U at B1 ⊢;have E0:U.heap[bq]?=some (.cells #[.int .u64 0,.int .u64 0,.bool false] 81 (0,0)):=B1.lie (bq,#[.int .u64 0,.int .u64 0,.bool false],81) (by simp)
    have E1:U.heap[bx]?=some (.cells #[.int .u64 x,.int .u64 y,.bool z] 81 (0,0)):=B1.lie (bx,#[.int .u64 x,.int .u64 y,.bool z],81) (by simp)
    have GU:Aside _:=B1.gw0;cases t with
    | false =>
     have B2:Aside (Bxs w [(bq,#[.int .u64 0,.int .u64 0,.bool false],81)] U):=⟨B1.gw0,fun x hx=>by rw [List.mem_singleton.1 hx];exact E0⟩
     have N':Aside _:=NF.out rfl;clear E0 E1 B1 B' NF NT;go_wp2_with fail;go_roundg (41-(i+1))
     case measure=>omega
     case rel=>exact ⟨i+1,by go_num,by omega,Nat.le_refl _,B2,N'⟩
    | true =>
     have e:=NT.out rfl;subst e;obtain ⟨x0,x1,x2,_⟩:=box_facts E1;obtain ⟨m0,m1,m2,z0,z1,z2,bl',TT⟩:=box_facts E0;have T3:=TT x y z;clear E0 E1 B1 B' NT NF TT;go_wp2_with fail;exact bodyPost_ret (v:=.tuple #[.agg #[.int .u64 x,.int .u64 y,.bool z],.bool true]) (by simp [results,results138,go_sem,T3.1,T3.2.1,T3.2.2]) rfl ⟨rfl,((GU.out.setCell (Nat.le_of_eq BQ.out) _).setCell (Nat.le_of_eq BQ.out) _).setCell (Nat.le_of_eq BQ.out) _⟩
  ·have ei:i=40:=by omega
   subst ei;have e:A=(.agg #[.int .u64 0,.int .u64 0,.bool false],false):=by
    rw [<-N.out,List.drop_of_length_le (by rw [HC.out.len];exact Nat.le_refl _)]
    rfl
   subst e;have E0:wS.heap[bq]?=some (.cells #[.int .u64 0,.int .u64 0,.bool false] 81 (0,0)):=B'.out.lie (bq,#[.int .u64 0,.int .u64 0,.bool false],81) (by simp)
   have GU:Aside _:=B'.out.gw0;obtain ⟨m0,m1,m2,z0,z1,z2,bl',TT⟩:=box_facts E0;have T3:=TT 0 0 false;clear E0 B' N TT HCS;go_wp2_with fail;exact bodyPost_ret (v:=.tuple #[.agg #[.int .u64 0,.int .u64 0,.bool false],.bool false]) (by simp [results,results138,go_sem,T3.1,T3.2.1,T3.2.2]) rfl ⟨rfl,((GU.out.setCell (Nat.le_of_eq BQ.out) _).setCell (Nat.le_of_eq BQ.out) _).setCell (Nat.le_of_eq BQ.out) _⟩
def lvB (up:List (Option Rn)) (e:Ent):Bool:=e.g&&liveQ up e.k
def lvK (up:List (Option Rn)) (l:List Ent):List Int:=(l.filter (lvB up)).map Ent.k
def u64d (A:List Int):List Value:=A.map (Value.int .u64)
theorem lvK_len (up:List (Option Rn)) (l:List Ent):(lvK up l).length<=l.length:=by unfold lvK;rw [List.length_map];exact List.length_filter_le ..
theorem lvK_app (up:List (Option Rn)) (l:List Ent) (e:Ent):lvK up (l++[e])=lvK up l++(if lvB up e=true then [e.k] else []):=by
 unfold lvK;rw [List.filter_append,List.map_append,List.filter_cons];split<;>rfl
theorem rlive15 {w:World} {p rb:Nat} {rs:List (Option Rn)} {eps buf B W:Int} (h:HDl w p rb rs eps buf B W) (ao:Option Addr) (c:Nat) (l:List Ent) (hl:EL w ao l) (hn:l.length<=2000000) (j:Nat) (hj:j<40) :
  Calls prog 94 #[.pointer (some ⟨p,0,none⟩),.slice ao l.length c,.int .i64 (j:Int)] w fun e w'=>(∃ ob m oc,e=.returned (.slice (some ⟨ob,0,none⟩) m oc)/\(lvK (rs.drop (j+1)) l).length=m/\KS w' (some ⟨ob,0,none⟩) m (fun i=>(lvK (rs.drop (j+1)) l).getD i 0))/\Gw w w':=by
 have HE:Aside (EL w ao l):=hl;have HC:Aside (HDl w p rb rs eps buf B W):=h;obtain ⟨n,hln⟩:∃ n,l.length=n:=⟨_,rfl⟩;have LN:Aside (l.length=n):=hln;rw [hln] at hn ⊢;obtain ⟨up,hup⟩:∃ up,rs.drop (j+1)=up:=⟨_,rfl⟩;have UP:Aside (rs.drop (j+1)=up):=hup;rw [hup];have NW:Hid (∀ W' q,Gw w W'->Calls prog 138 #[.pointer (some ⟨p,0,none⟩),.int .i64 ((j+1:Nat):Int),.int .u64 q] W' fun e w'=>e=.returned (.tuple #[(lookV (nw q up)).1,.bool (lookV (nw q up)).2])/\Gw W' w'):=fun W' q gg=>by
  have:=rnewest15 (h.gw gg) (j+1) (by omega) q
  rw [hup] at this;exact this
 obtain ⟨k1,hk1⟩:∃ k1,j+1=k1:=⟨_,rfl⟩;rw [hk1] at NW;have wk:IntKind.i64.wrap ((j:Int)+1)=(k1:Int):=by rw [IntKind.wrap_i64];omega
 obtain ⟨ii,hii,hz',hs',hby⟩:=info_parts info_k;have O1:Aside ((w.alloc (.cells #[] 37)).ownsRow w.heap.size 37 1 (.slice (some ⟨w.heap.size,0,none⟩) 0 0) 0 (u64d (lvK up (l.take 0)))):=World.ownsRow_made w #[] 0 (Nat.le_refl _) (Nat.zero_le _) rfl;have G1:Aside (Gw w (w.alloc (.cells #[] 37))):=(Gw.refl w).alloc _ _;clear h hl hln hup hk1;go_enter func94,ntmps94;go_wp2_with fail;generalize w.alloc (.cells #[] 37)=w1 at O1 G1 ⊢;go_loopg [7,8] n (fun gg s7 s8 wr=>∃ (i m ob oc:Nat),s7=.slice (some ⟨ob,0,none⟩) m oc/\s8=.int .i64 (i:Int)/\i<=n/\n-i<=gg/\m<=i/\Aside ((lvK up (l.take i)).length=m)/\Aside (wr.ownsRow w.heap.size 37 1 (.slice (some ⟨ob,0,none⟩) m oc) m (u64d (lvK up (l.take i))))/\Aside (Gw w wr))
 case atStart=>exact ⟨0,0,w.heap.size,0,rfl,rfl,Nat.zero_le _,by omega,Nat.le_refl _,(show Aside _ from rfl),O1,G1⟩
 case round =>
  clear O1 G1;obtain ⟨i,m,ob,oc,rfl,rfl,a1,a2,a3,ML,O,G⟩:=hrel;obtain ⟨wS,hwS⟩:∃ wx,wx=wr:=⟨_,rfl⟩;subst hwS;by_cases hlt:i<n
  ·have hlt':(i:Int)<(n:Int):=by omega
   have hi:i<l.length:=by rw [LN.out];exact hlt
   obtain ⟨lb,lf,rfl,hlb,hlc⟩:=(HE.out.gw G.out).cells (by omega)
   obtain ⟨c0,c1,c2⟩:=hlc i hi;have TK:l.take (i+1)=l.take i++[l.getD i ent0]:=by rw [List.take_add_one,List.getElem?_eq_getElem hi,getD_lt hi];rfl
   have LK:=lvK_app up (l.take i) (l.getD i ent0);rw [<-TK] at LK;have bd:=(HE.out.ok hi).1;obtain ⟨x,hx⟩:∃ x,l.getD i ent0=x:=⟨_,rfl⟩;rw [hx] at c0 c1 c2 LK bd;obtain ⟨xk,xv,xg⟩:=x;have d0:wS.cell? ⟨lb,lf+i*3,none⟩=some (.int .u64 xk):=c0;have d2:wS.cell? ⟨lb,lf+i*3+2,none⟩=some (.bool xg):=c2;obtain ⟨a,b,z,t,f1,f2,f3⟩:=lookV_form (nw xk up);have NQ:Hid (Calls prog 138 #[.pointer (some ⟨p,0,none⟩),.int .i64 (k1:Int),.int .u64 xk] wS fun e w'=>e=.returned (.tuple #[.agg #[.int .u64 a,.int .u64 b,.bool z],.bool t])/\Gw wS w'):=by
    have:=NW.out wS xk G.out
    rw [f1] at this;exact this
   have LKA:Aside (lvK up (l.take (i+1))=lvK up (l.take i)++(if (xg&&(t&&!z))=true then [xk] else [])):=by
    show _=_;rw [LK];have e:lvB up ⟨xk,xv,xg⟩=(xg&&(t&&!z)):=by
     show (xg&&liveO (nw xk up))=_;rw [f3]
    rw [e]
   have BD:Aside (0<=xk/\xk<18446744073709551616):=bd;have CE:Hid (∀ W',Gw wS W'->W'.cell? ⟨lb,lf+i*3,none⟩=some (.int .u64 xk)/\W'.cell? ⟨lb,lf+i*3+2,none⟩=some (.bool xg)/\lb<W'.heap.size):=fun W' gg=>⟨(gg.cell _ _ hlb).trans d0,(gg.cell _ _ hlb).trans d2,Nat.lt_of_lt_of_le hlb gg.size⟩
   clear hlc c0 c1 c2 TK LK hx f1 f2 f3 hi bd;go_wp2_with fail;refine Calls.mono NQ.out ?_;rintro e u1 ⟨rfl,gg⟩;obtain ⟨bx,hbx⟩:∃ b,u1.heap.size=b:=⟨_,rfl⟩;have BX:Aside (u1.heap.size=bx):=hbx;have E1:(u1.alloc (.cells #[.int .u64 a,.int .u64 b,.bool z] 81)).heap[bx]?=some (.cells #[.int .u64 a,.int .u64 b,.bool z] 81 (0,0)):=by rw [<-hbx];exact heap_alloc_new _ _
   have GU:Aside (Gw wS (u1.alloc (.cells #[.int .u64 a,.int .u64 b,.bool z] 81))):=gg.alloc _ _;clear gg NQ hbx;go_upto_region 6 with fail;rw [BX.out];generalize u1.alloc (.cells #[.int .u64 a,.int .u64 b,.bool z] 81)=U at E1 GU ⊢;obtain ⟨x0,x1,x2,_,_,_,bl,_⟩:=box_facts E1;obtain ⟨g0,g2,gl⟩:=CE.out U GU.out;have OU:Aside (U.ownsRow w.heap.size 37 1 (.slice (some ⟨ob,0,none⟩) m oc) m (u64d (lvK up (l.take i)))):=orow13' O.out GU.out;have GW':Aside (Gw w U):=G.out.trans GU.out;have wz:=GW'.out.size;clear E1 O CE GU d0 d2;by_cases yes:xg=true/\t=true/\z=false
   ·obtain ⟨rfl,rfl,rfl⟩:=yes
    go_wp2_with (at_builtin;refine wpList_append_own _ rfl _ _ 103 rfl w.heap.size 37 ii (.int .u64 0) 1 8 underlying103 hii hz' hs' hby rfl (by decide) _ m _ rfl (OU.out.alloc _) ⟨U.heap.size,0,none⟩ 1 1 [.int .u64 xk] rfl rfl (new_one U xk) (fun u hu=>by simp at hu;subst hu;rfl) (by simp only [maxLen];omega) (by omega) (by simp;omega) ?_)
    intro v6 w6 r1 r2 r3;obtain ⟨b6,c6,rfl,hb6,_,_⟩:=own_slice r1 (by simpa using r3)
    have G6:Aside (Gw w w6):=(GW'.out.alloc _ _).grown r2 (fun q hq=>(World.ownsRow.lt OU.out q hq).1)
    have LE:lvK up (l.take (i+1))=lvK up (l.take i)++[xk]:=LKA.out;have O6:Aside (w6.ownsRow w.heap.size 37 1 (.slice (some ⟨b6,0,none⟩) (m+1) c6) (m+1) (u64d (lvK up (l.take (i+1))))):=by
     show World.ownsRow _ _ _ _ _ _ _;rw [LE];unfold u64d at r1 ⊢;rw [List.map_append];exact r1
    have M6:Aside ((lvK up (l.take (i+1))).length=m+1):=by show _=_;rw [LE,List.length_append,ML.out];rfl
    clear r1 r2 r3 hb6 LE OU LKA ML;go_wp2_with fail;go_roundg (n-(i+1))
    case measure=>omega
    case rel=>exact ⟨i+1,m+1,b6,c6,rfl,by go_num,by omega,Nat.le_refl _,by omega,M6,O6,G6⟩
   ·have no:(xg&&(t&&!z))=false:=by
     cases xg<;>cases t<;>cases z<;>simp_all
    have LE:lvK up (l.take (i+1))=lvK up (l.take i):=by rw [LKA.out,if_neg (by rw [no];decide),List.append_nil]
    have O6:Aside (U.ownsRow w.heap.size 37 1 (.slice (some ⟨ob,0,none⟩) m oc) m (u64d (lvK up (l.take (i+1))))):=by rw [LE];exact OU
    have M6:Aside ((lvK up (l.take (i+1))).length=m):=by rw [LE];exact ML
    clear LE OU LKA ML yes;cases xg with
    | false =>
     clear no;go_wp2_with fail;go_roundg (n-(i+1))
     case measure=>omega
     case rel=>exact ⟨i+1,m,ob,oc,rfl,by go_num,by omega,Nat.le_refl _,by omega,M6,O6,GW'⟩
    | true =>
     cases t with
     | false =>
      clear no;go_wp2_with fail;go_roundg (n-(i+1))
      case measure=>omega
      case rel=>exact ⟨i+1,m,ob,oc,rfl,by go_num,by omega,Nat.le_refl _,by omega,M6,O6,GW'⟩
     | true =>
      cases z with
      | false=>cases no
      | true =>
       clear no;go_wp2_with fail;go_roundg (n-(i+1))
       case measure=>omega
       case rel=>exact ⟨i+1,m,ob,oc,rfl,by go_num,by omega,Nat.le_refl _,by omega,M6,O6,GW'⟩
  ·have ei:i=n:=by omega
   subst ei;have TT:l.take i=l:=List.take_of_length_le (by rw [LN.out];exact Nat.le_refl _)
   rw [TT] at ML O;have RES:Aside ((lvK up l).length=m/\KS wS (some ⟨ob,0,none⟩) m (fun i=>(lvK up l).getD i 0)):=by
    refine ⟨ML.out,ks_own O.out (Nat.le_refl _) (fun k hk=>?_) (fun k hk=>?_)⟩
    ·have hk':k<(lvK up l).length:=by rw [ML.out];exact hk
     unfold u64d;simp [List.getD,hk']
    ·have hk':k<(lvK up l).length:=by rw [ML.out];exact hk
     have e2:(lvK up l).getD k 0=(lvK up l)[k]:=by simp [List.getD,hk']
     show 0<=(lvK up l).getD k 0/\(lvK up l).getD k 0<18446744073709551616;rw [e2];have hm:=List.getElem_mem hk';unfold lvK at hm;obtain ⟨e',he',ek'⟩:=List.mem_map.1 hm;have:=(HE.out.all e' (List.mem_filter.1 he').1).1;rw [ek'] at this;exact this
   clear ML O TT;go_wp2_with fail;go_ret;exact ⟨⟨ob,m,oc,rfl,RES.out.1,RES.out.2⟩,G.out⟩
def NB (rb:Nat) (vals:List Value) (L:List (List Ent)):Prop:=∀ i,i<L.length->∀ bo c,vals[i]?=some (.slice bo (L.getD i []).length c)->∀ a,bo=some a->0<(L.getD i []).length->a.block≠rb
theorem HDoc.openS {w:World} {p:Nat} {S:Nat->Prop} {eps:Int} {k v:Nat->Int} {g:Nat->Bool} {n:Nat} {L:List (List Sg)} (h:HDoc w p S eps k v g n L):∃ eo ec lo lc,w.heap[p]?=some (.cells #[.slice eo n ec,.int .i64 eps,.slice lo L.length lc] 118 (0,0))/\ES w eo n k v g/\S p/\(n<=ec/\(eo=none->n=0/\ec=0))/\∀ a,eo=some a->0<n->S a.block:=by
 obtain ⟨u,base,ko,kc,lo,lc,h1,h2,h3,h4,h5,h6,h7,h8,h9⟩:=h.lies;have pu:p<u.heap.size:=(Array.getElem?_eq_some_iff.1 h4).1;refine ⟨ko,kc,lo,lc,(h3 p h5 pu).trans h4,h6.kept h7 h2 h3,(h1 p).2 ⟨h5,pu⟩,h9,fun a e z=>?_⟩
 obtain ⟨b,off,e',hb,_⟩:=h6.cells z;have:=h7 a e;rw [e] at e';cases e';exact (h1 b).2 ⟨this,hb⟩
section
variable {w:World} {p b:Nat} {rs:List (Option Rn)} {eps buf B W:Int}
theorem HDl.put (h:HDl w p b rs eps buf B W) {i:Nat} (hi:i<40) (o:Option Rn) (ho:∀ r,o=some r->RA HDoc w r/\¬ r.S p/\¬ r.S b):HDl (w.setCell ⟨b,i,none⟩ (ptr o)) p b (rs.set i o) eps buf B W:=by
 have gx:Gx (fun q=>q=b) w (w.setCell ⟨b,i,none⟩ (ptr o)):=(Gx.refl (fun q=>q=b) w).set (.inl rfl) i _
 have mv:∀ r,RA HDoc w r/\¬ r.S p/\¬ r.S b->RA HDoc (w.setCell ⟨b,i,none⟩ (ptr o)) r/\¬ r.S p/\¬ r.S b:=fun r ⟨q1,q2,q3⟩=>⟨q1.gx HDoc.kp gx (fun q hq=>by rw [hq];exact q3),q2,q3⟩
 obtain ⟨y,x⟩:=h.row;refine ⟨h.blk.elim fun c x=>⟨c,x.1,(gx.block p (blkl x.2) (fun e=>h.ne e.symm)).trans x.2⟩,⟨y,?_⟩,by rw [List.length_set];exact h.len,fun r hr=>?_,h.ne,h.e0,h.e1,h.b0,h.b1⟩
 ·rw [blk_set15 x,List.setIfInBounds_toArray,List.set_append_left _ _ (by rw [List.length_map,h.len];exact hi),<-List.map_set]
 ·rcases List.mem_or_eq_of_mem_set hr with q | q
  ·exact mv r (h.runs r q)
  ·exact mv r (ho r q.symm)
end
end Go.Proofs.YtpoohadckhphpaaGreat
