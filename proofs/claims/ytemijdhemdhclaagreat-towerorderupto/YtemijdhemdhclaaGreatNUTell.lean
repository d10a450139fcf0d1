/- Package classes: what it tells of itself: told, Runs, Sizes, Get, Builds, Written, Clone; Most. -/
import Derived.Test.YtemijdhemdhclaaGreatNUMem
set_option linter.unusedVariables false
set_option maxHeartbeats 4000000
set_option maxRecDepth 10000
open Go.Proofs.Tryz
namespace Go.Proofs.YtemijdhemdhclaaGreat
open Go.RowKit
structure TopR (rs:List (Option Rn)) (t:Nat):Prop where
 le:t<=rs.length
 no:∀ i,t<=i->rs.getD i none=none
 is:t=0\/∃ r,rs.getD (t-1) none=some r
theorem TopR.one {rs:List (Option Rn)} {t t':Nat} (h:TopR rs t) (h':TopR rs t'):t=t':=by
 have key:∀ {a b:Nat},TopR rs a->TopR rs b->¬ a<b:=fun {a b} ha hb lt=>by
  rcases hb.is with e | ⟨r,e⟩
  ·omega
  ·rw [ha.no (b-1) (by omega)] at e;cases e
 have:=key h h'
 have:=key h' h
 omega
theorem told15 {HR:HRt} {w:World} {p:Nat} {rs:List (Option Rn)} {eps buf B W:Int} (h:HCl HR w p rs eps buf B W) :
  Calls prog 47 #[.pointer (some ⟨p,0,none⟩)] w fun e w'=>(∃ t:Nat,e=.returned (.slice (some ⟨p,2,none⟩) t 40)/\TopR rs t)/\w'=w:=by
 have HC:Aside _:=h;have hp:=h.lt;clear h;go_enter func47,ntmps47;go_wp2_with fail;go_loopg [3] 40 (fun gg s3 wr=>∃ m:Nat,s3=.int .i64 (m:Int)/\m<=40/\m<=gg/\wr=w/\Aside (∀ i,m<=i->rs.getD i none=none))
 case atStart=>exact ⟨40,rfl,Nat.le_refl _,Nat.le_refl _,rfl,(show Aside _ from fun i hi=>by rw [List.getD_eq_getElem?_getD,List.getElem?_eq_none (by rw [HC.out.len];exact hi)];rfl)⟩
 case round =>
  obtain ⟨m,rfl,a1,a2,hw,N⟩:=hrel;subst hw;have FIN:Hid ((m=0\/∃ r,rs.getD (m-1) none=some r)->TopR rs m):=fun x=>⟨by rw [HC.out.len];exact a1,N.out,x⟩
  by_cases q:0<m
  ·obtain ⟨k,hk⟩:∃ k:Nat,m=k+1:=⟨m-1,by omega⟩
   have wm:IntKind.i64.wrap ((m:Int)-1)=(k:Int):=by rw [IntKind.wrap_i64];omega
   have k40:(k:Int)<40:=by omega
   have m40:(m:Int)<=40:=by omega
   have ck:=HC.out.cell (i:=k) (by omega)
   have HK:Aside _:=hk;rcases cases_rs rs k with e | ⟨r,e⟩
   ·rw [e] at ck
    have ck':wr.cell? ⟨p,2+k,none⟩=some (.pointer none):=ck;have N':Aside (∀ i,k<=i->rs.getD i none=none):=fun i hi=>by
     by_cases x:i=k
     ·rw [x];exact e
     ·exact N.out i (by omega)
    clear ck e N hk FIN;go_wp2_with fail;go_roundg k
    case measure=>have:=HK.out;omega
    case rel=>exact ⟨k,rfl,by omega,Nat.le_refl _,rfl,N'⟩
   ·rw [e] at ck
    have ck':wr.cell? ⟨p,2+k,none⟩=some (.pointer (some ⟨r.p,0,none⟩)):=ck;have RR:Aside _:=FIN.out (.inr ⟨r,by rw [hk];exact e⟩)
    generalize r.p=rp at ck';clear ck e N hk FIN;go_wp2_with fail;go_ret;exact ⟨⟨m,rfl,RR.out⟩,rfl⟩
  ·have m0:m=0:=by omega
   have RR:Aside (TopR rs 0):=by rw [<-m0];exact FIN.out (.inl m0)
   subst m0;clear N q FIN;go_wp2_with fail;go_ret;exact ⟨⟨0,rfl,RR.out⟩,rfl⟩
theorem info_r15:(prog.info? 93).map (fun i=>(i.zero,i.size,i.bytes))=some (some (.pointer none),1,8):=by kernel_rfl
def RO (w:World) (base:Nat) (v:Value) (rs:List (Option Rn)):Prop:=w.ownsRow base 93 1 v rs.length (rs.map ptr)
theorem ptr_one (o:Option Rn):(ptr o).oneCell'=true:=by cases o<;>rfl
theorem ptrs_one (rs:List (Option Rn)):∀ u∈rs.map ptr,u.oneCell'=true:=by
 intro u hu;obtain ⟨o,_,rfl⟩:=List.mem_map.1 hu;exact ptr_one o
theorem PR.news {HR:HRt} {w:World} {ao:Option Addr} {rs:List (Option Rn)} (h:PR HR w ao rs):∀ ad,ao=some ad->∀ j u,(rs.map ptr)[j]?=some u->w.cell? (ad.add j)=some u:=by
 intro ad e j u hu;have hj:j<rs.length:=by
  have:=(List.getElem?_eq_some_iff.1 hu).1
  simpa using this
 obtain ⟨b,off,e',_,hc⟩:=h.cells (by omega)
 rw [e] at e';cases e';rw [Addr.add_lit,hc j hj,getD_rs hj];simpa [hj] using hu
theorem RO.pr {HR:HRt} {w:World} {base c:Nat} {ao:Option Addr} {rs:List (Option Rn)} (h:RO w base (.slice ao rs.length c) rs) (hr:∀ r,some r∈rs->RA HR w r):PR HR w ao rs:=by
 refine ⟨fun h0=>?_,hr⟩
 rcases h.2 with ⟨_,z⟩ | ⟨b,cap,cur,e,hb,hh,r⟩
 ·omega
 ·injection e with e1 e2 e3
  subst e1 e3;refine ⟨b,0,rfl,blkl hh,fun i hi=>?_⟩
  have:=World.ownsRow.cellAt h i (by omega)
  rw [Nat.zero_add,this,getD_rs hi];simp [hi]
theorem clone_r {HR:HRt} (ad:Addr) (c:Nat) (rs:List (Option Rn)) (hl:rs.length<=2000000) (w:World) (h:PR HR w (some ad) rs) :
  Calls prog 59 #[.slice (some ad) rs.length c] w fun e w'=>(∃ b cp,e=.returned (.slice (some ⟨b,0,none⟩) rs.length cp)/\RO w' w.heap.size (.slice (some ⟨b,0,none⟩) rs.length cp) rs)/\Gw w w':=by
 have O0:Hid ((w.alloc (.cells #[] 93)).ownsRow w.heap.size 93 1 (.slice (some ⟨w.heap.size,0,none⟩) 0 0) 0 []):=World.ownsRow_made w #[] 0 (Nat.le_refl _) (Nat.zero_le _) rfl;have NW:Hid (∀ x,(some ad:Option Addr)=some x->∀ j u,(rs.map ptr)[j]?=some u->(w.alloc (.cells #[] 93)).cell? (x.add j)=some u):=by
  intro x hx j u hu;have:=h.news x hx j u hu;exact Go.Lib.cell?_alloc_some _ this
 obtain ⟨ii,hii,hz,hs,hby⟩:=info_parts info_r15;have hq:∀ W:World,(binOp .eql 97 (.slice (some ad) rs.length c) (.slice none 0 0)).run prog W=.ok (.bool false) W:=fun _=>by kernel_rfl
 have LN:Hid ((rs.map ptr).length=rs.length*1):=by show _=_;simp
 clear h;go_enter func59,ntmps59;go_wp2_with (at_builtin;refine wpList_append_src _ rfl _ _ 97 rfl w.heap.size 93 ii (.pointer none) 1 8 underlying97 hii hz hs hby rfl (by decide) _ 0 [] rfl O0.out (some ad) rs.length c (rs.map ptr) rfl (fun e=>by cases e) LN.out NW.out (ptrs_one rs) (by unfold maxLen;omega) (by omega) (by simp) ?_)
 intro v' w7 q1 q2 q3;have G7:Aside (Gw w w7):=((Gw.refl w).alloc _ _).grown q2 (fun k hk=>by cases hk;exact Nat.le_refl _)
 have R5:w7.ownsRow w.heap.size 93 1 v' rs.length (rs.map ptr):=by simpa using q1
 obtain ⟨b5,cap5,rfl,_,_,_⟩:=own_slice R5 (by simpa using q3)
 have RES:Aside _:=R5;clear q1 q2 q3 R5 hii hz hs hby;go_wp2_with fail;go_ret;exact ⟨⟨b5,cap5,rfl,RES.out⟩,G7.out⟩
theorem runs15 {HR:HRt} {w:World} {p:Nat} {rs:List (Option Rn)} {eps buf B W:Int} (h:HCl HR w p rs eps buf B W) :
  Calls prog 38 #[.pointer (some ⟨p,0,none⟩)] w fun e w'=>(∃ (t b c:Nat),e=.returned (.slice (some ⟨b,0,none⟩) t c)/\TopR rs t/\RO w' w.heap.size (.slice (some ⟨b,0,none⟩) t c) (rs.take t))/\Gw w w':=by
 have TO:Hid _:=told15 h;have CL:Hid (∀ t,t<=40->Calls prog 59 #[.slice (some ⟨p,2,none⟩) t 40] w fun e w'=>(∃ b cp,e=.returned (.slice (some ⟨b,0,none⟩) t cp)/\RO w' w.heap.size (.slice (some ⟨b,0,none⟩) t cp) (rs.take t))/\Gw w w'):=fun t ht=>by
  have:=clone_r ⟨p,2,none⟩ 40 (rs.take t) (by rw [List.length_take];omega) w (h.take t)
  rw [show (rs.take t).length=t by rw [List.length_take,h.len];omega] at this
  exact this
 have L40:Aside _:=h.len;clear h;go_enter func38,ntmps38;go_wp2_with fail;refine Calls.mono TO.out ?_;rintro e w1 ⟨⟨t,rfl,tr⟩,hw⟩;have hw':w=w1:=hw.symm;subst hw';have TR:Aside _:=tr;have ht:t<=40:=by have:=tr.le;have:=L40.out;omega
 clear hw tr;go_wp2_with fail;refine Calls.mono (CL.out t ht) ?_;rintro e w2 ⟨⟨b,cp,rfl,ro⟩,g2⟩;have RR:Aside _:=ro;have G2:Aside _:=g2;clear ro g2;go_wp2_with fail;go_ret;exact ⟨⟨t,b,cp,rfl,TR.out,RR.out⟩,G2.out⟩
theorem if_succ {j i a b:Nat} (x:¬ j=i):(if j<i+1 then a else b)=if j<i then a else b:=by
 by_cases y:j<i
 ·rw [if_pos y,if_pos (by omega)]
 ·rw [if_neg y,if_neg (by omega)]
def sizeO (o:Option Rn):Nat:=match o with
 | some r=>r.l.length
 | none=>0
theorem sizes15 {HR:HRt} (H:RunC HR) {w:World} {p:Nat} {rs:List (Option Rn)} {eps buf B W:Int} (h:HCl HR w p rs eps buf B W) :
  Calls prog 34 #[.pointer (some ⟨p,0,none⟩)] w fun e w'=>(∃ (t b:Nat),e=.returned (.slice (some ⟨b,0,none⟩) t t)/\TopR rs t/\w'.rowIs b 3 t (fun i=>.int .i64 (sizeO (rs.getD i none):Int))/\w.heap.size<=b)/\Gw w w':=by
 have TO:Hid (Calls prog 47 #[.pointer (some ⟨p,0,none⟩)] w fun e w'=>(∃ t:Nat,e=.returned (.slice (some ⟨p,2,none⟩) t 40)/\TopR rs t)/\w'=w):=told15 h
 have HC:Aside (HCl HR w p rs eps buf B W):=h;have HH:Aside (RunC HR):=H;clear h H;go_enter func34,ntmps34;go_wp2_with fail;refine Calls.mono TO.out ?_;rintro e w1 ⟨⟨t,rfl,tr⟩,hw⟩;have hw':w=w1:=hw.symm;subst hw';have TR:Aside (TopR rs t):=tr;have ht:t<=40:=by have:=tr.le;have:=HC.out.len;omega
 have mk:=made_i13 t (t:Int) rfl (by omega) w
 obtain ⟨bq,hbq⟩:∃ b,w.heap.size=b:=⟨_,rfl⟩;have BQ:Aside (w.heap.size=bq):=hbq;have RW:Aside ((w.alloc (.cells (madeCells #[.int .i64 0] t) 3)).rowIs bq 3 t (fun i=>.int .i64 ((if i<0 then sizeO (rs.getD i none) else 0:Nat):Int))):=by
  rw [<-hbq];exact (World.rowIs_made w (.int .i64 0) t 3).congr fun i _=>by simp
 have G1:Aside (Gw w (w.alloc (.cells (madeCells #[.int .i64 0] t) 3))):=(Gw.refl w).alloc _ _;rw [hbq] at mk;clear hw tr hbq TO;go_wp2_with fail;generalize w.alloc (.cells (madeCells #[.int .i64 0] t) 3)=w1 at RW G1 ⊢;clear mk;go_loopg [14] t (fun gg s14 wr=>∃ i:Nat,s14=.int .i64 (i:Int)/\i<=t/\t-i<=gg/\Aside (wr.rowIs bq 3 t (fun j=>.int .i64 ((if j<i then sizeO (rs.getD j none) else 0:Nat):Int)))/\Aside (Gw w wr))
 case atStart=>exact ⟨0,rfl,Nat.zero_le _,by omega,RW,G1⟩
 case round =>
  clear RW G1;obtain ⟨i,rfl,a1,a2,RW,G⟩:=hrel;obtain ⟨wS,hwS⟩:∃ wx,wx=wr:=⟨_,rfl⟩;subst hwS;by_cases hlt:i<t
  ·have hlt':(i:Int)<(t:Int):=by omega
   have ci:=(HC.out.gw HH.out.kp G.out).cell (i:=i) (by omega)
   have pl:p<wS.heap.size:=Nat.lt_of_lt_of_le HC.out.lt G.out.size;rcases cases_rs rs i with e | ⟨r,e⟩
   ·rw [e] at ci
    have ci':wS.cell? ⟨p,2+i,none⟩=some (.pointer none):=ci;have RW':Aside (wS.rowIs bq 3 t (fun j=>.int .i64 ((if j<i+1 then sizeO (rs.getD j none) else 0:Nat):Int))):=RW.out.congr fun j hj=>by
     by_cases x:j=i
     ·subst x;rw [e];simp [sizeO]
     ·rw [if_succ x]
    clear ci e RW;go_wp2_with fail;go_roundg (t-(i+1))
    case measure=>omega
    case rel=>exact ⟨i+1,by go_num,by omega,Nat.le_refl _,RW',G⟩
   ·rw [e] at ci
    have ci':wS.cell? ⟨p,2+i,none⟩=some (.pointer (some ⟨r.p,0,none⟩)):=ci;have LE:Hid (Calls prog 48 #[.pointer (some ⟨r.p,0,none⟩)] wS fun e w'=>e=.returned (.int .i64 (r.l.length:Int))/\Gw wS w'):=HH.out.len ((HC.out.runs r (mem_rs (by rw [HC.out.len];omega) e)).1.gw HH.out.kp G.out).h
    have SZ:Aside (sizeO (rs.getD i none)=r.l.length):=by rw [e];rfl
    generalize r.p=rp at ci' LE;generalize r.l.length=rn at SZ LE;clear ci e;go_wp2_with fail;refine Calls.mono LE.out ?_;rintro e u1 ⟨rfl,gg⟩;have R1:=RW.out.of_block (gg.below.block bq RW.out.lt);have m0:=R1.cell (i:=i) hlt;have z0:=R1.frozen i;have bl:=R1.lt;have RW':Aside ((u1.setCell ⟨bq,i,none⟩ (.int .i64 (rn:Int))).rowIs bq 3 t (fun j=>.int .i64 ((if j<i+1 then sizeO (rs.getD j none) else 0:Nat):Int))):=(R1.set i (.int .i64 (rn:Int))).congr fun j hj=>by
     by_cases x:j=i
     ·subst x;rw [if_pos rfl,if_pos (Nat.lt_succ_self _),SZ.out]
     ·rw [if_neg x,if_succ x]
    have G2:Aside (Gw w (u1.setCell ⟨bq,i,none⟩ (.int .i64 (rn:Int)))):=(G.out.trans gg).setCell (Nat.le_of_eq BQ.out) _;have w0:(if i<i then sizeO (rs.getD i none) else 0:Nat)=0:=if_neg (Nat.lt_irrefl _)
    rw [w0] at m0;clear gg LE R1 RW G SZ w0;go_wp2_with fail;go_roundg (t-(i+1))
    case measure=>omega
    case rel=>exact ⟨i+1,by go_num,by omega,Nat.le_refl _,RW',G2⟩
  ·have ei:i=t:=by omega
   subst ei;have RR:Aside (wS.rowIs bq 3 i (fun j=>.int .i64 (sizeO (rs.getD j none):Int))):=RW.out.congr fun j hj=>by rw [if_pos hj]
   clear RW;go_wp2_with fail;go_ret;exact ⟨⟨i,bq,rfl,TR.out,RR.out,Nat.le_of_eq BQ.out⟩,G.out⟩
theorem get15 {HR:HRt} (H:RunC HR) {w:World} {p:Nat} {rs:List (Option Rn)} {eps buf B W:Int} (h:HCl HR w p rs eps buf B W) (q:Int) (q0:0<=q) (q1:q<18446744073709551616) :
  Calls prog 42 #[.pointer (some ⟨p,0,none⟩),.int .u64 q] w fun e w'=>e=.returned (.tuple #[(lookV (nw q rs)).1,.bool (lookV (nw q rs)).2])/\Gw w w':=by
 obtain ⟨x,y,z,t,f1,f2,f3⟩:=lookV_form (nw q rs);have NW:Hid (∀ W,Gw w W->Calls prog 63 #[.slice (some ⟨p,2,none⟩) 40 40,.int .u64 q] W fun e w'=>e=.returned (.tuple #[.agg #[.int .u64 x,.int .u64 y,.bool z],.bool t])/\Gw W w'):=fun W gg=>by
  have:=newest15 H (some ⟨p,2,none⟩) 40 rs q q0 q1 (by rw [h.len];omega) W (PR.gw H.kp (h.drop 0) gg)
  rw [f1,h.len] at this;exact this
 have hp:=h.lt;rw [f1];clear f1 f2 f3 h H;go_enter func42,ntmps42;go_wp2_with fail;refine Calls.mono (NW.out _ ((Gw.refl w).alloc _ _)) ?_;rintro e u1 ⟨rfl,gg⟩;have GU:Aside (Gw w u1):=((Gw.refl w).alloc _ _).trans gg;have E0:u1.heap[w.heap.size]?=some (.cells #[.int .u64 0,.int .u64 0,.bool false] 69 (0,0)):=(gg.below.block _ (by simp)).trans (heap_alloc_new _ _)
 obtain ⟨bq,hbq⟩:∃ b,w.heap.size=b:=⟨_,rfl⟩;have BQ:Aside _:=hbq;rw [hbq] at E0 ⊢;obtain ⟨m0,m1,m2,z0,z1,z2,bl,TT⟩:=box_facts E0;have T3:=TT x y z;clear E0 gg NW TT hbq;go_wp2_with fail;exact bodyPost_ret (v:=.tuple #[.agg #[.int .u64 x,.int .u64 y,.bool z],.bool t]) (by simp [results,results42,go_sem,T3.1,T3.2.1,T3.2.2]) rfl ⟨rfl,((GU.out.setCell (Nat.le_of_eq BQ.out) _).setCell (Nat.le_of_eq BQ.out) _).setCell (Nat.le_of_eq BQ.out) _⟩
theorem builds15 {HR:HRt} {w:World} {p:Nat} {rs:List (Option Rn)} {eps buf B W:Int} (h:HCl HR w p rs eps buf B W) :
  Calls prog 32 #[.pointer (some ⟨p,0,none⟩)] w fun e w'=>e=.returned (.int .i64 B)/\w'=w:=by
 have c:=h.c2;have hp:=h.lt;clear h;go_enter func32,ntmps32;go_wp2_with fail;go_ret;exact ⟨rfl,rfl⟩
theorem written15 {HR:HRt} {w:World} {p:Nat} {rs:List (Option Rn)} {eps buf B W:Int} (h:HCl HR w p rs eps buf B W) :
  Calls prog 33 #[.pointer (some ⟨p,0,none⟩)] w fun e w'=>e=.returned (.int .i64 W)/\w'=w:=by
 have c:=h.c3;have hp:=h.lt;clear h;go_enter func33,ntmps33;go_wp2_with fail;go_ret;exact ⟨rfl,rfl⟩
theorem blk_set15 {w:World} {b o:Nat} {vs:Array Value} {t:TypeId} (h:w.heap[b]?=some (.cells vs t (0,0))) (u:Value):(w.setCell ⟨b,o,none⟩ u).heap[b]?=some (.cells (vs.setIfInBounds o u) t (0,0)):=by simp [World.setCell,Array.getElem?_modify,h]
section
variable {eps buf B W:Int}
theorem clsL_set {rs:List (Option Rn)} {j:Nat} (hj:j<rs.length) (o:Option Rn):(clsL eps buf rs B W).toArray.setIfInBounds (2+j) (ptr o)=(clsL eps buf (rs.set j o) B W).toArray:=by
 rw [List.setIfInBounds_toArray];congr 1;have e:2+j=j+1+1:=by omega
 rw [e];show _::_::(rs.map ptr++_).set j (ptr o)=_;rw [List.set_append_left _ _ (by simpa using hj),<-List.map_set]
 rfl
theorem clsL_set42 {rs:List (Option Rn)} (h:rs.length=40) (B':Int):(clsL eps buf rs B W).toArray.setIfInBounds 42 (.int .i64 B')=(clsL eps buf rs B' W).toArray:=by
 rw [List.setIfInBounds_toArray];congr 1;show _::_::(rs.map ptr++_).set 40 _=_;rw [List.set_append_right _ _ (by simp [h]),List.length_map,h]
 rfl
theorem clsL_set43 {rs:List (Option Rn)} (h:rs.length=40) (W':Int):(clsL eps buf rs B W).toArray.setIfInBounds 43 (.int .i64 W')=(clsL eps buf rs B W').toArray:=by
 rw [List.setIfInBounds_toArray];congr 1;show _::_::(rs.map ptr++_).set 41 _=_;rw [List.set_append_right _ _ (by simp [h]),List.length_map,h]
 rfl
theorem setCells_cls {p:Nat} {t:TypeId}:∀ (r1:List (Option Rn)) (j:Nat) (rs:List (Option Rn)) (w:World),j+r1.length<=rs.length->w.heap[p]?=some (.cells (clsL eps buf rs B W).toArray t (0,0))->(w.setCells p (2+j) (r1.map ptr)).heap[p]?=some (.cells (clsL eps buf (rs.take j++r1++rs.drop (j+r1.length)) B W).toArray t (0,0))
 | [],j,rs,w,_,h=>by simpa [World.setCells] using h
 | a::r1,j,rs,w,hl,h=>by
  have hj:j<rs.length:=by simp at hl;omega
  have h1:=blk_set15 (o:=2+j) h (ptr a);rw [clsL_set hj] at h1;have ih:=setCells_cls r1 (j+1) (rs.set j a) _ (by simp at hl ⊢;omega) h1
  rw [List.map_cons,World.setCells];rw [show 2+j+1=2+(j+1) by omega,ih]
  congr 4
  have e1:(rs.set j a).take (j+1)=rs.take j++[a]:=by
   rw [List.take_add_one,List.take_set_of_le (Nat.le_refl _),List.getElem?_set_self hj];rfl
  have e2:(rs.set j a).drop (j+1+r1.length)=rs.drop (j+(r1.length+1)):=by
   rw [List.drop_set_of_lt (by omega),show j+1+r1.length=j+(r1.length+1) by omega]
  rw [e1,e2];simp
theorem gx_setCells {p:Nat}:∀ (vs:List Value) (o:Nat) (w:World),Gx (fun q=>q=p) w (w.setCells p o vs)
 | [],_,w=>Gx.refl _ w
 | v::r,o,w=>by
  rw [World.setCells];exact ((Gx.refl (fun q=>q=p) w).set (.inl rfl) o v).trans (gx_setCells r (o+1) _) (fun q hq=>.inl hq)
theorem rep_ptr (n:Nat):(List.replicate n (none:Option Rn)).map ptr=List.replicate n (.pointer none):=by simp [ptr]
end
def one15 (l:List Ent):Int:=if l=[] then 0 else 1
def LaidR (HR:HRt) (w w':World) (eps:Int) (kept:List Ent) (o:Option Rn):Prop :=
 (kept=[]/\o=none)\/(kept≠[]/\∃ r,o=some r/\r.eps=eps/\r.l=kept/\BuildR eps (ek kept) kept.length r.L/\(∀ q,r.S q->w.heap.size<=q)/\RA HR w' r)
theorem lay15 {HR:HRt} (H:RunC HR) {w:World} {p:Nat} {rs:List (Option Rn)} {eps buf B W:Int} (h:HCl HR w p rs eps buf B W) (ao:Option Addr) (c:Nat) (kept:List Ent) (hk:EL w ao kept) (ok:EOk kept) (hc:kept.length<=c) (hz:ao=none->kept.length=0/\c=0) (hn:kept.length<=2000000) (hB:0<=B/\B<4611686018427387904) (hW:0<=W/\W<4611686018427387904) (j:Nat) (hj:j<40) :
  Calls prog 71 #[.pointer (some ⟨p,0,none⟩),.slice ao kept.length c,.int .i64 (j:Int)] w fun e w'=>(∃ o,e=.returned (.int .i64 0)/\LaidR HR w w' eps kept o/\HCl HR w' p (List.replicate j none++o::rs.drop (j+1)) eps buf (B+one15 kept) (W+kept.length))/\Gx (fun q=>q=p) w w':=by
 have HC:Aside _:=h;have HH:Aside _:=H;have NW:Hid _:=H.new eps ao kept.length c (ek kept) (ev kept) (eg kept) (by have:=h.e0;omega) (by have:=h.e1;omega) hn hc hz w hk
 have OK:Aside _:=ok;have BD:Aside _:=hk.all;have hp:=h.lt;have c0:=h.c0;obtain ⟨n,hkn⟩:∃ n,kept.length=n:=⟨_,rfl⟩;have KN:Aside _:=hkn;rw [hkn] at hn NW ⊢;obtain ⟨k,hjk⟩:∃ k,j+1=k:=⟨_,rfl⟩;have JK:Aside _:=hjk;have wk:IntKind.i64.wrap ((j:Int)+1)=(k:Int):=by rw [IntKind.wrap_i64];omega
 have k40:k<=40:=by omega
 have k40':(k:Int)<=40:=by omega
 have j40:(j:Int)<40:=by omega
 clear h H hk ok hc hz hkn hjk;go_enter func71,ntmps71;go_wp2_with fail;refine Calls.mono NW.out ?_;rintro e w1 ⟨⟨E,ne,x⟩,g1⟩;have e0:=HC.out.e0;have e1:=HC.out.e1;have E0:E=0:=by
  rcases ne with ⟨a,_⟩ | ⟨_,b⟩
  ·exact absurd ⟨e0,e1⟩ a
  ·rw [<-KN.out] at b;exact b.one OK.out
 rcases x with ⟨a,_⟩ | ⟨_,rp,S,L,rfl,hS,br,hr⟩
 ·exact absurd E0 a
 have HC1:=HC.out.gw HH.out.kp g1;have L40:=HC.out.len;obtain ⟨W1,hW1⟩:∃ W1,w1.setCells p 2 (List.replicate k (.pointer none))=W1:=⟨_,rfl⟩;have zv:∀ w,(zeroValue 93).run prog w=.ok (.pointer none) w:=fun w=>by
  obtain ⟨ii,hii,hz',_,_⟩:=info_parts info_r15;simp [zeroValue,typeInfo,hii,hz']
 have hcl:∀ ty,(Builtin.clear_ #[61] ty #[.slice (some ⟨p,2,none⟩) k 40]).run prog w1=.ok (.tuple #[]) W1:=fun ty=>by
  rw [<-hW1];exact Go.Lib.run_clear_slice w1 61 93 ty (.pointer none) underlying61 zv rfl rfl p 2 k 40 (by have:=JK.out;omega) (fun i hi=>by rw [HC1.cell (by omega)];rfl) (fun i _=>blkf HC1.blk)
 have hb1:W1.heap[p]?=some (.cells (clsL eps buf (List.replicate k none++rs.drop k) B W).toArray 96 (0,0)):=by
  have:=setCells_cls (List.replicate k (none:Option Rn)) 0 rs w1 (by simp;omega) HC1.blk
  rw [rep_ptr] at this;rw [<-hW1];simpa using this
 have gx1:Gx (fun q=>q=p) w W1:=by
  rw [<-hW1];exact (g1.gx _).trans (gx_setCells _ _ _) (fun q hq=>.inl hq)
 have gx2:Gx (fun q=>q=p) w1 W1:=by rw [<-hW1];exact gx_setCells _ _ _
 have l1:(List.replicate k (none:Option Rn)++rs.drop k).length=40:=by simp;omega
 have R1:∀ r,some r∈rs.drop k->RA HR W1 r/\¬ r.S p:=fun r hr=>by
  obtain ⟨q1,q2⟩:=HC.out.runs r (List.mem_of_mem_drop hr);exact ⟨q1.gx HH.out.kp gx1 (fun q hq=>by rw [hq];exact q2),q2⟩
 have pS:¬ S p:=fun x=>by have:=hS p x;omega
 have RR:RA HR W1 ⟨rp,S,eps,kept,L⟩:=RA.keep HH.out.kp (w:=w1) ⟨by show HR w1 rp S eps _ _ _ kept.length L;rw [KN.out];exact hr,OK.out,BD.out,by show kept.length<=_;rw [KN.out];exact hn⟩ (fun q hq=>gx2.block q (HH.out.lt hr q hq) (fun x=>by rw [x] at hq;exact pS hq))
 have BR:Aside _:=br;have SS:Aside _:=hS;have R1A:Aside _:=R1;have RRA:Aside (RA HR W1 ⟨rp,S,eps,kept,L⟩/\¬ S p):=⟨RR,pS⟩;have GX1:Aside _:=gx1;have HB1:Aside _:=hb1;have L1:Aside _:=l1;have hp1:p<w1.heap.size:=HC1.lt;clear ne g1 HC1 zv hb1 gx1 gx2 l1 R1 pS RR br hS hr hW1 E0 e0 e1 NW L40;by_cases n0:n=0
 ·subst n0
  have kn:kept=[]:=List.length_eq_zero_iff.1 KN.out;have HE:Aside (HCl HR W1 p (List.replicate j none++none::rs.drop (j+1)) eps buf (B+one15 kept) (W+(0:Nat))):=by
   have e:List.replicate j (none:Option Rn)++none::rs.drop (j+1)=List.replicate k none++rs.drop k:=by
    rw [<-JK.out,List.replicate_succ',List.append_assoc];rfl
   rw [e,show one15 kept=0 from if_pos kn];refine ⟨by simpa using HB1.out,L1.out,fun r hr=>?_,HC.out.e0,HC.out.e1,HC.out.b0,HC.out.b1⟩
   rcases List.mem_append.1 hr with q | q
   ·simp at q
   ·exact R1A.out r q
  have KE:Hid _:=kn;clear kn;go_wp2_with fail;go_ret;exact ⟨⟨none,rfl,.inl ⟨KE.out,rfl⟩,HE.out⟩,GX1.out⟩
 ·have kn:kept≠[]:=fun e=>n0 (by rw [<-KN.out,e];rfl)
  have KE:Hid _:=kn;have n0':0<n:=by omega
  have jl:j<(List.replicate k (none:Option Rn)++rs.drop k).length:=by rw [L1.out];exact hj
  obtain ⟨W2,hW2⟩:∃ W2,W1.setCell ⟨p,2+j,none⟩ (.pointer (some ⟨rp,0,none⟩))=W2:=⟨_,rfl⟩;have hb2:W2.heap[p]?=some (.cells (clsL eps buf (List.replicate j none++some ⟨rp,S,eps,kept,L⟩::rs.drop (j+1)) B W).toArray 96 (0,0)):=by
   have:=blk_set15 (o:=2+j) HB1.out (ptr (some ⟨rp,S,eps,kept,L⟩))
   rw [clsL_set jl] at this;rw [<-hW2];have e:(List.replicate k (none:Option Rn)++rs.drop k).set j (some ⟨rp,S,eps,kept,L⟩)=List.replicate j none++some ⟨rp,S,eps,kept,L⟩::rs.drop (j+1):=by
    rw [<-JK.out,List.replicate_succ',List.append_assoc,List.set_append_right _ _ (by simp)]
    simp
   rw [e] at this;exact this
  have l2:(List.replicate j none++some (⟨rp,S,eps,kept,L⟩:Rn)::rs.drop (j+1)).length=40:=by
   have:=L1.out
   rw [<-JK.out] at this;simp at this ⊢;omega
  obtain ⟨W3,hW3⟩:∃ W3,W2.setCell ⟨p,42,none⟩ (.int .i64 (B+1))=W3:=⟨_,rfl⟩;have hb3:W3.heap[p]?=some (.cells (clsL eps buf (List.replicate j none++some ⟨rp,S,eps,kept,L⟩::rs.drop (j+1)) (B+1) W).toArray 96 (0,0)):=by
   have:=blk_set15 (o:=42) hb2 (.int .i64 (B+1))
   rw [clsL_set42 l2] at this;rw [<-hW3];exact this
  obtain ⟨W4,hW4⟩:∃ W4,W3.setCell ⟨p,43,none⟩ (.int .i64 (W+n))=W4:=⟨_,rfl⟩;have hb4:W4.heap[p]?=some (.cells (clsL eps buf (List.replicate j none++some ⟨rp,S,eps,kept,L⟩::rs.drop (j+1)) (B+1) (W+n)).toArray 96 (0,0)):=by
   have:=blk_set15 (o:=43) hb3 (.int .i64 (W+n))
   rw [clsL_set43 l2] at this;rw [<-hW4];exact this
  have m1:=blkc HB1.out (clsL_at L1.out hj);have m1':W1.cell? ⟨p,2+j,none⟩=some (.pointer none):=by
   rw [m1,getD_rs jl,List.getElem_append_left (by simp;have:=JK.out;omega),List.getElem_replicate]
   rfl
  have z1:=blkf (o:=2+j) HB1.out;have m2:=blkc hb2 (clsL_b l2).1;have z2:=blkf (o:=42) hb2;have m3:=blkc hb3 (clsL_b l2).2;have z3:=blkf (o:=43) hb3;have p1:=blkl HB1.out;have p2:=blkl hb2;have p3:=blkl hb3;have gx4:Gx (fun q=>q=p) W1 W4:=by
   rw [<-hW4,<-hW3,<-hW2];exact (((Gx.refl (fun q=>q=p) W1).set (.inl rfl) _ _).set (.inl rfl) _ _).set (.inl rfl) _ _
  have GX4:Aside _:=GX1.out.trans gx4 (fun q hq=>.inl hq)
  have R4:RA HR W4 ⟨rp,S,eps,kept,L⟩:=RRA.out.1.gx HH.out.kp gx4 (fun q hq=>by rw [hq];exact RRA.out.2)
  have RES:Aside (LaidR HR w W4 eps kept (some ⟨rp,S,eps,kept,L⟩)):=.inr ⟨KE.out,_,rfl,rfl,rfl,by rw [KN.out];exact BR.out,SS.out,R4⟩
  have HE:Aside (HCl HR W4 p (List.replicate j none++some ⟨rp,S,eps,kept,L⟩::rs.drop (j+1)) eps buf (B+one15 kept) (W+n)):=by
   rw [show one15 kept=1 from if_neg kn];refine ⟨hb4,l2,fun r hr=>?_,HC.out.e0,HC.out.e1,HC.out.b0,HC.out.b1⟩
   rcases List.mem_append.1 hr with q | q
   ·simp at q
   ·rcases List.mem_cons.1 q with q | q
    ·cases q;exact ⟨R4,RRA.out.2⟩
    ·obtain ⟨a,b⟩:=R1A.out r (by rw [<-JK.out];exact q)
     exact ⟨a.gx HH.out.kp gx4 (fun q hq=>by rw [hq];exact b),b⟩
  have wB:IntKind.i64.wrap (B+1)=B+1:=by rw [IntKind.wrap_i64];omega
  have wW:IntKind.i64.wrap (W+(n:Int))=W+n:=by rw [IntKind.wrap_i64];omega
  clear hb2 hb3 hb4 l2 gx4 R4 m1 kn jl;go_wp2_with fail;go_ret;exact ⟨⟨_,rfl,RES.out,HE.out⟩,GX4.out⟩
end Go.Proofs.YtemijdhemdhclaaGreat
