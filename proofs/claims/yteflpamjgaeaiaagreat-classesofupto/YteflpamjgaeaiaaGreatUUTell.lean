/- Package classes: what it tells of itself: told, Runs, Sizes, Get, Builds, Written, Clone; Most. -/
import Derived.Deep.WholeRow
import Derived.Test.YteflpamjgaeaiaaGreatUUTake
set_option linter.unusedVariables false
set_option maxHeartbeats 8000000
set_option maxRecDepth 20000
open Go.Proofs.Tryz
namespace Go.Proofs.YteflpamjgaeaiaaGreat
open Go.RowKit
structure TopR (rs:List (Option Rn)) (t:Nat):Prop where
 le:t<=rs.length
 no:∀ i,t<=i->rs.getD i none=none
 is:t=0\/∃ r,rs.getD (t-1) none=some r
theorem TopR.one {rs:List (Option Rn)} {t t':Nat} (h:TopR rs t) (h':TopR rs t'):t=t':=by
 have key:∀ {a b:Nat},TopR rs a->TopR rs b->¬ a<b:=fun {a b} ha hb lt=>by
  rcases hb.is with e | ⟨r,e⟩
  ·omega
  ·rw [ha.no (b-1) (by omega)] at e;cases e
 have:=key h h'
 have:=key h' h
 omega
theorem told15 {HR:HRt} {w:World} {p:Nat} {rs:List (Option Rn)} {eps buf B W:Int} (h:HCl HR w p rs eps buf B W) :
  Calls prog 61 #[.pointer (some ⟨p,0,none⟩)] w fun e w'=>(∃ t:Nat,e=.returned (.slice (some ⟨p,2,none⟩) t 40)/\TopR rs t)/\w'=w:=by
 have HC:Aside _:=h;have hp:=h.lt;clear h;go_enter func61,ntmps61;go_wp2_with fail;go_loopg [3] 40 (fun gg s3 wr=>∃ m:Nat,s3=.int .i64 (m:Int)/\m<=40/\m<=gg/\wr=w/\Aside (∀ i,m<=i->rs.getD i none=none))
 case atStart=>exact ⟨40,rfl,Nat.le_refl _,Nat.le_refl _,rfl,(show Aside _ from fun i hi=>by rw [List.getD_eq_getElem?_getD,List.getElem?_eq_none (by rw [HC.out.len];exact hi)];rfl)⟩
 case round =>
  obtain ⟨m,rfl,a1,a2,hw,N⟩:=hrel;subst hw;have FIN:Hid ((m=0\/∃ r,rs.getD (m-1) none=some r)->TopR rs m):=fun x=>⟨by rw [HC.out.len];exact a1,N.out,x⟩
  by_cases q:0<m
  ·obtain ⟨k,hk⟩:∃ k:Nat,m=k+1:=⟨m-1,by omega⟩
   have wm:IntKind.i64.wrap ((m:Int)-1)=(k:Int):=by rw [IntKind.wrap_i64];omega
   have k40:(k:Int)<40:=by omega
   have m40:(m:Int)<=40:=by omega
   have ck:=HC.out.cell (i:=k) (by omega)
   have HK:Aside _:=hk;rcases cases_rs rs k with e | ⟨r,e⟩
   ·rw [e] at ck
    have ck':wr.cell? ⟨p,2+k,none⟩=some (.pointer none):=ck;have N':Aside (∀ i,k<=i->rs.getD i none=none):=fun i hi=>by
     by_cases x:i=k
     ·rw [x];exact e
     ·exact N.out i (by omega)
    clear ck e N hk FIN;go_wp2_with fail;go_roundg k
    case measure=>have:=HK.out;omega
    case rel=>exact ⟨k,rfl,by omega,Nat.le_refl _,rfl,N'⟩
   ·rw [e] at ck
    have ck':wr.cell? ⟨p,2+k,none⟩=some (.pointer (some ⟨r.p,0,none⟩)):=ck;have RR:Aside _:=FIN.out (.inr ⟨r,by rw [hk];exact e⟩)
    generalize r.p=rp at ck';clear ck e N hk FIN;go_wp2_with fail;go_ret;exact ⟨⟨m,rfl,RR.out⟩,rfl⟩
  ·have m0:m=0:=by omega
   have RR:Aside (TopR rs 0):=by rw [<-m0];exact FIN.out (.inl m0)
   subst m0;clear N q FIN;go_wp2_with fail;go_ret;exact ⟨⟨0,rfl,RR.out⟩,rfl⟩
theorem info_r15:(prog.info? 57).map (fun i=>(i.zero,i.size,i.bytes))=some (some (.pointer none),1,8):=by kernel_rfl
def RO (w:World) (base:Nat) (v:Value) (rs:List (Option Rn)):Prop:=w.ownsRow base 57 1 v rs.length (rs.map ptr)
theorem ptr_one (o:Option Rn):(ptr o).oneCell'=true:=by cases o<;>rfl
theorem ptrs_one (rs:List (Option Rn)):∀ u∈rs.map ptr,u.oneCell'=true:=by
 intro u hu;obtain ⟨o,_,rfl⟩:=List.mem_map.1 hu;exact ptr_one o
theorem PR.news {HR:HRt} {w:World} {ao:Option Addr} {rs:List (Option Rn)} (h:PR HR w ao rs):∀ ad,ao=some ad->∀ j u,(rs.map ptr)[j]?=some u->w.cell? (ad.add j)=some u:=by
 intro ad e j u hu;have hj:j<rs.length:=by
  have:=(List.getElem?_eq_some_iff.1 hu).1
  simpa using this
 obtain ⟨b,off,e',_,hc⟩:=h.cells (by omega)
 rw [e] at e';cases e';rw [Addr.add_lit,hc j hj,getD_rs hj];simpa [hj] using hu
theorem RO.gw {w w':World} {base:Nat} {v:Value} {rs:List (Option Rn)} (h:RO w base v rs) (g:Gw w w'):RO w' base v rs:=by
 refine ⟨h.1,?_⟩;rcases h.2 with q | ⟨b,cap,cur,rfl,hb,hh,r⟩
 ·exact .inl q
 ·exact .inr ⟨b,cap,cur,rfl,hb,(g.below.block b (blkl hh)).trans hh,r⟩
theorem clone_r {HR:HRt} (ad:Addr) (c:Nat) (rs:List (Option Rn)) (hl:rs.length<=2000000) (w:World) (h:PR HR w (some ad) rs) :
  Calls prog 60 #[.slice (some ad) rs.length c] w fun e w'=>(∃ b cp,e=.returned (.slice (some ⟨b,0,none⟩) rs.length cp)/\RO w' w.heap.size (.slice (some ⟨b,0,none⟩) rs.length cp) rs)/\Gw w w':=by
 have O0:Hid ((w.alloc (.cells #[] 57)).ownsRow w.heap.size 57 1 (.slice (some ⟨w.heap.size,0,none⟩) 0 0) 0 []):=World.ownsRow_made w #[] 0 (Nat.le_refl _) (Nat.zero_le _) rfl;have NW:Hid (∀ x,(some ad:Option Addr)=some x->∀ j u,(rs.map ptr)[j]?=some u->(w.alloc (.cells #[] 57)).cell? (x.add j)=some u):=by
  intro x hx j u hu;have:=h.news x hx j u hu;exact Go.Lib.cell?_alloc_some _ this
 obtain ⟨ii,hii,hz,hs,hby⟩:=info_parts info_r15;have hq:∀ W:World,(binOp .eql 103 (.slice (some ad) rs.length c) (.slice none 0 0)).run prog W=.ok (.bool false) W:=fun _=>by kernel_rfl
 have LN:Hid ((rs.map ptr).length=rs.length*1):=by show _=_;simp
 clear h;go_enter func60,ntmps60;go_wp2_with (at_builtin;refine wpList_append_src _ rfl _ _ 103 rfl w.heap.size 57 ii (.pointer none) 1 8 underlying103 hii hz hs hby rfl (by decide) _ 0 [] rfl O0.out (some ad) rs.length c (rs.map ptr) rfl (fun e=>by cases e) LN.out NW.out (ptrs_one rs) (by unfold maxLen;omega) (by omega) (by simp) ?_)
 intro v' w7 q1 q2 q3;have G7:Aside (Gw w w7):=((Gw.refl w).alloc _ _).grown q2 (fun k hk=>by cases hk;exact Nat.le_refl _)
 have R5:w7.ownsRow w.heap.size 57 1 v' rs.length (rs.map ptr):=by simpa using q1
 obtain ⟨b5,cap5,rfl,_,_,_⟩:=own_slice R5 (by simpa using q3)
 have RES:Aside _:=R5;clear q1 q2 q3 R5 hii hz hs hby;go_wp2_with fail;go_ret;exact ⟨⟨b5,cap5,rfl,RES.out⟩,G7.out⟩
theorem runs15 {HR:HRt} {w:World} {p:Nat} {rs:List (Option Rn)} {eps buf B W:Int} (h:HCl HR w p rs eps buf B W) :
  Calls prog 19 #[.pointer (some ⟨p,0,none⟩)] w fun e w'=>(∃ (t b c:Nat),e=.returned (.slice (some ⟨b,0,none⟩) t c)/\TopR rs t/\RO w' w.heap.size (.slice (some ⟨b,0,none⟩) t c) (rs.take t))/\Gw w w':=by
 have TO:Hid _:=told15 h;have CL:Hid (∀ t,t<=40->Calls prog 60 #[.slice (some ⟨p,2,none⟩) t 40] w fun e w'=>(∃ b cp,e=.returned (.slice (some ⟨b,0,none⟩) t cp)/\RO w' w.heap.size (.slice (some ⟨b,0,none⟩) t cp) (rs.take t))/\Gw w w'):=fun t ht=>by
  have:=clone_r ⟨p,2,none⟩ 40 (rs.take t) (by rw [List.length_take];omega) w (h.take t)
  rw [show (rs.take t).length=t by rw [List.length_take,h.len];omega] at this
  exact this
 have L40:Aside _:=h.len;clear h;go_enter func19,ntmps19;go_wp2_with fail;refine Calls.mono TO.out ?_;rintro e w1 ⟨⟨t,rfl,tr⟩,hw⟩;have hw':w=w1:=hw.symm;subst hw';have TR:Aside _:=tr;have ht:t<=40:=by have:=tr.le;have:=L40.out;omega
 clear hw tr;go_wp2_with fail;refine Calls.mono (CL.out t ht) ?_;rintro e w2 ⟨⟨b,cp,rfl,ro⟩,g2⟩;have RR:Aside _:=ro;have G2:Aside _:=g2;clear ro g2;go_wp2_with fail;go_ret;exact ⟨⟨t,b,cp,rfl,TR.out,RR.out⟩,G2.out⟩
theorem if_succ {j i a b:Nat} (x:¬ j=i):(if j<i+1 then a else b)=if j<i then a else b:=by
 by_cases y:j<i
 ·rw [if_pos y,if_pos (by omega)]
 ·rw [if_neg y,if_neg (by omega)]
def sizeO (o:Option Rn):Nat:=match o with
 | some r=>r.l.length
 | none=>0
theorem sizes15 {HR:HRt} (H:RunC HR) {w:World} {p:Nat} {rs:List (Option Rn)} {eps buf B W:Int} (h:HCl HR w p rs eps buf B W) :
  Calls prog 41 #[.pointer (some ⟨p,0,none⟩)] w fun e w'=>(∃ (t b:Nat),e=.returned (.slice (some ⟨b,0,none⟩) t t)/\TopR rs t/\w'.rowIs b 3 t (fun i=>.int .i64 (sizeO (rs.getD i none):Int))/\w.heap.size<=b)/\Gw w w':=by
 have TO:Hid (Calls prog 61 #[.pointer (some ⟨p,0,none⟩)] w fun e w'=>(∃ t:Nat,e=.returned (.slice (some ⟨p,2,none⟩) t 40)/\TopR rs t)/\w'=w):=told15 h
 have HC:Aside (HCl HR w p rs eps buf B W):=h;have HH:Aside (RunC HR):=H;clear h H;go_enter func41,ntmps41;go_wp2_with fail;refine Calls.mono TO.out ?_;rintro e w1 ⟨⟨t,rfl,tr⟩,hw⟩;have hw':w=w1:=hw.symm;subst hw';have TR:Aside (TopR rs t):=tr;have ht:t<=40:=by have:=tr.le;have:=HC.out.len;omega
 have mk:=made_i13 t (t:Int) rfl (by omega) w
 obtain ⟨bq,hbq⟩:∃ b,w.heap.size=b:=⟨_,rfl⟩;have BQ:Aside (w.heap.size=bq):=hbq;have RW:Aside ((w.alloc (.cells (madeCells #[.int .i64 0] t) 3)).rowIs bq 3 t (fun i=>.int .i64 ((if i<0 then sizeO (rs.getD i none) else 0:Nat):Int))):=by
  rw [<-hbq];exact (World.rowIs_made w (.int .i64 0) t 3).congr fun i _=>by simp
 have G1:Aside (Gw w (w.alloc (.cells (madeCells #[.int .i64 0] t) 3))):=(Gw.refl w).alloc _ _;rw [hbq] at mk;clear hw tr hbq TO;go_wp2_with fail;generalize w.alloc (.cells (madeCells #[.int .i64 0] t) 3)=w1 at RW G1 ⊢;clear mk;go_loopg [14] t (fun gg s14 wr=>∃ i:Nat,s14=.int .i64 (i:Int)/\i<=t/\t-i<=gg/\Aside (wr.rowIs bq 3 t (fun j=>.int .i64 ((if j<i then sizeO (rs.getD j none) else 0:Nat):Int)))/\Aside (Gw w wr))
 case atStart=>exact ⟨0,rfl,Nat.zero_le _,by omega,RW,G1⟩
 case round =>
  clear RW G1;obtain ⟨i,rfl,a1,a2,RW,G⟩:=hrel;obtain ⟨wS,hwS⟩:∃ wx,wx=wr:=⟨_,rfl⟩;subst hwS;by_cases hlt:i<t
  ·have hlt':(i:Int)<(t:Int):=by omega
   have ci:=(HC.out.gw HH.out.kp G.out).cell (i:=i) (by omega)
   have pl:p<wS.heap.size:=Nat.lt_of_lt_of_le HC.out.lt G.out.size;rcases cases_rs rs i with e | ⟨r,e⟩
   ·rw [e] at ci
    have ci':wS.cell? ⟨p,2+i,none⟩=some (.pointer none):=ci;have RW':Aside (wS.rowIs bq 3 t (fun j=>.int .i64 ((if j<i+1 then sizeO (rs.getD j none) else 0:Nat):Int))):=RW.out.congr fun j hj=>by
     by_cases x:j=i
     ·subst x;rw [e];simp [sizeO]
     ·rw [if_succ x]
    clear ci e RW;go_wp2_with fail;go_roundg (t-(i+1))
    case measure=>omega
    case rel=>exact ⟨i+1,by go_num,by omega,Nat.le_refl _,RW',G⟩
   ·rw [e] at ci
    have ci':wS.cell? ⟨p,2+i,none⟩=some (.pointer (some ⟨r.p,0,none⟩)):=ci;have LE:Hid (Calls prog 39 #[.pointer (some ⟨r.p,0,none⟩)] wS fun e w'=>e=.returned (.int .i64 (r.l.length:Int))/\Gw wS w'):=HH.out.len ((HC.out.runs r (mem_rs (by rw [HC.out.len];omega) e)).1.gw HH.out.kp G.out).h
    have SZ:Aside (sizeO (rs.getD i none)=r.l.length):=by rw [e];rfl
    generalize r.p=rp at ci' LE;generalize r.l.length=rn at SZ LE;clear ci e;go_wp2_with fail;refine Calls.mono LE.out ?_;rintro e u1 ⟨rfl,gg⟩;have R1:=RW.out.of_block (gg.below.block bq RW.out.lt);have m0:=R1.cell (i:=i) hlt;have z0:=R1.frozen i;have bl:=R1.lt;have RW':Aside ((u1.setCell ⟨bq,i,none⟩ (.int .i64 (rn:Int))).rowIs bq 3 t (fun j=>.int .i64 ((if j<i+1 then sizeO (rs.getD j none) else 0:Nat):Int))):=(R1.set i (.int .i64 (rn:Int))).congr fun j hj=>by
     by_cases x:j=i
     ·subst x;rw [if_pos rfl,if_pos (Nat.lt_succ_self _),SZ.out]
     ·rw [if_neg x,if_succ x]
    have G2:Aside (Gw w (u1.setCell ⟨bq,i,none⟩ (.int .i64 (rn:Int)))):=(G.out.trans gg).setCell (Nat.le_of_eq BQ.out) _;have w0:(if i<i then sizeO (rs.getD i none) else 0:Nat)=0:=if_neg (Nat.lt_irrefl _)
    rw [w0] at m0;clear gg LE R1 RW G SZ w0;go_wp2_with fail;go_roundg (t-(i+1))
    case measure=>omega
    case rel=>exact ⟨i+1,by go_num,by omega,Nat.le_refl _,RW',G2⟩
  ·have ei:i=t:=by omega
   subst ei;have RR:Aside (wS.rowIs bq 3 i (fun j=>.int .i64 (sizeO (rs.getD j none):Int))):=RW.out.congr fun j hj=>by rw [if_pos hj]
   clear RW;go_wp2_with fail;go_ret;exact ⟨⟨i,bq,rfl,TR.out,RR.out,Nat.le_of_eq BQ.out⟩,G.out⟩
theorem get15 {HR:HRt} (H:RunC HR) {w:World} {p:Nat} {rs:List (Option Rn)} {eps buf B W:Int} (h:HCl HR w p rs eps buf B W) (q:Int) (q0:0<=q) (q1:q<18446744073709551616) :
  Calls prog 15 #[.pointer (some ⟨p,0,none⟩),.int .u64 q] w fun e w'=>e=.returned (.tuple #[(lookV (nw q rs)).1,.bool (lookV (nw q rs)).2])/\Gw w w':=by
 obtain ⟨x,y,z,t,f1,f2,f3⟩:=lookV_form (nw q rs);have NW:Hid (∀ W,Gw w W->Calls prog 58 #[.slice (some ⟨p,2,none⟩) 40 40,.int .u64 q] W fun e w'=>e=.returned (.tuple #[.agg #[.int .u64 x,.int .u64 y,.bool z],.bool t])/\Gw W w'):=fun W gg=>by
  have:=newest15 H (some ⟨p,2,none⟩) 40 rs q q0 q1 (by rw [h.len];omega) W (PR.gw H.kp (h.drop 0) gg)
  rw [f1,h.len] at this;exact this
 have hp:=h.lt;rw [f1];clear f1 f2 f3 h H;go_enter func15,ntmps15;go_wp2_with fail;refine Calls.mono (NW.out _ ((Gw.refl w).alloc _ _)) ?_;rintro e u1 ⟨rfl,gg⟩;have GU:Aside (Gw w u1):=((Gw.refl w).alloc _ _).trans gg;have E0:u1.heap[w.heap.size]?=some (.cells #[.int .u64 0,.int .u64 0,.bool false] 40 (0,0)):=(gg.below.block _ (by simp)).trans (heap_alloc_new _ _)
 obtain ⟨bq,hbq⟩:∃ b,w.heap.size=b:=⟨_,rfl⟩;have BQ:Aside _:=hbq;rw [hbq] at E0 ⊢;obtain ⟨m0,m1,m2,z0,z1,z2,bl,TT⟩:=box_facts E0;have T3:=TT x y z;clear E0 gg NW TT hbq;go_wp2_with fail;exact bodyPost_ret (v:=.tuple #[.agg #[.int .u64 x,.int .u64 y,.bool z],.bool t]) (by simp [results,results15,go_sem,T3.1,T3.2.1,T3.2.2]) rfl ⟨rfl,((GU.out.setCell (Nat.le_of_eq BQ.out) _).setCell (Nat.le_of_eq BQ.out) _).setCell (Nat.le_of_eq BQ.out) _⟩
theorem builds15 {HR:HRt} {w:World} {p:Nat} {rs:List (Option Rn)} {eps buf B W:Int} (h:HCl HR w p rs eps buf B W) :
  Calls prog 42 #[.pointer (some ⟨p,0,none⟩)] w fun e w'=>e=.returned (.int .i64 B)/\w'=w:=by
 have c:=h.c2;have hp:=h.lt;clear h;go_enter func42,ntmps42;go_wp2_with fail;go_ret;exact ⟨rfl,rfl⟩
theorem written15 {HR:HRt} {w:World} {p:Nat} {rs:List (Option Rn)} {eps buf B W:Int} (h:HCl HR w p rs eps buf B W) :
  Calls prog 43 #[.pointer (some ⟨p,0,none⟩)] w fun e w'=>e=.returned (.int .i64 W)/\w'=w:=by
 have c:=h.c3;have hp:=h.lt;clear h;go_enter func43,ntmps43;go_wp2_with fail;go_ret;exact ⟨rfl,rfl⟩
def mostV (buf cl:Int):Int:=if (1<=buf/\buf<=4294967296)/\0<=cl/\cl<40 then min (buf*2^cl.toNat) 4294967296 else 0
theorem most15 (buf cl:Int) (w:World) :
  Calls prog 44 #[.int .i64 buf,.int .i64 cl] w fun e w'=>e=.returned (.int .i64 (mostV buf cl))/\w'=w:=by
 by_cases q:(1<=buf/\buf<=4294967296)/\0<=cl/\cl<40
 ·obtain ⟨c,rfl⟩:∃ c:Nat,cl=c:=⟨cl.toNat,by omega⟩
  obtain ⟨⟨q1,q2⟩,q3,q4⟩:=q;have t1:decide (buf<1)=false:=by simpa using q1
  have t2:decide (4294967296<buf)=false:=by simpa using q2
  have t3:decide ((c:Int)<0)=false:=by simp
  have t4:decide ((40:Int)<=(c:Int))=false:=by simpa using q4
  have c40:c<40:=by omega
  have p2:(0:Int)<2^c:=Int.pow_pos (by decide)
  have MV:mostV buf c=min (buf*2^c) 4294967296:=by unfold mostV;rw [if_pos ⟨⟨q1,q2⟩,q3,q4⟩];simp
  rw [MV];have n40:¬ 40<=c:=by omega
  by_cases d:(4294967296:Int)/2^c<buf
  ·have e:min (buf*2^c) 4294967296=4294967296:=by
    have h1:=Int.lt_ediv_add_one_mul_self (4294967296:Int) p2;have h2:(4294967296/2^c+1)*2^c<=buf*2^c:=Int.mul_le_mul_of_nonneg_right (by omega) (Int.le_of_lt p2)
    omega
   rw [e];have t5:decide ((4294967296:Int)/2^c<buf)=true:=by simpa using d
   clear e MV p2 q1 q2 q3 q4;have d':¬ buf<=(4294967296:Int)/2^c:=by omega
   clear d;go_enter func44,ntmps44;go_wp2_with fail;go_ret;exact ⟨rfl,rfl⟩
  ·have hle:buf*2^c<=4294967296:=by
    have h2:buf*2^c<=4294967296/2^c*2^c:=Int.mul_le_mul_of_nonneg_right (by omega) (Int.le_of_lt p2)
    have h3:=Int.ediv_mul_le (4294967296:Int) (b:=2^c) (by omega)
    omega
   have e:min (buf*2^c) 4294967296=buf*2^c:=by omega
   rw [e];have hw:wrap64 (buf*2^c)=buf*2^c:=by
    have h2:(0:Int)<=buf*2^c:=Int.mul_nonneg (by omega) (Int.le_of_lt p2)
    unfold wrap64;omega
   have HW:Aside _:=hw;have t5:decide ((4294967296:Int)/2^c<buf)=false:=by simpa using d
   have d':buf<=(4294967296:Int)/2^c:=by omega
   clear e MV p2 d q1 q2 q3 q4 hle hw;go_enter func44,ntmps44;go_wp2_with fail;go_ret;exact ⟨by first | rfl | (show Ending.returned (.int .i64 (wrap64 (buf*2^c)))=_;rw [HW.out]),rfl⟩
 ·have MV:mostV buf cl=0:=by unfold mostV;rw [if_neg q]
  rw [MV];have cs:buf<1\/(¬ buf<1/\4294967296<buf)\/(¬ buf<1/\¬ 4294967296<buf/\cl<0)\/(¬ buf<1/\¬ 4294967296<buf/\¬ cl<0/\40<=cl):=by omega
  clear q MV;rcases cs with a | ⟨a,b⟩ | ⟨a,b,c⟩ | ⟨a,b,c,d⟩
  ·have t1:decide (buf<1)=true:=by simpa using a
   clear a;go_enter func44,ntmps44;go_wp2_with fail;go_ret;exact ⟨rfl,rfl⟩
  ·have t1:decide (buf<1)=false:=by simpa using a
   have t2:decide (4294967296<buf)=true:=by simpa using b
   clear a b;go_enter func44,ntmps44;go_wp2_with fail;go_ret;exact ⟨rfl,rfl⟩
  ·have t1:decide (buf<1)=false:=by simpa using a
   have t2:decide (4294967296<buf)=false:=by simpa using b
   have t3:decide (cl<0)=true:=by simpa using c
   clear a b c;go_enter func44,ntmps44;go_wp2_with fail;go_ret;exact ⟨rfl,rfl⟩
  ·have t1:decide (buf<1)=false:=by simpa using a
   have t2:decide (4294967296<buf)=false:=by simpa using b
   have t3:decide (cl<0)=false:=by simpa using c
   have t4:decide (40<=cl)=true:=by simpa using d
   clear a b c d;go_enter func44,ntmps44;go_wp2_with fail;go_ret;exact ⟨rfl,rfl⟩
theorem blk_set15 {w:World} {b o:Nat} {vs:Array Value} {t:TypeId} (h:w.heap[b]?=some (.cells vs t (0,0))) (u:Value):(w.setCell ⟨b,o,none⟩ u).heap[b]?=some (.cells (vs.setIfInBounds o u) t (0,0)):=by simp [World.setCell,Array.getElem?_modify,h]
section
variable {eps buf B W:Int}
theorem clsL_set {rs:List (Option Rn)} {j:Nat} (hj:j<rs.length) (o:Option Rn):(clsL eps buf rs B W).toArray.setIfInBounds (2+j) (ptr o)=(clsL eps buf (rs.set j o) B W).toArray:=by
 rw [List.setIfInBounds_toArray];congr 1;have e:2+j=j+1+1:=by omega
 rw [e];show _::_::(rs.map ptr++_).set j (ptr o)=_;rw [List.set_append_left _ _ (by simpa using hj),<-List.map_set]
 rfl
theorem clsL_set42 {rs:List (Option Rn)} (h:rs.length=40) (B':Int):(clsL eps buf rs B W).toArray.setIfInBounds 42 (.int .i64 B')=(clsL eps buf rs B' W).toArray:=by
 rw [List.setIfInBounds_toArray];congr 1;show _::_::(rs.map ptr++_).set 40 _=_;rw [List.set_append_right _ _ (by simp [h]),List.length_map,h]
 rfl
theorem clsL_set43 {rs:List (Option Rn)} (h:rs.length=40) (W':Int):(clsL eps buf rs B W).toArray.setIfInBounds 43 (.int .i64 W')=(clsL eps buf rs B W').toArray:=by
 rw [List.setIfInBounds_toArray];congr 1;show _::_::(rs.map ptr++_).set 41 _=_;rw [List.set_append_right _ _ (by simp [h]),List.length_map,h]
 rfl
theorem setCells_cls {p:Nat} {t:TypeId}:∀ (r1:List (Option Rn)) (j:Nat) (rs:List (Option Rn)) (w:World),j+r1.length<=rs.length->w.heap[p]?=some (.cells (clsL eps buf rs B W).toArray t (0,0))->(w.setCells p (2+j) (r1.map ptr)).heap[p]?=some (.cells (clsL eps buf (rs.take j++r1++rs.drop (j+r1.length)) B W).toArray t (0,0))
 | [],j,rs,w,_,h=>by simpa [World.setCells] using h
 | a::r1,j,rs,w,hl,h=>by
  have hj:j<rs.length:=by simp at hl;omega
  have h1:=blk_set15 (o:=2+j) h (ptr a);rw [clsL_set hj] at h1;have ih:=setCells_cls r1 (j+1) (rs.set j a) _ (by simp at hl ⊢;omega) h1
  rw [List.map_cons,World.setCells];rw [show 2+j+1=2+(j+1) by omega,ih]
  congr 4
  have e1:(rs.set j a).take (j+1)=rs.take j++[a]:=by
   rw [List.take_add_one,List.take_set_of_le (Nat.le_refl _),List.getElem?_set_self hj];rfl
  have e2:(rs.set j a).drop (j+1+r1.length)=rs.drop (j+(r1.length+1)):=by
   rw [List.drop_set_of_lt (by omega),show j+1+r1.length=j+(r1.length+1) by omega]
  rw [e1,e2];simp
theorem gx_setCells {p:Nat}:∀ (vs:List Value) (o:Nat) (w:World),Gx (fun q=>q=p) w (w.setCells p o vs)
 | [],_,w=>Gx.refl _ w
 | v::r,o,w=>by
  rw [World.setCells];exact ((Gx.refl (fun q=>q=p) w).set (.inl rfl) o v).trans (gx_setCells r (o+1) _) (fun q hq=>.inl hq)
theorem rep_ptr (n:Nat):(List.replicate n (none:Option Rn)).map ptr=List.replicate n (.pointer none):=by simp [ptr]
end
def one15 (l:List Ent):Int:=if l=[] then 0 else 1
def LaidR (HR:HRt) (w w':World) (eps:Int) (kept:List Ent) (o:Option Rn):Prop :=
 (kept=[]/\o=none)\/(kept≠[]/\∃ r,o=some r/\r.eps=eps/\r.l=kept/\BuildR eps (ek kept) kept.length r.L/\(∀ q,r.S q->w.heap.size<=q)/\RA HR w' r)
theorem lay15 {HR:HRt} (H:RunC HR) {w:World} {p:Nat} {rs:List (Option Rn)} {eps buf B W:Int} (h:HCl HR w p rs eps buf B W) (ao:Option Addr) (c:Nat) (kept:List Ent) (hk:EL w ao kept) (ok:EOk kept) (hc:kept.length<=c) (hz:ao=none->kept.length=0/\c=0) (hn:kept.length<=2000000) (hB:0<=B/\B<4611686018427387904) (hW:0<=W/\W<4611686018427387904) (j:Nat) (hj:j<40) :
  Calls prog 52 #[.pointer (some ⟨p,0,none⟩),.slice ao kept.length c,.int .i64 (j:Int)] w fun e w'=>(∃ o,e=.returned (.int .i64 0)/\LaidR HR w w' eps kept o/\HCl HR w' p (List.replicate j none++o::rs.drop (j+1)) eps buf (B+one15 kept) (W+kept.length))/\Gx (fun q=>q=p) w w':=by
 have HC:Aside _:=h;have HH:Aside _:=H;have NW:Hid _:=H.new eps ao kept.length c (ek kept) (ev kept) (eg kept) (by have:=h.e0;omega) (by have:=h.e1;omega) hn hc hz w hk
 have OK:Aside _:=ok;have BD:Aside _:=hk.all;have hp:=h.lt;have c0:=h.c0;obtain ⟨n,hkn⟩:∃ n,kept.length=n:=⟨_,rfl⟩;have KN:Aside _:=hkn;rw [hkn] at hn NW ⊢;obtain ⟨k,hjk⟩:∃ k,j+1=k:=⟨_,rfl⟩;have JK:Aside _:=hjk;have wk:IntKind.i64.wrap ((j:Int)+1)=(k:Int):=by rw [IntKind.wrap_i64];omega
 have k40:k<=40:=by omega
 have k40':(k:Int)<=40:=by omega
 have j40:(j:Int)<40:=by omega
 clear h H hk ok hc hz hkn hjk;go_enter func52,ntmps52;go_wp2_with fail;refine Calls.mono NW.out ?_;rintro e w1 ⟨⟨E,ne,x⟩,g1⟩;have e0:=HC.out.e0;have e1:=HC.out.e1;have E0:E=0:=by
  rcases ne with ⟨a,_⟩ | ⟨_,b⟩
  ·exact absurd ⟨e0,e1⟩ a
  ·rw [<-KN.out] at b;exact b.one OK.out
 rcases x with ⟨a,_⟩ | ⟨_,rp,S,L,rfl,hS,br,hr⟩
 ·exact absurd E0 a
 have HC1:=HC.out.gw HH.out.kp g1;have L40:=HC.out.len;obtain ⟨W1,hW1⟩:∃ W1,w1.setCells p 2 (List.replicate k (.pointer none))=W1:=⟨_,rfl⟩;have zv:∀ w,(zeroValue 57).run prog w=.ok (.pointer none) w:=fun w=>by
  obtain ⟨ii,hii,hz',_,_⟩:=info_parts info_r15;simp [zeroValue,typeInfo,hii,hz']
 have hcl:∀ ty,(Builtin.clear_ #[50] ty #[.slice (some ⟨p,2,none⟩) k 40]).run prog w1=.ok (.tuple #[]) W1:=fun ty=>by
  rw [<-hW1];exact Go.Lib.run_clear_slice w1 50 57 ty (.pointer none) underlying50 zv rfl rfl p 2 k 40 (by have:=JK.out;omega) (fun i hi=>by rw [HC1.cell (by omega)];rfl) (fun i _=>blkf HC1.blk)
 have hb1:W1.heap[p]?=some (.cells (clsL eps buf (List.replicate k none++rs.drop k) B W).toArray 98 (0,0)):=by
  have:=setCells_cls (List.replicate k (none:Option Rn)) 0 rs w1 (by simp;omega) HC1.blk
  rw [rep_ptr] at this;rw [<-hW1];simpa using this
 have gx1:Gx (fun q=>q=p) w W1:=by
  rw [<-hW1];exact (g1.gx _).trans (gx_setCells _ _ _) (fun q hq=>.inl hq)
 have gx2:Gx (fun q=>q=p) w1 W1:=by rw [<-hW1];exact gx_setCells _ _ _
 have l1:(List.replicate k (none:Option Rn)++rs.drop k).length=40:=by simp;omega
 have R1:∀ r,some r∈rs.drop k->RA HR W1 r/\¬ r.S p:=fun r hr=>by
  obtain ⟨q1,q2⟩:=HC.out.runs r (List.mem_of_mem_drop hr);exact ⟨q1.gx HH.out.kp gx1 (fun q hq=>by rw [hq];exact q2),q2⟩
 have pS:¬ S p:=fun x=>by have:=hS p x;omega
 have RR:RA HR W1 ⟨rp,S,eps,kept,L⟩:=RA.keep HH.out.kp (w:=w1) ⟨by show HR w1 rp S eps _ _ _ kept.length L;rw [KN.out];exact hr,OK.out,BD.out,by show kept.length<=_;rw [KN.out];exact hn⟩ (fun q hq=>gx2.block q (HH.out.lt hr q hq) (fun x=>by rw [x] at hq;exact pS hq))
 have BR:Aside _:=br;have SS:Aside _:=hS;have R1A:Aside _:=R1;have RRA:Aside (RA HR W1 ⟨rp,S,eps,kept,L⟩/\¬ S p):=⟨RR,pS⟩;have GX1:Aside _:=gx1;have HB1:Aside _:=hb1;have L1:Aside _:=l1;have hp1:p<w1.heap.size:=HC1.lt;clear ne g1 HC1 zv hb1 gx1 gx2 l1 R1 pS RR br hS hr hW1 E0 e0 e1 NW L40;by_cases n0:n=0
 ·subst n0
  have kn:kept=[]:=List.length_eq_zero_iff.1 KN.out;have HE:Aside (HCl HR W1 p (List.replicate j none++none::rs.drop (j+1)) eps buf (B+one15 kept) (W+(0:Nat))):=by
   have e:List.replicate j (none:Option Rn)++none::rs.drop (j+1)=List.replicate k none++rs.drop k:=by
    rw [<-JK.out,List.replicate_succ',List.append_assoc];rfl
   rw [e,show one15 kept=0 from if_pos kn];refine ⟨by simpa using HB1.out,L1.out,fun r hr=>?_,HC.out.e0,HC.out.e1,HC.out.b0,HC.out.b1⟩
   rcases List.mem_append.1 hr with q | q
   ·simp at q
   ·exact R1A.out r q
  have KE:Hid _:=kn;clear kn;go_wp2_with fail;go_ret;exact ⟨⟨none,rfl,.inl ⟨KE.out,rfl⟩,HE.out⟩,GX1.out⟩
 ·have kn:kept≠[]:=fun e=>n0 (by rw [<-KN.out,e];rfl)
  have KE:Hid _:=kn;have n0':0<n:=by omega
  have jl:j<(List.replicate k (none:Option Rn)++rs.drop k).length:=by rw [L1.out];exact hj
  obtain ⟨W2,hW2⟩:∃ W2,W1.setCell ⟨p,2+j,none⟩ (.pointer (some ⟨rp,0,none⟩))=W2:=⟨_,rfl⟩;have hb2:W2.heap[p]?=some (.cells (clsL eps buf (List.replicate j none++some ⟨rp,S,eps,kept,L⟩::rs.drop (j+1)) B W).toArray 98 (0,0)):=by
   have:=blk_set15 (o:=2+j) HB1.out (ptr (some ⟨rp,S,eps,kept,L⟩))
   rw [clsL_set jl] at this;rw [<-hW2];have e:(List.replicate k (none:Option Rn)++rs.drop k).set j (some ⟨rp,S,eps,kept,L⟩)=List.replicate j none++some ⟨rp,S,eps,kept,L⟩::rs.drop (j+1):=by
    rw [<-JK.out,List.replicate_succ',List.append_assoc,List.set_append_right _ _ (by simp)]
    simp
   rw [e] at this;exact this
  have l2:(List.replicate j none++some (⟨rp,S,eps,kept,L⟩:Rn)::rs.drop (j+1)).length=40:=by
   have:=L1.out
   rw [<-JK.out] at this;simp at this ⊢;omega
  obtain ⟨W3,hW3⟩:∃ W3,W2.setCell ⟨p,42,none⟩ (.int .i64 (B+1))=W3:=⟨_,rfl⟩;have hb3:W3.heap[p]?=some (.cells (clsL eps buf (List.replicate j none++some ⟨rp,S,eps,kept,L⟩::rs.drop (j+1)) (B+1) W).toArray 98 (0,0)):=by
   have:=blk_set15 (o:=42) hb2 (.int .i64 (B+1))
   rw [clsL_set42 l2] at this;rw [<-hW3];exact this
  obtain ⟨W4,hW4⟩:∃ W4,W3.setCell ⟨p,43,none⟩ (.int .i64 (W+n))=W4:=⟨_,rfl⟩;have hb4:W4.heap[p]?=some (.cells (clsL eps buf (List.replicate j none++some ⟨rp,S,eps,kept,L⟩::rs.drop (j+1)) (B+1) (W+n)).toArray 98 (0,0)):=by
   have:=blk_set15 (o:=43) hb3 (.int .i64 (W+n))
   rw [clsL_set43 l2] at this;rw [<-hW4];exact this
  have m1:=blkc HB1.out (clsL_at L1.out hj);have m1':W1.cell? ⟨p,2+j,none⟩=some (.pointer none):=by
   rw [m1,getD_rs jl,List.getElem_append_left (by simp;have:=JK.out;omega),List.getElem_replicate]
   rfl
  have z1:=blkf (o:=2+j) HB1.out;have m2:=blkc hb2 (clsL_b l2).1;have z2:=blkf (o:=42) hb2;have m3:=blkc hb3 (clsL_b l2).2;have z3:=blkf (o:=43) hb3;have p1:=blkl HB1.out;have p2:=blkl hb2;have p3:=blkl hb3;have gx4:Gx (fun q=>q=p) W1 W4:=by
   rw [<-hW4,<-hW3,<-hW2];exact (((Gx.refl (fun q=>q=p) W1).set (.inl rfl) _ _).set (.inl rfl) _ _).set (.inl rfl) _ _
  have GX4:Aside _:=GX1.out.trans gx4 (fun q hq=>.inl hq)
  have R4:RA HR W4 ⟨rp,S,eps,kept,L⟩:=RRA.out.1.gx HH.out.kp gx4 (fun q hq=>by rw [hq];exact RRA.out.2)
  have RES:Aside (LaidR HR w W4 eps kept (some ⟨rp,S,eps,kept,L⟩)):=.inr ⟨KE.out,_,rfl,rfl,rfl,by rw [KN.out];exact BR.out,SS.out,R4⟩
  have HE:Aside (HCl HR W4 p (List.replicate j none++some ⟨rp,S,eps,kept,L⟩::rs.drop (j+1)) eps buf (B+one15 kept) (W+n)):=by
   rw [show one15 kept=1 from if_neg kn];refine ⟨hb4,l2,fun r hr=>?_,HC.out.e0,HC.out.e1,HC.out.b0,HC.out.b1⟩
   rcases List.mem_append.1 hr with q | q
   ·simp at q
   ·rcases List.mem_cons.1 q with q | q
    ·cases q;exact ⟨R4,RRA.out.2⟩
    ·obtain ⟨a,b⟩:=R1A.out r (by rw [<-JK.out];exact q)
     exact ⟨a.gx HH.out.kp gx4 (fun q hq=>by rw [hq];exact b),b⟩
  have wB:IntKind.i64.wrap (B+1)=B+1:=by rw [IntKind.wrap_i64];omega
  have wW:IntKind.i64.wrap (W+(n:Int))=W+n:=by rw [IntKind.wrap_i64];omega
  clear hb2 hb3 hb4 l2 gx4 R4 m1 kn jl;go_wp2_with fail;go_ret;exact ⟨⟨_,rfl,RES.out,HE.out⟩,GX4.out⟩
theorem isThere15 (o:Option Rn) (w:World):Calls prog 63 #[ptr o] w fun e w'=>e=.returned (.bool o.isSome)/\w'=w:=by
 cases o with
 | none =>
  show Calls prog 63 #[.pointer none] w fun e w'=>e=.returned (.bool false)/\w'=w
  go_enter func63,ntmps63;go_wp2_with fail;go_ret;exact ⟨rfl,rfl⟩
 | some r =>
  show Calls prog 63 #[.pointer (some ⟨r.p,0,none⟩)] w fun e w'=>e=.returned (.bool true)/\w'=w
  generalize r.p=rp;go_enter func63,ntmps63;go_wp2_with fail;go_ret;exact ⟨rfl,rfl⟩
theorem indexF15 {HR:HRt} (ao:Option Addr) (c:Nat) (rs:List (Option Rn)) (hl:rs.length<=2000000) (w:World) (h:PR HR w ao rs) :
  Calls prog 109 #[.slice ao rs.length c,.func (.func 63) #[] #[]] w fun e w'=>(∃ x:Int,e=.returned (.int .i64 x)/\(0<=x↔∃ r,some r∈rs))/\w'=w:=by
 have HP:Aside (PR HR w ao rs):=h;obtain ⟨n,hn⟩:∃ n,rs.length=n:=⟨_,rfl⟩;have LN:Aside (rs.length=n):=hn;rw [hn] at hl ⊢;clear h hn;go_enter func109,ntmps109;go_wp2_with fail;go_loopg [8] n (fun gg s8 wr=>∃ i:Nat,s8=.int .i64 (i:Int)/\i<=n/\n-i<=gg/\wr=w/\Aside (∀ j,j<i->rs.getD j none=none))
 case atStart=>exact ⟨0,rfl,Nat.zero_le _,by omega,rfl,(show Aside _ from fun j hj=>by omega)⟩
 case round =>
  obtain ⟨i,rfl,a1,a2,hw,N⟩:=hrel;subst hw;by_cases hlt:i<n
  ·have hlt':(i:Int)<(n:Int):=by omega
   have hi:i<rs.length:=by rw [LN.out];exact hlt
   obtain ⟨b,off,rfl,hb,hc⟩:=HP.out.cells (by omega)
   have ci:=hc i hi;clear hc;rcases cases_rs rs i with e | ⟨r,e⟩
   ·rw [e] at ci
    have ci':wr.cell? ⟨b,off+i,none⟩=some (.pointer none):=ci;have IT:Hid (Calls prog 63 #[.pointer none] wr fun e w'=>e=.returned (.bool false)/\w'=wr):=isThere15 none wr
    have N':Aside (∀ j,j<i+1->rs.getD j none=none):=fun j hj=>by
     by_cases x:j=i
     ·subst x;exact e
     ·exact N.out j (by omega)
    clear ci e N hi;go_wp2_with fail;refine Calls.mono IT.out ?_;rintro e w3 ⟨rfl,hw⟩;have hw':wr=w3:=hw.symm;subst hw';go_wp2_with fail;go_roundg (n-(i+1))
    case measure=>omega
    case rel=>exact ⟨i+1,by go_num,by omega,Nat.le_refl _,rfl,N'⟩
   ·rw [e] at ci
    have ci':wr.cell? ⟨b,off+i,none⟩=some (.pointer (some ⟨r.p,0,none⟩)):=ci;have IT:Hid (Calls prog 63 #[.pointer (some ⟨r.p,0,none⟩)] wr fun e w'=>e=.returned (.bool true)/\w'=wr):=isThere15 (some r) wr
    have RES:Aside (0<=(i:Int)↔∃ r,some r∈rs):=⟨fun _=>⟨r,mem_rs hi e⟩,fun _=>Int.natCast_nonneg i⟩
    generalize r.p=rp at ci' IT;clear ci e N hi;go_wp2_with fail;refine Calls.mono IT.out ?_;rintro e w3 ⟨rfl,hw⟩;have hw':wr=w3:=hw.symm;subst hw';go_wp2_with fail;go_ret;exact ⟨⟨_,rfl,RES.out⟩,rfl⟩
  ·have ei:i=n:=by omega
   subst ei;have RES:Aside (0<=(-1:Int)↔∃ r,some r∈rs):=⟨fun x=>by omega,fun ⟨r,hr⟩=>by
    obtain ⟨j,hj,e⟩:=List.mem_iff_getElem.1 hr;have:=N.out j (by rw [<-LN.out];exact hj)
    rw [getD_rs hj,e] at this;cases this⟩
   clear N;go_wp2_with fail;go_ret;exact ⟨⟨_,rfl,RES.out⟩,rfl⟩
theorem contains15 {HR:HRt} (ao:Option Addr) (c:Nat) (rs:List (Option Rn)) (hl:rs.length<=2000000) (w:World) (h:PR HR w ao rs) :
  Calls prog 62 #[.slice ao rs.length c,.func (.func 63) #[] #[]] w fun e w'=>(∃ x:Bool,e=.returned (.bool x)/\(x=true↔∃ r,some r∈rs))/\w'=w:=by
 have IX:Hid _:=indexF15 ao c rs hl w h;generalize rs.length=n at IX ⊢;clear h;have POST:Hid (∀ (x:Int) (b:Bool),(0<=x↔∃ r,some r∈rs)->b=decide (0<=x)->(b=true↔∃ r,some r∈rs)):=fun x b h e=>by rw [e,<-h];simp
 go_enter func62,ntmps62;go_wp2_with fail;refine Calls.mono IX.out ?_;rintro e w1 ⟨⟨x,rfl,hx⟩,hw⟩;have hw':w=w1:=hw.symm;subst hw';have HX:Hid _:=hx;clear hx hw IX;by_cases x0:0<=x
 ·have t:decide (0<=x)=true:=by simpa using x0
  have RR:=POST.out x true HX.out t.symm;have RA:Hid _:=RR;clear RR x0;go_wp2_with fail;go_ret;exact ⟨⟨_,rfl,by simpa using RA.out⟩,rfl⟩
 ·have t:decide (0<=x)=false:=by simpa using x0
  have RR:=POST.out x false HX.out t.symm;have RA:Hid _:=RR;clear RR x0;go_wp2_with fail;go_ret;exact ⟨⟨_,rfl,by simpa using RA.out⟩,rfl⟩
def abA (p j:Nat):Option Addr:=if j=39 then some ⟨p,2,none⟩ else some ⟨p,2+(j+1),none⟩
theorem HCl.ab {HR:HRt} {w:World} {p:Nat} {rs:List (Option Rn)} {eps buf B W:Int} (h:HCl HR w p rs eps buf B W) {j:Nat} (hj:j<40):PR HR w (abA p j) (rs.drop (j+1))/\(rs.drop (j+1)).length=39-j:=by
 have l:(rs.drop (j+1)).length=39-j:=by rw [List.length_drop,h.len];omega
 refine ⟨?_,l⟩;unfold abA;by_cases q:j=39
 ·rw [if_pos q]
  exact ⟨fun h0=>by omega,(h.drop (j+1)).runs⟩
 ·rw [if_neg q]
  exact h.drop (j+1)
theorem aboveX15 (p j:Nat) (hj:j<40) (w:World) (hp:p<w.heap.size) :
  Calls prog 50 #[.pointer (some ⟨p,0,none⟩),.int .i64 (j:Int)] w fun e w'=>e=.returned (.slice (abA p j) (39-j) (39-j))/\w'=w:=by
 obtain ⟨k,hk⟩:∃ k,j+1=k:=⟨_,rfl⟩;have wk:IntKind.i64.wrap ((j:Int)+1)=(k:Int):=by rw [IntKind.wrap_i64];omega
 by_cases q:j=39
 ·subst q
  subst hk;clear wk;go_enter func50,ntmps50;go_wp2_with fail;go_ret;exact ⟨rfl,rfl⟩
 ·have h1:¬ (40:Int)=(k:Int):=by omega
  have h2:(k:Int)<=40:=by omega
  have h3:¬ (40:Nat)=k:=by omega
  have h4:k<=40:=by omega
  have HK:Aside (abA p j=some ⟨p,2+k,none⟩/\39-j=40-k):=by
   refine ⟨?_,by omega⟩
   unfold abA;rw [if_neg q,hk]
  clear hk q;go_enter func50,ntmps50;go_wp2_with fail;go_ret;exact ⟨by rw [HK.out.1,HK.out.2];rfl,rfl⟩
def fitsB (eps buf:Int) (j:Nat) (up:List (Option Rn)) (o:Option Rn):Bool:=match o with
 | none=>true
 | some r=>decide (0<r.l.length)&&decide ((r.l.length:Int)<=mostV buf (j:Int))&&(r.eps == eps)&&r.l.all (keepP (liveQ up))
theorem fits15 {HR:HRt} (H:RunC HR) {w:World} {p:Nat} {rs:List (Option Rn)} {eps buf B W:Int} (h:HCl HR w p rs eps buf B W) (j:Nat) (hj:j<40) :
  Calls prog 64 #[.pointer (some ⟨p,0,none⟩),.int .i64 (j:Int)] w fun e w'=>e=.returned (.bool (fitsB eps buf j (rs.drop (j+1)) (rs.getD j none)))/\Gw w w':=by
 have cj:=h.cell hj;have hp:=h.lt;have j40:(j:Int)<40:=by omega
 rcases cases_rs rs j with e | ⟨r,e⟩
 ·rw [e] at cj ⊢
  have cj':w.cell? ⟨p,2+j,none⟩=some (.pointer none):=cj;show Calls prog 64 _ w fun e w'=>e=.returned (.bool true)/\Gw w w'
  clear h cj e;go_enter func64,ntmps64;go_wp2_with fail;go_ret;exact ⟨rfl,Gw.refl w⟩
 ·have RR:=(h.runs r (mem_rs (by rw [h.len];exact hj) e)).1
  rw [e] at cj ⊢;have cj':w.cell? ⟨p,2+j,none⟩=some (.pointer (some ⟨r.p,0,none⟩)):=cj;have LE:Hid _:=H.len RR.h;have HC:Aside _:=h;have HH:Aside _:=H;have RRA:Aside _:=RR;obtain ⟨n,hn⟩:∃ n,r.l.length=n:=⟨_,rfl⟩;have few:=RR.few;rw [hn] at LE few;have FB:Aside (fitsB eps buf j (rs.drop (j+1)) (some r)=(decide (0<n)&&decide ((n:Int)<=mostV buf (j:Int))&&(r.eps == eps)&&r.l.all (keepP (liveQ (rs.drop (j+1)))))):=by
   show _=_;simp only [fitsB,hn]
  obtain ⟨A,hA⟩:∃ A,fitsB eps buf j (rs.drop (j+1)) (some r)=A:=⟨_,rfl⟩;rw [hA] at FB ⊢;obtain ⟨rp,hrp⟩:∃ rp,r.p=rp:=⟨_,rfl⟩;have RP:Aside _:=hrp;rw [hrp] at cj' LE;obtain ⟨rr,hrr⟩:∃ rr,r.eps=rr:=⟨_,rfl⟩;have REP:Aside _:=hrr;rw [hrr] at FB;clear h H RR cj e hn hA hrp hrr;go_enter func64,ntmps64;go_wp2_with fail;refine Calls.mono LE.out ?_;rintro e w1 ⟨rfl,g1⟩;have HC1:Aside _:=HC.out.gw HH.out.kp g1;have RR1:Aside _:=RRA.out.gw HH.out.kp g1;have G1:Aside _:=g1;clear g1 LE HC RRA cj';go_upto_region 5 with fail;have p0:=HC1.out.lt;have c0:=GX.cell HC1.out.c0 p0;have c1:=GX.cell HC1.out.c1 p0;obtain ⟨pp,Sp,d0,hpi,hSp⟩:=HH.out.pile RR1.out.h;have pl:=HH.out.lt RR1.out.h r.p (HH.out.own RR1.out.h);have r0:=GX.cell d0 pl;rw [RP.out] at r0;have PE:Hid (∀ g:GX w1,Calls prog 68 #[.pointer (some ⟨pp,0,none⟩)] g.1 fun e w'=>e=.returned (.int .i64 rr)/\Gw g.1 w'):=fun g=>(pl_eps (hpi.keep fun q hq=>g.gw.below.block q (HH.out.lt RR1.out.h q (hSp q hq)))).mono fun e w' ⟨a,b⟩=>⟨by rw [a,REP.out],by rw [b];exact Gw.refl _⟩
  have MO:Hid (∀ g:GX w1,Calls prog 44 #[.int .i64 buf,.int .i64 (j:Int)] g.1 fun e w'=>e=.returned (.int .i64 (mostV buf (j:Int)))/\Gw g.1 w'):=fun g=>(most15 buf (j:Int) g.1).mono fun e w' ⟨a,b⟩=>⟨a,by rw [b];exact Gw.refl _⟩
  have AB:Hid (∀ g:GX w1,Calls prog 50 #[.pointer (some ⟨p,0,none⟩),.int .i64 (j:Int)] g.1 fun e w'=>e=.returned (.slice (abA p j) (39-j) (39-j))/\Gw g.1 w'):=fun g=>(aboveX15 p j hj g.1 (Nat.lt_of_lt_of_le p0 g.gw.size)).mono fun e w' ⟨a,b⟩=>⟨a,by rw [b];exact Gw.refl _⟩
  have NE:Hid (∀ g:GX w1,Calls prog 110 #[.pointer (some ⟨rp,0,none⟩),.func (.func 51) #[.slice (abA p j) (39-j) (39-j)] #[]] g.1 fun e w'=>e=.returned (.bool (r.l.all (keepP (liveQ (rs.drop (j+1))))))/\Gw g.1 w'):=fun g=>by
   have:=needs15 HH.out (.slice (abA p j) (39-j) (39-j)) (liveQ (rs.drop (j+1))) g.1 (RR1.out.gw HH.out.kp g.gw) (fun W gg q q0 q1=>by
    have:=live15 HH.out (abA p j) (39-j) (rs.drop (j+1)) q q0 q1 (by rw [(HC1.out.ab hj).2];omega) W ((HC1.out.ab hj).1.gw HH.out.kp (g.gw.trans gg))
    rw [(HC1.out.ab hj).2] at this;exact this)
   rw [RP.out] at this;exact this
  generalize r.l.all (keepP (liveQ (rs.drop (j+1))))=nd at FB NE;generalize abA p j=ab at AB NE;generalize 39-j=jn at AB NE;generalize mostV buf (j:Int)=mv at FB MO;have ne:=GX.some w1;clear HC1 RR1 d0 hpi hSp pl;by_cases n0:n=0
  ·subst n0
   have e:A=false:=FB.out;subst e;clear FB PE MO AB NE;refine wp_region_growx (by kernel_rfl) (by kernel_rfl) ?_
   repeat (go_big_quiet_step (fail))
   refine wpQuiet_nil ?_;rintro _ ⟨gw,rfl⟩;have G2:Aside _:=G1.out.trans gw.gw;go_wp2_with fail;go_ret;exact ⟨rfl,G2.out⟩
  ·have n0':0<n:=by omega
   have n0d:decide (0<n)=true:=by simpa using n0'
   by_cases nm:(n:Int)<=mv
   ·have nm':decide ((n:Int)<=mv)=true:=by simpa using nm
    by_cases ee:rr=eps
    ·have ee':(rr == eps)=true:=by simpa using ee
     have e:A=nd:=by rw [FB.out,n0d,nm',ee'];rfl
     subst e;clear FB ee nm n0;refine wp_region_growx (by kernel_rfl) (by kernel_rfl) ?_
     repeat (go_big_quiet_step (fail))
     go_big_quiet_want;go_big_quiet_op
     go_big_quiet_call (exact growx_of (MO.out _))
     repeat (go_big_quiet_step (fail))
     go_big_quiet_want;go_big_quiet_op
     go_big_quiet_call (exact growx_of (PE.out _))
     repeat (go_big_quiet_step (fail))
     go_big_quiet_want;go_big_quiet_op
     go_big_quiet_call (exact growx_of (AB.out _))
     repeat (go_big_quiet_step (fail))
     go_big_quiet_want;go_big_quiet_op
     go_big_quiet_call (exact growx_of (NE.out _))
     repeat (go_big_quiet_step (fail))
     refine wpQuiet_nil ?_;rintro _ ⟨gw,rfl⟩;have G2:Aside _:=G1.out.trans gw.gw;go_wp2_with fail;go_ret;exact ⟨rfl,G2.out⟩
    ·have ee':(rr == eps)=false:=by simpa using ee
     have e:A=false:=by rw [FB.out,n0d,nm',ee'];rfl
     subst e;clear FB ee nm n0 NE AB;refine wp_region_growx (by kernel_rfl) (by kernel_rfl) ?_
     repeat (go_big_quiet_step (fail))
     go_big_quiet_want;go_big_quiet_op
     go_big_quiet_call (exact growx_of (MO.out _))
     repeat (go_big_quiet_step (fail))
     go_big_quiet_want;go_big_quiet_op
     go_big_quiet_call (exact growx_of (PE.out _))
     repeat (go_big_quiet_step (fail))
     refine wpQuiet_nil ?_;rintro _ ⟨gw,rfl⟩;have G2:Aside _:=G1.out.trans gw.gw;go_wp2_with fail;go_ret;exact ⟨rfl,G2.out⟩
   ·have nm':decide ((n:Int)<=mv)=false:=by simpa using nm
    have e:A=false:=by rw [FB.out,n0d,nm'];rfl
    subst e;clear FB nm n0 NE AB PE;refine wp_region_growx (by kernel_rfl) (by kernel_rfl) ?_
    repeat (go_big_quiet_step (fail))
    go_big_quiet_want;go_big_quiet_op
    go_big_quiet_call (exact growx_of (MO.out _))
    repeat (go_big_quiet_step (fail))
    refine wpQuiet_nil ?_;rintro _ ⟨gw,rfl⟩;have G2:Aside _:=G1.out.trans gw.gw;go_wp2_with fail;go_ret;exact ⟨rfl,G2.out⟩
end Go.Proofs.YteflpamjgaeaiaaGreat
