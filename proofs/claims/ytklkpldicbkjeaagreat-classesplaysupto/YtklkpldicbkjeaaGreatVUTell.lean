/- Package classes: what it tells of itself: told, Runs, Sizes, Get, Builds, Written, Clone; Most. -/
import Derived.Deep.WholeRow
import Derived.Test.YtklkpldicbkjeaaGreatVUTake
set_option linter.unusedVariables false
set_option maxHeartbeats 8000000
set_option maxRecDepth 20000
open Go.Proofs.Tryz
namespace Go.Proofs.YtklkpldicbkjeaaGreat
open Go.RowKit
structure dq (rs:List (Option Rn)) (t:Nat):Prop where
 le:t<=rs.length
 no:∀ i,t<=i->rs.getD i none=none
 is:t=0\/∃ r,rs.getD (t-1) none=some r
theorem dq.one {rs:List (Option Rn)} {t t':Nat} (h:dq rs t) (h':dq rs t'):t=t':=by
 have key:∀ {a b:Nat},dq rs a->dq rs b->¬ a<b:=fun {a b} ha hb lt=>by
  rcases hb.is with e | ⟨r,e⟩
  ·omega
  ·rw [ha.no (b-1) (by omega)] at e;cases e
 have:=key h h'
 have:=key h' h
 omega
theorem OP {HR:aV} {w:World} {p:Nat} {rs:List (Option Rn)} {eps buf B W:Int} (h:au HR w p rs eps buf B W) :
  Calls prog 42 #[.pointer (some ⟨p,0,none⟩)] w fun e w'=>(∃ t:Nat,e=.returned (.slice (some ⟨p,2,none⟩) t 40)/\dq rs t)/\w'=w:=by
 have HC:ag _:=h;have hp:=h.lt;clear h;go_enter func42,ntmps42;go_wp2_with fail;go_loopg [3] 40 (fun gg s3 wr=>∃ m:Nat,s3=.int .i64 (m:Int)/\m<=40/\m<=gg/\wr=w/\ag (∀ i,m<=i->rs.getD i none=none))
 case atStart=>exact ⟨40,rfl,Nat.le_refl _,Nat.le_refl _,rfl,(show ag _ from fun i hi=>by rw [List.getD_eq_getElem?_getD,List.getElem?_eq_none (by rw [HC.o.len];exact hi)];rfl)⟩
 case round =>
  obtain ⟨m,rfl,a1,a2,hw,N⟩:=hrel;subst hw;have aJ:ag ((m=0\/∃ r,rs.getD (m-1) none=some r)->dq rs m):=fun x=>⟨by rw [HC.o.len];exact a1,N.o,x⟩
  by_cases q:0<m
  ·obtain ⟨k,hk⟩:∃ k:Nat,m=k+1:=⟨m-1,by omega⟩
   have wm:IntKind.i64.wrap ((m:Int)-1)=(k:Int):=by rw [IntKind.wrap_i64];omega
   have OQ:(k:Int)<40:=by omega
   have m40:(m:Int)<=40:=by omega
   have ck:=HC.o.cell (i:=k) (by omega)
   have HK:ag _:=hk;rcases iJ rs k with e | ⟨r,e⟩
   ·rw [e] at ck
    have OS:wr.cell? ⟨p,2+k,none⟩=some (.pointer none):=ck;have N':ag (∀ i,k<=i->rs.getD i none=none):=fun i hi=>by
     by_cases x:i=k
     ·rw [x];exact e
     ·exact N.o i (by omega)
    clear ck e N hk aJ;go_wp2_with fail;go_roundg k
    case measure=>have:=HK.o;omega
    case rel=>exact ⟨k,rfl,by omega,Nat.le_refl _,rfl,N'⟩
   ·rw [e] at ck
    have OS:wr.cell? ⟨p,2+k,none⟩=some (.pointer (some ⟨r.p,0,none⟩)):=ck;have RR:ag _:=aJ.o (.inr ⟨r,by rw [hk];exact e⟩)
    generalize r.p=rp at OS;clear ck e N hk aJ;go_wp2_with fail;go_ret;exact ⟨⟨m,rfl,RR.o⟩,rfl⟩
  ·have m0:m=0:=by omega
   have RR:ag (dq rs 0):=by rw [<-m0];exact aJ.o (.inl m0)
   subst m0;clear N q aJ;go_wp2_with fail;go_ret;exact ⟨⟨0,rfl,RR.o⟩,rfl⟩
theorem Ek:(prog.info? 57).map (fun i=>(i.zero,i.size,i.bytes))=some (some (.pointer none),1,8):=by kernel_rfl
def RO (w:World) (base:Nat) (v:Value) (rs:List (Option Rn)):Prop:=w.ownsRow base 57 1 v rs.length (rs.map ptr)
theorem abt (o:Option Rn):(ptr o).oneCell'=true:=by cases o<;>rfl
theorem zT (rs:List (Option Rn)):∀ u∈rs.map ptr,u.oneCell'=true:=by
 intro u hu;obtain ⟨o,_,rfl⟩:=List.mem_map.1 hu;exact abt o
theorem PR.news {HR:aV} {w:World} {ao:Option Addr} {rs:List (Option Rn)} (h:PR HR w ao rs):∀ ad,ao=some ad->∀ j u,(rs.map ptr)[j]?=some u->w.cell? (ad.add j)=some u:=by
 intro ad e j u hu;have hj:j<rs.length:=by
  have:=(List.getElem?_eq_some_iff.1 hu).1
  simpa using this
 obtain ⟨b,off,e',_,hc⟩:=h.cells (by omega)
 rw [e] at e';cases e';rw [Addr.add_lit,hc j hj,dL hj];simpa [hj] using hu
theorem RO.gw {w w':World} {base:Nat} {v:Value} {rs:List (Option Rn)} (h:RO w base v rs) (g:Gw w w'):RO w' base v rs:=by
 refine ⟨h.1,?_⟩;rcases h.2 with q | ⟨b,cap,cur,rfl,hb,hh,r⟩
 ·exact .inl q
 ·exact .inr ⟨b,cap,cur,rfl,hb,(g.below.block b (aE hh)).trans hh,r⟩
theorem RO.pr {HR:aV} {w:World} {base c:Nat} {ao:Option Addr} {rs:List (Option Rn)} (h:RO w base (.slice ao rs.length c) rs) (hr:∀ r,some r∈rs->RA HR w r):PR HR w ao rs:=by
 refine ⟨fun h0=>?_,hr⟩
 rcases h.2 with ⟨_,z⟩ | ⟨b,cap,cur,e,hb,hh,r⟩
 ·omega
 ·injection e with e1 e2 e3
  subst e1 e3;refine ⟨b,0,rfl,aE hh,fun i hi=>?_⟩
  have:=World.ownsRow.cellAt h i (by omega)
  rw [Nat.zero_add,this,dL hi];simp [hi]
theorem abw {HR:aV} (ad:Addr) (c:Nat) (rs:List (Option Rn)) (hl:rs.length<=2000000) (w:World) (h:PR HR w (some ad) rs) :
  Calls prog 41 #[.slice (some ad) rs.length c] w fun e w'=>(∃ b cp,e=.returned (.slice (some ⟨b,0,none⟩) rs.length cp)/\RO w' w.heap.size (.slice (some ⟨b,0,none⟩) rs.length cp) rs)/\Gw w w':=by
 have O0:ag ((w.alloc (.cells #[] 57)).ownsRow w.heap.size 57 1 (.slice (some ⟨w.heap.size,0,none⟩) 0 0) 0 []):=World.ownsRow_made w #[] 0 (Nat.le_refl _) (Nat.zero_le _) rfl;have NW:ag (∀ x,(some ad:Option Addr)=some x->∀ j u,(rs.map ptr)[j]?=some u->(w.alloc (.cells #[] 57)).cell? (x.add j)=some u):=by
  intro x hx j u hu;have:=h.news x hx j u hu;exact Go.Lib.cell?_alloc_some _ this
 obtain ⟨ii,aM,hz,hs,aL⟩:=info_parts Ek;have hq:∀ W:World,(binOp .eql 81 (.slice (some ad) rs.length c) (.slice none 0 0)).run prog W=.ok (.bool false) W:=fun _=>by kernel_rfl
 have LN:ag ((rs.map ptr).length=rs.length*1):=by show _=_;simp
 clear h;go_enter func41,ntmps41;go_wp2_with (at_builtin;refine sJ _ rfl _ _ 81 rfl w.heap.size 57 ii (.pointer none) 1 8 underlying81 aM hz hs aL rfl (by decide) _ 0 [] rfl O0.o (some ad) rs.length c (rs.map ptr) rfl (fun e=>by cases e) LN.o NW.o (zT rs) (by unfold maxLen;omega) (by omega) (by simp) ?_)
 intro v' w7 q1 q2 q3;have G7:ag (Gw w w7):=((Gw.refl w).alloc _ _).grown q2 (fun k hk=>by cases hk;exact Nat.le_refl _)
 have R5:w7.ownsRow w.heap.size 57 1 v' rs.length (rs.map ptr):=by simpa using q1
 obtain ⟨b5,dw,rfl,_,_,_⟩:=cS R5 (by simpa using q3)
 have aK:ag _:=R5;clear q1 q2 q3 R5 aM hz hs aL;go_wp2_with fail;go_ret;exact ⟨⟨b5,dw,rfl,aK.o⟩,G7.o⟩
theorem OT {HR:aV} {w:World} {p:Nat} {rs:List (Option Rn)} {eps buf B W:Int} (h:au HR w p rs eps buf B W) :
  Calls prog 16 #[.pointer (some ⟨p,0,none⟩)] w fun e w'=>(∃ (t b c:Nat),e=.returned (.slice (some ⟨b,0,none⟩) t c)/\dq rs t/\RO w' w.heap.size (.slice (some ⟨b,0,none⟩) t c) (rs.take t))/\Gw w w':=by
 have TO:ag _:=OP h;have CL:ag (∀ t,t<=40->Calls prog 41 #[.slice (some ⟨p,2,none⟩) t 40] w fun e w'=>(∃ b cp,e=.returned (.slice (some ⟨b,0,none⟩) t cp)/\RO w' w.heap.size (.slice (some ⟨b,0,none⟩) t cp) (rs.take t))/\Gw w w'):=fun t ht=>by
  have:=abw ⟨p,2,none⟩ 40 (rs.take t) (by rw [List.length_take];omega) w (h.take t)
  rw [show (rs.take t).length=t by rw [List.length_take,h.len];omega] at this
  exact this
 have En:ag _:=h.len;clear h;go_enter func16,ntmps16;go_wp2_with fail;refine Calls.mono TO.o ?_;rintro e w1 ⟨⟨t,rfl,tr⟩,hw⟩;have cR:w=w1:=hw.symm;subst cR;have TR:ag _:=tr;have ht:t<=40:=by have:=tr.le;have:=En.o;omega
 clear hw tr;go_wp2_with fail;refine Calls.mono (CL.o t ht) ?_;rintro e w2 ⟨⟨b,cp,rfl,ro⟩,g2⟩;have RR:ag _:=ro;have G2:ag _:=g2;clear ro g2;go_wp2_with fail;go_ret;exact ⟨⟨t,b,cp,rfl,TR.o,RR.o⟩,G2.o⟩
theorem OX {j i a b:Nat} (x:¬ j=i):(if j<i+1 then a else b)=if j<i then a else b:=by
 by_cases y:j<i
 ·rw [if_pos y,if_pos (by omega)]
 ·rw [if_neg y,if_neg (by omega)]
def eM (o:Option Rn):Nat:=match o with
 | some r=>r.l.length
 | none=>0
theorem OY {HR:aV} (H:cV HR) {w:World} {p:Nat} {rs:List (Option Rn)} {eps buf B W:Int} (h:au HR w p rs eps buf B W) :
  Calls prog 22 #[.pointer (some ⟨p,0,none⟩)] w fun e w'=>(∃ (t b:Nat),e=.returned (.slice (some ⟨b,0,none⟩) t t)/\dq rs t/\w'.rowIs b 3 t (fun i=>.int .i64 (eM (rs.getD i none):Int))/\w.heap.size<=b)/\Gw w w':=by
 have TO:ag (Calls prog 42 #[.pointer (some ⟨p,0,none⟩)] w fun e w'=>(∃ t:Nat,e=.returned (.slice (some ⟨p,2,none⟩) t 40)/\dq rs t)/\w'=w):=OP h
 have HC:ag (au HR w p rs eps buf B W):=h;have HH:ag (cV HR):=H;clear h H;go_enter func22,ntmps22;go_wp2_with fail;refine Calls.mono TO.o ?_;rintro e w1 ⟨⟨t,rfl,tr⟩,hw⟩;have cR:w=w1:=hw.symm;subst cR;have TR:ag (dq rs t):=tr;have ht:t<=40:=by have:=tr.le;have:=HC.o.len;omega
 have mk:=Nl t (t:Int) rfl (by omega) w
 obtain ⟨bq,bQ⟩:∃ b,w.heap.size=b:=⟨_,rfl⟩;have BQ:ag (w.heap.size=bq):=bQ;have RW:ag ((w.alloc (.cells (madeCells #[.int .i64 0] t) 3)).rowIs bq 3 t (fun i=>.int .i64 ((if i<0 then eM (rs.getD i none) else 0:Nat):Int))):=by
  rw [<-bQ];exact (World.rowIs_made w (.int .i64 0) t 3).congr fun i _=>by simp
 have G1:ag (Gw w (w.alloc (.cells (madeCells #[.int .i64 0] t) 3))):=(Gw.refl w).alloc _ _;rw [bQ] at mk;clear hw tr bQ TO;go_wp2_with fail;generalize w.alloc (.cells (madeCells #[.int .i64 0] t) 3)=w1 at RW G1 ⊢;clear mk;go_loopg [14] t (fun gg vY wr=>∃ i:Nat,vY=.int .i64 (i:Int)/\i<=t/\t-i<=gg/\ag (wr.rowIs bq 3 t (fun j=>.int .i64 ((if j<i then eM (rs.getD j none) else 0:Nat):Int)))/\ag (Gw w wr))
 case atStart=>exact ⟨0,rfl,Nat.zero_le _,by omega,RW,G1⟩
 case round =>
  clear RW G1;obtain ⟨i,rfl,a1,a2,RW,G⟩:=hrel;obtain ⟨wS,aZ⟩:∃ wx,wx=wr:=⟨_,rfl⟩;subst aZ;by_cases ak:i<t
  ·have dG:(i:Int)<(t:Int):=by omega
   have ci:=(HC.o.gw HH.o.kp G.o).cell (i:=i) (by omega)
   have pl:p<wS.heap.size:=Nat.lt_of_lt_of_le HC.o.lt G.o.size;rcases iJ rs i with e | ⟨r,e⟩
   ·rw [e] at ci
    have cu:wS.cell? ⟨p,2+i,none⟩=some (.pointer none):=ci;have Eo:ag (wS.rowIs bq 3 t (fun j=>.int .i64 ((if j<i+1 then eM (rs.getD j none) else 0:Nat):Int))):=RW.o.congr fun j hj=>by
     by_cases x:j=i
     ·subst x;rw [e];simp [eM]
     ·rw [OX x]
    clear ci e RW;go_wp2_with fail;go_roundg (t-(i+1))
    case measure=>omega
    case rel=>exact ⟨i+1,by go_num,by omega,Nat.le_refl _,Eo,G⟩
   ·rw [e] at ci
    have cu:wS.cell? ⟨p,2+i,none⟩=some (.pointer (some ⟨r.p,0,none⟩)):=ci;have LE:ag (Calls prog 59 #[.pointer (some ⟨r.p,0,none⟩)] wS fun e w'=>e=.returned (.int .i64 (r.l.length:Int))/\Gw wS w'):=HH.o.len ((HC.o.runs r (jN (by rw [HC.o.len];omega) e)).1.gw HH.o.kp G.o).h
    have SZ:ag (eM (rs.getD i none)=r.l.length):=by rw [e];rfl
    generalize r.p=rp at cu LE;generalize r.l.length=rn at SZ LE;clear ci e;go_wp2_with fail;refine Calls.mono LE.o ?_;rintro e u1 ⟨rfl,gg⟩;have R1:=RW.o.of_block (gg.below.block bq RW.o.lt);have m0:=R1.cell (i:=i) ak;have z0:=R1.frozen i;have bl:=R1.lt;have Eo:ag ((u1.setCell ⟨bq,i,none⟩ (.int .i64 (rn:Int))).rowIs bq 3 t (fun j=>.int .i64 ((if j<i+1 then eM (rs.getD j none) else 0:Nat):Int))):=(R1.set i (.int .i64 (rn:Int))).congr fun j hj=>by
     by_cases x:j=i
     ·subst x;rw [if_pos rfl,if_pos (Nat.lt_succ_self _),SZ.o]
     ·rw [if_neg x,OX x]
    have G2:ag (Gw w (u1.setCell ⟨bq,i,none⟩ (.int .i64 (rn:Int)))):=(G.o.trans gg).setCell (Nat.le_of_eq BQ.o) _;have w0:(if i<i then eM (rs.getD i none) else 0:Nat)=0:=if_neg (Nat.lt_irrefl _)
    rw [w0] at m0;clear gg LE R1 RW G SZ w0;go_wp2_with fail;go_roundg (t-(i+1))
    case measure=>omega
    case rel=>exact ⟨i+1,by go_num,by omega,Nat.le_refl _,Eo,G2⟩
  ·have ei:i=t:=by omega
   subst ei;have RR:ag (wS.rowIs bq 3 i (fun j=>.int .i64 (eM (rs.getD j none):Int))):=RW.o.congr fun j hj=>by rw [if_pos hj]
   clear RW;go_wp2_with fail;go_ret;exact ⟨⟨i,bq,rfl,TR.o,RR.o,Nat.le_of_eq BQ.o⟩,G.o⟩
theorem Ep {HR:aV} (H:cV HR) {w:World} {p:Nat} {rs:List (Option Rn)} {eps buf B W:Int} (h:au HR w p rs eps buf B W) (q:Int) (q0:0<=q) (q1:q<18446744073709551616) :
  Calls prog 12 #[.pointer (some ⟨p,0,none⟩),.int .u64 q] w fun e w'=>e=.returned (.tuple #[(dC (nw q rs)).1,.bool (dC (nw q rs)).2])/\Gw w w':=by
 obtain ⟨x,y,z,t,f1,f2,f3⟩:=ri (nw q rs);have NW:ag (∀ W,Gw w W->Calls prog 39 #[.slice (some ⟨p,2,none⟩) 40 40,.int .u64 q] W fun e w'=>e=.returned (.tuple #[.agg #[.int .u64 x,.int .u64 y,.bool z],.bool t])/\Gw W w'):=fun W gg=>by
  have:=OG H (some ⟨p,2,none⟩) 40 rs q q0 q1 (by rw [h.len];omega) W (PR.gw H.kp (h.drop 0) gg)
  rw [f1,h.len] at this;exact this
 have hp:=h.lt;rw [f1];clear f1 f2 f3 h H;go_enter func12,ntmps12;go_wp2_with fail;refine Calls.mono (NW.o _ ((Gw.refl w).alloc _ _)) ?_;rintro e u1 ⟨rfl,gg⟩;have GU:ag (Gw w u1):=((Gw.refl w).alloc _ _).trans gg;have E0:u1.heap[w.heap.size]?=some (.cells #[.int .u64 0,.int .u64 0,.bool false] 40 (0,0)):=(gg.below.block _ (by simp)).trans (heap_alloc_new _ _)
 obtain ⟨bq,bQ⟩:∃ b,w.heap.size=b:=⟨_,rfl⟩;have BQ:ag _:=bQ;rw [bQ] at E0 ⊢;obtain ⟨m0,m1,m2,z0,z1,z2,bl,TT⟩:=lG E0;have T3:=TT x y z;clear E0 gg NW TT bQ;go_wp2_with fail;exact bodyPost_ret (v:=.tuple #[.agg #[.int .u64 x,.int .u64 y,.bool z],.bool t]) (by simp [results,results12,go_sem,T3.1,T3.2.1,T3.2.2]) rfl ⟨rfl,((GU.o.setCell (Nat.le_of_eq BQ.o) _).setCell (Nat.le_of_eq BQ.o) _).setCell (Nat.le_of_eq BQ.o) _⟩
theorem OZ {HR:aV} {w:World} {p:Nat} {rs:List (Option Rn)} {eps buf B W:Int} (h:au HR w p rs eps buf B W) :
  Calls prog 23 #[.pointer (some ⟨p,0,none⟩)] w fun e w'=>e=.returned (.int .i64 B)/\w'=w:=by
 have c:=h.c2;have hp:=h.lt;clear h;go_enter func23,ntmps23;go_wp2_with fail;go_ret;exact ⟨rfl,rfl⟩
theorem O4 {HR:aV} {w:World} {p:Nat} {rs:List (Option Rn)} {eps buf B W:Int} (h:au HR w p rs eps buf B W) :
  Calls prog 24 #[.pointer (some ⟨p,0,none⟩)] w fun e w'=>e=.returned (.int .i64 W)/\w'=w:=by
 have c:=h.c3;have hp:=h.lt;clear h;go_enter func24,ntmps24;go_wp2_with fail;go_ret;exact ⟨rfl,rfl⟩
theorem O7:(prog.info? 74).map (·.size)=some 44:=by kernel_rfl
theorem abx {HR:aV} (H:cV HR) {w:World} {p:Nat} {rs:List (Option Rn)} {eps buf B W:Int} (h:au HR w p rs eps buf B W) :
  Calls prog 14 #[.pointer (some ⟨p,0,none⟩)] w fun e w'=>(∃ p',e=.returned (.pointer (some ⟨p',0,none⟩))/\w.heap.size<=p'/\au HR w' p' rs eps buf B W)/\Gw w w':=by
 have hp:=h.lt;have hb:=h.blk;have HC:ag (au HR (w.alloc (.cells (dZ eps buf rs B W).toArray 74)) w.heap.size rs eps buf B W):=⟨heap_alloc_new w _,h.len,fun r hr=>⟨(h.runs r hr).1.gw H.kp ((Gw.refl w).alloc _ _),fun x=>Nat.lt_irrefl _ (H.lt (h.runs r hr).1.h _ x)⟩,h.e0,h.e1,h.b0,h.b1⟩
 have bZ:(dZ eps buf rs B W).toArray.size=44:=by simp [dZ,h.len]
 have Er:(dZ eps buf rs B W).toArray.all (·.oneCell')=true:=by
  rw [Array.all_eq_true'];intro u hu;have kD:u∈dZ eps buf rs B W:=by simpa using hu
  unfold dZ at kD;rcases List.mem_cons.1 kD with rfl | kD
  ·rfl
  rcases List.mem_cons.1 kD with rfl | kD
  ·rfl
  rcases List.mem_append.1 kD with kD | kD
  ·exact zT rs u kD
  ·rcases List.mem_cons.1 kD with rfl | kD
   ·rfl
   rw [List.mem_singleton.1 kD];rfl
 generalize (dZ eps buf rs B W).toArray=cs at hb HC bZ Er;have HB:ag _:=hb;have SZ:ag _:=bZ;have ON:ag _:=Er;clear hb h H Er bZ;go_enter func14,ntmps14;go_wp2_with (first | refine wpList_load_row rfl _ _ rfl p rfl _ cs (0,0) _ HB.o underlying74 rfl (by rw [SZ.o];exact O7) ?_ | refine wpList_store_row rfl _ _ _ rfl w.heap.size cs rfl rfl _ #[.int .i64 0,.int .i64 0,.pointer none,.pointer none,.pointer none,.pointer none,.pointer none,.pointer none,.pointer none,.pointer none,.pointer none,.pointer none,.pointer none,.pointer none,.pointer none,.pointer none,.pointer none,.pointer none,.pointer none,.pointer none,.pointer none,.pointer none,.pointer none,.pointer none,.pointer none,.pointer none,.pointer none,.pointer none,.pointer none,.pointer none,.pointer none,.pointer none,.pointer none,.pointer none,.pointer none,.pointer none,.pointer none,.pointer none,.pointer none,.pointer none,.pointer none,.pointer none,.int .i64 0,.int .i64 0] (heap_alloc_new w _) (by rw [SZ.o];exact O7) (by rw [SZ.o];rfl) ON.o ?_)
 rw [World.setRow_alloc_new];go_wp2_with fail;go_ret;exact ⟨⟨_,rfl,Nat.le_refl _,HC.o⟩,(Gw.refl w).alloc _ _⟩
def fw (buf cl:Int):Int:=if (1<=buf/\buf<=4294967296)/\0<=cl/\cl<40 then min (buf*2^cl.toNat) 4294967296 else 0
theorem O' (buf cl:Int) (w:World) :
  Calls prog 25 #[.int .i64 buf,.int .i64 cl] w fun e w'=>e=.returned (.int .i64 (fw buf cl))/\w'=w:=by
 by_cases q:(1<=buf/\buf<=4294967296)/\0<=cl/\cl<40
 ·obtain ⟨c,rfl⟩:∃ c:Nat,cl=c:=⟨cl.toNat,by omega⟩
  obtain ⟨⟨q1,q2⟩,q3,q4⟩:=q;have t1:decide (buf<1)=false:=by simpa using q1
  have t2:decide (4294967296<buf)=false:=by simpa using q2
  have t3:decide ((c:Int)<0)=false:=by simp
  have t4:decide ((40:Int)<=(c:Int))=false:=by simpa using q4
  have c40:c<40:=by omega
  have p2:(0:Int)<2^c:=Int.pow_pos (by decide)
  have MV:fw buf c=min (buf*2^c) 4294967296:=by unfold fw;rw [if_pos ⟨⟨q1,q2⟩,q3,q4⟩];simp
  rw [MV];have n40:¬ 40<=c:=by omega
  by_cases d:(4294967296:Int)/2^c<buf
  ·have e:min (buf*2^c) 4294967296=4294967296:=by
    have h1:=Int.lt_ediv_add_one_mul_self (4294967296:Int) p2;have h2:(4294967296/2^c+1)*2^c<=buf*2^c:=Int.mul_le_mul_of_nonneg_right (by omega) (Int.le_of_lt p2)
    omega
   rw [e];have t5:decide ((4294967296:Int)/2^c<buf)=true:=by simpa using d
   clear e MV p2 q1 q2 q3 q4;have d':¬ buf<=(4294967296:Int)/2^c:=by omega
   clear d;go_enter func25,ntmps25;go_wp2_with fail;go_ret;exact ⟨rfl,rfl⟩
  ·have hle:buf*2^c<=4294967296:=by
    have h2:buf*2^c<=4294967296/2^c*2^c:=Int.mul_le_mul_of_nonneg_right (by omega) (Int.le_of_lt p2)
    have h3:=Int.ediv_mul_le (4294967296:Int) (b:=2^c) (by omega)
    omega
   have e:min (buf*2^c) 4294967296=buf*2^c:=by omega
   rw [e];have hw:wrap64 (buf*2^c)=buf*2^c:=by
    have h2:(0:Int)<=buf*2^c:=Int.mul_nonneg (by omega) (Int.le_of_lt p2)
    unfold wrap64;omega
   have HW:ag _:=hw;have t5:decide ((4294967296:Int)/2^c<buf)=false:=by simpa using d
   have d':buf<=(4294967296:Int)/2^c:=by omega
   clear e MV p2 d q1 q2 q3 q4 hle hw;go_enter func25,ntmps25;go_wp2_with fail;go_ret;exact ⟨by first | rfl | (show Ending.returned (.int .i64 (wrap64 (buf*2^c)))=_;rw [HW.o]),rfl⟩
 ·have MV:fw buf cl=0:=by unfold fw;rw [if_neg q]
  rw [MV];have cs:buf<1\/(¬ buf<1/\4294967296<buf)\/(¬ buf<1/\¬ 4294967296<buf/\cl<0)\/(¬ buf<1/\¬ 4294967296<buf/\¬ cl<0/\40<=cl):=by omega
  clear q MV;rcases cs with a | ⟨a,b⟩ | ⟨a,b,c⟩ | ⟨a,b,c,d⟩
  ·have t1:decide (buf<1)=true:=by simpa using a
   clear a;go_enter func25,ntmps25;go_wp2_with fail;go_ret;exact ⟨rfl,rfl⟩
  ·have t1:decide (buf<1)=false:=by simpa using a
   have t2:decide (4294967296<buf)=true:=by simpa using b
   clear a b;go_enter func25,ntmps25;go_wp2_with fail;go_ret;exact ⟨rfl,rfl⟩
  ·have t1:decide (buf<1)=false:=by simpa using a
   have t2:decide (4294967296<buf)=false:=by simpa using b
   have t3:decide (cl<0)=true:=by simpa using c
   clear a b c;go_enter func25,ntmps25;go_wp2_with fail;go_ret;exact ⟨rfl,rfl⟩
  ·have t1:decide (buf<1)=false:=by simpa using a
   have t2:decide (4294967296<buf)=false:=by simpa using b
   have t3:decide (cl<0)=false:=by simpa using c
   have t4:decide (40<=cl)=true:=by simpa using d
   clear a b c d;go_enter func25,ntmps25;go_wp2_with fail;go_ret;exact ⟨rfl,rfl⟩
theorem jP {w:World} {b o:Nat} {vs:Array Value} {t:TypeId} (h:w.heap[b]?=some (.cells vs t (0,0))) (u:Value):(w.setCell ⟨b,o,none⟩ u).heap[b]?=some (.cells (vs.setIfInBounds o u) t (0,0)):=by simp [World.setCell,Array.getElem?_modify,h]
section
variable {eps buf B W:Int}
theorem Pa {rs:List (Option Rn)} {j:Nat} (hj:j<rs.length) (o:Option Rn):(dZ eps buf rs B W).toArray.setIfInBounds (2+j) (ptr o)=(dZ eps buf (rs.set j o) B W).toArray:=by
 rw [List.setIfInBounds_toArray];congr 1;have e:2+j=j+1+1:=by omega
 rw [e];show _::_::(rs.map ptr++_).set j (ptr o)=_;rw [List.set_append_left _ _ (by simpa using hj),<-List.map_set]
 rfl
theorem aby {rs:List (Option Rn)} (h:rs.length=40) (B':Int):(dZ eps buf rs B W).toArray.setIfInBounds 42 (.int .i64 B')=(dZ eps buf rs B' W).toArray:=by
 rw [List.setIfInBounds_toArray];congr 1;show _::_::(rs.map ptr++_).set 40 _=_;rw [List.set_append_right _ _ (by simp [h]),List.length_map,h]
 rfl
theorem abz {rs:List (Option Rn)} (h:rs.length=40) (W':Int):(dZ eps buf rs B W).toArray.setIfInBounds 43 (.int .i64 W')=(dZ eps buf rs B W').toArray:=by
 rw [List.setIfInBounds_toArray];congr 1;show _::_::(rs.map ptr++_).set 41 _=_;rw [List.set_append_right _ _ (by simp [h]),List.length_map,h]
 rfl
theorem Es {p:Nat} {t:TypeId}:∀ (r1:List (Option Rn)) (j:Nat) (rs:List (Option Rn)) (w:World),j+r1.length<=rs.length->w.heap[p]?=some (.cells (dZ eps buf rs B W).toArray t (0,0))->(w.setCells p (2+j) (r1.map ptr)).heap[p]?=some (.cells (dZ eps buf (rs.take j++r1++rs.drop (j+r1.length)) B W).toArray t (0,0))
 | [],j,rs,w,_,h=>by simpa [World.setCells] using h
 | a::r1,j,rs,w,hl,h=>by
  have hj:j<rs.length:=by simp at hl;omega
  have h1:=jP (o:=2+j) h (ptr a);rw [Pa hj] at h1;have ih:=Es r1 (j+1) (rs.set j a) _ (by simp at hl ⊢;omega) h1
  rw [List.map_cons,World.setCells];rw [show 2+j+1=2+(j+1) by omega,ih]
  congr 4
  have e1:(rs.set j a).take (j+1)=rs.take j++[a]:=by
   rw [List.take_add_one,List.take_set_of_le (Nat.le_refl _),List.getElem?_set_self hj];rfl
  have e2:(rs.set j a).drop (j+1+r1.length)=rs.drop (j+(r1.length+1)):=by
   rw [List.drop_set_of_lt (by omega),show j+1+r1.length=j+(r1.length+1) by omega]
  rw [e1,e2];simp
theorem vZ {p:Nat}:∀ (vs:List Value) (o:Nat) (w:World),Gx (fun q=>q=p) w (w.setCells p o vs)
 | [],_,w=>Gx.refl _ w
 | v::r,o,w=>by
  rw [World.setCells];exact ((Gx.refl (fun q=>q=p) w).set (.inl rfl) o v).trans (vZ r (o+1) _) (fun q hq=>.inl hq)
theorem Pb (n:Nat):(List.replicate n (none:Option Rn)).map ptr=List.replicate n (.pointer none):=by simp [ptr]
end
def iK (l:List ah):Int:=if l=[] then 0 else 1
def mI (HR:aV) (w w':World) (eps:Int) (kept:List ah) (o:Option Rn):Prop :=
 (kept=[]/\o=none)\/(kept≠[]/\∃ r,o=some r/\r.eps=eps/\r.l=kept/\cU eps (ek kept) kept.length r.L/\(∀ q,r.S q->w.heap.size<=q)/\RA HR w' r)
theorem abA {HR:aV} (H:cV HR) {w:World} {p:Nat} {rs:List (Option Rn)} {eps buf B W:Int} (h:au HR w p rs eps buf B W) (ao:Option Addr) (c:Nat) (kept:List ah) (hk:EL w ao kept) (ok:cK kept) (hc:kept.length<=c) (hz:ao=none->kept.length=0/\c=0) (hn:kept.length<=2000000) (hB:0<=B/\B<4611686018427387904) (hW:0<=W/\W<4611686018427387904) (j:Nat) (hj:j<40) :
  Calls prog 33 #[.pointer (some ⟨p,0,none⟩),.slice ao kept.length c,.int .i64 (j:Int)] w fun e w'=>(∃ o,e=.returned (.int .i64 0)/\mI HR w w' eps kept o/\au HR w' p (List.replicate j none++o::rs.drop (j+1)) eps buf (B+iK kept) (W+kept.length))/\Gx (fun q=>q=p) w w':=by
 have HC:ag _:=h;have HH:ag _:=H;have NW:ag _:=H.new eps ao kept.length c (ek kept) (ev kept) (eg kept) (by have:=h.e0;omega) (by have:=h.e1;omega) hn hc hz w hk
 have OK:ag _:=ok;have BD:ag _:=hk.all;have hp:=h.lt;have c0:=h.c0;obtain ⟨n,Et⟩:∃ n,kept.length=n:=⟨_,rfl⟩;have KN:ag _:=Et;rw [Et] at hn NW ⊢;obtain ⟨k,Pc⟩:∃ k,j+1=k:=⟨_,rfl⟩;have JK:ag _:=Pc;have wk:IntKind.i64.wrap ((j:Int)+1)=(k:Int):=by rw [IntKind.wrap_i64];omega
 have OQ:k<=40:=by omega
 have af4:(k:Int)<=40:=by omega
 have mJ:(j:Int)<40:=by omega
 clear h H hk ok hc hz Et Pc;go_enter func33,ntmps33;go_wp2_with fail;refine Calls.mono NW.o ?_;rintro e w1 ⟨⟨E,ne,x⟩,g1⟩;have e0:=HC.o.e0;have e1:=HC.o.e1;have E0:E=0:=by
  rcases ne with ⟨a,_⟩ | ⟨_,b⟩
  ·exact absurd ⟨e0,e1⟩ a
  ·rw [<-KN.o] at b;exact b.one OK.o
 rcases x with ⟨a,_⟩ | ⟨_,rp,S,L,rfl,hS,br,hr⟩
 ·exact absurd E0 a
 have fL:=HC.o.gw HH.o.kp g1;have En:=HC.o.len;obtain ⟨W1,lH⟩:∃ W1,w1.setCells p 2 (List.replicate k (.pointer none))=W1:=⟨_,rfl⟩;have zv:∀ w,(zeroValue 57).run prog w=.ok (.pointer none) w:=fun w=>by
  obtain ⟨ii,aM,mA,_,_⟩:=info_parts Ek;simp [zeroValue,typeInfo,aM,mA]
 have mL:∀ ty,(Builtin.clear_ #[50] ty #[.slice (some ⟨p,2,none⟩) k 40]).run prog w1=.ok (.tuple #[]) W1:=fun ty=>by
  rw [<-lH];exact Go.Lib.run_clear_slice w1 50 57 ty (.pointer none) underlying50 zv rfl rfl p 2 k 40 (by have:=JK.o;omega) (fun i hi=>by rw [fL.cell (by omega)];rfl) (fun i _=>dR fL.blk)
 have rq:W1.heap[p]?=some (.cells (dZ eps buf (List.replicate k none++rs.drop k) B W).toArray 74 (0,0)):=by
  have:=Es (List.replicate k (none:Option Rn)) 0 rs w1 (by simp;omega) fL.blk
  rw [Pb] at this;rw [<-lH];simpa using this
 have Eu:Gx (fun q=>q=p) w W1:=by
  rw [<-lH];exact (g1.gx _).trans (vZ _ _ _) (fun q hq=>.inl hq)
 have Pd:Gx (fun q=>q=p) w1 W1:=by rw [<-lH];exact vZ _ _ _
 have l1:(List.replicate k (none:Option Rn)++rs.drop k).length=40:=by simp;omega
 have R1:∀ r,some r∈rs.drop k->RA HR W1 r/\¬ r.S p:=fun r hr=>by
  obtain ⟨q1,q2⟩:=HC.o.runs r (List.mem_of_mem_drop hr);exact ⟨q1.gx HH.o.kp Eu (fun q hq=>by rw [hq];exact q2),q2⟩
 have pS:¬ S p:=fun x=>by have:=hS p x;omega
 have RR:RA HR W1 ⟨rp,S,eps,kept,L⟩:=RA.keep HH.o.kp (w:=w1) ⟨by show HR w1 rp S eps _ _ _ kept.length L;rw [KN.o];exact hr,OK.o,BD.o,by show kept.length<=_;rw [KN.o];exact hn⟩ (fun q hq=>Pd.block q (HH.o.lt hr q hq) (fun x=>by rw [x] at hq;exact pS hq))
 have BR:ag _:=br;have SS:ag _:=hS;have Pe:ag _:=R1;have tP:ag (RA HR W1 ⟨rp,S,eps,kept,L⟩/\¬ S p):=⟨RR,pS⟩;have Pf:ag _:=Eu;have wh:ag _:=rq;have L1:ag _:=l1;have hp1:p<w1.heap.size:=fL.lt;clear ne g1 fL zv rq Eu Pd l1 R1 pS RR br hS hr lH E0 e0 e1 NW En;by_cases n0:n=0
 ·subst n0
  have kn:kept=[]:=List.length_eq_zero_iff.1 KN.o;have HE:ag (au HR W1 p (List.replicate j none++none::rs.drop (j+1)) eps buf (B+iK kept) (W+(0:Nat))):=by
   have e:List.replicate j (none:Option Rn)++none::rs.drop (j+1)=List.replicate k none++rs.drop k:=by
    rw [<-JK.o,List.replicate_succ',List.append_assoc];rfl
   rw [e,show iK kept=0 from if_pos kn];refine ⟨by simpa using wh.o,L1.o,fun r hr=>?_,HC.o.e0,HC.o.e1,HC.o.b0,HC.o.b1⟩
   rcases List.mem_append.1 hr with q | q
   ·simp at q
   ·exact Pe.o r q
  have KE:ag _:=kn;clear kn;go_wp2_with fail;go_ret;exact ⟨⟨none,rfl,.inl ⟨KE.o,rfl⟩,HE.o⟩,Pf.o⟩
 ·have kn:kept≠[]:=fun e=>n0 (by rw [<-KN.o,e];rfl)
  have KE:ag _:=kn;have Pg:0<n:=by omega
  have jl:j<(List.replicate k (none:Option Rn)++rs.drop k).length:=by rw [L1.o];exact hj
  obtain ⟨W2,pD⟩:∃ W2,W1.setCell ⟨p,2+j,none⟩ (.pointer (some ⟨rp,0,none⟩))=W2:=⟨_,rfl⟩;have kW:W2.heap[p]?=some (.cells (dZ eps buf (List.replicate j none++some ⟨rp,S,eps,kept,L⟩::rs.drop (j+1)) B W).toArray 74 (0,0)):=by
   have:=jP (o:=2+j) wh.o (ptr (some ⟨rp,S,eps,kept,L⟩))
   rw [Pa jl] at this;rw [<-pD];have e:(List.replicate k (none:Option Rn)++rs.drop k).set j (some ⟨rp,S,eps,kept,L⟩)=List.replicate j none++some ⟨rp,S,eps,kept,L⟩::rs.drop (j+1):=by
    rw [<-JK.o,List.replicate_succ',List.append_assoc,List.set_append_right _ _ (by simp)]
    simp
   rw [e] at this;exact this
  have l2:(List.replicate j none++some (⟨rp,S,eps,kept,L⟩:Rn)::rs.drop (j+1)).length=40:=by
   have:=L1.o
   rw [<-JK.o] at this;simp at this ⊢;omega
  obtain ⟨W3,tQ⟩:∃ W3,W2.setCell ⟨p,42,none⟩ (.int .i64 (B+1))=W3:=⟨_,rfl⟩;have n6:W3.heap[p]?=some (.cells (dZ eps buf (List.replicate j none++some ⟨rp,S,eps,kept,L⟩::rs.drop (j+1)) (B+1) W).toArray 74 (0,0)):=by
   have:=jP (o:=42) kW (.int .i64 (B+1))
   rw [aby l2] at this;rw [<-tQ];exact this
  obtain ⟨W4,Ph⟩:∃ W4,W3.setCell ⟨p,43,none⟩ (.int .i64 (W+n))=W4:=⟨_,rfl⟩;have oZ:W4.heap[p]?=some (.cells (dZ eps buf (List.replicate j none++some ⟨rp,S,eps,kept,L⟩::rs.drop (j+1)) (B+1) (W+n)).toArray 74 (0,0)):=by
   have:=jP (o:=43) n6 (.int .i64 (W+n))
   rw [abz l2] at this;rw [<-Ph];exact this
  have m1:=aD wh.o (OI L1.o hj);have ru:W1.cell? ⟨p,2+j,none⟩=some (.pointer none):=by
   rw [m1,dL jl,List.getElem_append_left (by simp;have:=JK.o;omega),List.getElem_replicate]
   rfl
  have z1:=dR (o:=2+j) wh.o;have m2:=aD kW (zR l2).1;have z2:=dR (o:=42) kW;have m3:=aD n6 (zR l2).2;have z3:=dR (o:=43) n6;have p1:=aE wh.o;have p2:=aE kW;have p3:=aE n6;have zU:Gx (fun q=>q=p) W1 W4:=by
   rw [<-Ph,<-tQ,<-pD];exact (((Gx.refl (fun q=>q=p) W1).set (.inl rfl) _ _).set (.inl rfl) _ _).set (.inl rfl) _ _
  have GX4:ag _:=Pf.o.trans zU (fun q hq=>.inl hq)
  have R4:RA HR W4 ⟨rp,S,eps,kept,L⟩:=tP.o.1.gx HH.o.kp zU (fun q hq=>by rw [hq];exact tP.o.2)
  have aK:ag (mI HR w W4 eps kept (some ⟨rp,S,eps,kept,L⟩)):=.inr ⟨KE.o,_,rfl,rfl,rfl,by rw [KN.o];exact BR.o,SS.o,R4⟩
  have HE:ag (au HR W4 p (List.replicate j none++some ⟨rp,S,eps,kept,L⟩::rs.drop (j+1)) eps buf (B+iK kept) (W+n)):=by
   rw [show iK kept=1 from if_neg kn];refine ⟨oZ,l2,fun r hr=>?_,HC.o.e0,HC.o.e1,HC.o.b0,HC.o.b1⟩
   rcases List.mem_append.1 hr with q | q
   ·simp at q
   ·rcases List.mem_cons.1 q with q | q
    ·cases q;exact ⟨R4,tP.o.2⟩
    ·obtain ⟨a,b⟩:=Pe.o r (by rw [<-JK.o];exact q)
     exact ⟨a.gx HH.o.kp zU (fun q hq=>by rw [hq];exact b),b⟩
  have wB:IntKind.i64.wrap (B+1)=B+1:=by rw [IntKind.wrap_i64];omega
  have wW:IntKind.i64.wrap (W+(n:Int))=W+n:=by rw [IntKind.wrap_i64];omega
  clear kW n6 oZ l2 zU R4 m1 kn jl;go_wp2_with fail;go_ret;exact ⟨⟨_,rfl,aK.o,HE.o⟩,GX4.o⟩
theorem Pj (o:Option Rn) (w:World):Calls prog 44 #[ptr o] w fun e w'=>e=.returned (.bool o.isSome)/\w'=w:=by
 cases o with
 | none =>
  show Calls prog 44 #[.pointer none] w fun e w'=>e=.returned (.bool false)/\w'=w
  go_enter func44,ntmps44;go_wp2_with fail;go_ret;exact ⟨rfl,rfl⟩
 | some r =>
  show Calls prog 44 #[.pointer (some ⟨r.p,0,none⟩)] w fun e w'=>e=.returned (.bool true)/\w'=w
  generalize r.p=rp;go_enter func44,ntmps44;go_wp2_with fail;go_ret;exact ⟨rfl,rfl⟩
theorem abB {HR:aV} (ao:Option Addr) (c:Nat) (rs:List (Option Rn)) (hl:rs.length<=2000000) (w:World) (h:PR HR w ao rs) :
  Calls prog 72 #[.slice ao rs.length c,.func (.func 44) #[] #[]] w fun e w'=>(∃ x:Int,e=.returned (.int .i64 x)/\(0<=x↔∃ r,some r∈rs))/\w'=w:=by
 have HP:ag (PR HR w ao rs):=h;obtain ⟨n,hn⟩:∃ n,rs.length=n:=⟨_,rfl⟩;have LN:ag (rs.length=n):=hn;rw [hn] at hl ⊢;clear h hn;go_enter func72,ntmps72;go_wp2_with fail;go_loopg [8] n (fun gg s8 wr=>∃ i:Nat,s8=.int .i64 (i:Int)/\i<=n/\n-i<=gg/\wr=w/\ag (∀ j,j<i->rs.getD j none=none))
 case atStart=>exact ⟨0,rfl,Nat.zero_le _,by omega,rfl,(show ag _ from fun j hj=>by omega)⟩
 case round =>
  obtain ⟨i,rfl,a1,a2,hw,N⟩:=hrel;subst hw;by_cases ak:i<n
  ·have dG:(i:Int)<(n:Int):=by omega
   have hi:i<rs.length:=by rw [LN.o];exact ak
   obtain ⟨b,off,rfl,hb,hc⟩:=HP.o.cells (by omega)
   have ci:=hc i hi;clear hc;rcases iJ rs i with e | ⟨r,e⟩
   ·rw [e] at ci
    have cu:wr.cell? ⟨b,off+i,none⟩=some (.pointer none):=ci;have IT:ag (Calls prog 44 #[.pointer none] wr fun e w'=>e=.returned (.bool false)/\w'=wr):=Pj none wr
    have N':ag (∀ j,j<i+1->rs.getD j none=none):=fun j hj=>by
     by_cases x:j=i
     ·subst x;exact e
     ·exact N.o j (by omega)
    clear ci e N hi;go_wp2_with fail;refine Calls.mono IT.o ?_;rintro e w3 ⟨rfl,hw⟩;have cR:wr=w3:=hw.symm;subst cR;go_wp2_with fail;go_roundg (n-(i+1))
    case measure=>omega
    case rel=>exact ⟨i+1,by go_num,by omega,Nat.le_refl _,rfl,N'⟩
   ·rw [e] at ci
    have cu:wr.cell? ⟨b,off+i,none⟩=some (.pointer (some ⟨r.p,0,none⟩)):=ci;have IT:ag (Calls prog 44 #[.pointer (some ⟨r.p,0,none⟩)] wr fun e w'=>e=.returned (.bool true)/\w'=wr):=Pj (some r) wr
    have aK:ag (0<=(i:Int)↔∃ r,some r∈rs):=⟨fun _=>⟨r,jN hi e⟩,fun _=>Int.natCast_nonneg i⟩
    generalize r.p=rp at cu IT;clear ci e N hi;go_wp2_with fail;refine Calls.mono IT.o ?_;rintro e w3 ⟨rfl,hw⟩;have cR:wr=w3:=hw.symm;subst cR;go_wp2_with fail;go_ret;exact ⟨⟨_,rfl,aK.o⟩,rfl⟩
  ·have ei:i=n:=by omega
   subst ei;have aK:ag (0<=(-1:Int)↔∃ r,some r∈rs):=⟨fun x=>by omega,fun ⟨r,hr⟩=>by
    obtain ⟨j,hj,e⟩:=List.mem_iff_getElem.1 hr;have:=N.o j (by rw [<-LN.o];exact hj)
    rw [dL hj,e] at this;cases this⟩
   clear N;go_wp2_with fail;go_ret;exact ⟨⟨_,rfl,aK.o⟩,rfl⟩
theorem abC {HR:aV} (ao:Option Addr) (c:Nat) (rs:List (Option Rn)) (hl:rs.length<=2000000) (w:World) (h:PR HR w ao rs) :
  Calls prog 43 #[.slice ao rs.length c,.func (.func 44) #[] #[]] w fun e w'=>(∃ x:Bool,e=.returned (.bool x)/\(x=true↔∃ r,some r∈rs))/\w'=w:=by
 have IX:ag _:=abB ao c rs hl w h;generalize rs.length=n at IX ⊢;clear h;have wo:ag (∀ (x:Int) (b:Bool),(0<=x↔∃ r,some r∈rs)->b=decide (0<=x)->(b=true↔∃ r,some r∈rs)):=fun x b h e=>by rw [e,<-h];simp
 go_enter func43,ntmps43;go_wp2_with fail;refine Calls.mono IX.o ?_;rintro e w1 ⟨⟨x,rfl,hx⟩,hw⟩;have cR:w=w1:=hw.symm;subst cR;have HX:ag _:=hx;clear hx hw IX;by_cases x0:0<=x
 ·have t:decide (0<=x)=true:=by simpa using x0
  have RR:=wo.o x true HX.o t.symm;have RA:ag _:=RR;clear RR x0;go_wp2_with fail;go_ret;exact ⟨⟨_,rfl,by simpa using RA.o⟩,rfl⟩
 ·have t:decide (0<=x)=false:=by simpa using x0
  have RR:=wo.o x false HX.o t.symm;have RA:ag _:=RR;clear RR x0;go_wp2_with fail;go_ret;exact ⟨⟨_,rfl,by simpa using RA.o⟩,rfl⟩
def mM (p j:Nat):Option Addr:=if j=39 then some ⟨p,2,none⟩ else some ⟨p,2+(j+1),none⟩
theorem au.ab {HR:aV} {w:World} {p:Nat} {rs:List (Option Rn)} {eps buf B W:Int} (h:au HR w p rs eps buf B W) {j:Nat} (hj:j<40):PR HR w (mM p j) (rs.drop (j+1))/\(rs.drop (j+1)).length=39-j:=by
 have l:(rs.drop (j+1)).length=39-j:=by rw [List.length_drop,h.len];omega
 refine ⟨?_,l⟩;unfold mM;by_cases q:j=39
 ·rw [if_pos q]
  exact ⟨fun h0=>by omega,(h.drop (j+1)).runs⟩
 ·rw [if_neg q]
  exact h.drop (j+1)
theorem abD (p j:Nat) (hj:j<40) (w:World) (hp:p<w.heap.size) :
  Calls prog 31 #[.pointer (some ⟨p,0,none⟩),.int .i64 (j:Int)] w fun e w'=>e=.returned (.slice (mM p j) (39-j) (39-j))/\w'=w:=by
 obtain ⟨k,hk⟩:∃ k,j+1=k:=⟨_,rfl⟩;have wk:IntKind.i64.wrap ((j:Int)+1)=(k:Int):=by rw [IntKind.wrap_i64];omega
 by_cases q:j=39
 ·subst q
  subst hk;clear wk;go_enter func31,ntmps31;go_wp2_with fail;go_ret;exact ⟨rfl,rfl⟩
 ·have h1:¬ (40:Int)=(k:Int):=by omega
  have h2:(k:Int)<=40:=by omega
  have h3:¬ (40:Nat)=k:=by omega
  have h4:k<=40:=by omega
  have HK:ag (mM p j=some ⟨p,2+k,none⟩/\39-j=40-k):=by
   refine ⟨?_,by omega⟩
   unfold mM;rw [if_neg q,hk]
  clear hk q;go_enter func31,ntmps31;go_wp2_with fail;go_ret;exact ⟨by rw [HK.o.1,HK.o.2];rfl,rfl⟩
def jh (eps buf:Int) (j:Nat) (up:List (Option Rn)) (o:Option Rn):Bool:=match o with
 | none=>true
 | some r=>decide (0<r.l.length)&&decide ((r.l.length:Int)<=fw buf (j:Int))&&(r.eps == eps)&&r.l.all (aS (bX up))
theorem abE {HR:aV} (H:cV HR) {w:World} {p:Nat} {rs:List (Option Rn)} {eps buf B W:Int} (h:au HR w p rs eps buf B W) (j:Nat) (hj:j<40) :
  Calls prog 45 #[.pointer (some ⟨p,0,none⟩),.int .i64 (j:Int)] w fun e w'=>e=.returned (.bool (jh eps buf j (rs.drop (j+1)) (rs.getD j none)))/\Gw w w':=by
 have cj:=h.cell hj;have hp:=h.lt;have mJ:(j:Int)<40:=by omega
 rcases iJ rs j with e | ⟨r,e⟩
 ·rw [e] at cj ⊢
  have rv:w.cell? ⟨p,2+j,none⟩=some (.pointer none):=cj;show Calls prog 45 _ w fun e w'=>e=.returned (.bool true)/\Gw w w'
  clear h cj e;go_enter func45,ntmps45;go_wp2_with fail;go_ret;exact ⟨rfl,Gw.refl w⟩
 ·have RR:=(h.runs r (jN (by rw [h.len];exact hj) e)).1
  rw [e] at cj ⊢;have rv:w.cell? ⟨p,2+j,none⟩=some (.pointer (some ⟨r.p,0,none⟩)):=cj;have LE:ag _:=H.len RR.h;have HC:ag _:=h;have HH:ag _:=H;have tP:ag _:=RR;obtain ⟨n,hn⟩:∃ n,r.l.length=n:=⟨_,rfl⟩;have few:=RR.few;rw [hn] at LE few;have FB:ag (jh eps buf j (rs.drop (j+1)) (some r)=(decide (0<n)&&decide ((n:Int)<=fw buf (j:Int))&&(r.eps == eps)&&r.l.all (aS (bX (rs.drop (j+1)))))):=by
   show _=_;simp only [jh,hn]
  obtain ⟨A,hA⟩:∃ A,jh eps buf j (rs.drop (j+1)) (some r)=A:=⟨_,rfl⟩;rw [hA] at FB ⊢;obtain ⟨rp,Ev⟩:∃ rp,r.p=rp:=⟨_,rfl⟩;have RP:ag _:=Ev;rw [Ev] at rv LE;obtain ⟨rr,Ew⟩:∃ rr,r.eps=rr:=⟨_,rfl⟩;have REP:ag _:=Ew;rw [Ew] at FB;clear h H RR cj e hn hA Ev Ew;go_enter func45,ntmps45;go_wp2_with fail;refine Calls.mono LE.o ?_;rintro e w1 ⟨rfl,g1⟩;have fL:ag _:=HC.o.gw HH.o.kp g1;have tR:ag _:=tP.o.gw HH.o.kp g1;have G1:ag _:=g1;clear g1 LE HC tP rv;go_upto_region 5 with fail;have p0:=fL.o.lt;have c0:=GX.cell fL.o.c0 p0;have c1:=GX.cell fL.o.c1 p0;obtain ⟨pp,Sp,d0,wv,wC⟩:=HH.o.pile tR.o.h;have pl:=HH.o.lt tR.o.h r.p (HH.o.own tR.o.h);have r0:=GX.cell d0 pl;rw [RP.o] at r0;have PE:ag (∀ g:GX w1,Calls prog 49 #[.pointer (some ⟨pp,0,none⟩)] g.1 fun e w'=>e=.returned (.int .i64 rr)/\Gw g.1 w'):=fun g=>(Dz (wv.keep fun q hq=>g.gw.below.block q (HH.o.lt tR.o.h q (wC q hq)))).mono fun e w' ⟨a,b⟩=>⟨by rw [a,REP.o],by rw [b];exact Gw.refl _⟩
  have MO:ag (∀ g:GX w1,Calls prog 25 #[.int .i64 buf,.int .i64 (j:Int)] g.1 fun e w'=>e=.returned (.int .i64 (fw buf (j:Int)))/\Gw g.1 w'):=fun g=>(O' buf (j:Int) g.1).mono fun e w' ⟨a,b⟩=>⟨a,by rw [b];exact Gw.refl _⟩
  have AB:ag (∀ g:GX w1,Calls prog 31 #[.pointer (some ⟨p,0,none⟩),.int .i64 (j:Int)] g.1 fun e w'=>e=.returned (.slice (mM p j) (39-j) (39-j))/\Gw g.1 w'):=fun g=>(abD p j hj g.1 (Nat.lt_of_lt_of_le p0 g.gw.size)).mono fun e w' ⟨a,b⟩=>⟨a,by rw [b];exact Gw.refl _⟩
  have NE:ag (∀ g:GX w1,Calls prog 73 #[.pointer (some ⟨rp,0,none⟩),.func (.func 32) #[.slice (mM p j) (39-j) (39-j)] #[]] g.1 fun e w'=>e=.returned (.bool (r.l.all (aS (bX (rs.drop (j+1))))))/\Gw g.1 w'):=fun g=>by
   have:=abp HH.o (.slice (mM p j) (39-j) (39-j)) (bX (rs.drop (j+1))) g.1 (tR.o.gw HH.o.kp g.gw) (fun W gg q q0 q1=>by
    have:=OH HH.o (mM p j) (39-j) (rs.drop (j+1)) q q0 q1 (by rw [(fL.o.ab hj).2];omega) W ((fL.o.ab hj).1.gw HH.o.kp (g.gw.trans gg))
    rw [(fL.o.ab hj).2] at this;exact this)
   rw [RP.o] at this;exact this
  generalize r.l.all (aS (bX (rs.drop (j+1))))=nd at FB NE;generalize mM p j=ab at AB NE;generalize 39-j=jn at AB NE;generalize fw buf (j:Int)=mv at FB MO;have ne:=GX.some w1;clear fL tR d0 wv wC pl;by_cases n0:n=0
  ·subst n0
   have e:A=false:=FB.o;subst e;clear FB PE MO AB NE;refine fO (by kernel_rfl) (by kernel_rfl) ?_
   repeat (go_big_quiet_step (fail))
   refine wpQuiet_nil ?_;rintro _ ⟨gw,rfl⟩;have G2:ag _:=G1.o.trans gw.gw;go_wp2_with fail;go_ret;exact ⟨rfl,G2.o⟩
  ·have Pg:0<n:=by omega
   have Ex:decide (0<n)=true:=by simpa using Pg
   by_cases nm:(n:Int)<=mv
   ·have zV:decide ((n:Int)<=mv)=true:=by simpa using nm
    by_cases ee:rr=eps
    ·have Ey:(rr == eps)=true:=by simpa using ee
     have e:A=nd:=by rw [FB.o,Ex,zV,Ey];rfl
     subst e;clear FB ee nm n0;refine fO (by kernel_rfl) (by kernel_rfl) ?_
     repeat (go_big_quiet_step (fail))
     go_big_quiet_want;go_big_quiet_op
     go_big_quiet_call (exact dQ (MO.o _))
     repeat (go_big_quiet_step (fail))
     go_big_quiet_want;go_big_quiet_op
     go_big_quiet_call (exact dQ (PE.o _))
     repeat (go_big_quiet_step (fail))
     go_big_quiet_want;go_big_quiet_op
     go_big_quiet_call (exact dQ (AB.o _))
     repeat (go_big_quiet_step (fail))
     go_big_quiet_want;go_big_quiet_op
     go_big_quiet_call (exact dQ (NE.o _))
     repeat (go_big_quiet_step (fail))
     refine wpQuiet_nil ?_;rintro _ ⟨gw,rfl⟩;have G2:ag _:=G1.o.trans gw.gw;go_wp2_with fail;go_ret;exact ⟨rfl,G2.o⟩
    ·have Ey:(rr == eps)=false:=by simpa using ee
     have e:A=false:=by rw [FB.o,Ex,zV,Ey];rfl
     subst e;clear FB ee nm n0 NE AB;refine fO (by kernel_rfl) (by kernel_rfl) ?_
     repeat (go_big_quiet_step (fail))
     go_big_quiet_want;go_big_quiet_op
     go_big_quiet_call (exact dQ (MO.o _))
     repeat (go_big_quiet_step (fail))
     go_big_quiet_want;go_big_quiet_op
     go_big_quiet_call (exact dQ (PE.o _))
     repeat (go_big_quiet_step (fail))
     refine wpQuiet_nil ?_;rintro _ ⟨gw,rfl⟩;have G2:ag _:=G1.o.trans gw.gw;go_wp2_with fail;go_ret;exact ⟨rfl,G2.o⟩
   ·have zV:decide ((n:Int)<=mv)=false:=by simpa using nm
    have e:A=false:=by rw [FB.o,Ex,zV];rfl
    subst e;clear FB nm n0 NE AB PE;refine fO (by kernel_rfl) (by kernel_rfl) ?_
    repeat (go_big_quiet_step (fail))
    go_big_quiet_want;go_big_quiet_op
    go_big_quiet_call (exact dQ (MO.o _))
    repeat (go_big_quiet_step (fail))
    refine wpQuiet_nil ?_;rintro _ ⟨gw,rfl⟩;have G2:ag _:=G1.o.trans gw.gw;go_wp2_with fail;go_ret;exact ⟨rfl,G2.o⟩
end Go.Proofs.YtklkpldicbkjeaaGreat
