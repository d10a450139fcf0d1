/- Classes in memory: places of runs, and what is newest among them. -/
import Derived.Lib.SliceRun
import Derived.Test.YtemijdhemdhclaaGreatNUPlain
import Derived.Test.YtemijdhemdhclaaGreatNPMem
import Derived.Test.YtemijdhemdhclaaGreatNR1Ans
set_option linter.unusedVariables false
set_option maxHeartbeats 4000000
set_option maxRecDepth 20000
open Go.Proofs.Tryz
namespace Go.Proofs.YtemijdhemdhclaaGreat
open Go.RowKit
abbrev HRt:=World->Nat->(Nat->Prop)->Int->(Nat->Int)->(Nat->Int)->(Nat->Bool)->Nat->List (List Sg)->Prop
structure Kp (HR:HRt):Prop where
 keep:∀ {w w':World} {p:Nat} {S:Nat->Prop} {eps:Int} {k v:Nat->Int} {g:Nat->Bool} {n:Nat} {L:List (List Sg)},HR w p S eps k v g n L->(∀ q,S q->w'.heap[q]?=w.heap[q]?)->HR w' p S eps k v g n L
 lt:∀ {w:World} {p:Nat} {S:Nat->Prop} {eps:Int} {k v:Nat->Int} {g:Nat->Bool} {n:Nat} {L:List (List Sg)},HR w p S eps k v g n L->∀ q,S q->q<w.heap.size
theorem RunC.kp {HR:HRt} (H:RunC HR):Kp HR:=⟨H.keep,H.lt⟩
structure RA (HR:HRt) (w:World) (r:Rn):Prop where
 h:HR w r.p r.S r.eps (ek r.l) (ev r.l) (eg r.l) r.l.length r.L
 ok:EOk r.l
 bd:∀ e∈r.l,e.ok
 few:r.l.length<=2000000
section
variable {HR:HRt} {w w':World}
theorem RA.keep (K:Kp HR) {r:Rn} (h:RA HR w r) (k:∀ q,r.S q->w'.heap[q]?=w.heap[q]?):RA HR w' r:=⟨K.keep h.h k,h.ok,h.bd,h.few⟩
theorem RA.gw (K:Kp HR) {r:Rn} (h:RA HR w r) (g:Gw w w'):RA HR w' r:=h.keep K fun q hq=>g.below.block q (K.lt h.h q hq)
theorem RA.gx (K:Kp HR) {F:Nat->Prop} {r:Rn} (h:RA HR w r) (g:Gx F w w') (d:∀ q,F q->¬ r.S q):RA HR w' r:=h.keep K fun q hq=>g.block q (K.lt h.h q hq) (fun x=>d q x hq)
structure PR (HR:HRt) (w:World) (ao:Option Addr) (rs:List (Option Rn)):Prop where
 cells:0<rs.length->∃ b off,ao=some ⟨b,off,none⟩/\b<w.heap.size/\∀ i,i<rs.length->w.cell? ⟨b,off+i,none⟩=some (ptr (rs.getD i none))
 runs:∀ r,some r∈rs->RA HR w r
theorem PR.gw (K:Kp HR) {ao:Option Addr} {rs:List (Option Rn)} (h:PR HR w ao rs) (g:Gw w w'):PR HR w' ao rs :=
 ⟨fun h0=>by
  obtain ⟨b,off,e,hb,hc⟩:=h.cells h0;exact ⟨b,off,e,Nat.lt_of_lt_of_le hb g.size,fun i hi=>(g.cell _ _ hb).trans (hc i hi)⟩,fun r hr=>(h.runs r hr).gw K g⟩
theorem getD_rs {rs:List (Option Rn)} {i:Nat} (hi:i<rs.length):rs.getD i none=rs[i]:=by simp [List.getD,hi]
theorem drop_rs {rs:List (Option Rn)} {i:Nat} (hi:i<rs.length):rs.drop i=rs.getD i none::rs.drop (i+1):=by rw [getD_rs hi,List.drop_eq_getElem_cons hi]
theorem take_rs {rs:List (Option Rn)} {i:Nat} (hi:i<rs.length):rs.take (i+1)=rs.take i++[rs.getD i none]:=by rw [List.take_add_one,List.getElem?_eq_getElem hi,getD_rs hi];rfl
theorem mem_rs {rs:List (Option Rn)} {i:Nat} {r:Rn} (hi:i<rs.length) (e:rs.getD i none=some r):some r∈rs:=by rw [<-e,getD_rs hi];exact List.getElem_mem hi
theorem cases_rs (rs:List (Option Rn)) (i:Nat):rs.getD i none=none\/∃ r,rs.getD i none=some r:=by cases rs.getD i none with
 | none=>exact .inl rfl
 | some r=>exact .inr ⟨r,rfl⟩
theorem RunC.look (H:RunC HR) {r:Rn} (h:RA HR w r) (q:Int) (q0:0<=q) (q1:q<18446744073709551616) :
  Calls prog 81 #[.pointer (some ⟨r.p,0,none⟩),.int .u64 q] w fun e w'=>e=.returned (.tuple #[(lookV (Go.Proofs.YtemijdhemdhclaaGreat.look Ent.k q r.l)).1,.bool (lookV (Go.Proofs.YtemijdhemdhclaaGreat.look Ent.k q r.l)).2])/\Gw w w':=by
 have:=H.get h.h q q0 q1
 rw [getV_look h.ok.rise] at this;exact this
theorem lookV_form (o:Option Ent):∃ a b c t,lookV o=(.agg #[.int .u64 a,.int .u64 b,.bool c],t)/\t=o.isSome/\liveO o=(t&&!c):=by
 cases o with
 | none=>exact ⟨_,_,_,_,rfl,rfl,rfl⟩
 | some e=>exact ⟨_,_,_,_,rfl,rfl,rfl⟩
end
theorem box_facts {U:World} {b:Nat} {x y:Int} {z:Bool} (h:U.heap[b]?=some (.cells #[.int .u64 x,.int .u64 y,.bool z] 69 (0,0))):U.cell? ⟨b,0,none⟩=some (.int .u64 x)/\U.cell? ⟨b,1,none⟩=some (.int .u64 y)/\U.cell? ⟨b,2,none⟩=some (.bool z)/\U.frozen? ⟨b,0,none⟩=false/\U.frozen? ⟨b,1,none⟩=false/\U.frozen? ⟨b,2,none⟩=false/\b<U.heap.size/\∀ (x' y':Int) (z':Bool),(((U.setCell ⟨b,0,none⟩ (.int .u64 x')).setCell ⟨b,1,none⟩ (.int .u64 y')).setCell ⟨b,2,none⟩ (.bool z')).cell? ⟨b,0,none⟩=some (.int .u64 x')/\(((U.setCell ⟨b,0,none⟩ (.int .u64 x')).setCell ⟨b,1,none⟩ (.int .u64 y')).setCell ⟨b,2,none⟩ (.bool z')).cell? ⟨b,1,none⟩=some (.int .u64 y')/\(((U.setCell ⟨b,0,none⟩ (.int .u64 x')).setCell ⟨b,1,none⟩ (.int .u64 y')).setCell ⟨b,2,none⟩ (.bool z')).cell? ⟨b,2,none⟩=some (.bool z'):=by
 refine ⟨blkc h rfl,blkc h rfl,blkc h rfl,blkf h,blkf h,blkf h,blkl h,fun x' y' z'=>?_⟩
 have st:∀ {w:World} {o:Nat} {vs:Array Value} {t:TypeId} (h:w.heap[b]?=some (.cells vs t (0,0))) (u:Value),(w.setCell ⟨b,o,none⟩ u).heap[b]?=some (.cells (vs.setIfInBounds o u) t (0,0)):=fun h u=>by simp [World.setCell,Array.getElem?_modify,h]
 have h3:=st (o:=2) (st (o:=1) (st (o:=0) h (.int .u64 x')) (.int .u64 y')) (.bool z');exact ⟨blkc h3 rfl,blkc h3 rfl,blkc h3 rfl⟩
theorem newest15 {HR:HRt} (H:RunC HR) (ao:Option Addr) (c:Nat) (rs:List (Option Rn)) (q:Int) (q0:0<=q) (q1:q<18446744073709551616) (hl:rs.length<=2000000) (w:World) (h:PR HR w ao rs) :
  Calls prog 63 #[.slice ao rs.length c,.int .u64 q] w fun e w'=>e=.returned (.tuple #[(lookV (nw q rs)).1,.bool (lookV (nw q rs)).2])/\Gw w w':=by
 have HP:Aside _:=h;have HH:Aside _:=H;obtain ⟨n,hn⟩:∃ n,rs.length=n:=⟨_,rfl⟩;have LN:Aside _:=hn;rw [hn] at hl ⊢;obtain ⟨A,hA⟩:∃ A,lookV (nw q rs)=A:=⟨_,rfl⟩;have RES:Aside _:=hA;rw [hA];clear h H hn hA;obtain ⟨bq,hbq⟩:∃ b,w.heap.size=b:=⟨_,rfl⟩;have BQ:Aside _:=hbq;have B0:Aside (Bxs w [(bq,#[.int .u64 0,.int .u64 0,.bool false],69)] (w.alloc (.cells #[.int .u64 0,.int .u64 0,.bool false] 69))):=by rw [<-hbq];exact (Bxs.nil (Gw.refl w)).add _ _
 clear hbq;go_enter func63,ntmps63;go_wp2_with fail;rw [BQ.out];generalize w.alloc (.cells #[.int .u64 0,.int .u64 0,.bool false] 69)=w1 at B0 ⊢;go_loopg [12] n (fun gg s12 wr=>∃ i:Nat,s12=.int .i64 (i:Int)/\i<=n/\n-i<=gg/\Aside (Bxs w [(bq,#[.int .u64 0,.int .u64 0,.bool false],69)] wr)/\Aside (lookV (nw q (rs.drop i))=A))
 case atStart=>exact ⟨0,rfl,Nat.zero_le _,by omega,B0,(by rw [List.drop_zero];exact RES)⟩
 case round =>
  clear B0 RES;obtain ⟨i,rfl,a1,a2,B,N⟩:=hrel;obtain ⟨wS,hwS⟩:∃ wx,wx=wr:=⟨_,rfl⟩;subst hwS;by_cases hlt:i<n
  ·have hlt':(i:Int)<(n:Int):=by omega
   obtain ⟨b,off,rfl,hb,hc⟩:=(HP.out.gw HH.out.kp B.out.gw0).cells (by rw [LN.out];omega)
   have ci:=hc i (by rw [LN.out];exact hlt)
   have DR:=drop_rs (rs:=rs) (i:=i) (by rw [LN.out];exact hlt)
   clear hc;rcases cases_rs rs i with e | ⟨r,e⟩
   ·rw [e] at ci DR
    have N':Aside (lookV (nw q (rs.drop (i+1)))=A):=by have:=N.out;rw [DR,nw_none] at this;exact this
    have ci':wS.cell? ⟨b,off+i,none⟩=some (.pointer none):=ci;clear ci e DR N;go_wp2_with fail;go_roundg (n-(i+1))
    case measure=>omega
    case rel=>exact ⟨i+1,by go_num,by omega,Nat.le_refl _,B,N'⟩
   ·rw [e] at ci DR
    have ci':wS.cell? ⟨b,off+i,none⟩=some (.pointer (some ⟨r.p,0,none⟩)):=ci;have RR:=(HP.out.runs r (mem_rs (by rw [LN.out];exact hlt) e)).gw HH.out.kp B.out.gw0
    obtain ⟨x,y,z,t,f1,f2,f3⟩:=lookV_form (look Ent.k q r.l);have GT:Hid (Calls prog 81 #[.pointer (some ⟨r.p,0,none⟩),.int .u64 q] wS fun e w'=>e=.returned (.tuple #[.agg #[.int .u64 x,.int .u64 y,.bool z],.bool t])/\Gw wS w'):=by
     have:=HH.out.look RR q q0 q1
     rw [f1] at this;exact this
    have NR:=N.out;rw [DR,nw_some] at NR;have NT:Aside (t=true->A=(.agg #[.int .u64 x,.int .u64 y,.bool z],true)):=fun h=>by
     rw [f2] at h;cases hk:look Ent.k q r.l with
     | none=>rw [hk] at h;cases h
     | some en =>
      rw [<-NR,hk];show lookV (some en)=_;rw [<-hk,f1,f2,h]
    have NF:Aside (t=false->lookV (nw q (rs.drop (i+1)))=A):=fun h=>by
     rw [f2] at h;cases hk:look Ent.k q r.l with
     | none=>rw [hk] at NR;exact NR
     | some en=>rw [hk] at h;cases h
    generalize r.p=rp at ci' GT;clear ci e DR N RR f1 f2 f3 NR;go_wp2_with fail;refine Calls.mono GT.out ?_;rintro e u1 ⟨rfl,gg⟩;have B1:=(B.out.gw gg).add #[.int .u64 x,.int .u64 y,.bool z] 69;obtain ⟨bx,hbx⟩:∃ b,u1.heap.size=b:=⟨_,rfl⟩;have BX:Aside _:=hbx;rw [hbx] at B1;clear gg GT hbx;go_upto_region 6 with fail;rw [BX.out];generalize u1.alloc (.cells #[.int .u64 x,.int .u64 y,.bool z] 69)=U at B1 ⊢;have E0:U.heap[bq]?=some (.cells #[.int .u64 0,.int .u64 0,.bool false] 69 (0,0)):=B1.lie (bq,#[.int .u64 0,.int .u64 0,.bool false],69) (by simp)
    have E1:U.heap[bx]?=some (.cells #[.int .u64 x,.int .u64 y,.bool z] 69 (0,0)):=B1.lie (bx,#[.int .u64 x,.int .u64 y,.bool z],69) (by simp)
    have GU:Aside _:=B1.gw0;cases t with
    | false =>
     have B2:Aside (Bxs w [(bq,#[.int .u64 0,.int .u64 0,.bool false],69)] U):=⟨B1.gw0,fun x hx=>by rw [List.mem_singleton.1 hx];exact E0⟩
     have N':Aside _:=NF.out rfl;clear E0 E1 B1 B NF NT;go_wp2_with fail;go_roundg (n-(i+1))
     case measure=>omega
     case rel=>exact ⟨i+1,by go_num,by omega,Nat.le_refl _,B2,N'⟩
    | true =>
     have e:=NT.out rfl;subst e;obtain ⟨x0,x1,x2,_⟩:=box_facts E1;obtain ⟨m0,m1,m2,z0,z1,z2,bl,TT⟩:=box_facts E0;have T3:=TT x y z;clear E0 E1 B1 B NT NF TT;go_wp2_with fail;exact bodyPost_ret (v:=.tuple #[.agg #[.int .u64 x,.int .u64 y,.bool z],.bool true]) (by simp [results,results63,go_sem,T3.1,T3.2.1,T3.2.2]) rfl ⟨rfl,((GU.out.setCell (Nat.le_of_eq BQ.out) _).setCell (Nat.le_of_eq BQ.out) _).setCell (Nat.le_of_eq BQ.out) _⟩
  ·have ei:i=n:=by omega
   subst ei;have e:A=(.agg #[.int .u64 0,.int .u64 0,.bool false],false):=by
    rw [<-N.out,List.drop_of_length_le (by rw [LN.out];exact Nat.le_refl _)]
    rfl
   subst e;have E0:wS.heap[bq]?=some (.cells #[.int .u64 0,.int .u64 0,.bool false] 69 (0,0)):=B.out.lie (bq,#[.int .u64 0,.int .u64 0,.bool false],69) (by simp)
   have GU:Aside _:=B.out.gw0;obtain ⟨m0,m1,m2,z0,z1,z2,bl,TT⟩:=box_facts E0;have T3:=TT 0 0 false;clear E0 B N TT;go_wp2_with fail;exact bodyPost_ret (v:=.tuple #[.agg #[.int .u64 0,.int .u64 0,.bool false],.bool false]) (by simp [results,results63,go_sem,T3.1,T3.2.1,T3.2.2]) rfl ⟨rfl,((GU.out.setCell (Nat.le_of_eq BQ.out) _).setCell (Nat.le_of_eq BQ.out) _).setCell (Nat.le_of_eq BQ.out) _⟩
theorem live15 {HR:HRt} (H:RunC HR) (ao:Option Addr) (c:Nat) (rs:List (Option Rn)) (q:Int) (q0:0<=q) (q1:q<18446744073709551616) (hl:rs.length<=2000000) (w:World) (h:PR HR w ao rs) :
  Calls prog 70 #[.slice ao rs.length c,.int .u64 q] w fun e w'=>e=.returned (.bool (liveQ rs q))/\Gw w w':=by
 obtain ⟨x,y,z,t,f1,f2,f3⟩:=lookV_form (nw q rs);have NW:Hid (Calls prog 63 #[.slice ao rs.length c,.int .u64 q] w fun e w'=>e=.returned (.tuple #[.agg #[.int .u64 x,.int .u64 y,.bool z],.bool t])/\Gw w w'):=by
  have:=newest15 H ao c rs q q0 q1 hl w h
  rw [f1] at this;exact this
 have LV:liveQ rs q=(t&&!z):=f3;rw [LV];generalize rs.length=n at NW hl ⊢;clear f1 f2 f3 LV h H;cases t with
 | false =>
  go_enter func70,ntmps70;go_wp2_with fail;refine Calls.mono NW.out ?_;rintro e u1 ⟨rfl,gg⟩;have G1:Aside _:=gg;clear gg NW;go_wp2_with fail;go_ret;exact ⟨rfl,G1.out.alloc _ _⟩
 | true =>
  go_enter func70,ntmps70;go_wp2_with fail;refine Calls.mono NW.out ?_;rintro e u1 ⟨rfl,gg⟩;have G1:Aside _:=gg;clear gg NW;go_wp2_with fail;go_ret;exact ⟨rfl,G1.out.alloc _ _⟩
def clsL (eps buf:Int) (rs:List (Option Rn)) (B W:Int):List Value:=.int .i64 eps::.int .i64 buf::(rs.map ptr++[.int .i64 B,.int .i64 W])
structure HCl (HR:HRt) (w:World) (p:Nat) (rs:List (Option Rn)) (eps buf B W:Int):Prop where
 blk:w.heap[p]?=some (.cells (clsL eps buf rs B W).toArray 96 (0,0))
 len:rs.length=40
 runs:∀ r,some r∈rs->RA HR w r/\¬ r.S p
 e0:2<=eps
 e1:eps<=64
 b0:1<=buf
 b1:buf<=4294967296
section
variable {HR:HRt} {w w':World} {p:Nat} {rs:List (Option Rn)} {eps buf B W:Int}
theorem HCl.gw (K:Kp HR) (h:HCl HR w p rs eps buf B W) (g:Gw w w'):HCl HR w' p rs eps buf B W :=
 ⟨(g.below.block p (blkl h.blk)).trans h.blk,h.len,fun r hr=>⟨(h.runs r hr).1.gw K g,(h.runs r hr).2⟩,h.e0,h.e1,h.b0,h.b1⟩
theorem HCl.gx (K:Kp HR) {F:Nat->Prop} (h:HCl HR w p rs eps buf B W) (g:Gx F w w') (np:¬ F p) (d:∀ q,F q->∀ r,some r∈rs->¬ r.S q):HCl HR w' p rs eps buf B W :=
 ⟨(g.block p (blkl h.blk) np).trans h.blk,h.len,fun r hr=>⟨(h.runs r hr).1.gx K g (fun q hq=>d q hq r hr),(h.runs r hr).2⟩,h.e0,h.e1,h.b0,h.b1⟩
theorem HCl.lt (h:HCl HR w p rs eps buf B W):p<w.heap.size:=blkl h.blk
theorem clsL_at {i:Nat} (h:rs.length=40) (hi:i<40):(clsL eps buf rs B W).toArray[2+i]?=some (ptr (rs.getD i none)):=by
 have e:2+i=i+1+1:=by omega
 rw [List.getElem?_toArray,e];show (rs.map ptr++_)[i]?=_;rw [List.getElem?_append_left (by simp;omega),List.getElem?_map,List.getElem?_eq_getElem (by omega),getD_rs (by omega)]
 rfl
theorem clsL_b (h:rs.length=40):(clsL eps buf rs B W).toArray[42]?=some (.int .i64 B)/\(clsL eps buf rs B W).toArray[43]?=some (.int .i64 W):=by
 refine ⟨?_,?_⟩
 ·rw [List.getElem?_toArray]
  show (rs.map ptr++_)[40]?=_;rw [List.getElem?_append_right (by simp [h]),List.length_map,h]
  rfl
 ·rw [List.getElem?_toArray]
  show (rs.map ptr++_)[41]?=_;rw [List.getElem?_append_right (by simp [h]),List.length_map,h]
  rfl
theorem HCl.c0 (h:HCl HR w p rs eps buf B W):w.cell? ⟨p,0,none⟩=some (.int .i64 eps):=blkc h.blk rfl
theorem HCl.c1 (h:HCl HR w p rs eps buf B W):w.cell? ⟨p,1,none⟩=some (.int .i64 buf):=blkc h.blk rfl
theorem HCl.c2 (h:HCl HR w p rs eps buf B W):w.cell? ⟨p,42,none⟩=some (.int .i64 B):=blkc h.blk (clsL_b h.len).1
theorem HCl.c3 (h:HCl HR w p rs eps buf B W):w.cell? ⟨p,43,none⟩=some (.int .i64 W):=blkc h.blk (clsL_b h.len).2
theorem HCl.cell (h:HCl HR w p rs eps buf B W) {i:Nat} (hi:i<40):w.cell? ⟨p,2+i,none⟩=some (ptr (rs.getD i none)):=blkc h.blk (clsL_at h.len hi)
theorem HCl.drop (h:HCl HR w p rs eps buf B W) (j:Nat):PR HR w (some ⟨p,2+j,none⟩) (rs.drop j) :=
 ⟨fun h0=>⟨p,2+j,rfl,h.lt,fun i hi=>by
  have l:=h.len;rw [List.length_drop] at hi;rw [show 2+j+i=2+(j+i) by omega,h.cell (by omega),getD_rs (by omega),getD_rs (by rw [List.length_drop];omega),List.getElem_drop]⟩,fun r hr=>(h.runs r (List.mem_of_mem_drop hr)).1⟩
theorem HCl.take (h:HCl HR w p rs eps buf B W) (j:Nat):PR HR w (some ⟨p,2,none⟩) (rs.take j) :=
 ⟨fun h0=>⟨p,2,rfl,h.lt,fun i hi=>by
  have l:=h.len;rw [List.length_take] at hi;rw [h.cell (by omega),getD_rs (by omega),getD_rs (by rw [List.length_take];omega),List.getElem_take]⟩,fun r hr=>(h.runs r (List.mem_of_mem_take hr)).1⟩
end
theorem above15 {HR:HRt} {w:World} {p:Nat} {rs:List (Option Rn)} {eps buf B W:Int} (h:HCl HR w p rs eps buf B W) (j:Nat) (hj:j<40) :
  Calls prog 69 #[.pointer (some ⟨p,0,none⟩),.int .i64 (j:Int)] w fun e w'=>(∃ ao,e=.returned (.slice ao (rs.drop (j+1)).length (39-j))/\PR HR w ao (rs.drop (j+1)))/\w'=w:=by
 have HD:Aside _:=h.drop (j+1);have LE:Aside ((rs.drop (j+1)).length=39-j):=by show _=_;rw [List.length_drop,h.len];omega
 obtain ⟨k,hk⟩:∃ k,j+1=k:=⟨_,rfl⟩;have hp:=h.lt;have wk:IntKind.i64.wrap ((j:Int)+1)=(k:Int):=by rw [IntKind.wrap_i64];omega
 clear h;by_cases q:j=39
 ·subst q
  have RES:Aside (PR HR w (some ⟨p,2,none⟩) (rs.drop 40)):=⟨fun h0=>by have h1:(rs.drop 40).length=0:=LE.out;omega,HD.out.runs⟩
  subst hk;clear wk;go_enter func69,ntmps69;go_wp2_with fail;go_ret;exact ⟨⟨_,by rw [LE.out];rfl,RES.out⟩,rfl⟩
 ·have h1:¬ (40:Int)=(k:Int):=by omega
  have h2:(k:Int)<=40:=by omega
  have h3:¬ (40:Nat)=k:=by omega
  have h4:k<=40:=by omega
  have HK:Aside _:=hk;clear hk q;go_enter func69,ntmps69;go_wp2_with fail;go_ret;refine ⟨⟨some ⟨p,2+k,none⟩,?_,?_⟩,rfl⟩
  ·rw [LE.out,show 39-j=40-k by have:=HK.out;omega];rfl
  ·have:=HD.out;rw [HK.out] at this ⊢;exact this
def NewOk (eps buf:Int):Prop:=(2<=eps/\eps<=64)/\1<=buf/\buf<=4294967296
theorem new15 {HR:HRt} (eps buf:Int) (w:World) :
  Calls prog 53 #[.int .i64 eps,.int .i64 buf] w fun e w'=>((¬ NewOk eps buf/\e=.returned (.tuple #[.pointer none,.int .i64 1]))\/(NewOk eps buf/\∃ p,e=.returned (.tuple #[.pointer (some ⟨p,0,none⟩),.int .i64 0])/\w.heap.size<=p/\HCl HR w' p (List.replicate 40 none) eps buf 0 0))/\Gw w w':=by
 have NO:(eps<2\/(¬ eps<2/\64<eps)\/(¬ eps<2/\¬ 64<eps/\buf<1)\/(¬ eps<2/\¬ 64<eps/\¬ buf<1/\4294967296<buf))/\¬ NewOk eps buf\/NewOk eps buf:=by
  by_cases h:NewOk eps buf
  ·exact .inr h
  ·refine .inl ⟨?_,h⟩
   unfold NewOk at h;omega
 rcases NO with ⟨a,b⟩ | a
 ·have BB:Aside (¬ NewOk eps buf):=b
  clear b;rcases a with a | ⟨a,b⟩ | ⟨a,b,c⟩ | ⟨a,b,c,d⟩
  ·have t1:decide (eps<2)=true:=by simpa using a
   clear a;go_enter func53,ntmps53;go_wp2_with fail;go_ret2;exact ⟨.inl ⟨BB.out,rfl⟩,Gw.refl w⟩
  ·have t1:decide (eps<2)=false:=by simpa using a
   have t2:decide (64<eps)=true:=by simpa using b
   clear a b;go_enter func53,ntmps53;go_wp2_with fail;go_ret2;exact ⟨.inl ⟨BB.out,rfl⟩,Gw.refl w⟩
  ·have t1:decide (eps<2)=false:=by simpa using a
   have t2:decide (64<eps)=false:=by simpa using b
   have t3:decide (buf<1)=true:=by simpa using c
   clear a b c;go_enter func53,ntmps53;go_wp2_with fail;go_ret2;exact ⟨.inl ⟨BB.out,rfl⟩,Gw.refl w⟩
  ·have t1:decide (eps<2)=false:=by simpa using a
   have t2:decide (64<eps)=false:=by simpa using b
   have t3:decide (buf<1)=false:=by simpa using c
   have t4:decide (4294967296<buf)=true:=by simpa using d
   clear a b c d;go_enter func53,ntmps53;go_wp2_with fail;go_ret2;exact ⟨.inl ⟨BB.out,rfl⟩,Gw.refl w⟩
 ·have AA:Aside (NewOk eps buf):=a
  obtain ⟨⟨a1,a2⟩,a3,a4⟩:=a;have t1:decide (eps<2)=false:=by simpa using a1
  have t2:decide (64<eps)=false:=by simpa using a2
  have t3:decide (buf<1)=false:=by simpa using a3
  have t4:decide (4294967296<buf)=false:=by simpa using a4
  have HC:Aside (HCl HR (w.alloc (.cells (clsL eps buf (List.replicate 40 none) 0 0).toArray 96)) w.heap.size (List.replicate 40 none) eps buf 0 0):=⟨heap_alloc_new w _,by simp,fun r hr=>by simp at hr,a1,a2,a3,a4⟩
  clear a1 a2 a3 a4;go_enter func53,ntmps53;go_wp2_with fail;go_ret2;exact ⟨.inr ⟨AA.out,_,rfl,Nat.le_refl _,HC.out⟩,(Gw.refl w).alloc _ _⟩
theorem index15 {HR:HRt} (ao:Option Addr) (c:Nat) (rs:List (Option Rn)) (hl:rs.length<=2000000) (w:World) (h:PR HR w ao rs) :
  Calls prog 82 #[.slice ao rs.length c,.pointer none] w fun e w'=>e=.returned (.int .i64 (if free rs<rs.length then (free rs:Int) else -1))/\w'=w:=by
 have HP:Aside _:=h;obtain ⟨n,hn⟩:∃ n,rs.length=n:=⟨_,rfl⟩;have LN:Aside _:=hn;rw [hn] at hl ⊢;obtain ⟨A,hA⟩:∃ A,(if free rs<n then (free rs:Int) else -1)=A:=⟨_,rfl⟩
 have RES:Aside _:=hA;rw [hA];clear h hn hA;go_enter func82,ntmps82;go_wp2_with fail;go_loopg [8] n (fun gg s8 wr=>∃ i:Nat,s8=.int .i64 (i:Int)/\i<=n/\n-i<=gg/\wr=w/\Aside (∀ j,j<i->∃ r,rs[j]?=some (some r)))
 case atStart=>exact ⟨0,rfl,Nat.zero_le _,by omega,rfl,(show Aside _ from fun j hj=>by omega)⟩
 case round =>
  obtain ⟨i,rfl,a1,a2,hw,N⟩:=hrel;subst hw;by_cases hlt:i<n
  ·have hlt':(i:Int)<(n:Int):=by omega
   have hi:i<rs.length:=by rw [LN.out];exact hlt
   obtain ⟨b,off,rfl,hb,hc⟩:=HP.out.cells (by omega)
   have ci:=hc i hi;have gi:rs[i]?=some (rs.getD i none):=by rw [getD_rs hi];exact List.getElem?_eq_getElem hi
   clear hc;rcases cases_rs rs i with e | ⟨r,e⟩
   ·rw [e] at ci gi
    have fr:free rs=i:=free_at N.out (.inl gi);have e2:A=(i:Int):=by rw [<-RES.out,fr,if_pos hlt]
    subst e2;have ci':wr.cell? ⟨b,off+i,none⟩=some (.pointer none):=ci;clear ci e gi fr N RES hi;go_wp2_with fail;go_ret;exact ⟨rfl,rfl⟩
   ·rw [e] at ci gi
    have ci':wr.cell? ⟨b,off+i,none⟩=some (.pointer (some ⟨r.p,0,none⟩)):=ci;have N':Aside (∀ j,j<i+1->∃ r,rs[j]?=some (some r)):=fun j hj=>by
     by_cases x:j=i
     ·subst x;exact ⟨r,gi⟩
     ·exact N.out j (by omega)
    generalize r.p=rp at ci';have hq:∀ W:World,(binOp .eql 93 (.pointer none) (.pointer (some ⟨rp,0,none⟩))).run prog W=.ok (.bool false) W:=fun _=>by kernel_rfl
    clear ci e gi N hi;go_wp2_with fail;go_roundg (n-(i+1))
    case measure=>omega
    case rel=>exact ⟨i+1,by go_num,by omega,Nat.le_refl _,rfl,N'⟩
  ·have ei:i=n:=by omega
   subst ei;have fr:free rs=i:=free_at N.out (.inr LN.out);have e2:A=-1:=by rw [<-RES.out,fr,if_neg (Nat.lt_irrefl _)]
   subst e2;clear fr N RES;go_wp2_with fail;go_ret;exact ⟨rfl,rfl⟩
theorem free15 {HR:HRt} {w:World} {p:Nat} {rs:List (Option Rn)} {eps buf B W:Int} (h:HCl HR w p rs eps buf B W) :
  Calls prog 65 #[.pointer (some ⟨p,0,none⟩)] w fun e w'=>e=.returned (.int .i64 (freeC rs:Nat))/\w'=w:=by
 have IX:Hid (Calls prog 82 #[.slice (some ⟨p,2,none⟩) 40 40,.pointer none] w fun e w'=>e=.returned (.int .i64 (if free rs<40 then (free rs:Int) else -1))/\w'=w):=by
  have:=index15 (some ⟨p,2,none⟩) 40 rs (by rw [h.len];omega) w (h.drop 0)
  rw [h.len] at this;exact this
 have hp:=h.lt;clear h;unfold freeC;generalize free rs=f at IX ⊢;by_cases q:f<40
 ·rw [if_pos q] at IX
  have t:decide ((f:Int)<0)=false:=by simp
  have MM:Aside (min f 39=f):=by show _=_;omega
  clear q;go_enter func65,ntmps65;go_wp2_with fail;refine Calls.mono IX.out ?_;rintro e w1 ⟨rfl,rfl⟩;go_wp2_with fail;go_ret;exact ⟨by rw [MM.out];rfl,rfl⟩
 ·rw [if_neg q] at IX
  have MM:Aside (min f 39=39):=by show _=_;omega
  clear q;go_enter func65,ntmps65;go_wp2_with fail;refine Calls.mono IX.out ?_;rintro e w1 ⟨rfl,rfl⟩;go_wp2_with fail;go_ret;exact ⟨by rw [MM.out];rfl,rfl⟩
theorem sift15 (ao:Option Addr) (c:Nat) (l:List Ent) (bd:Value) (p:Int->Bool) (hn:l.length<=2000000) (w:World) (h:EL w ao l) (FB:∀ W,Gw w W->∀ q:Int,0<=q->q<18446744073709551616->Calls prog 70 #[bd,.int .u64 q] W fun e w'=>e=.returned (.bool (p q))/\Gw W w') :
  Calls prog 67 #[.slice ao l.length c,.func (.func 70) #[bd] #[]] w fun e w'=>(∃ bo oc,e=.returned (.slice bo (l.filter (keepP p)).length oc)/\EO w' w.heap.size (.slice bo (l.filter (keepP p)).length oc) (l.filter (keepP p)))/\Gw w w':=by
 have HE:Aside (EL w ao l):=h;have LV:Hid _:=FB;obtain ⟨n,hln⟩:∃ n,l.length=n:=⟨_,rfl⟩;have LN:Aside (l.length=n):=hln;rw [hln] at hn ⊢;clear h hln FB;obtain ⟨ii,hii,hz,hs,hby⟩:=info_parts info_e;go_enter func67,ntmps67;go_wp2_with fail;go_loopg [5,10] n (fun gg s5 s10 wr=>∃ (i m:Nat) (bo:Option Addr) (oc:Nat),s5=.slice bo m oc/\s10=.int .i64 (i:Int)/\i<=n/\n-i<=gg/\m<=i/\Aside (((l.take i).filter (keepP p)).length=m)/\Aside (EO wr w.heap.size (.slice bo m oc) ((l.take i).filter (keepP p)))/\Aside (Gw w wr))
 case atStart=>exact ⟨0,0,none,0,rfl,rfl,Nat.zero_le _,by omega,Nat.le_refl _,(by show _=_;simp),(by show EO _ _ _ _;rw [List.take_zero];exact World.ownsRow_nil w w.heap.size 69 3),(show Aside _ from Gw.refl w)⟩
 case round =>
  obtain ⟨i,m,bo,oc,rfl,rfl,a1,a2,a3,ML,E,G⟩:=hrel;obtain ⟨wS,hwS⟩:∃ wx,wx=wr:=⟨_,rfl⟩;subst hwS;by_cases hlt:i<n
  ·have hlt':(i:Int)<(n:Int):=by omega
   obtain ⟨lb,loff,rfl,hlb,hlc⟩:=(ES.gw HE.out G.out).cells (by rw [LN.out];omega)
   obtain ⟨c0,c1,c2⟩:=hlc i (by rw [LN.out];exact hlt)
   have bd:=HE.out.ok (i:=i) (by rw [LN.out];exact hlt)
   have TK:Aside ((l.take (i+1)).filter (keepP p)=(l.take i).filter (keepP p)++(if keepP p (l.getD i ent0)=true then [l.getD i ent0] else [])):=by
    show _=_;have e:l.take (i+1)=l.take i++[l.getD i ent0]:=by
     rw [List.take_add_one,List.getElem?_eq_getElem (by rw [LN.out];exact hlt),List.getD_eq_getElem?_getD,List.getElem?_eq_getElem (by rw [LN.out];exact hlt)];rfl
    rw [e,List.filter_append,List.filter_cons];split<;>rfl
   obtain ⟨x,hx⟩:∃ x,l.getD i ent0=x:=⟨_,rfl⟩;rw [hx] at c0 c1 c2 TK bd;obtain ⟨xk,xv,xg⟩:=x;obtain ⟨⟨bk0,bk1⟩,_⟩:=bd;have d0:wS.cell? ⟨lb,loff+i*3,none⟩=some (.int .u64 xk):=c0;have d1:wS.cell? ⟨lb,loff+i*3+1,none⟩=some (.int .u64 xv):=c1;have d2:wS.cell? ⟨lb,loff+i*3+2,none⟩=some (.bool xg):=c2;obtain ⟨W1,E1⟩:∃ W1,wS.alloc (.cells #[.int .u64 xk,.int .u64 xv,.bool xg] 69)=W1:=⟨_,rfl⟩;have G1:Aside (Gw wS W1):=by rw [<-E1];exact (Gw.refl wS).alloc _ _
   have b1:W1.heap[wS.heap.size]?=some (.cells #[.int .u64 xk,.int .u64 xv,.bool xg] 69 (0,0)):=by rw [<-E1];exact heap_alloc_new wS _
   have CE:Hid (∀ W,Gw W1 W->W.cell? ⟨wS.heap.size,0,none⟩=some (.int .u64 xk)/\W.cell? ⟨wS.heap.size,1,none⟩=some (.int .u64 xv)/\W.cell? ⟨wS.heap.size,2,none⟩=some (.bool xg)/\wS.heap.size<W.heap.size/\W.ownsRow w.heap.size 69 3 (.slice bo m oc) m (((l.take i).filter (keepP p)).flatMap ent3)):=fun W gg=>by
    have hb:=(gg.below.block _ (blkl b1)).trans b1;refine ⟨blkc hb rfl,blkc hb rfl,blkc hb rfl,blkl hb,?_⟩;have:=eo_gw E.out (G1.out.trans gg);unfold EO at this;rw [ML.out] at this;exact this
   have STAY:Aside (keepP p ⟨xk,xv,xg⟩=false->((l.take (i+1)).filter (keepP p))=(l.take i).filter (keepP p)):=fun q=>by
    rw [TK.out,if_neg (by rw [q];decide),List.append_nil]
   have MORE:Aside (keepP p ⟨xk,xv,xg⟩=true->((l.take (i+1)).filter (keepP p))=(l.take i).filter (keepP p)++[⟨xk,xv,xg⟩]):=fun q=>by
    rw [TK.out,if_pos q]
   obtain ⟨kp,hkp⟩:∃ kp,p xk=kp:=⟨_,rfl⟩;have KP:Aside (keepP p ⟨xk,xv,xg⟩=(!xg||kp)):=by show _=_;rw [<-hkp];rfl
   have LVi:=fun W gg=>LV.out W gg xk bk0 bk1
   rw [hkp] at LVi;have LVH:Hid _:=LVi;have E1H:Hid _:=E1;clear E1;have wz:=G.out.size;have FIN:Hid (∀ (W:World) (v':Value) (w5:World),Gw W1 W->keepP p ⟨xk,xv,xg⟩=true->w5.ownsRow w.heap.size 69 3 v' (m+1) (((l.take i).filter (keepP p)).flatMap ent3++ent3 ⟨xk,xv,xg⟩)->(W.alloc (.cells #[.int .u64 xk,.int .u64 xv,.bool xg] 69)).grownBy w5 (Value.slice bo m oc).ownBlock->EO w5 w.heap.size v' ((l.take (i+1)).filter (keepP p))/\((l.take (i+1)).filter (keepP p)).length=m+1/\Gw w w5):=fun W v' w5 gW q r1 r2=>by
    rw [MORE.out q];refine ⟨eo_more (by rw [ML.out];exact r1),by rw [List.length_append,ML.out];rfl,?_⟩
    exact (((G.out.trans G1.out).trans gW).alloc _ _).grown r2 (fun q hq=>(World.ownsRow.lt (CE.out W gW).2.2.2.2 q hq).1)
   clear hlc c0 c1 c2 hx TK LVi hkp LV;obtain ⟨k0,k1,k2,k3,OW⟩:=CE.out W1 (Gw.refl _);have OWA:Aside _:=OW;clear OW;cases xg with
   | false =>
    go_upto_region 5 with fail;rw [E1H.out]
    go_wp2_with (at_builtin;refine wpList_append_own _ rfl _ _ 59 rfl w.heap.size 69 ii (.agg #[.int .u64 0,.int .u64 0,.bool false]) 3 24 underlying59 hii hz hs hby rfl (by decide) _ m _ rfl (World.ownsRow.alloc OWA.out _) ⟨W1.heap.size,0,none⟩ 1 1 (ent3 ⟨xk,xv,false⟩) rfl rfl (new_ent W1 ⟨xk,xv,false⟩) (ent3_one _) (by simp only [maxLen];omega) (by omega) (by simp;omega) ?_)
    intro v' w5 r1 r2 r3;obtain ⟨b5,cap5,rfl,hb5,_,_⟩:=own_slice r1 (by simpa using r3)
    obtain ⟨f1,f2,f3⟩:=FIN.out W1 _ w5 (Gw.refl _) (by rw [KP.out];rfl) r1 r2
    have E5:Aside _:=f1;have M5:Aside _:=f2;have G5:Aside _:=f3;clear r1 r2 r3 f1 f2 f3 E OWA FIN MORE STAY LVH d0 d1 d2 CE k0 k1 k2;go_wp2_with fail;go_roundg (n-(i+1))
    case measure=>omega
    case rel=>exact ⟨i+1,m+1,_,cap5,rfl,by go_num,by omega,Nat.le_refl _,by omega,M5,E5,G5⟩
   | true =>
    go_upto_region 5 with fail;rw [E1H.out]
    go_wp2_with fail;refine Calls.mono (LVH.out _ (G.out.trans G1.out)) ?_
    rintro e w3 ⟨rfl,g3⟩;have G3:Aside _:=g3;obtain ⟨j0,j1,j2,j3,OW⟩:=CE.out w3 g3;have OWB:Aside _:=OW;have z3:=g3.size;clear g3 OW k0 k1 k2 OWA;cases kp with
    | true =>
     go_wp2_with (at_builtin;refine wpList_append_own _ rfl _ _ 59 rfl w.heap.size 69 ii (.agg #[.int .u64 0,.int .u64 0,.bool false]) 3 24 underlying59 hii hz hs hby rfl (by decide) _ m _ rfl (World.ownsRow.alloc OWB.out _) ⟨w3.heap.size,0,none⟩ 1 1 (ent3 ⟨xk,xv,true⟩) rfl rfl (new_ent w3 ⟨xk,xv,true⟩) (ent3_one _) (by simp only [maxLen];omega) (by omega) (by simp;omega) ?_)
     intro v' w5 r1 r2 r3;obtain ⟨b5,cap5,rfl,hb5,_,_⟩:=own_slice r1 (by simpa using r3)
     obtain ⟨f1,f2,f3⟩:=FIN.out w3 _ w5 G3.out (by rw [KP.out];rfl) r1 r2
     have E5:Aside _:=f1;have M5:Aside _:=f2;have G5:Aside _:=f3;clear r1 r2 r3 f1 f2 f3 E OWB FIN MORE STAY LVH d0 d1 d2 CE j0 j1 j2;go_wp2_with fail;go_roundg (n-(i+1))
     case measure=>omega
     case rel=>exact ⟨i+1,m+1,_,cap5,rfl,by go_num,by omega,Nat.le_refl _,by omega,M5,E5,G5⟩
    | false =>
     have ST:=STAY.out (by rw [KP.out];rfl)
     have E5:Aside (EO w3 w.heap.size (.slice bo m oc) ((l.take (i+1)).filter (keepP p))):=by rw [ST];exact eo_gw E.out (G1.out.trans G3.out)
     have M5:Aside (((l.take (i+1)).filter (keepP p)).length=m):=by rw [ST];exact ML.out
     have G5:Aside _:=(G.out.trans G1.out).trans G3.out;clear ST FIN MORE STAY LVH CE OWB;go_wp2_with fail;go_roundg (n-(i+1))
     case measure=>omega
     case rel=>exact ⟨i+1,m,bo,oc,rfl,by go_num,by omega,Nat.le_refl _,by omega,M5,E5,G5⟩
  ·have ei:i=n:=by omega
   subst ei;have TT:l.take i=l:=List.take_of_length_le (by rw [LN.out];exact Nat.le_refl _)
   rw [TT] at ML E;have ML2:Aside _:=ML;have E2:Aside (EO wS w.heap.size (.slice bo (l.filter (keepP p)).length oc) (l.filter (keepP p))):=by
    rw [ML2.out];exact E.out
   clear ML E TT LV;go_wp2_with fail;refine bodyPost_ret (v:=.slice bo m oc) (by simp [results,results67,go_sem]) rfl ⟨⟨bo,oc,by rw [ML2.out],E2.out⟩,G.out⟩
theorem needs15 {HR:HRt} (H:RunC HR) {r:Rn} (bd:Value) (p:Int->Bool) (w:World) (h:RA HR w r) (FB:∀ W,Gw w W->∀ q:Int,0<=q->q<18446744073709551616->Calls prog 70 #[bd,.int .u64 q] W fun e w'=>e=.returned (.bool (p q))/\Gw W w') :
  Calls prog 77 #[.pointer (some ⟨r.p,0,none⟩),.func (.func 70) #[bd] #[]] w fun e w'=>e=.returned (.bool (r.l.all (keepP p)))/\Gw w w':=by
 have LE:Hid _:=H.len h.h;have AT:Hid (∀ (W:World) (i:Nat),Gw w W->i<r.l.length->Calls prog 87 #[.pointer (some ⟨r.p,0,none⟩),.int .i64 (i:Int)] W fun e w'=>e=.returned (.tuple #[.agg #[.int .u64 (r.l.getD i ent0).k,.int .u64 (r.l.getD i ent0).v,.bool (r.l.getD i ent0).g],.int .i64 0])/\Gw W w'):=fun W i gg hi=>by
  have:=H.at_ (h.gw H.kp gg).h (i:Int) (by omega) (by have:=h.few;omega)
  have e:atV (ek r.l) (ev r.l) (eg r.l) r.l.length (i:Int)=(entV (ek r.l i) (ev r.l i) (eg r.l i),0):=by
   unfold atV;rw [if_pos (by omega)]
   simp
  rw [e] at this;exact this
 have BD:Aside (∀ i,i<r.l.length->(r.l.getD i ent0).ok):=fun i hi=>by rw [getD_lt hi];exact h.bd _ (List.getElem_mem hi)
 have LV:Hid _:=FB;have few:=h.few;clear h H FB;obtain ⟨l,hl⟩:∃ l,r.l=l:=⟨_,rfl⟩;rw [hl] at LE AT BD few ⊢;generalize r.p=rp at LE AT ⊢;clear hl;obtain ⟨n,hn⟩:∃ n,l.length=n:=⟨_,rfl⟩;have LN:Aside _:=hn;rw [hn] at LE few;obtain ⟨A,hA⟩:∃ A,l.all (keepP p)=A:=⟨_,rfl⟩;have RES:Aside _:=hA;rw [hA];clear hn hA;go_enter func77,ntmps77;go_wp2_with fail;refine Calls.mono LE.out ?_;rintro e w1 ⟨rfl,g1⟩;have G1:Aside _:=g1;clear g1 LE;go_wp2_with fail;go_loopg [10] n (fun gg s10 wr=>∃ i:Nat,s10=.int .i64 (i:Int)/\i<=n/\n-i<=gg/\Aside (Gw w wr)/\Aside ((l.drop i).all (keepP p)=A))
 case atStart=>exact ⟨0,rfl,Nat.zero_le _,by omega,G1,RES⟩
 case round =>
  clear G1 RES;obtain ⟨i,rfl,a1,a2,G,N⟩:=hrel;obtain ⟨wS,hwS⟩:∃ wx,wx=wr:=⟨_,rfl⟩;subst hwS;by_cases hlt:i<n
  ·have hlt':(i:Int)<(n:Int):=by omega
   have hl:i<l.length:=by rw [LN.out];exact hlt
   have A1:=AT.out wS i G.out hl;have DR:l.drop i=l.getD i ent0::l.drop (i+1):=by rw [getD_lt hl,List.drop_eq_getElem_cons hl]
   have NN:=N.out;rw [DR,List.all_cons] at NN;obtain ⟨⟨bk0,bk1⟩,_⟩:=BD.out i hl;obtain ⟨x,hx⟩:∃ x,l.getD i ent0=x:=⟨_,rfl⟩;rw [hx] at A1 NN bk0 bk1;obtain ⟨xk,xv,xg⟩:=x;have AH:Hid _:=A1;have LQ:Hid (∀ W,Gw w W->Calls prog 70 #[bd,.int .u64 xk] W fun e w'=>e=.returned (.bool (p xk))/\Gw W w'):=fun W gg=>LV.out W gg xk bk0 bk1
   have NE:Aside _:=NN;have KP:Aside (keepP p ⟨xk,xv,xg⟩=(!xg||p xk)):=rfl
   generalize p xk=kp at LQ KP;clear A1 DR NN bk0 bk1 hx N;go_wp2_with fail;refine Calls.mono AH.out ?_;rintro e u1 ⟨rfl,gg⟩;have G2:Aside (Gw w (u1.alloc (.cells #[.int .u64 xk,.int .u64 xv,.bool xg] 69))):=(G.out.trans gg).alloc _ _;clear gg AH G;cases xg with
   | false =>
    have N':Aside ((l.drop (i+1)).all (keepP p)=A):=by have:=NE.out;rw [KP.out] at this;exact this
    clear NE KP LQ;go_wp2_with fail;go_roundg (n-(i+1))
    case measure=>omega
    case rel=>exact ⟨i+1,by go_num,by omega,Nat.le_refl _,G2,N'⟩
   | true =>
    go_wp2_with fail;refine Calls.mono (LQ.out _ G2.out) ?_
    rintro e u2 ⟨rfl,gg⟩;have G3:Aside _:=G2.out.trans gg;clear gg G2;cases kp with
    | true =>
     have N':Aside ((l.drop (i+1)).all (keepP p)=A):=by have:=NE.out;rw [KP.out] at this;exact this
     clear NE KP LQ;go_wp2_with fail;go_roundg (n-(i+1))
     case measure=>omega
     case rel=>exact ⟨i+1,by go_num,by omega,Nat.le_refl _,G3,N'⟩
    | false =>
     have e:A=false:=by have:=NE.out;rw [KP.out] at this;exact this.symm
     subst e;clear NE KP LQ;go_wp2_with fail;go_ret;exact ⟨rfl,G3.out⟩
  ·have ei:i=n:=by omega
   subst ei;have e:A=true:=by
    rw [<-N.out,List.drop_of_length_le (by rw [LN.out];exact Nat.le_refl _)]
    rfl
   subst e;clear N;go_wp2_with fail;go_ret;exact ⟨rfl,G.out⟩
theorem EL.keep15 {w w':World} {bo:Option Addr} {l:List Ent} (h:EL w bo l) (k:∀ a,bo=some a->0<l.length->w'.heap[a.block]?=w.heap[a.block]?):EL w' bo l :=
 ⟨fun h0=>by
  obtain ⟨b,off,e,hb,hc⟩:=h.cells h0;have kb:=k _ e h0;have hb':b<w'.heap.size:=by
   have kb':w'.heap[b]?=w.heap[b]?:=kb;rw [Array.getElem?_eq_getElem hb] at kb';exact (Array.getElem?_eq_some_iff.1 kb').1
  have eq:∀ o,w'.cell? ⟨b,o,none⟩=w.cell? ⟨b,o,none⟩:=fun o=>World.cell?_of_block (a:=⟨b,o,none⟩) kb
  exact ⟨b,off,e,hb',fun i hi=>⟨(eq _).trans (hc i hi).1,(eq _).trans (hc i hi).2.1,(eq _).trans (hc i hi).2.2⟩⟩,h.bd⟩
structure TL (w:World) (ob:Nat) (vals:List Value) (L:List (List Ent)):Prop where
 len:vals.length=L.length
 row:∀ i,i<L.length->∃ bo c,vals[i]?=some (.slice bo (L.getD i []).length c)/\(L.getD i []).length<=c/\EL w bo (L.getD i [])/\(bo=none->(L.getD i []).length=0/\c=0)/\∀ a,bo=some a->0<(L.getD i []).length->a.block≠ob/\a.block<w.heap.size
theorem TL.gw {w w':World} {ob:Nat} {vals:List Value} {L:List (List Ent)} (h:TL w ob vals L) (g:Gw w w'):TL w' ob vals L :=
 ⟨h.len,fun i hi=>by
  obtain ⟨bo,c,h1,h2,h3,h4,h5⟩:=h.row i hi;exact ⟨bo,c,h1,h2,h3.gw g,h4,fun a e z=>⟨(h5 a e z).1,Nat.lt_of_lt_of_le (h5 a e z).2 g.size⟩⟩⟩
theorem TL.more {w w8:World} {o:Obj} {ob ob':Nat} {vals:List Value} {L:List (List Ent)} {l:List Ent} {bo:Option Addr} {c:Nat} (h:TL w ob vals L) (r2:(w.alloc o).grownBy w8 (some ob)) (o8:ob'=ob\/w.heap.size<=ob') (hc:l.length<=c) (el:EL w bo l) (hn:bo=none->l.length=0/\c=0) (ha:∀ a,bo=some a->0<l.length->a.block≠ob/\a.block<w.heap.size):TL w8 ob' (vals++[.slice bo l.length c]) (L++[l]):=by
 have kp:∀ q,q<w.heap.size->q≠ob->w8.heap[q]?=w.heap[q]?:=fun q hq hn=>(r2.block q (by simp;omega) (fun e=>hn (by cases e;rfl))).trans (heap_alloc_old w _ hq)
 have lt8:∀ q,q<w.heap.size->q≠ob->q<w8.heap.size:=fun q hq hn=>by
  have e:=kp q hq hn;rw [Array.getElem?_eq_getElem hq] at e;exact (Array.getElem?_eq_some_iff.1 e).1
 have mv:∀ (m:List Ent) (bb:Option Addr),EL w bb m->(∀ a,bb=some a->0<m.length->a.block≠ob/\a.block<w.heap.size)->EL w8 bb m/\∀ a,bb=some a->0<m.length->a.block≠ob'/\a.block<w8.heap.size:=fun m bb e hb =>
  ⟨e.keep15 fun a x z=>kp _ (hb a x z).2 (hb a x z).1,fun a x z=>⟨by
   obtain ⟨q1,q2⟩:=hb a x z;rcases o8 with q | q
   ·rw [q];exact q1
   ·omega,lt8 _ (hb a x z).2 (hb a x z).1⟩⟩
 refine ⟨by rw [List.length_append,List.length_append,h.len];rfl,fun i hi=>?_⟩
 by_cases e:i<L.length
 ·obtain ⟨b,c,h1,h2,h3,h4,h5⟩:=h.row i e
  have eg:(L++[l]).getD i []=L.getD i []:=by
   rw [List.getD_eq_getElem?_getD,List.getElem?_append_left e,<-List.getD_eq_getElem?_getD]
  rw [eg];exact ⟨b,c,by rw [List.getElem?_append_left (by rw [h.len];exact e)];exact h1,h2,(mv _ _ h3 h5).1,h4,(mv _ _ h3 h5).2⟩
 ·have ei:i=L.length:=by
   rw [List.length_append] at hi;simp at hi;omega
  subst ei;have eg:(L++[l]).getD L.length []=l:=by simp [List.getD]
  rw [eg];exact ⟨bo,c,by rw [<-h.len];simp,hc,(mv _ _ el ha).1,hn,(mv _ _ el ha).2⟩
theorem TL.ev {w:World} {base ob n oc:Nat} {vals:List Value} {L:List (List Ent)} (h:TL w ob vals L) (o:w.ownsRow base 59 1 (.slice (some ⟨ob,0,none⟩) n oc) n vals) (hn:L.length=n):EV w (some ⟨ob,0,none⟩) L :=
 ⟨fun h0=>⟨ob,0,rfl,(o.lt ob rfl).2,fun i hi=>by
  obtain ⟨bo,c,h1,h2,h3,h4,_⟩:=h.row i hi;refine ⟨bo,c,?_,h2,h3,h4⟩;rw [Nat.zero_add,World.ownsRow.cellAt o i (by omega)]
  exact h1⟩⟩
theorem RunC.told {HR:HRt} (H:RunC HR) {w:World} {r:Rn} (h:RA HR w r) :
  Calls prog 58 #[.pointer (some ⟨r.p,0,none⟩)] w fun e w'=>(∃ bo c,e=.returned (.slice bo r.l.length c)/\EL w' bo r.l/\r.l.length<=c/\(bo=none->r.l.length=0/\c=0)/\∀ a,bo=some a->w.heap.size<=a.block/\a.block<w'.heap.size)/\Gw w w' :=
 (H.list h.h).mono fun e w' ⟨⟨bo,c,he,er⟩,gg⟩=>by
  refine ⟨⟨bo,c,he,er_es er (fun i hi=>by have:=h.bd _ (List.getElem_mem hi);rw [<-getD_lt hi] at this;exact this),?_⟩,gg⟩
  rcases er.2 with ⟨e,z⟩ | ⟨b,cap,cur,e,hb,hh,hc,_⟩
  ·injection e with e1 e2 e3
   subst e1 e3;exact ⟨by omega,(fun _=>⟨z,rfl⟩),fun a x=>(by cases x)⟩
  ·injection e with e1 e2 e3
   subst e1 e3;exact ⟨hc,(fun x=>by cases x),fun a x=>(by cases x;exact ⟨hb,blkl hh⟩)⟩
theorem taken15 {HR:HRt} (H:RunC HR) {w:World} {p:Nat} {rs:List (Option Rn)} {eps buf B W:Int} (h:HCl HR w p rs eps buf B W) (ao:Option Addr) (c:Nat) (l:List Ent) (hl:EL w ao l) (hc:l.length<=c) (hz:ao=none->l.length=0/\c=0) (j:Nat) (hj:j<40) :
  Calls prog 66 #[.pointer (some ⟨p,0,none⟩),.slice ao l.length c,.int .i64 (j:Int)] w fun e w'=>(∃ ob m oc,e=.returned (.slice (some ⟨ob,0,none⟩) m oc)/\EV w' (some ⟨ob,0,none⟩) (l::lists (rs.take (j+1)))/\(l::lists (rs.take (j+1))).length=m/\m<=oc/\w.heap.size<=ob)/\Gw w w':=by
 have HC:Aside (HCl HR w p rs eps buf B W):=h;have HH:Aside (RunC HR):=H;obtain ⟨n,hn⟩:∃ n,j+1=n:=⟨_,rfl⟩;have wn:IntKind.i64.wrap ((j:Int)+1)=(n:Int):=by rw [IntKind.wrap_i64];omega
 have n40:n<=40:=by omega
 have n40':(n:Int)<=40:=by omega
 rw [hn];obtain ⟨jj,hjj,jz,js,jby⟩:=info_parts info_es13;have R1:Aside ((w.alloc (.cells #[.slice ao l.length c] 59)).ownsRow w.heap.size 59 1 (.slice (some ⟨w.heap.size,0,none⟩) 1 1) 1 [.slice ao l.length c]):=⟨rfl,.inr ⟨w.heap.size,1,_,rfl,Nat.le_refl _,heap_alloc_new w _,Nat.le_refl _,(by decide),rfl,rfl⟩⟩
 have K1:Aside (TL (w.alloc (.cells #[.slice ao l.length c] 59)) w.heap.size [.slice ao l.length c] (l::lists (rs.take 0))):=by
  refine ⟨rfl,fun i hi=>?_⟩
  have hi':i<1:=hi;have e:i=0:=by omega
  subst e;refine ⟨ao,c,rfl,hc,hl.gw ((Gw.refl w).alloc _ _),hz,fun a e z=>?_⟩
  obtain ⟨b,off,e',hb,_⟩:=hl.cells z;rw [e] at e';cases e';exact ⟨Nat.ne_of_lt hb,Nat.lt_of_lt_of_le hb ((Gw.refl w).alloc _ _).size⟩
 have G1:Aside (Gw w (w.alloc (.cells #[.slice ao l.length c] 59))):=(Gw.refl w).alloc _ _;have hp:=h.lt;obtain ⟨ll,hll⟩:∃ ll,l.length=ll:=⟨_,rfl⟩;rw [hll] at R1 K1 G1 ⊢;clear h H hl hc hz hn hll;go_enter func66,ntmps66;go_wp2_with fail;generalize w.alloc (.cells #[.slice ao ll c] 59)=w1 at R1 K1 G1 ⊢;go_loopg [7,19] n (fun gg s7 s19 wr=>∃ (i m ob oc:Nat) (vals:List Value),s7=.slice (some ⟨ob,0,none⟩) m oc/\s19=.int .i64 (i:Int)/\i<=n/\n-i<=gg/\m<=i+1/\Aside ((l::lists (rs.take i)).length=m)/\Aside (wr.ownsRow w.heap.size 59 1 (.slice (some ⟨ob,0,none⟩) m oc) m vals)/\Aside (TL wr ob vals (l::lists (rs.take i)))/\Aside (Gw w wr))
 case atStart=>exact ⟨0,1,w.heap.size,1,_,rfl,rfl,Nat.zero_le _,by omega,Nat.le_refl _,(by show _=_;rfl),R1,K1,G1⟩
 case round =>
  clear R1 K1 G1;obtain ⟨i,m,ob,oc,vals,rfl,rfl,a1,a2,a3,ML,R,KK,G⟩:=hrel;obtain ⟨wS,hwS⟩:∃ wx,wx=wr:=⟨_,rfl⟩;subst hwS;by_cases hlt:i<n
  ·have hlt':(i:Int)<(n:Int):=by omega
   have ci:=(HC.out.gw HH.out.kp G.out).cell (i:=i) (by omega)
   have pl:p<wS.heap.size:=Nat.lt_of_lt_of_le HC.out.lt G.out.size;have TK:=take_rs (rs:=rs) (i:=i) (by rw [HC.out.len];omega)
   rcases cases_rs rs i with e | ⟨r,e⟩
   ·rw [e] at ci TK
    have ci':wS.cell? ⟨p,2+i,none⟩=some (.pointer none):=ci;have LI:lists (rs.take (i+1))=lists (rs.take i):=by rw [TK,lists_app];exact List.append_nil _
    have ML':Aside ((l::lists (rs.take (i+1))).length=m):=by rw [LI];exact ML
    have KK':Aside (TL wS ob vals (l::lists (rs.take (i+1)))):=by rw [LI];exact KK
    clear ci e TK LI ML KK;go_wp2_with fail;go_roundg (n-(i+1))
    case measure=>omega
    case rel=>exact ⟨i+1,m,ob,oc,vals,rfl,by go_num,by omega,Nat.le_refl _,by omega,ML',R,KK',G⟩
   ·rw [e] at ci TK
    have ci':wS.cell? ⟨p,2+i,none⟩=some (.pointer (some ⟨r.p,0,none⟩)):=ci;have LI:Aside (l::lists (rs.take (i+1))=(l::lists (rs.take i))++[r.l]):=by show _=_;rw [TK,lists_app];rfl
    have LT:Hid (Calls prog 58 #[.pointer (some ⟨r.p,0,none⟩)] wS fun e w'=>(∃ bo c,e=.returned (.slice bo r.l.length c)/\EL w' bo r.l/\r.l.length<=c/\(bo=none->r.l.length=0/\c=0)/\∀ a,bo=some a->wS.heap.size<=a.block/\a.block<w'.heap.size)/\Gw wS w'):=HH.out.told ((HC.out.runs r (mem_rs (by rw [HC.out.len];omega) e)).1.gw HH.out.kp G.out)
    generalize r.p=rp at ci' LT;generalize r.l=rl at LI LT;clear ci e TK;go_wp2_with fail;refine Calls.mono LT.out ?_;rintro e u1 ⟨⟨bo,cc,rfl,el,hcc,hno,hbl⟩,gg⟩;have obl:=(R.out.lt ob rfl).2;have ELA:Aside (EL u1 bo rl/\rl.length<=cc/\(bo=none->rl.length=0/\cc=0)/\∀ a,bo=some a->0<rl.length->a.block≠ob/\a.block<u1.heap.size):=⟨el,hcc,hno,fun a x _=>⟨by have:=(hbl a x).1;omega,(hbl a x).2⟩⟩
    have R6:Aside (u1.ownsRow w.heap.size 59 1 (.slice (some ⟨ob,0,none⟩) m oc) m vals):=orow13' R.out gg;have K6:Aside (TL u1 ob vals (l::lists (rs.take i))):=KK.out.gw gg;have G6:Aside (Gw w u1):=G.out.trans gg;have wz:=G6.out.size;obtain ⟨rn,hrn⟩:∃ rn,rl.length=rn:=⟨_,rfl⟩;have RN:Aside (rl.length=rn):=hrn;rw [hrn];clear gg el hcc hno hbl R KK LT hrn;go_wp2_with (at_builtin;refine wpList_append_own_at _ rfl _ _ 113 rfl w.heap.size 59 jj (.slice none 0 0) 1 24 underlying113 hjj jz js jby rfl (by decide) _ m _ rfl (R6.out.alloc _) ⟨u1.heap.size,0,none⟩ 1 1 [(.slice bo rn cc)] rfl rfl (new_v13' u1 (.slice bo rn cc) 59) (fun u hu=>by simp at hu;subst hu;rfl) (by simp only [maxLen];omega) (by omega) (by simp;omega) ?_)
    intro v' w8 r1 r2 r3 r4;obtain ⟨b8,cap8,rfl,hb8,_,_⟩:=own_slice r1 (by simpa using r3)
    have ob8:b8=ob\/u1.heap.size<=b8:=by
     rcases r4 with q | q
     ·have q':b8=ob:=by simpa [Value.ownBlock] using q
      exact .inl q'
     ·have q':b8=u1.heap.size+1:=by simpa [Value.ownBlock] using q
      exact .inr (by omega)
    have r2':(u1.alloc (.cells #[(.slice bo rn cc)] 59)).grownBy w8 (some ob):=r2;have K8:Aside (TL w8 b8 (vals++[(.slice bo rn cc)]) (l::lists (rs.take (i+1)))):=by
     rw [LI.out];have:=K6.out.more r2' ob8 ELA.out.2.1 ELA.out.1 ELA.out.2.2.1 ELA.out.2.2.2;rw [RN.out] at this;exact this
    have G8:Aside (Gw w w8):=(G6.out.alloc _ _).grown r2 (fun q hq=>(World.ownsRow.lt R6.out q hq).1)
    have R8:Aside (w8.ownsRow w.heap.size 59 1 (.slice (some ⟨b8,0,none⟩) (m+1) cap8) (m+1) (vals++[(.slice bo rn cc)])):=r1;have ML':Aside ((l::lists (rs.take (i+1))).length=m+1):=by show _=_;rw [LI.out,List.length_append,ML.out];rfl
    clear r1 r2 r3 r4 r2' hb8 R6 K6 G6 ELA;go_wp2_with fail;go_roundg (n-(i+1))
    case measure=>omega
    case rel=>exact ⟨i+1,m+1,b8,cap8,_,rfl,by go_num,by omega,Nat.le_refl _,by omega,ML',R8,K8,G8⟩
  ·have ei:i=n:=by omega
   subst ei;have X1:Aside (EV wS (some ⟨ob,0,none⟩) (l::lists (rs.take i))):=KK.out.ev R.out ML.out;have moc:m<=oc:=(own_slice R.out (by simp)).elim fun _ ⟨_,ev,_,h,_⟩=>by cases ev;exact h
   have obl:w.heap.size<=ob:=(R.out.lt ob rfl).1;clear R KK;go_wp2_with fail;go_ret;exact ⟨⟨ob,m,oc,rfl,X1.out,ML.out,moc,obl⟩,G.out⟩
structure HV (w:World) (ao:Option Addr) (L:List (List Ent)):Prop where
 cells:0<L.length->∃ b off,ao=some ⟨b,off,none⟩/\b<w.heap.size/\∀ i,i<L.length->∃ bo c,w.cell? ⟨b,off+i,none⟩=some (.slice bo (L.getD i []).length c)
theorem EV.hv {w:World} {ao:Option Addr} {L:List (List Ent)} (h:EV w ao L):HV w ao L :=
 ⟨fun h0=>by
  obtain ⟨b,off,e,hb,hc⟩:=h.cells h0;exact ⟨b,off,e,hb,fun i hi=>by obtain ⟨bo,c,c1,_⟩:=hc i hi;exact ⟨bo,c,c1⟩⟩⟩
theorem HV.gx {F:Nat->Prop} {w w':World} {b:Nat} {L:List (List Ent)} (h:HV w (some ⟨b,0,none⟩) L) (g:Gx F w w') (hb:¬ F b):HV w' (some ⟨b,0,none⟩) L :=
 ⟨fun h0=>by
  obtain ⟨b',off,e,hb',hc⟩:=h.cells h0;cases e;have eq:∀ o,w'.cell? ⟨b,o,none⟩=w.cell? ⟨b,o,none⟩:=fun o=>World.cell?_of_block (a:=⟨b,o,none⟩) (g.block b hb' hb)
  exact ⟨b,0,rfl,Nat.lt_of_lt_of_le hb' g.size,fun i hi=>by obtain ⟨bo,c,c1⟩:=hc i hi;exact ⟨bo,c,(eq _).trans c1⟩⟩⟩
theorem together15 (ao:Option Addr) (c:Nat) (L:List (List Ent)) (hL:L.length<=2000000) (hs:sizes L<=2000000) (w:World) (h:HV w ao L) :
  Calls prog 72 #[.slice ao L.length c] w fun e w'=>e=.returned (.int .i64 (sizes L:Nat))/\w'=w:=by
 have HE:Aside _:=h;obtain ⟨n,hn⟩:∃ n,L.length=n:=⟨_,rfl⟩;have LN:Aside _:=hn;have HS:Aside _:=hs;obtain ⟨S,hS⟩:∃ S,sizes L=S:=⟨_,rfl⟩;have SS:Aside _:=hS;rw [hS];rw [hn] at hL ⊢;clear h hn hs hS;have TOT:Hid (∀ i,i<L.length->sizes (L.take (i+1))=sizes (L.take i)+(L.getD i []).length/\sizes (L.take (i+1))<=sizes L):=fun i hi=>by
  have e:L.take (i+1)=L.take i++[L.getD i []]:=by
   rw [List.take_add_one,List.getElem?_eq_getElem hi,List.getD_eq_getElem?_getD,List.getElem?_eq_getElem hi];rfl
  have f:sizes (L.take (i+1))+sizes (L.drop (i+1))=sizes L:=by rw [<-sizes_app,List.take_append_drop]
  refine ⟨by rw [e,sizes_app];simp [sizes],by omega⟩
 go_enter func72,ntmps72;go_wp2_with fail;go_loopg [3,8] n (fun gg s3 s8 wr=>∃ i t:Nat,s3=.int .i64 (t:Int)/\s8=.int .i64 (i:Int)/\i<=n/\n-i<=gg/\t<=2000000/\Aside (sizes (L.take i)=t)/\wr=w)
 case atStart=>exact ⟨0,0,rfl,rfl,Nat.zero_le _,by omega,by omega,(by show _=_;rfl),rfl⟩
 case round =>
  obtain ⟨i,t,rfl,rfl,a1,a2,a3,T,hw⟩:=hrel;subst hw;by_cases hlt:i<n
  ·have hlt':(i:Int)<(n:Int):=by omega
   have hi:i<L.length:=by rw [LN.out];exact hlt
   obtain ⟨b,off,rfl,hb,hc⟩:=HE.out.cells (by omega)
   obtain ⟨bo,cc,c1⟩:=hc i hi;obtain ⟨t1,t2⟩:=TOT.out i hi;rw [T.out] at t1;have t3:=HS.out;obtain ⟨m,hm⟩:∃ m,(L.getD i []).length=m:=⟨_,rfl⟩;rw [hm] at c1 t1;have T':Aside _:=t1;have tm:t+m<=2000000:=by omega
   clear hc t1 t2 t3 hm T hi;go_wp2_with fail;go_roundg (n-(i+1))
   case measure=>omega
   case rel=>exact ⟨i+1,t+m,by go_num,by go_num,by omega,Nat.le_refl _,tm,T',rfl⟩
  ·have ei:i=n:=by omega
   subst ei;have e:S=t:=by rw [<-SS.out,<-T.out,List.take_of_length_le (by rw [LN.out];exact Nat.le_refl _)]
   subst e;clear T SS;go_wp2_with fail;go_ret;exact ⟨rfl,rfl⟩
end Go.Proofs.YtemijdhemdhclaaGreat
