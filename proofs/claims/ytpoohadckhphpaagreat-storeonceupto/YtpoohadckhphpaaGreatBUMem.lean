/- Classes in memory: places of runs, and what is newest among them. -/
import Derived.Lib.SliceRun
import Derived.Test.YtpoohadckhphpaaGreatBUPlain
import Derived.Test.YtpoohadckhphpaaGreatBPMem
set_option linter.unusedVariables false
set_option maxHeartbeats 4000000
set_option maxRecDepth 10000
open Go.Proofs.Tryz
namespace Go.Proofs.YtpoohadckhphpaaGreat
open Go.RowKit
abbrev HRt:=World->Nat->(Nat->Prop)->Int->(Nat->Int)->(Nat->Int)->(Nat->Bool)->Nat->List (List Sg)->Prop
structure Kp (HR:HRt):Prop where
 keep:∀ {w w':World} {p:Nat} {S:Nat->Prop} {eps:Int} {k v:Nat->Int} {g:Nat->Bool} {n:Nat} {L:List (List Sg)},HR w p S eps k v g n L->(∀ q,S q->w'.heap[q]?=w.heap[q]?)->HR w' p S eps k v g n L
 lt:∀ {w:World} {p:Nat} {S:Nat->Prop} {eps:Int} {k v:Nat->Int} {g:Nat->Bool} {n:Nat} {L:List (List Sg)},HR w p S eps k v g n L->∀ q,S q->q<w.heap.size
theorem RunC.kp {HR:HRt} (H:RunC HR):Kp HR:=⟨H.keep,H.lt⟩
structure RA (HR:HRt) (w:World) (r:Rn):Prop where
 h:HR w r.p r.S r.eps (ek r.l) (ev r.l) (eg r.l) r.l.length r.L
 ok:EOk r.l
 bd:∀ e∈r.l,e.ok
 few:r.l.length<=2000000
section
variable {HR:HRt} {w w':World}
theorem RA.keep (K:Kp HR) {r:Rn} (h:RA HR w r) (k:∀ q,r.S q->w'.heap[q]?=w.heap[q]?):RA HR w' r:=⟨K.keep h.h k,h.ok,h.bd,h.few⟩
theorem RA.gw (K:Kp HR) {r:Rn} (h:RA HR w r) (g:Gw w w'):RA HR w' r:=h.keep K fun q hq=>g.below.block q (K.lt h.h q hq)
theorem RA.gx (K:Kp HR) {F:Nat->Prop} {r:Rn} (h:RA HR w r) (g:Gx F w w') (d:∀ q,F q->¬ r.S q):RA HR w' r:=h.keep K fun q hq=>g.block q (K.lt h.h q hq) (fun x=>d q x hq)
structure PR (HR:HRt) (w:World) (ao:Option Addr) (rs:List (Option Rn)):Prop where
 cells:0<rs.length->∃ b off,ao=some ⟨b,off,none⟩/\b<w.heap.size/\∀ i,i<rs.length->w.cell? ⟨b,off+i,none⟩=some (ptr (rs.getD i none))
 runs:∀ r,some r∈rs->RA HR w r
theorem PR.gw (K:Kp HR) {ao:Option Addr} {rs:List (Option Rn)} (h:PR HR w ao rs) (g:Gw w w'):PR HR w' ao rs :=
 ⟨fun h0=>by
  obtain ⟨b,off,e,hb,hc⟩:=h.cells h0;exact ⟨b,off,e,Nat.lt_of_lt_of_le hb g.size,fun i hi=>(g.cell _ _ hb).trans (hc i hi)⟩,fun r hr=>(h.runs r hr).gw K g⟩
theorem getD_rs {rs:List (Option Rn)} {i:Nat} (hi:i<rs.length):rs.getD i none=rs[i]:=by simp [List.getD,hi]
theorem drop_rs {rs:List (Option Rn)} {i:Nat} (hi:i<rs.length):rs.drop i=rs.getD i none::rs.drop (i+1):=by rw [getD_rs hi,List.drop_eq_getElem_cons hi]
theorem take_rs {rs:List (Option Rn)} {i:Nat} (hi:i<rs.length):rs.take (i+1)=rs.take i++[rs.getD i none]:=by rw [List.take_add_one,List.getElem?_eq_getElem hi,getD_rs hi];rfl
theorem mem_rs {rs:List (Option Rn)} {i:Nat} {r:Rn} (hi:i<rs.length) (e:rs.getD i none=some r):some r∈rs:=by rw [<-e,getD_rs hi];exact List.getElem_mem hi
theorem cases_rs (rs:List (Option Rn)) (i:Nat):rs.getD i none=none\/∃ r,rs.getD i none=some r:=by cases rs.getD i none with
 | none=>exact .inl rfl
 | some r=>exact .inr ⟨r,rfl⟩
theorem RunC.look (H:RunC HR) {r:Rn} (h:RA HR w r) (q:Int) (q0:0<=q) (q1:q<18446744073709551616) :
  Calls prog 150 #[.pointer (some ⟨r.p,0,none⟩),.int .u64 q] w fun e w'=>e=.returned (.tuple #[(lookV (Go.Proofs.YtpoohadckhphpaaGreat.look Ent.k q r.l)).1,.bool (lookV (Go.Proofs.YtpoohadckhphpaaGreat.look Ent.k q r.l)).2])/\Gw w w':=by
 have:=H.get h.h q q0 q1
 rw [getV_look h.ok.rise] at this;exact this
theorem lookV_form (o:Option Ent):∃ a b c t,lookV o=(.agg #[.int .u64 a,.int .u64 b,.bool c],t)/\t=o.isSome/\liveO o=(t&&!c):=by
 cases o with
 | none=>exact ⟨_,_,_,_,rfl,rfl,rfl⟩
 | some e=>exact ⟨_,_,_,_,rfl,rfl,rfl⟩
end
theorem box_facts {U:World} {b:Nat} {x y:Int} {z:Bool} (h:U.heap[b]?=some (.cells #[.int .u64 x,.int .u64 y,.bool z] 81 (0,0))):U.cell? ⟨b,0,none⟩=some (.int .u64 x)/\U.cell? ⟨b,1,none⟩=some (.int .u64 y)/\U.cell? ⟨b,2,none⟩=some (.bool z)/\U.frozen? ⟨b,0,none⟩=false/\U.frozen? ⟨b,1,none⟩=false/\U.frozen? ⟨b,2,none⟩=false/\b<U.heap.size/\∀ (x' y':Int) (z':Bool),(((U.setCell ⟨b,0,none⟩ (.int .u64 x')).setCell ⟨b,1,none⟩ (.int .u64 y')).setCell ⟨b,2,none⟩ (.bool z')).cell? ⟨b,0,none⟩=some (.int .u64 x')/\(((U.setCell ⟨b,0,none⟩ (.int .u64 x')).setCell ⟨b,1,none⟩ (.int .u64 y')).setCell ⟨b,2,none⟩ (.bool z')).cell? ⟨b,1,none⟩=some (.int .u64 y')/\(((U.setCell ⟨b,0,none⟩ (.int .u64 x')).setCell ⟨b,1,none⟩ (.int .u64 y')).setCell ⟨b,2,none⟩ (.bool z')).cell? ⟨b,2,none⟩=some (.bool z'):=by
 refine ⟨blkc h rfl,blkc h rfl,blkc h rfl,blkf h,blkf h,blkf h,blkl h,fun x' y' z'=>?_⟩
 have st:∀ {w:World} {o:Nat} {vs:Array Value} {t:TypeId} (h:w.heap[b]?=some (.cells vs t (0,0))) (u:Value),(w.setCell ⟨b,o,none⟩ u).heap[b]?=some (.cells (vs.setIfInBounds o u) t (0,0)):=fun h u=>by simp [World.setCell,Array.getElem?_modify,h]
 have h3:=st (o:=2) (st (o:=1) (st (o:=0) h (.int .u64 x')) (.int .u64 y')) (.bool z');exact ⟨blkc h3 rfl,blkc h3 rfl,blkc h3 rfl⟩
theorem newest15 {HR:HRt} (H:RunC HR) (ao:Option Addr) (c:Nat) (rs:List (Option Rn)) (q:Int) (q0:0<=q) (q1:q<18446744073709551616) (hl:rs.length<=2000000) (w:World) (h:PR HR w ao rs) :
  Calls prog 114 #[.slice ao rs.length c,.int .u64 q] w fun e w'=>e=.returned (.tuple #[(lookV (nw q rs)).1,.bool (lookV (nw q rs)).2])/\Gw w w':=by
 have HP:Aside _:=h;have HH:Aside _:=H;obtain ⟨n,hn⟩:∃ n,rs.length=n:=⟨_,rfl⟩;have LN:Aside _:=hn;rw [hn] at hl ⊢;obtain ⟨A,hA⟩:∃ A,lookV (nw q rs)=A:=⟨_,rfl⟩;have RES:Aside _:=hA;rw [hA];clear h H hn hA;obtain ⟨bq,hbq⟩:∃ b,w.heap.size=b:=⟨_,rfl⟩;have BQ:Aside _:=hbq;have B0:Aside (Bxs w [(bq,#[.int .u64 0,.int .u64 0,.bool false],81)] (w.alloc (.cells #[.int .u64 0,.int .u64 0,.bool false] 81))):=by rw [<-hbq];exact (Bxs.nil (Gw.refl w)).add _ _
 clear hbq;go_enter func114,ntmps114;go_wp2_with fail;rw [BQ.out];generalize w.alloc (.cells #[.int .u64 0,.int .u64 0,.bool false] 81)=w1 at B0 ⊢;go_loopg [12] n (fun gg s12 wr=>∃ i:Nat,s12=.int .i64 (i:Int)/\i<=n/\n-i<=gg/\Aside (Bxs w [(bq,#[.int .u64 0,.int .u64 0,.bool false],81)] wr)/\Aside (lookV (nw q (rs.drop i))=A))
 case atStart=>exact ⟨0,rfl,Nat.zero_le _,by omega,B0,(by rw [List.drop_zero];exact RES)⟩
 case round =>
  clear B0 RES;obtain ⟨i,rfl,a1,a2,B,N⟩:=hrel;obtain ⟨wS,hwS⟩:∃ wx,wx=wr:=⟨_,rfl⟩;subst hwS;by_cases hlt:i<n
  ·have hlt':(i:Int)<(n:Int):=by omega
   obtain ⟨b,off,rfl,hb,hc⟩:=(HP.out.gw HH.out.kp B.out.gw0).cells (by rw [LN.out];omega)
   have ci:=hc i (by rw [LN.out];exact hlt)
   have DR:=drop_rs (rs:=rs) (i:=i) (by rw [LN.out];exact hlt)
   clear hc;rcases cases_rs rs i with e | ⟨r,e⟩
   ·rw [e] at ci DR
    have N':Aside (lookV (nw q (rs.drop (i+1)))=A):=by have:=N.out;rw [DR,nw_none] at this;exact this
    have ci':wS.cell? ⟨b,off+i,none⟩=some (.pointer none):=ci;clear ci e DR N;go_wp2_with fail;go_roundg (n-(i+1))
    case measure=>omega
    case rel=>exact ⟨i+1,by go_num,by omega,Nat.le_refl _,B,N'⟩
   ·rw [e] at ci DR
    have ci':wS.cell? ⟨b,off+i,none⟩=some (.pointer (some ⟨r.p,0,none⟩)):=ci;have RR:=(HP.out.runs r (mem_rs (by rw [LN.out];exact hlt) e)).gw HH.out.kp B.out.gw0
    obtain ⟨x,y,z,t,f1,f2,f3⟩:=lookV_form (look Ent.k q r.l);have GT:Hid (Calls prog 150 #[.pointer (some ⟨r.p,0,none⟩),.int .u64 q] wS fun e w'=>e=.returned (.tuple #[.agg #[.int .u64 x,.int .u64 y,.bool z],.bool t])/\Gw wS w'):=by
     have:=HH.out.look RR q q0 q1
     rw [f1] at this;exact this
    have NR:=N.out;rw [DR,nw_some] at NR;have NT:Aside (t=true->A=(.agg #[.int .u64 x,.int .u64 y,.bool z],true)):=fun h=>by
     rw [f2] at h;cases hk:look Ent.k q r.l with
     | none=>rw [hk] at h;cases h
     | some en =>
      rw [<-NR,hk];show lookV (some en)=_;rw [<-hk,f1,f2,h]
    have NF:Aside (t=false->lookV (nw q (rs.drop (i+1)))=A):=fun h=>by
     rw [f2] at h;cases hk:look Ent.k q r.l with
     | none=>rw [hk] at NR;exact NR
     | some en=>rw [hk] at h;cases h
    generalize r.p=rp at ci' GT;clear ci e DR N RR f1 f2 f3 NR;go_wp2_with fail;refine Calls.mono GT.out ?_;rintro e u1 ⟨rfl,gg⟩;have B1:=(B.out.gw gg).add #[.int .u64 x,.int .u64 y,.bool z] 81;obtain ⟨bx,hbx⟩:∃ b,u1.heap.size=b:=⟨_,rfl⟩;have BX:Aside _:=hbx;rw [hbx] at B1;clear gg GT hbx;go_upto_region 6 with fail;rw [BX.out];generalize u1.alloc (.cells #[.int .u64 x,.int .u64 y,.bool z] 81)=U at B1 ⊢;have E0:U.heap[bq]?=some (.cells #[.int .u64 0,.int .u64 0,.bool false] 81 (0,0)):=B1.lie (bq,#[.int .u64 0,.int .u64 0,.bool false],81) (by simp)
    have E1:U.heap[bx]?=some (.cells #[.int .u64 x,.int .u64 y,.bool z] 81 (0,0)):=B1.lie (bx,#[.int .u64 x,.int .u64 y,.bool z],81) (by simp)
    have GU:Aside _:=B1.gw0;cases t with
    | false =>
     have B2:Aside (Bxs w [(bq,#[.int .u64 0,.int .u64 0,.bool false],81)] U):=⟨B1.gw0,fun x hx=>by rw [List.mem_singleton.1 hx];exact E0⟩
     have N':Aside _:=NF.out rfl;clear E0 E1 B1 B NF NT;go_wp2_with fail;go_roundg (n-(i+1))
     case measure=>omega
     case rel=>exact ⟨i+1,by go_num,by omega,Nat.le_refl _,B2,N'⟩
    | true =>
     have e:=NT.out rfl;subst e;obtain ⟨x0,x1,x2,_⟩:=box_facts E1;obtain ⟨m0,m1,m2,z0,z1,z2,bl,TT⟩:=box_facts E0;have T3:=TT x y z;clear E0 E1 B1 B NT NF TT;go_wp2_with fail;exact bodyPost_ret (v:=.tuple #[.agg #[.int .u64 x,.int .u64 y,.bool z],.bool true]) (by simp [results,results114,go_sem,T3.1,T3.2.1,T3.2.2]) rfl ⟨rfl,((GU.out.setCell (Nat.le_of_eq BQ.out) _).setCell (Nat.le_of_eq BQ.out) _).setCell (Nat.le_of_eq BQ.out) _⟩
  ·have ei:i=n:=by omega
   subst ei;have e:A=(.agg #[.int .u64 0,.int .u64 0,.bool false],false):=by
    rw [<-N.out,List.drop_of_length_le (by rw [LN.out];exact Nat.le_refl _)]
    rfl
   subst e;have E0:wS.heap[bq]?=some (.cells #[.int .u64 0,.int .u64 0,.bool false] 81 (0,0)):=B.out.lie (bq,#[.int .u64 0,.int .u64 0,.bool false],81) (by simp)
   have GU:Aside _:=B.out.gw0;obtain ⟨m0,m1,m2,z0,z1,z2,bl,TT⟩:=box_facts E0;have T3:=TT 0 0 false;clear E0 B N TT;go_wp2_with fail;exact bodyPost_ret (v:=.tuple #[.agg #[.int .u64 0,.int .u64 0,.bool false],.bool false]) (by simp [results,results114,go_sem,T3.1,T3.2.1,T3.2.2]) rfl ⟨rfl,((GU.out.setCell (Nat.le_of_eq BQ.out) _).setCell (Nat.le_of_eq BQ.out) _).setCell (Nat.le_of_eq BQ.out) _⟩
theorem live15 {HR:HRt} (H:RunC HR) (ao:Option Addr) (c:Nat) (rs:List (Option Rn)) (q:Int) (q0:0<=q) (q1:q<18446744073709551616) (hl:rs.length<=2000000) (w:World) (h:PR HR w ao rs) :
  Calls prog 111 #[.slice ao rs.length c,.int .u64 q] w fun e w'=>e=.returned (.bool (liveQ rs q))/\Gw w w':=by
 obtain ⟨x,y,z,t,f1,f2,f3⟩:=lookV_form (nw q rs);have NW:Hid (Calls prog 114 #[.slice ao rs.length c,.int .u64 q] w fun e w'=>e=.returned (.tuple #[.agg #[.int .u64 x,.int .u64 y,.bool z],.bool t])/\Gw w w'):=by
  have:=newest15 H ao c rs q q0 q1 hl w h
  rw [f1] at this;exact this
 have LV:liveQ rs q=(t&&!z):=f3;rw [LV];generalize rs.length=n at NW hl ⊢;clear f1 f2 f3 LV h H;cases t with
 | false =>
  go_enter func111,ntmps111;go_wp2_with fail;refine Calls.mono NW.out ?_;rintro e u1 ⟨rfl,gg⟩;have G1:Aside _:=gg;clear gg NW;go_wp2_with fail;go_ret;exact ⟨rfl,G1.out.alloc _ _⟩
 | true =>
  go_enter func111,ntmps111;go_wp2_with fail;refine Calls.mono NW.out ?_;rintro e u1 ⟨rfl,gg⟩;have G1:Aside _:=gg;clear gg NW;go_wp2_with fail;go_ret;exact ⟨rfl,G1.out.alloc _ _⟩
def clsL (eps buf:Int) (rs:List (Option Rn)) (B W:Int):List Value:=.int .i64 eps::.int .i64 buf::(rs.map ptr++[.int .i64 B,.int .i64 W])
structure HCl (HR:HRt) (w:World) (p:Nat) (rs:List (Option Rn)) (eps buf B W:Int):Prop where
 blk:w.heap[p]?=some (.cells (clsL eps buf rs B W).toArray 148 (0,0))
 len:rs.length=40
 runs:∀ r,some r∈rs->RA HR w r/\¬ r.S p
 e0:2<=eps
 e1:eps<=64
 b0:1<=buf
 b1:buf<=4294967296
section
variable {HR:HRt} {w w':World} {p:Nat} {rs:List (Option Rn)} {eps buf B W:Int}
theorem HCl.gw (K:Kp HR) (h:HCl HR w p rs eps buf B W) (g:Gw w w'):HCl HR w' p rs eps buf B W :=
 ⟨(g.below.block p (blkl h.blk)).trans h.blk,h.len,fun r hr=>⟨(h.runs r hr).1.gw K g,(h.runs r hr).2⟩,h.e0,h.e1,h.b0,h.b1⟩
theorem HCl.gx (K:Kp HR) {F:Nat->Prop} (h:HCl HR w p rs eps buf B W) (g:Gx F w w') (np:¬ F p) (d:∀ q,F q->∀ r,some r∈rs->¬ r.S q):HCl HR w' p rs eps buf B W :=
 ⟨(g.block p (blkl h.blk) np).trans h.blk,h.len,fun r hr=>⟨(h.runs r hr).1.gx K g (fun q hq=>d q hq r hr),(h.runs r hr).2⟩,h.e0,h.e1,h.b0,h.b1⟩
theorem HCl.lt (h:HCl HR w p rs eps buf B W):p<w.heap.size:=blkl h.blk
theorem clsL_at {i:Nat} (h:rs.length=40) (hi:i<40):(clsL eps buf rs B W).toArray[2+i]?=some (ptr (rs.getD i none)):=by
 have e:2+i=i+1+1:=by omega
 rw [List.getElem?_toArray,e];show (rs.map ptr++_)[i]?=_;rw [List.getElem?_append_left (by simp;omega),List.getElem?_map,List.getElem?_eq_getElem (by omega),getD_rs (by omega)]
 rfl
theorem HCl.c0 (h:HCl HR w p rs eps buf B W):w.cell? ⟨p,0,none⟩=some (.int .i64 eps):=blkc h.blk rfl
theorem HCl.c1 (h:HCl HR w p rs eps buf B W):w.cell? ⟨p,1,none⟩=some (.int .i64 buf):=blkc h.blk rfl
theorem HCl.cell (h:HCl HR w p rs eps buf B W) {i:Nat} (hi:i<40):w.cell? ⟨p,2+i,none⟩=some (ptr (rs.getD i none)):=blkc h.blk (clsL_at h.len hi)
theorem HCl.drop (h:HCl HR w p rs eps buf B W) (j:Nat):PR HR w (some ⟨p,2+j,none⟩) (rs.drop j) :=
 ⟨fun h0=>⟨p,2+j,rfl,h.lt,fun i hi=>by
  have l:=h.len;rw [List.length_drop] at hi;rw [show 2+j+i=2+(j+i) by omega,h.cell (by omega),getD_rs (by omega),getD_rs (by rw [List.length_drop];omega),List.getElem_drop]⟩,fun r hr=>(h.runs r (List.mem_of_mem_drop hr)).1⟩
theorem HCl.take (h:HCl HR w p rs eps buf B W) (j:Nat):PR HR w (some ⟨p,2,none⟩) (rs.take j) :=
 ⟨fun h0=>⟨p,2,rfl,h.lt,fun i hi=>by
  have l:=h.len;rw [List.length_take] at hi;rw [h.cell (by omega),getD_rs (by omega),getD_rs (by rw [List.length_take];omega),List.getElem_take]⟩,fun r hr=>(h.runs r (List.mem_of_mem_take hr)).1⟩
end
def NewOk (eps buf:Int):Prop:=(2<=eps/\eps<=64)/\1<=buf/\buf<=4294967296
theorem new15 {HR:HRt} (eps buf:Int) (w:World) :
  Calls prog 77 #[.int .i64 eps,.int .i64 buf] w fun e w'=>((¬ NewOk eps buf/\e=.returned (.tuple #[.pointer none,.int .i64 1]))\/(NewOk eps buf/\∃ p,e=.returned (.tuple #[.pointer (some ⟨p,0,none⟩),.int .i64 0])/\w.heap.size<=p/\HCl HR w' p (List.replicate 40 none) eps buf 0 0))/\Gw w w':=by
 have NO:(eps<2\/(¬ eps<2/\64<eps)\/(¬ eps<2/\¬ 64<eps/\buf<1)\/(¬ eps<2/\¬ 64<eps/\¬ buf<1/\4294967296<buf))/\¬ NewOk eps buf\/NewOk eps buf:=by
  by_cases h:NewOk eps buf
  ·exact .inr h
  ·refine .inl ⟨?_,h⟩
   unfold NewOk at h;omega
 rcases NO with ⟨a,b⟩ | a
 ·have BB:Aside (¬ NewOk eps buf):=b
  clear b;rcases a with a | ⟨a,b⟩ | ⟨a,b,c⟩ | ⟨a,b,c,d⟩
  ·have t1:decide (eps<2)=true:=by simpa using a
   clear a;go_enter func77,ntmps77;go_wp2_with fail;go_ret2;exact ⟨.inl ⟨BB.out,rfl⟩,Gw.refl w⟩
  ·have t1:decide (eps<2)=false:=by simpa using a
   have t2:decide (64<eps)=true:=by simpa using b
   clear a b;go_enter func77,ntmps77;go_wp2_with fail;go_ret2;exact ⟨.inl ⟨BB.out,rfl⟩,Gw.refl w⟩
  ·have t1:decide (eps<2)=false:=by simpa using a
   have t2:decide (64<eps)=false:=by simpa using b
   have t3:decide (buf<1)=true:=by simpa using c
   clear a b c;go_enter func77,ntmps77;go_wp2_with fail;go_ret2;exact ⟨.inl ⟨BB.out,rfl⟩,Gw.refl w⟩
  ·have t1:decide (eps<2)=false:=by simpa using a
   have t2:decide (64<eps)=false:=by simpa using b
   have t3:decide (buf<1)=false:=by simpa using c
   have t4:decide (4294967296<buf)=true:=by simpa using d
   clear a b c d;go_enter func77,ntmps77;go_wp2_with fail;go_ret2;exact ⟨.inl ⟨BB.out,rfl⟩,Gw.refl w⟩
 ·have AA:Aside (NewOk eps buf):=a
  obtain ⟨⟨a1,a2⟩,a3,a4⟩:=a;have t1:decide (eps<2)=false:=by simpa using a1
  have t2:decide (64<eps)=false:=by simpa using a2
  have t3:decide (buf<1)=false:=by simpa using a3
  have t4:decide (4294967296<buf)=false:=by simpa using a4
  have HC:Aside (HCl HR (w.alloc (.cells (clsL eps buf (List.replicate 40 none) 0 0).toArray 148)) w.heap.size (List.replicate 40 none) eps buf 0 0):=⟨heap_alloc_new w _,by simp,fun r hr=>by simp at hr,a1,a2,a3,a4⟩
  clear a1 a2 a3 a4;go_enter func77,ntmps77;go_wp2_with fail;go_ret2;exact ⟨.inr ⟨AA.out,_,rfl,Nat.le_refl _,HC.out⟩,(Gw.refl w).alloc _ _⟩
theorem needs15 {HR:HRt} (H:RunC HR) {r:Rn} (bd:Value) (p:Int->Bool) (w:World) (h:RA HR w r) (FB:∀ W,Gw w W->∀ q:Int,0<=q->q<18446744073709551616->Calls prog 111 #[bd,.int .u64 q] W fun e w'=>e=.returned (.bool (p q))/\Gw W w') :
  Calls prog 130 #[.pointer (some ⟨r.p,0,none⟩),.func (.func 111) #[bd] #[]] w fun e w'=>e=.returned (.bool (r.l.all (keepP p)))/\Gw w w':=by
 have LE:Hid _:=H.len h.h;have AT:Hid (∀ (W:World) (i:Nat),Gw w W->i<r.l.length->Calls prog 158 #[.pointer (some ⟨r.p,0,none⟩),.int .i64 (i:Int)] W fun e w'=>e=.returned (.tuple #[.agg #[.int .u64 (r.l.getD i ent0).k,.int .u64 (r.l.getD i ent0).v,.bool (r.l.getD i ent0).g],.int .i64 0])/\Gw W w'):=fun W i gg hi=>by
  have:=H.at_ (h.gw H.kp gg).h (i:Int) (by omega) (by have:=h.few;omega)
  have e:atV (ek r.l) (ev r.l) (eg r.l) r.l.length (i:Int)=(entV (ek r.l i) (ev r.l i) (eg r.l i),0):=by
   unfold atV;rw [if_pos (by omega)]
   simp
  rw [e] at this;exact this
 have BD:Aside (∀ i,i<r.l.length->(r.l.getD i ent0).ok):=fun i hi=>by rw [getD_lt hi];exact h.bd _ (List.getElem_mem hi)
 have LV:Hid _:=FB;have few:=h.few;clear h H FB;obtain ⟨l,hl⟩:∃ l,r.l=l:=⟨_,rfl⟩;rw [hl] at LE AT BD few ⊢;generalize r.p=rp at LE AT ⊢;clear hl;obtain ⟨n,hn⟩:∃ n,l.length=n:=⟨_,rfl⟩;have LN:Aside _:=hn;rw [hn] at LE few;obtain ⟨A,hA⟩:∃ A,l.all (keepP p)=A:=⟨_,rfl⟩;have RES:Aside _:=hA;rw [hA];clear hn hA;go_enter func130,ntmps130;go_wp2_with fail;refine Calls.mono LE.out ?_;rintro e w1 ⟨rfl,g1⟩;have G1:Aside _:=g1;clear g1 LE;go_wp2_with fail;go_loopg [10] n (fun gg s10 wr=>∃ i:Nat,s10=.int .i64 (i:Int)/\i<=n/\n-i<=gg/\Aside (Gw w wr)/\Aside ((l.drop i).all (keepP p)=A))
 case atStart=>exact ⟨0,rfl,Nat.zero_le _,by omega,G1,RES⟩
 case round =>
  clear G1 RES;obtain ⟨i,rfl,a1,a2,G,N⟩:=hrel;obtain ⟨wS,hwS⟩:∃ wx,wx=wr:=⟨_,rfl⟩;subst hwS;by_cases hlt:i<n
  ·have hlt':(i:Int)<(n:Int):=by omega
   have hl:i<l.length:=by rw [LN.out];exact hlt
   have A1:=AT.out wS i G.out hl;have DR:l.drop i=l.getD i ent0::l.drop (i+1):=by rw [getD_lt hl,List.drop_eq_getElem_cons hl]
   have NN:=N.out;rw [DR,List.all_cons] at NN;obtain ⟨⟨bk0,bk1⟩,_⟩:=BD.out i hl;obtain ⟨x,hx⟩:∃ x,l.getD i ent0=x:=⟨_,rfl⟩;rw [hx] at A1 NN bk0 bk1;obtain ⟨xk,xv,xg⟩:=x;have AH:Hid _:=A1;have LQ:Hid (∀ W,Gw w W->Calls prog 111 #[bd,.int .u64 xk] W fun e w'=>e=.returned (.bool (p xk))/\Gw W w'):=fun W gg=>LV.out W gg xk bk0 bk1
   have NE:Aside _:=NN;have KP:Aside (keepP p ⟨xk,xv,xg⟩=(!xg||p xk)):=rfl
   generalize p xk=kp at LQ KP;clear A1 DR NN bk0 bk1 hx N;go_wp2_with fail;refine Calls.mono AH.out ?_;rintro e u1 ⟨rfl,gg⟩;have G2:Aside (Gw w (u1.alloc (.cells #[.int .u64 xk,.int .u64 xv,.bool xg] 81))):=(G.out.trans gg).alloc _ _;clear gg AH G;cases xg with
   | false =>
    have N':Aside ((l.drop (i+1)).all (keepP p)=A):=by have:=NE.out;rw [KP.out] at this;exact this
    clear NE KP LQ;go_wp2_with fail;go_roundg (n-(i+1))
    case measure=>omega
    case rel=>exact ⟨i+1,by go_num,by omega,Nat.le_refl _,G2,N'⟩
   | true =>
    go_wp2_with fail;refine Calls.mono (LQ.out _ G2.out) ?_
    rintro e u2 ⟨rfl,gg⟩;have G3:Aside _:=G2.out.trans gg;clear gg G2;cases kp with
    | true =>
     have N':Aside ((l.drop (i+1)).all (keepP p)=A):=by have:=NE.out;rw [KP.out] at this;exact this
     clear NE KP LQ;go_wp2_with fail;go_roundg (n-(i+1))
     case measure=>omega
     case rel=>exact ⟨i+1,by go_num,by omega,Nat.le_refl _,G3,N'⟩
    | false =>
     have e:A=false:=by have:=NE.out;rw [KP.out] at this;exact this.symm
     subst e;clear NE KP LQ;go_wp2_with fail;go_ret;exact ⟨rfl,G3.out⟩
  ·have ei:i=n:=by omega
   subst ei;have e:A=true:=by
    rw [<-N.out,List.drop_of_length_le (by rw [LN.out];exact Nat.le_refl _)]
    rfl
   subst e;clear N;go_wp2_with fail;go_ret;exact ⟨rfl,G.out⟩
theorem EL.keep15 {w w':World} {bo:Option Addr} {l:List Ent} (h:EL w bo l) (k:∀ a,bo=some a->0<l.length->w'.heap[a.block]?=w.heap[a.block]?):EL w' bo l :=
 ⟨fun h0=>by
  obtain ⟨b,off,e,hb,hc⟩:=h.cells h0;have kb:=k _ e h0;have hb':b<w'.heap.size:=by
   have kb':w'.heap[b]?=w.heap[b]?:=kb;rw [Array.getElem?_eq_getElem hb] at kb';exact (Array.getElem?_eq_some_iff.1 kb').1
  have eq:∀ o,w'.cell? ⟨b,o,none⟩=w.cell? ⟨b,o,none⟩:=fun o=>World.cell?_of_block (a:=⟨b,o,none⟩) kb
  exact ⟨b,off,e,hb',fun i hi=>⟨(eq _).trans (hc i hi).1,(eq _).trans (hc i hi).2.1,(eq _).trans (hc i hi).2.2⟩⟩,h.bd⟩
structure TL (w:World) (ob:Nat) (vals:List Value) (L:List (List Ent)):Prop where
 len:vals.length=L.length
 row:∀ i,i<L.length->∃ bo c,vals[i]?=some (.slice bo (L.getD i []).length c)/\(L.getD i []).length<=c/\EL w bo (L.getD i [])/\(bo=none->(L.getD i []).length=0/\c=0)/\∀ a,bo=some a->0<(L.getD i []).length->a.block≠ob/\a.block<w.heap.size
theorem RunC.told {HR:HRt} (H:RunC HR) {w:World} {r:Rn} (h:RA HR w r) :
  Calls prog 82 #[.pointer (some ⟨r.p,0,none⟩)] w fun e w'=>(∃ bo c,e=.returned (.slice bo r.l.length c)/\EL w' bo r.l/\r.l.length<=c/\(bo=none->r.l.length=0/\c=0)/\∀ a,bo=some a->w.heap.size<=a.block/\a.block<w'.heap.size)/\Gw w w' :=
 (H.list h.h).mono fun e w' ⟨⟨bo,c,he,er⟩,gg⟩=>by
  refine ⟨⟨bo,c,he,er_es er (fun i hi=>by have:=h.bd _ (List.getElem_mem hi);rw [<-getD_lt hi] at this;exact this),?_⟩,gg⟩
  rcases er.2 with ⟨e,z⟩ | ⟨b,cap,cur,e,hb,hh,hc,_⟩
  ·injection e with e1 e2 e3
   subst e1 e3;exact ⟨by omega,(fun _=>⟨z,rfl⟩),fun a x=>(by cases x)⟩
  ·injection e with e1 e2 e3
   subst e1 e3;exact ⟨hc,(fun x=>by cases x),fun a x=>(by cases x;exact ⟨hb,blkl hh⟩)⟩
structure HV (w:World) (ao:Option Addr) (L:List (List Ent)):Prop where
 cells:0<L.length->∃ b off,ao=some ⟨b,off,none⟩/\b<w.heap.size/\∀ i,i<L.length->∃ bo c,w.cell? ⟨b,off+i,none⟩=some (.slice bo (L.getD i []).length c)
structure TopR (rs:List (Option Rn)) (t:Nat):Prop where
 le:t<=rs.length
 no:∀ i,t<=i->rs.getD i none=none
 is:t=0\/∃ r,rs.getD (t-1) none=some r
theorem TopR.one {rs:List (Option Rn)} {t t':Nat} (h:TopR rs t) (h':TopR rs t'):t=t':=by
 have key:∀ {a b:Nat},TopR rs a->TopR rs b->¬ a<b:=fun {a b} ha hb lt=>by
  rcases hb.is with e | ⟨r,e⟩
  ·omega
  ·rw [ha.no (b-1) (by omega)] at e;cases e
 have:=key h h'
 have:=key h' h
 omega
theorem told15 {HR:HRt} {w:World} {p:Nat} {rs:List (Option Rn)} {eps buf B W:Int} (h:HCl HR w p rs eps buf B W) :
  Calls prog 84 #[.pointer (some ⟨p,0,none⟩)] w fun e w'=>(∃ t:Nat,e=.returned (.slice (some ⟨p,2,none⟩) t 40)/\TopR rs t)/\w'=w:=by
 have HC:Aside _:=h;have hp:=h.lt;clear h;go_enter func84,ntmps84;go_wp2_with fail;go_loopg [3] 40 (fun gg s3 wr=>∃ m:Nat,s3=.int .i64 (m:Int)/\m<=40/\m<=gg/\wr=w/\Aside (∀ i,m<=i->rs.getD i none=none))
 case atStart=>exact ⟨40,rfl,Nat.le_refl _,Nat.le_refl _,rfl,(show Aside _ from fun i hi=>by rw [List.getD_eq_getElem?_getD,List.getElem?_eq_none (by rw [HC.out.len];exact hi)];rfl)⟩
 case round =>
  obtain ⟨m,rfl,a1,a2,hw,N⟩:=hrel;subst hw;have FIN:Hid ((m=0\/∃ r,rs.getD (m-1) none=some r)->TopR rs m):=fun x=>⟨by rw [HC.out.len];exact a1,N.out,x⟩
  by_cases q:0<m
  ·obtain ⟨k,hk⟩:∃ k:Nat,m=k+1:=⟨m-1,by omega⟩
   have wm:IntKind.i64.wrap ((m:Int)-1)=(k:Int):=by rw [IntKind.wrap_i64];omega
   have k40:(k:Int)<40:=by omega
   have m40:(m:Int)<=40:=by omega
   have ck:=HC.out.cell (i:=k) (by omega)
   have HK:Aside _:=hk;rcases cases_rs rs k with e | ⟨r,e⟩
   ·rw [e] at ck
    have ck':wr.cell? ⟨p,2+k,none⟩=some (.pointer none):=ck;have N':Aside (∀ i,k<=i->rs.getD i none=none):=fun i hi=>by
     by_cases x:i=k
     ·rw [x];exact e
     ·exact N.out i (by omega)
    clear ck e N hk FIN;go_wp2_with fail;go_roundg k
    case measure=>have:=HK.out;omega
    case rel=>exact ⟨k,rfl,by omega,Nat.le_refl _,rfl,N'⟩
   ·rw [e] at ck
    have ck':wr.cell? ⟨p,2+k,none⟩=some (.pointer (some ⟨r.p,0,none⟩)):=ck;have RR:Aside _:=FIN.out (.inr ⟨r,by rw [hk];exact e⟩)
    generalize r.p=rp at ck';clear ck e N hk FIN;go_wp2_with fail;go_ret;exact ⟨⟨m,rfl,RR.out⟩,rfl⟩
  ·have m0:m=0:=by omega
   have RR:Aside (TopR rs 0):=by rw [<-m0];exact FIN.out (.inl m0)
   subst m0;clear N q FIN;go_wp2_with fail;go_ret;exact ⟨⟨0,rfl,RR.out⟩,rfl⟩
theorem info_r15:(prog.info? 90).map (fun i=>(i.zero,i.size,i.bytes))=some (some (.pointer none),1,8):=by kernel_rfl
def RO (w:World) (base:Nat) (v:Value) (rs:List (Option Rn)):Prop:=w.ownsRow base 90 1 v rs.length (rs.map ptr)
theorem ptr_one (o:Option Rn):(ptr o).oneCell'=true:=by cases o<;>rfl
theorem ptrs_one (rs:List (Option Rn)):∀ u∈rs.map ptr,u.oneCell'=true:=by
 intro u hu;obtain ⟨o,_,rfl⟩:=List.mem_map.1 hu;exact ptr_one o
theorem PR.news {HR:HRt} {w:World} {ao:Option Addr} {rs:List (Option Rn)} (h:PR HR w ao rs):∀ ad,ao=some ad->∀ j u,(rs.map ptr)[j]?=some u->w.cell? (ad.add j)=some u:=by
 intro ad e j u hu;have hj:j<rs.length:=by
  have:=(List.getElem?_eq_some_iff.1 hu).1
  simpa using this
 obtain ⟨b,off,e',_,hc⟩:=h.cells (by omega)
 rw [e] at e';cases e';rw [Addr.add_lit,hc j hj,getD_rs hj];simpa [hj] using hu
theorem RO.pr {HR:HRt} {w:World} {base c:Nat} {ao:Option Addr} {rs:List (Option Rn)} (h:RO w base (.slice ao rs.length c) rs) (hr:∀ r,some r∈rs->RA HR w r):PR HR w ao rs:=by
 refine ⟨fun h0=>?_,hr⟩
 rcases h.2 with ⟨_,z⟩ | ⟨b,cap,cur,e,hb,hh,r⟩
 ·omega
 ·injection e with e1 e2 e3
  subst e1 e3;refine ⟨b,0,rfl,blkl hh,fun i hi=>?_⟩
  have:=World.ownsRow.cellAt h i (by omega)
  rw [Nat.zero_add,this,getD_rs hi];simp [hi]
theorem clone_r {HR:HRt} (ad:Addr) (c:Nat) (rs:List (Option Rn)) (hl:rs.length<=2000000) (w:World) (h:PR HR w (some ad) rs) :
  Calls prog 83 #[.slice (some ad) rs.length c] w fun e w'=>(∃ b cp,e=.returned (.slice (some ⟨b,0,none⟩) rs.length cp)/\RO w' w.heap.size (.slice (some ⟨b,0,none⟩) rs.length cp) rs)/\Gw w w':=by
 have O0:Hid ((w.alloc (.cells #[] 90)).ownsRow w.heap.size 90 1 (.slice (some ⟨w.heap.size,0,none⟩) 0 0) 0 []):=World.ownsRow_made w #[] 0 (Nat.le_refl _) (Nat.zero_le _) rfl;have NW:Hid (∀ x,(some ad:Option Addr)=some x->∀ j u,(rs.map ptr)[j]?=some u->(w.alloc (.cells #[] 90)).cell? (x.add j)=some u):=by
  intro x hx j u hu;have:=h.news x hx j u hu;exact Go.Lib.cell?_alloc_some _ this
 obtain ⟨ii,hii,hz,hs,hby⟩:=info_parts info_r15;have hq:∀ W:World,(binOp .eql 151 (.slice (some ad) rs.length c) (.slice none 0 0)).run prog W=.ok (.bool false) W:=fun _=>by kernel_rfl
 have LN:Hid ((rs.map ptr).length=rs.length*1):=by show _=_;simp
 clear h;go_enter func83,ntmps83;go_wp2_with (at_builtin;refine wpList_append_src _ rfl _ _ 151 rfl w.heap.size 90 ii (.pointer none) 1 8 underlying151 hii hz hs hby rfl (by decide) _ 0 [] rfl O0.out (some ad) rs.length c (rs.map ptr) rfl (fun e=>by cases e) LN.out NW.out (ptrs_one rs) (by unfold maxLen;omega) (by omega) (by simp) ?_)
 intro v' w7 q1 q2 q3;have G7:Aside (Gw w w7):=((Gw.refl w).alloc _ _).grown q2 (fun k hk=>by cases hk;exact Nat.le_refl _)
 have R5:w7.ownsRow w.heap.size 90 1 v' rs.length (rs.map ptr):=by simpa using q1
 obtain ⟨b5,cap5,rfl,_,_,_⟩:=own_slice R5 (by simpa using q3)
 have RES:Aside _:=R5;clear q1 q2 q3 R5 hii hz hs hby;go_wp2_with fail;go_ret;exact ⟨⟨b5,cap5,rfl,RES.out⟩,G7.out⟩
theorem runs15 {HR:HRt} {w:World} {p:Nat} {rs:List (Option Rn)} {eps buf B W:Int} (h:HCl HR w p rs eps buf B W) :
  Calls prog 45 #[.pointer (some ⟨p,0,none⟩)] w fun e w'=>(∃ (t b c:Nat),e=.returned (.slice (some ⟨b,0,none⟩) t c)/\TopR rs t/\RO w' w.heap.size (.slice (some ⟨b,0,none⟩) t c) (rs.take t))/\Gw w w':=by
 have TO:Hid _:=told15 h;have CL:Hid (∀ t,t<=40->Calls prog 83 #[.slice (some ⟨p,2,none⟩) t 40] w fun e w'=>(∃ b cp,e=.returned (.slice (some ⟨b,0,none⟩) t cp)/\RO w' w.heap.size (.slice (some ⟨b,0,none⟩) t cp) (rs.take t))/\Gw w w'):=fun t ht=>by
  have:=clone_r ⟨p,2,none⟩ 40 (rs.take t) (by rw [List.length_take];omega) w (h.take t)
  rw [show (rs.take t).length=t by rw [List.length_take,h.len];omega] at this
  exact this
 have L40:Aside _:=h.len;clear h;go_enter func45,ntmps45;go_wp2_with fail;refine Calls.mono TO.out ?_;rintro e w1 ⟨⟨t,rfl,tr⟩,hw⟩;have hw':w=w1:=hw.symm;subst hw';have TR:Aside _:=tr;have ht:t<=40:=by have:=tr.le;have:=L40.out;omega
 clear hw tr;go_wp2_with fail;refine Calls.mono (CL.out t ht) ?_;rintro e w2 ⟨⟨b,cp,rfl,ro⟩,g2⟩;have RR:Aside _:=ro;have G2:Aside _:=g2;clear ro g2;go_wp2_with fail;go_ret;exact ⟨⟨t,b,cp,rfl,TR.out,RR.out⟩,G2.out⟩
def sizeO (o:Option Rn):Nat:=match o with
 | some r=>r.l.length
 | none=>0
theorem get15 {HR:HRt} (H:RunC HR) {w:World} {p:Nat} {rs:List (Option Rn)} {eps buf B W:Int} (h:HCl HR w p rs eps buf B W) (q:Int) (q0:0<=q) (q1:q<18446744073709551616) :
  Calls prog 65 #[.pointer (some ⟨p,0,none⟩),.int .u64 q] w fun e w'=>e=.returned (.tuple #[(lookV (nw q rs)).1,.bool (lookV (nw q rs)).2])/\Gw w w':=by
 obtain ⟨x,y,z,t,f1,f2,f3⟩:=lookV_form (nw q rs);have NW:Hid (∀ W,Gw w W->Calls prog 114 #[.slice (some ⟨p,2,none⟩) 40 40,.int .u64 q] W fun e w'=>e=.returned (.tuple #[.agg #[.int .u64 x,.int .u64 y,.bool z],.bool t])/\Gw W w'):=fun W gg=>by
  have:=newest15 H (some ⟨p,2,none⟩) 40 rs q q0 q1 (by rw [h.len];omega) W (PR.gw H.kp (h.drop 0) gg)
  rw [f1,h.len] at this;exact this
 have hp:=h.lt;rw [f1];clear f1 f2 f3 h H;go_enter func65,ntmps65;go_wp2_with fail;refine Calls.mono (NW.out _ ((Gw.refl w).alloc _ _)) ?_;rintro e u1 ⟨rfl,gg⟩;have GU:Aside (Gw w u1):=((Gw.refl w).alloc _ _).trans gg;have E0:u1.heap[w.heap.size]?=some (.cells #[.int .u64 0,.int .u64 0,.bool false] 81 (0,0)):=(gg.below.block _ (by simp)).trans (heap_alloc_new _ _)
 obtain ⟨bq,hbq⟩:∃ b,w.heap.size=b:=⟨_,rfl⟩;have BQ:Aside _:=hbq;rw [hbq] at E0 ⊢;obtain ⟨m0,m1,m2,z0,z1,z2,bl,TT⟩:=box_facts E0;have T3:=TT x y z;clear E0 gg NW TT hbq;go_wp2_with fail;exact bodyPost_ret (v:=.tuple #[.agg #[.int .u64 x,.int .u64 y,.bool z],.bool t]) (by simp [results,results65,go_sem,T3.1,T3.2.1,T3.2.2]) rfl ⟨rfl,((GU.out.setCell (Nat.le_of_eq BQ.out) _).setCell (Nat.le_of_eq BQ.out) _).setCell (Nat.le_of_eq BQ.out) _⟩
theorem blk_set15 {w:World} {b o:Nat} {vs:Array Value} {t:TypeId} (h:w.heap[b]?=some (.cells vs t (0,0))) (u:Value):(w.setCell ⟨b,o,none⟩ u).heap[b]?=some (.cells (vs.setIfInBounds o u) t (0,0)):=by simp [World.setCell,Array.getElem?_modify,h]
section
variable {eps buf B W:Int}
theorem clsL_set {rs:List (Option Rn)} {j:Nat} (hj:j<rs.length) (o:Option Rn):(clsL eps buf rs B W).toArray.setIfInBounds (2+j) (ptr o)=(clsL eps buf (rs.set j o) B W).toArray:=by
 rw [List.setIfInBounds_toArray];congr 1;have e:2+j=j+1+1:=by omega
 rw [e];show _::_::(rs.map ptr++_).set j (ptr o)=_;rw [List.set_append_left _ _ (by simpa using hj),<-List.map_set]
 rfl
theorem setCells_cls {p:Nat} {t:TypeId}:∀ (r1:List (Option Rn)) (j:Nat) (rs:List (Option Rn)) (w:World),j+r1.length<=rs.length->w.heap[p]?=some (.cells (clsL eps buf rs B W).toArray t (0,0))->(w.setCells p (2+j) (r1.map ptr)).heap[p]?=some (.cells (clsL eps buf (rs.take j++r1++rs.drop (j+r1.length)) B W).toArray t (0,0))
 | [],j,rs,w,_,h=>by simpa [World.setCells] using h
 | a::r1,j,rs,w,hl,h=>by
  have hj:j<rs.length:=by simp at hl;omega
  have h1:=blk_set15 (o:=2+j) h (ptr a);rw [clsL_set hj] at h1;have ih:=setCells_cls r1 (j+1) (rs.set j a) _ (by simp at hl ⊢;omega) h1
  rw [List.map_cons,World.setCells];rw [show 2+j+1=2+(j+1) by omega,ih]
  congr 4
  have e1:(rs.set j a).take (j+1)=rs.take j++[a]:=by
   rw [List.take_add_one,List.take_set_of_le (Nat.le_refl _),List.getElem?_set_self hj];rfl
  have e2:(rs.set j a).drop (j+1+r1.length)=rs.drop (j+(r1.length+1)):=by
   rw [List.drop_set_of_lt (by omega),show j+1+r1.length=j+(r1.length+1) by omega]
  rw [e1,e2];simp
theorem gx_setCells {p:Nat}:∀ (vs:List Value) (o:Nat) (w:World),Gx (fun q=>q=p) w (w.setCells p o vs)
 | [],_,w=>Gx.refl _ w
 | v::r,o,w=>by
  rw [World.setCells];exact ((Gx.refl (fun q=>q=p) w).set (.inl rfl) o v).trans (gx_setCells r (o+1) _) (fun q hq=>.inl hq)
theorem rep_ptr (n:Nat):(List.replicate n (none:Option Rn)).map ptr=List.replicate n (.pointer none):=by simp [ptr]
end
end Go.Proofs.YtpoohadckhphpaaGreat
