/- Classes in memory: places of runs, and what is newest among them. -/
import Derived.Deep.CutBlock
import Derived.Deep.DeepCutAuto
import Derived.Lib.SliceRun
import Derived.Test.YtjhaiiegdnamcabGreatGZPile
import Derived.Test.YtjhaiiegdnamcabGreatGGRef
import Derived.Test.YtjhaiiegdnamcabGreatGPMem
namespace Go.Proofs.YtjhaiiegdnamcabGreat
open Go.RowKit
set_option linter.unusedVariables false
abbrev HRt:=World→Nat→(Nat→Prop)→Int→(Nat→Int)→(Nat→Int)→(Nat→Bool)→Nat→List (List Sg)→Prop
structure Kp (HR:HRt):Prop where
 keep:∀ {w w':World} {p:Nat} {S:Nat→Prop} {eps:Int} {k v:Nat→Int} {g:Nat→Bool} {n:Nat} {L:List (List Sg)},HR w p S eps k v g n L→(∀ q,S q→w'.heap[q]?=w.heap[q]?)→HR w' p S eps k v g n L
 lt:∀ {w:World} {p:Nat} {S:Nat→Prop} {eps:Int} {k v:Nat→Int} {g:Nat→Bool} {n:Nat} {L:List (List Sg)},HR w p S eps k v g n L→∀ q,S q→q<w.heap.size
theorem RunC.kp {HR:HRt} (H:RunC HR):Kp HR:=⟨H.keep,H.lt⟩
structure RA (HR:HRt) (w:World) (r:Rn):Prop where
 h:HR w r.p r.S r.eps (ek r.l) (ev r.l) (eg r.l) r.l.length r.L
 ok:EOk r.l
 bd:∀ e∈r.l,e.ok
 few:r.l.length≤2000000
section
variable {HR:HRt} {w w':World}
theorem RA.keep (K:Kp HR) {r:Rn} (h:RA HR w r) (k:∀ q,r.S q→w'.heap[q]?=w.heap[q]?):RA HR w' r:=⟨K.keep h.h k,h.ok,h.bd,h.few⟩
theorem RA.gw (K:Kp HR) {r:Rn} (h:RA HR w r) (g:Gw w w'):RA HR w' r:=h.keep K fun q hq=>g.below.block q (K.lt h.h q hq)
theorem RA.gx (K:Kp HR) {F:Nat→Prop} {r:Rn} (h:RA HR w r) (g:Gx F w w') (d:∀ q,F q→¬ r.S q):RA HR w' r:=h.keep K fun q hq=>g.block q (K.lt h.h q hq) (fun x=>d q x hq)
structure PR (HR:HRt) (w:World) (ao:Option Addr) (rs:List (Option Rn)):Prop where
 cells:0<rs.length→∃ b off,ao=some ⟨b,off,none⟩∧b<w.heap.size∧∀ i,i<rs.length→w.cell? ⟨b,off+i,none⟩=some (ptr (rs.getD i none))
 runs:∀ r,some r∈rs→RA HR w r
theorem PR.gw (K:Kp HR) {ao:Option Addr} {rs:List (Option Rn)} (h:PR HR w ao rs) (g:Gw w w'):PR HR w' ao rs :=
 ⟨fun h0=>by
  obtain ⟨b,off,e,hb,hc⟩:=h.cells h0
  exact ⟨b,off,e,Nat.lt_of_lt_of_le hb g.size,fun i hi=>(g.cell _ _ hb).trans (hc i hi)⟩,fun r hr=>(h.runs r hr).gw K g⟩
theorem getD_rs {rs:List (Option Rn)} {i:Nat} (hi:i<rs.length):rs.getD i none=rs[i]:=by simp [List.getD,hi]
theorem drop_rs {rs:List (Option Rn)} {i:Nat} (hi:i<rs.length):rs.drop i=rs.getD i none::rs.drop (i+1):=by rw [getD_rs hi,List.drop_eq_getElem_cons hi]
theorem take_rs {rs:List (Option Rn)} {i:Nat} (hi:i<rs.length):rs.take (i+1)=rs.take i++[rs.getD i none]:=by rw [List.take_add_one,List.getElem?_eq_getElem hi,getD_rs hi];rfl
theorem mem_rs {rs:List (Option Rn)} {i:Nat} {r:Rn} (hi:i<rs.length) (e:rs.getD i none=some r):some r∈rs:=by rw [←e,getD_rs hi];exact List.getElem_mem hi
theorem cases_rs (rs:List (Option Rn)) (i:Nat):rs.getD i none=none∨∃ r,rs.getD i none=some r:=by cases rs.getD i none with
 | none=>exact .inl rfl
 | some r=>exact .inr ⟨r,rfl⟩
theorem RunC.look (H:RunC HR) {r:Rn} (h:RA HR w r) (q:Int) (q0:0≤q) (q1:q<18446744073709551616) :
  Calls Tryz.prog 100 #[.pointer (some ⟨r.p,0,none⟩), .int .u64 q] w fun e w'=>e=.returned (.tuple #[(lookV (Go.Proofs.YtjhaiiegdnamcabGreat.look Ent.k q r.l)).1, .bool (lookV (Go.Proofs.YtjhaiiegdnamcabGreat.look Ent.k q r.l)).2])∧Gw w w':=by
 have:=H.get h.h q q0 q1
 rw [getV_look h.ok.rise] at this
 exact this
theorem lookV_form (o:Option Ent):∃ a b c t,lookV o=(.agg #[.int .u64 a, .int .u64 b, .bool c],t)∧t=o.isSome∧liveO o=(t&&!c):=by
 cases o with
 | none=>exact ⟨_,_,_,_,rfl,rfl,rfl⟩
 | some e=>exact ⟨_,_,_,_,rfl,rfl,rfl⟩
end
theorem box_facts {U:World} {b:Nat} {x y:Int} {z:Bool} (h:U.heap[b]?=some (.cells #[.int .u64 x, .int .u64 y, .bool z] 65 (0,0))):U.cell? ⟨b,0,none⟩=some (.int .u64 x)∧U.cell? ⟨b,1,none⟩=some (.int .u64 y)∧U.cell? ⟨b,2,none⟩=some (.bool z)∧U.frozen? ⟨b,0,none⟩=false∧U.frozen? ⟨b,1,none⟩=false∧U.frozen? ⟨b,2,none⟩=false∧b<U.heap.size∧∀ (x' y':Int) (z':Bool),(((U.setCell ⟨b,0,none⟩ (.int .u64 x')).setCell ⟨b,1,none⟩ (.int .u64 y')).setCell ⟨b,2,none⟩ (.bool z')).cell? ⟨b,0,none⟩=some (.int .u64 x')∧(((U.setCell ⟨b,0,none⟩ (.int .u64 x')).setCell ⟨b,1,none⟩ (.int .u64 y')).setCell ⟨b,2,none⟩ (.bool z')).cell? ⟨b,1,none⟩=some (.int .u64 y')∧(((U.setCell ⟨b,0,none⟩ (.int .u64 x')).setCell ⟨b,1,none⟩ (.int .u64 y')).setCell ⟨b,2,none⟩ (.bool z')).cell? ⟨b,2,none⟩=some (.bool z'):=by
 refine ⟨blkc h rfl,blkc h rfl,blkc h rfl,blkf h,blkf h,blkf h,blkl h,fun x' y' z'=>?_⟩
 have st:∀ {w:World} {o:Nat} {vs:Array Value} {t:TypeId} (h:w.heap[b]?=some (.cells vs t (0,0))) (u:Value),(w.setCell ⟨b,o,none⟩ u).heap[b]?=some (.cells (vs.setIfInBounds o u) t (0,0)):=fun h u=>by simp [World.setCell,Array.getElem?_modify,h]
 have h3:=st (o:=2) (st (o:=1) (st (o:=0) h (.int .u64 x')) (.int .u64 y')) (.bool z')
 exact ⟨blkc h3 rfl,blkc h3 rfl,blkc h3 rfl⟩
set_option maxRecDepth 10000 in
set_option maxHeartbeats 4000000 in
theorem newest15 {HR:HRt} (H:RunC HR) (ao:Option Addr) (c:Nat) (rs:List (Option Rn)) (q:Int) (q0:0≤q) (q1:q<18446744073709551616) (hl:rs.length≤2000000) (w:World) (h:PR HR w ao rs) :
  Calls Tryz.prog 62 #[.slice ao rs.length c, .int .u64 q] w fun e w'=>e=.returned (.tuple #[(lookV (nw q rs)).1, .bool (lookV (nw q rs)).2])∧Gw w w':=by
 have HP:Aside (PR HR w ao rs):=h
 have HH:Aside (RunC HR):=H
 obtain ⟨n,hn⟩:∃ n,rs.length=n:=⟨_,rfl⟩
 have LN:Aside (rs.length=n):=hn
 rw [hn] at hl ⊢
 obtain ⟨A,hA⟩:∃ A,lookV (nw q rs)=A:=⟨_,rfl⟩
 have RES:Aside (lookV (nw q rs)=A):=hA
 rw [hA]
 clear h H hn hA
 obtain ⟨bq,hbq⟩:∃ b,w.heap.size=b:=⟨_,rfl⟩
 have BQ:Aside (w.heap.size=bq):=hbq
 have B0:Aside (Bxs w [(bq,#[.int .u64 0, .int .u64 0, .bool false],65)] (w.alloc (.cells #[.int .u64 0, .int .u64 0, .bool false] 65))):=by rw [←hbq];exact (Bxs.nil (Gw.refl w)).add _ _
 clear hbq
 go_enter Tryz.func62,Tryz.ntmps62
 go_wp2_with fail
 rw [BQ.out]
 generalize w.alloc (.cells #[.int .u64 0, .int .u64 0, .bool false] 65)=w1 at B0 ⊢
 go_loopg [12] n (fun gg s12 wr=>∃ i:Nat,s12=.int .i64 (i:Int)∧i≤n∧n-i≤gg∧Aside (Bxs w [(bq,#[.int .u64 0, .int .u64 0, .bool false],65)] wr)∧Aside (lookV (nw q (rs.drop i))=A))
 case atStart=>exact ⟨0,rfl,Nat.zero_le _,by omega,B0,(by rw [List.drop_zero];exact RES)⟩
 case round =>
  clear B0 RES
  obtain ⟨i,rfl,a1,a2,B,N⟩:=hrel
  obtain ⟨wS,hwS⟩:∃ wx,wx=wr:=⟨_,rfl⟩
  subst hwS
  by_cases hlt:i<n
  ·have hlt':(i:Int)<(n:Int):=by omega
   obtain ⟨b,off,rfl,hb,hc⟩:=(HP.out.gw HH.out.kp B.out.gw0).cells (by rw [LN.out];omega)
   have ci:=hc i (by rw [LN.out];exact hlt)
   have DR:=drop_rs (rs:=rs) (i:=i) (by rw [LN.out];exact hlt)
   clear hc
   rcases cases_rs rs i with e | ⟨r,e⟩
   ·rw [e] at ci DR
    have N':Aside (lookV (nw q (rs.drop (i+1)))=A):=by have:=N.out;rw [DR,nw_none] at this;exact this
    have ci':wS.cell? ⟨b,off+i,none⟩=some (.pointer none):=ci
    clear ci e DR N
    go_wp2_with fail
    go_roundg (n-(i+1))
    case measure=>omega
    case rel=>exact ⟨i+1,by go_num,by omega,Nat.le_refl _,B,N'⟩
   ·rw [e] at ci DR
    have ci':wS.cell? ⟨b,off+i,none⟩=some (.pointer (some ⟨r.p,0,none⟩)):=ci
    have RR:=(HP.out.runs r (mem_rs (by rw [LN.out];exact hlt) e)).gw HH.out.kp B.out.gw0
    obtain ⟨x,y,z,t,f1,f2,f3⟩:=lookV_form (look Ent.k q r.l)
    have GT:Hid (Calls Tryz.prog 100 #[.pointer (some ⟨r.p,0,none⟩), .int .u64 q] wS fun e w'=>e=.returned (.tuple #[.agg #[.int .u64 x, .int .u64 y, .bool z], .bool t])∧Gw wS w'):=by
     have:=HH.out.look RR q q0 q1
     rw [f1] at this
     exact this
    have NR:=N.out
    rw [DR,nw_some] at NR
    have NT:Aside (t=true→A=(.agg #[.int .u64 x, .int .u64 y, .bool z],true)):=fun h=>by
     rw [f2] at h
     cases hk:look Ent.k q r.l with
     | none=>rw [hk] at h;cases h
     | some en =>
      rw [←NR,hk]
      show lookV (some en)=_
      rw [←hk,f1,f2,h]
    have NF:Aside (t=false→lookV (nw q (rs.drop (i+1)))=A):=fun h=>by
     rw [f2] at h
     cases hk:look Ent.k q r.l with
     | none=>rw [hk] at NR;exact NR
     | some en=>rw [hk] at h;cases h
    generalize r.p=rp at ci' GT
    clear ci e DR N RR f1 f2 f3 NR
    go_wp2_with fail
    refine Calls.mono GT.out ?_
    rintro e u1 ⟨rfl,gg⟩
    have B1:=(B.out.gw gg).add #[.int .u64 x, .int .u64 y, .bool z] 65
    obtain ⟨bx,hbx⟩:∃ b,u1.heap.size=b:=⟨_,rfl⟩
    have BX:Aside (u1.heap.size=bx):=hbx
    rw [hbx] at B1
    clear gg GT hbx
    go_upto_region 6 with fail
    rw [BX.out]
    generalize u1.alloc (.cells #[.int .u64 x, .int .u64 y, .bool z] 65)=U at B1 ⊢
    have E0:U.heap[bq]?=some (.cells #[.int .u64 0, .int .u64 0, .bool false] 65 (0,0)):=B1.lie (bq,#[.int .u64 0, .int .u64 0, .bool false],65) (by simp)
    have E1:U.heap[bx]?=some (.cells #[.int .u64 x, .int .u64 y, .bool z] 65 (0,0)):=B1.lie (bx,#[.int .u64 x, .int .u64 y, .bool z],65) (by simp)
    have GU:Aside (Gw w U):=B1.gw0
    cases t with
    | false =>
     have B2:Aside (Bxs w [(bq,#[.int .u64 0, .int .u64 0, .bool false],65)] U):=⟨B1.gw0,fun x hx=>by rw [List.mem_singleton.1 hx];exact E0⟩
     have N':Aside (lookV (nw q (rs.drop (i+1)))=A):=NF.out rfl
     clear E0 E1 B1 B NF NT
     go_wp2_with fail
     go_roundg (n-(i+1))
     case measure=>omega
     case rel=>exact ⟨i+1,by go_num,by omega,Nat.le_refl _,B2,N'⟩
    | true =>
     have e:=NT.out rfl
     subst e
     obtain ⟨x0,x1,x2,_⟩:=box_facts E1
     obtain ⟨m0,m1,m2,z0,z1,z2,bl,TT⟩:=box_facts E0
     have T3:=TT x y z
     clear E0 E1 B1 B NT NF TT
     go_wp2_with fail
     exact bodyPost_ret (v:=.tuple #[.agg #[.int .u64 x, .int .u64 y, .bool z], .bool true]) (by simp [results,Tryz.results62,go_sem,T3.1,T3.2.1,T3.2.2]) rfl ⟨rfl,((GU.out.setCell (Nat.le_of_eq BQ.out) _).setCell (Nat.le_of_eq BQ.out) _).setCell (Nat.le_of_eq BQ.out) _⟩
  ·have ei:i=n:=by omega
   subst ei
   have e:A=(.agg #[.int .u64 0, .int .u64 0, .bool false],false):=by
    rw [←N.out,List.drop_of_length_le (by rw [LN.out];exact Nat.le_refl _)]
    rfl
   subst e
   have E0:wS.heap[bq]?=some (.cells #[.int .u64 0, .int .u64 0, .bool false] 65 (0,0)):=B.out.lie (bq,#[.int .u64 0, .int .u64 0, .bool false],65) (by simp)
   have GU:Aside (Gw w wS):=B.out.gw0
   obtain ⟨m0,m1,m2,z0,z1,z2,bl,TT⟩:=box_facts E0
   have T3:=TT 0 0 false
   clear E0 B N TT
   go_wp2_with fail
   exact bodyPost_ret (v:=.tuple #[.agg #[.int .u64 0, .int .u64 0, .bool false], .bool false]) (by simp [results,Tryz.results62,go_sem,T3.1,T3.2.1,T3.2.2]) rfl ⟨rfl,((GU.out.setCell (Nat.le_of_eq BQ.out) _).setCell (Nat.le_of_eq BQ.out) _).setCell (Nat.le_of_eq BQ.out) _⟩
end Go.Proofs.YtjhaiiegdnamcabGreat
