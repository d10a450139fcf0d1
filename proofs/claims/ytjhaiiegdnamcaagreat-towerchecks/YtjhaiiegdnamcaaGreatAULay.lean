/- Package classes: cells of classes written over; lay, Take. -/
import Derived.Test.YtjhaiiegdnamcaaGreatAUTake
import Derived.Test.YtjhaiiegdnamcaaGreatAUTell
namespace Go.Proofs.YtjhaiiegdnamcaaGreat
open Go.RowKit
set_option linter.unusedVariables false
theorem blk_set15 {w:World} {b o:Nat} {vs:Array Value} {t:TypeId} (h:w.heap[b]?=some (.cells vs t (0,0))) (u:Value):(w.setCell ⟨b,o,none⟩ u).heap[b]?=some (.cells (vs.setIfInBounds o u) t (0,0)):=by simp [World.setCell,Array.getElem?_modify,h]
section
variable {eps buf B W:Int}
theorem clsL_set {rs:List (Option Rn)} {j:Nat} (hj:j<rs.length) (o:Option Rn):(clsL eps buf rs B W).toArray.setIfInBounds (2+j) (ptr o)=(clsL eps buf (rs.set j o) B W).toArray:=by
 rw [List.setIfInBounds_toArray]
 congr 1
 have e:2+j=j+1+1:=by omega
 rw [e]
 show _::_::(rs.map ptr++_).set j (ptr o)=_
 rw [List.set_append_left _ _ (by simpa using hj),←List.map_set]
 rfl
theorem clsL_set42 {rs:List (Option Rn)} (h:rs.length=40) (B':Int):(clsL eps buf rs B W).toArray.setIfInBounds 42 (.int .i64 B')=(clsL eps buf rs B' W).toArray:=by
 rw [List.setIfInBounds_toArray]
 congr 1
 show _::_::(rs.map ptr++_).set 40 _=_
 rw [List.set_append_right _ _ (by simp [h]),List.length_map,h]
 rfl
theorem clsL_set43 {rs:List (Option Rn)} (h:rs.length=40) (W':Int):(clsL eps buf rs B W).toArray.setIfInBounds 43 (.int .i64 W')=(clsL eps buf rs B W').toArray:=by
 rw [List.setIfInBounds_toArray]
 congr 1
 show _::_::(rs.map ptr++_).set 41 _=_
 rw [List.set_append_right _ _ (by simp [h]),List.length_map,h]
 rfl
theorem setCells_cls {p:Nat} {t:TypeId}:∀ (r1:List (Option Rn)) (j:Nat) (rs:List (Option Rn)) (w:World),j+r1.length≤rs.length→w.heap[p]?=some (.cells (clsL eps buf rs B W).toArray t (0,0))→(w.setCells p (2+j) (r1.map ptr)).heap[p]?=some (.cells (clsL eps buf (rs.take j++r1++rs.drop (j+r1.length)) B W).toArray t (0,0))
 | [],j,rs,w,_,h=>by simpa [World.setCells] using h
 | a::r1,j,rs,w,hl,h=>by
  have hj:j<rs.length:=by simp at hl;omega
  have h1:=blk_set15 (o:=2+j) h (ptr a)
  rw [clsL_set hj] at h1
  have ih:=setCells_cls r1 (j+1) (rs.set j a) _ (by simp at hl ⊢;omega) h1
  rw [List.map_cons,World.setCells]
  rw [show 2+j+1=2+(j+1) by omega,ih]
  congr 4
  have e1:(rs.set j a).take (j+1)=rs.take j++[a]:=by
   rw [List.take_add_one,List.take_set_of_le (Nat.le_refl _),List.getElem?_set_self hj]
   rfl
  have e2:(rs.set j a).drop (j+1+r1.length)=rs.drop (j+(r1.length+1)):=by
   rw [List.drop_set_of_lt (by omega),show j+1+r1.length=j+(r1.length+1) by omega]
  rw [e1,e2]
  simp
theorem gx_setCells {p:Nat}:∀ (vs:List Value) (o:Nat) (w:World),Gx (fun q=>q=p) w (w.setCells p o vs)
 | [],_,w=>Gx.refl _ w
 | v::r,o,w=>by
  rw [World.setCells]
  exact ((Gx.refl (fun q=>q=p) w).set (.inl rfl) o v).trans (gx_setCells r (o+1) _) (fun q hq=>.inl hq)
theorem rep_ptr (n:Nat):(List.replicate n (none:Option Rn)).map ptr=List.replicate n (.pointer none):=by simp [ptr]
end
def one15 (l:List Ent):Int:=if l=[] then 0 else 1
def LaidR (HR:HRt) (w w':World) (eps:Int) (kept:List Ent) (o:Option Rn):Prop :=
 (kept=[]∧o=none)∨(kept≠[]∧∃ r,o=some r∧r.eps=eps∧r.l=kept∧BuildR eps (ek kept) kept.length r.L∧(∀ q,r.S q→w.heap.size≤q)∧RA HR w' r)
set_option maxRecDepth 10000 in
set_option maxHeartbeats 4000000 in
theorem lay15 {HR:HRt} (H:RunC HR) {w:World} {p:Nat} {rs:List (Option Rn)} {eps buf B W:Int} (h:HCl HR w p rs eps buf B W) (ao:Option Addr) (c:Nat) (kept:List Ent) (hk:EL w ao kept) (ok:EOk kept) (hc:kept.length≤c) (hz:ao=none→kept.length=0∧c=0) (hn:kept.length≤2000000) (hB:0≤B∧B<4611686018427387904) (hW:0≤W∧W<4611686018427387904) (j:Nat) (hj:j<40) :
  Calls Tryz.prog 111 #[.pointer (some ⟨p,0,none⟩), .slice ao kept.length c, .int .i64 (j:Int)] w fun e w'=>(∃ o,e=.returned (.int .i64 0)∧LaidR HR w w' eps kept o∧HCl HR w' p (List.replicate j none++o::rs.drop (j+1)) eps buf (B+one15 kept) (W+kept.length))∧Gx (fun q=>q=p) w w':=by
 have HC:Aside (HCl HR w p rs eps buf B W):=h
 have HH:Aside (RunC HR):=H
 have NW:Hid (Calls Tryz.prog 56 #[.slice ao kept.length c, .int .i64 eps] w fun ex w'=>RunOut HR w w' ex eps (ek kept) (ev kept) (eg kept) kept.length∧Gw w w'):=H.new eps ao kept.length c (ek kept) (ev kept) (eg kept) (by have:=h.e0;omega) (by have:=h.e1;omega) hn hc hz w hk
 have OK:Aside (EOk kept):=ok
 have BD:Aside (∀ e∈kept,e.ok):=hk.all
 have hp:=h.lt
 have c0:=h.c0
 obtain ⟨n,hkn⟩:∃ n,kept.length=n:=⟨_,rfl⟩
 have KN:Aside (kept.length=n):=hkn
 rw [hkn] at hn NW ⊢
 obtain ⟨k,hjk⟩:∃ k,j+1=k:=⟨_,rfl⟩
 have JK:Aside (j+1=k):=hjk
 have wk:IntKind.i64.wrap ((j:Int)+1)=(k:Int):=by rw [IntKind.wrap_i64];omega
 have k40:k≤40:=by omega
 have k40':(k:Int)≤40:=by omega
 have j40:(j:Int)<40:=by omega
 clear h H hk ok hc hz hkn hjk
 go_enter Tryz.func111,Tryz.ntmps111
 go_wp2_with fail
 refine Calls.mono NW.out ?_
 rintro e w1 ⟨⟨E,ne,x⟩,g1⟩
 have e0:=HC.out.e0
 have e1:=HC.out.e1
 have E0:E=0:=by
  rcases ne with ⟨a,_⟩ | ⟨_,b⟩
  ·exact absurd ⟨e0,e1⟩ a
  ·rw [←KN.out] at b;exact b.one OK.out
 rcases x with ⟨a,_⟩ | ⟨_,rp,S,L,rfl,hS,br,hr⟩
 ·exact absurd E0 a
 have HC1:=HC.out.gw HH.out.kp g1
 have L40:=HC.out.len
 obtain ⟨W1,hW1⟩:∃ W1,w1.setCells p 2 (List.replicate k (.pointer none))=W1:=⟨_,rfl⟩
 have zv:∀ w,(zeroValue 71).run Tryz.prog w=.ok (.pointer none) w:=fun w=>by
  obtain ⟨ii,hii,hz',_,_⟩:=info_parts info_r15
  simp [zeroValue,typeInfo,hii,hz']
 have hcl:∀ ty,(Builtin.clear_ #[69] ty #[.slice (some ⟨p,2,none⟩) k 40]).run Tryz.prog w1=.ok (.tuple #[]) W1:=fun ty=>by
  rw [←hW1]
  exact Go.Lib.run_clear_slice w1 69 71 ty (.pointer none) Tryz.underlying69 zv rfl rfl p 2 k 40 (by have:=JK.out;omega) (fun i hi=>by rw [HC1.cell (by omega)];rfl) (fun i _=>blkf HC1.blk)
 have hb1:W1.heap[p]?=some (.cells (clsL eps buf (List.replicate k none++rs.drop k) B W).toArray 139 (0,0)):=by
  have:=setCells_cls (List.replicate k (none:Option Rn)) 0 rs w1 (by simp;omega) HC1.blk
  rw [rep_ptr] at this
  rw [←hW1]
  simpa using this
 have gx1:Gx (fun q=>q=p) w W1:=by
  rw [←hW1]
  exact (g1.gx _).trans (gx_setCells _ _ _) (fun q hq=>.inl hq)
 have gx2:Gx (fun q=>q=p) w1 W1:=by rw [←hW1];exact gx_setCells _ _ _
 have l1:(List.replicate k (none:Option Rn)++rs.drop k).length=40:=by simp;omega
 have R1:∀ r,some r∈rs.drop k→RA HR W1 r∧¬ r.S p:=fun r hr=>by
  obtain ⟨q1,q2⟩:=HC.out.runs r (List.mem_of_mem_drop hr)
  exact ⟨q1.gx HH.out.kp gx1 (fun q hq=>by rw [hq];exact q2),q2⟩
 have pS:¬ S p:=fun x=>by have:=hS p x;omega
 have RR:RA HR W1 ⟨rp,S,eps,kept,L⟩:=RA.keep HH.out.kp (w:=w1) ⟨by show HR w1 rp S eps _ _ _ kept.length L;rw [KN.out];exact hr,OK.out,BD.out,by show kept.length≤_;rw [KN.out];exact hn⟩ (fun q hq=>gx2.block q (HH.out.lt hr q hq) (fun x=>by rw [x] at hq;exact pS hq))
 have BR:Aside (BuildR eps (ek kept) n L):=br
 have SS:Aside (∀ q,S q→w.heap.size≤q):=hS
 have R1A:Aside (∀ r,some r∈rs.drop k→RA HR W1 r∧¬ r.S p):=R1
 have RRA:Aside (RA HR W1 ⟨rp,S,eps,kept,L⟩∧¬ S p):=⟨RR,pS⟩
 have GX1:Aside (Gx (fun q=>q=p) w W1):=gx1
 have HB1:Aside (W1.heap[p]?=some (.cells (clsL eps buf (List.replicate k none++rs.drop k) B W).toArray 139 (0,0))):=hb1
 have L1:Aside ((List.replicate k (none:Option Rn)++rs.drop k).length=40):=l1
 have hp1:p<w1.heap.size:=HC1.lt
 clear ne g1 HC1 zv hb1 gx1 gx2 l1 R1 pS RR br hS hr hW1 E0 e0 e1 NW L40
 by_cases n0:n=0
 ·subst n0
  have kn:kept=[]:=List.length_eq_zero_iff.1 KN.out
  have HE:Aside (HCl HR W1 p (List.replicate j none++none::rs.drop (j+1)) eps buf (B+one15 kept) (W+(0:Nat))):=by
   have e:List.replicate j (none:Option Rn)++none::rs.drop (j+1)=List.replicate k none++rs.drop k:=by
    rw [←JK.out,List.replicate_succ',List.append_assoc];rfl
   rw [e,show one15 kept=0 from if_pos kn]
   refine ⟨by simpa using HB1.out,L1.out,fun r hr=>?_,HC.out.e0,HC.out.e1,HC.out.b0,HC.out.b1⟩
   rcases List.mem_append.1 hr with q | q
   ·simp at q
   ·exact R1A.out r q
  have KE:Hid (kept=[]):=kn
  clear kn
  go_wp2_with fail
  go_ret
  exact ⟨⟨none,rfl, .inl ⟨KE.out,rfl⟩,HE.out⟩,GX1.out⟩
 ·have kn:kept≠[]:=fun e=>n0 (by rw [←KN.out,e];rfl)
  have KE:Hid (kept≠[]):=kn
  have n0':0<n:=by omega
  have jl:j<(List.replicate k (none:Option Rn)++rs.drop k).length:=by rw [L1.out];exact hj
  obtain ⟨W2,hW2⟩:∃ W2,W1.setCell ⟨p,2+j,none⟩ (.pointer (some ⟨rp,0,none⟩))=W2:=⟨_,rfl⟩
  have hb2:W2.heap[p]?=some (.cells (clsL eps buf (List.replicate j none++some ⟨rp,S,eps,kept,L⟩::rs.drop (j+1)) B W).toArray 139 (0,0)):=by
   have:=blk_set15 (o:=2+j) HB1.out (ptr (some ⟨rp,S,eps,kept,L⟩))
   rw [clsL_set jl] at this
   rw [←hW2]
   have e:(List.replicate k (none:Option Rn)++rs.drop k).set j (some ⟨rp,S,eps,kept,L⟩)=List.replicate j none++some ⟨rp,S,eps,kept,L⟩::rs.drop (j+1):=by
    rw [←JK.out,List.replicate_succ',List.append_assoc,List.set_append_right _ _ (by simp)]
    simp
   rw [e] at this
   exact this
  have l2:(List.replicate j none++some (⟨rp,S,eps,kept,L⟩:Rn)::rs.drop (j+1)).length=40:=by
   have:=L1.out
   rw [←JK.out] at this
   simp at this ⊢
   omega
  obtain ⟨W3,hW3⟩:∃ W3,W2.setCell ⟨p,42,none⟩ (.int .i64 (B+1))=W3:=⟨_,rfl⟩
  have hb3:W3.heap[p]?=some (.cells (clsL eps buf (List.replicate j none++some ⟨rp,S,eps,kept,L⟩::rs.drop (j+1)) (B+1) W).toArray 139 (0,0)):=by
   have:=blk_set15 (o:=42) hb2 (.int .i64 (B+1))
   rw [clsL_set42 l2] at this
   rw [←hW3]
   exact this
  obtain ⟨W4,hW4⟩:∃ W4,W3.setCell ⟨p,43,none⟩ (.int .i64 (W+n))=W4:=⟨_,rfl⟩
  have hb4:W4.heap[p]?=some (.cells (clsL eps buf (List.replicate j none++some ⟨rp,S,eps,kept,L⟩::rs.drop (j+1)) (B+1) (W+n)).toArray 139 (0,0)):=by
   have:=blk_set15 (o:=43) hb3 (.int .i64 (W+n))
   rw [clsL_set43 l2] at this
   rw [←hW4]
   exact this
  have m1:=blkc HB1.out (clsL_at L1.out hj)
  have m1':W1.cell? ⟨p,2+j,none⟩=some (.pointer none):=by
   rw [m1,getD_rs jl,List.getElem_append_left (by simp;have:=JK.out;omega),List.getElem_replicate]
   rfl
  have z1:=blkf (o:=2+j) HB1.out
  have m2:=blkc hb2 (clsL_b l2).1
  have z2:=blkf (o:=42) hb2
  have m3:=blkc hb3 (clsL_b l2).2
  have z3:=blkf (o:=43) hb3
  have p1:=blkl HB1.out
  have p2:=blkl hb2
  have p3:=blkl hb3
  have gx4:Gx (fun q=>q=p) W1 W4:=by
   rw [←hW4,←hW3,←hW2]
   exact (((Gx.refl (fun q=>q=p) W1).set (.inl rfl) _ _).set (.inl rfl) _ _).set (.inl rfl) _ _
  have GX4:Aside (Gx (fun q=>q=p) w W4):=GX1.out.trans gx4 (fun q hq=>.inl hq)
  have R4:RA HR W4 ⟨rp,S,eps,kept,L⟩:=RRA.out.1.gx HH.out.kp gx4 (fun q hq=>by rw [hq];exact RRA.out.2)
  have RES:Aside (LaidR HR w W4 eps kept (some ⟨rp,S,eps,kept,L⟩)):=.inr ⟨KE.out,_,rfl,rfl,rfl,by rw [KN.out];exact BR.out,SS.out,R4⟩
  have HE:Aside (HCl HR W4 p (List.replicate j none++some ⟨rp,S,eps,kept,L⟩::rs.drop (j+1)) eps buf (B+one15 kept) (W+n)):=by
   rw [show one15 kept=1 from if_neg kn]
   refine ⟨hb4,l2,fun r hr=>?_,HC.out.e0,HC.out.e1,HC.out.b0,HC.out.b1⟩
   rcases List.mem_append.1 hr with q | q
   ·simp at q
   ·rcases List.mem_cons.1 q with q | q
    ·cases q;exact ⟨R4,RRA.out.2⟩
    ·obtain ⟨a,b⟩:=R1A.out r (by rw [←JK.out];exact q)
     exact ⟨a.gx HH.out.kp gx4 (fun q hq=>by rw [hq];exact b),b⟩
  have wB:IntKind.i64.wrap (B+1)=B+1:=by rw [IntKind.wrap_i64];omega
  have wW:IntKind.i64.wrap (W+(n:Int))=W+n:=by rw [IntKind.wrap_i64];omega
  clear hb2 hb3 hb4 l2 gx4 R4 m1 kn jl
  go_wp2_with fail
  go_ret
  exact ⟨⟨_,rfl,RES.out,HE.out⟩,GX4.out⟩
end Go.Proofs.YtjhaiiegdnamcaaGreat
