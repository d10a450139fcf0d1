/- Lists of entries in memory. -/
import Derived.BigQuiet
import Derived.Deep.LoopGhost
import Derived.Deep.OwnRows
import Derived.Deep.QuietTactic
import Derived.Laws.CopyRow
import Derived.Laws.IdiomCopy
import Derived.OwnWalk
import Derived.Test.YtjhaiiegdnamcabGreatHPBs
import Derived.Test.YtjhaiiegdnamcabGreatHR4Fit
import Derived.Test.YtjhaiiegdnamcabGreatHPZa
namespace Go.Proofs.YtjhaiiegdnamcabGreat
open Go.RowKit
set_option linter.unusedVariables false
structure ES (w:World) (ao:Option Addr) (n:Nat) (k v:Nat→Int) (g:Nat→Bool):Prop where
 cells:0<n→∃ b off,ao=some ⟨b,off,none⟩∧b<w.heap.size∧∀ i,i<n→w.cell? ⟨b,off+i*3,none⟩=some (.int .u64 (k i))∧w.cell? ⟨b,off+i*3+1,none⟩=some (.int .u64 (v i))∧w.cell? ⟨b,off+i*3+2,none⟩=some (.bool (g i))
 bd:∀ i,i<n→(0≤k i∧k i<18446744073709551616)∧(0≤v i∧v i<18446744073709551616)
theorem ES.gw {w w':World} {ao:Option Addr} {n:Nat} {k v:Nat→Int} {g:Nat→Bool} (h:ES w ao n k v g) (gg:Gw w w'):ES w' ao n k v g :=
 ⟨fun hn=>by
  obtain ⟨b,off,e,hb,hc⟩:=h.cells hn
  exact ⟨b,off,e,Nat.lt_of_lt_of_le hb gg.size,fun i hi=>⟨(gg.cell _ _ hb).trans (hc i hi).1,(gg.cell _ _ hb).trans (hc i hi).2.1,(gg.cell _ _ hb).trans (hc i hi).2.2⟩⟩,h.bd⟩
end Go.Proofs.YtjhaiiegdnamcabGreat
namespace Go.Proofs.YtjhaiiegdnamcabGreat
open Go.RowKit
set_option linter.unusedVariables false
def ecell (k v:Nat→Int) (g:Nat→Bool) (j:Nat):Value :=
 if j%3=0 then .int .u64 (k (j/3)) else if j%3=1 then .int .u64 (v (j/3)) else .bool (g (j/3))
theorem ecell_0 (k v:Nat→Int) (g:Nat→Bool) (i:Nat):ecell k v g (i*3)=.int .u64 (k i):=by
 unfold ecell;rw [if_pos (by omega),show i*3/3=i by omega]
theorem ecell_1 (k v:Nat→Int) (g:Nat→Bool) (i:Nat):ecell k v g (i*3+1)=.int .u64 (v i):=by
 unfold ecell;rw [if_neg (by omega),if_pos (by omega),show (i*3+1)/3=i by omega]
theorem ecell_2 (k v:Nat→Int) (g:Nat→Bool) (i:Nat):ecell k v g (i*3+2)=.bool (g i):=by
 unfold ecell;rw [if_neg (by omega),if_neg (by omega),show (i*3+2)/3=i by omega]
theorem ecell_one (k v:Nat→Int) (g:Nat→Bool) (j:Nat):(ecell k v g j).oneCell'=true:=by
 unfold ecell;split
 ·rfl
 ·split<;>rfl
theorem ES.flat {w:World} {ao:Option Addr} {n:Nat} {k v:Nat→Int} {g:Nat→Bool} (h:ES w ao n k v g) (hn:0<n):∃ b off,ao=some ⟨b,off,none⟩∧b<w.heap.size∧∀ j,j<n*3→w.cell? ⟨b,off+j,none⟩=some (ecell k v g j):=by
 obtain ⟨b,off,e,hb,hc⟩:=h.cells hn
 refine ⟨b,off,e,hb,fun j hj=>?_⟩
 obtain ⟨c0,c1,c2⟩:=hc (j/3) (by omega)
 unfold ecell
 by_cases h0:j%3=0
 ·rw [if_pos h0,←c0];congr 2;omega
 ·rw [if_neg h0]
  by_cases h1:j%3=1
  ·rw [if_pos h1,←c1];congr 2;omega
  ·rw [if_neg h1,←c2];congr 2;omega
theorem info_e:(Tryz.prog.info? 65).map (fun i=>(i.zero,i.size,i.bytes))=some (some (.agg #[.int .u64 0, .int .u64 0, .bool false]),3,24):=by kernel_rfl
end Go.Proofs.YtjhaiiegdnamcabGreat
namespace Go.Proofs.YtjhaiiegdnamcabGreat
open Go.RowKit
set_option linter.unusedVariables false
theorem keyOf_any (a b:Int) (g:Bool) (w:World):Calls Tryz.prog 85 #[.agg #[.int .u64 a, .int .u64 b, .bool g]] w fun e w'=>e=.returned (.int .u64 a)∧Gw w w':=by
 go_enter Tryz.func85,Tryz.ntmps85
 go_wp2
 go_ret
 exact ⟨rfl,(Gw.refl w).alloc _ _⟩
theorem valued_any (a b:Int) (g:Bool) (w:World):Calls Tryz.prog 87 #[.agg #[.int .u64 a, .int .u64 b, .bool g]] w fun e w'=>e=.returned (.bool (g&&(b != 0)))∧Gw w w':=by
 go_enter Tryz.func87,Tryz.ntmps87
 cases g with
 | false =>
  go_wp2
  go_ret
  exact ⟨rfl,(Gw.refl w).alloc _ _⟩
 | true =>
  go_wp2
  go_ret
  exact ⟨rfl,(Gw.refl w).alloc _ _⟩
set_option maxHeartbeats 1000000 in
theorem rises_entries (ao:Option Addr) (n c:Nat) (k v:Nat→Int) (g:Nat→Bool) (hn:n<4611686018427387904) (w:World) (h:ES w ao n k v g) :
  Calls Tryz.prog 84 #[.slice ao n c, .func (.func 85) #[] #[]] w fun e w'=>(∃ r:Nat,e=.returned (.int .i64 r)∧r≤n∧Up k r∧(r<n→1≤r∧k r≤k (r-1)))∧Gw w w':=by
 go_enter Tryz.func84,Tryz.ntmps84
 go_wp2_with fail
 go_loopg [5] n (fun gg s5 wr=>∃ i:Nat,s5=.int .i64 i∧1≤i∧(i≤n∨i=1)∧n-i≤gg∧Aside (Up k i)∧Aside (Gw w wr))
 case atStart=>exact ⟨1,rfl,Nat.le_refl _, .inr rfl,by omega,fun j hj=>by omega,Gw.refl w⟩
 case round =>
  obtain ⟨i,rfl,h1,h2,h3,H4,G⟩:=hrel
  by_cases hlt:i<n
  ·obtain ⟨b,off,rfl,hb,hc⟩:=(h.gw G.out).cells (by omega)
   obtain ⟨m,hm⟩:∃ m:Nat,(i:Int)-1=m:=⟨i-1,by omega⟩
   have hmn:m<n:=by omega
   have hw:=wrap_nat m (by omega)
   obtain ⟨c1,c2,c3⟩:=hc i hlt
   obtain ⟨d1,d2,d3⟩:=hc m hmn
   clear hc
   generalize hy1:k i=y1 at c1
   generalize hy0:k m=y0 at d1
   have Y:Aside (k i=y1∧k m=y0∧i=m+1):=⟨hy1,hy0,by omega⟩
   clear hy1 hy0 h h2
   generalize v i=v1 at c2
   generalize v m=v0 at d2
   generalize g i=g1 at c3
   generalize g m=g0 at d3
   have e1:=GX.cell c1 hb
   have e2:=GX.cell c2 hb
   have e3:=GX.cell c3 hb
   have e4:=GX.cell d1 hb
   have e5:=GX.cell d2 hb
   have e6:=GX.cell d3 hb
   have ne:=GX.some wr
   by_cases hle:y1≤y0
   ·go_wp2_with fail
    refine wp_region_growx (by kernel_rfl) (by kernel_rfl) ?_
    repeat (go_big_quiet_step (fail))
    go_big_quiet_want
    go_big_quiet_op
    go_big_quiet_call (exact growx_of (keyOf_any _ _ _ _))
    repeat (go_big_quiet_step (fail))
    go_big_quiet_want
    go_big_quiet_op
    go_big_quiet_call (exact growx_of (keyOf_any _ _ _ _))
    repeat (go_big_quiet_step (fail))
    refine wpQuiet_nil ?_
    rintro _ ⟨gw,rfl⟩
    clear e1 e2 e3 e4 e5 e6
    go_wp2_with fail
    go_ret
    obtain ⟨e1,e2,e3⟩:=Y.out
    refine ⟨⟨i,rfl,by omega,H4.out,fun _=>⟨h1,?_⟩⟩,G.out.trans gw.2⟩
    rw [e1,show i-1=m by omega,e2];exact hle
   ·go_wp2_with fail
    refine wp_region_growx (by kernel_rfl) (by kernel_rfl) ?_
    repeat (go_big_quiet_step (fail))
    go_big_quiet_want
    go_big_quiet_op
    go_big_quiet_call (exact growx_of (keyOf_any _ _ _ _))
    repeat (go_big_quiet_step (fail))
    go_big_quiet_want
    go_big_quiet_op
    go_big_quiet_call (exact growx_of (keyOf_any _ _ _ _))
    repeat (go_big_quiet_step (fail))
    refine wpQuiet_nil ?_
    rintro _ ⟨gw,rfl⟩
    clear e1 e2 e3 e4 e5 e6
    go_wp2_with fail
    go_roundg (n-(m+2))
    case measure=>omega
    case rel =>
     obtain ⟨e1,e2,e3⟩:=Y.out
     refine ⟨m+2,by go_num,by omega,by omega,Nat.le_refl _,(show Aside _ from fun j hj=>?_),(show Aside _ from G.out.trans gw.2)⟩
     by_cases hj':j=m
     ·subst hj';rw [e2,←e3,e1];omega
     ·exact H4.out j (by omega)
  ·go_wp2_with fail
   go_ret
   exact ⟨⟨n,rfl,Nat.le_refl _,fun j hj=>H4.out j (by omega),fun hh=>by omega⟩,G.out⟩
def Bad (v:Nat→Int) (g:Nat→Bool) (j:Nat):Prop:=g j=true∧v j≠0
theorem bad_and {v:Nat→Int} {g:Nat→Bool} {j:Nat}:(g j&&(v j != 0))=true↔Bad v g j:=by simp [Bad]
set_option maxHeartbeats 1000000 in
theorem indexf_any (ao:Option Addr) (n c:Nat) (k v:Nat→Int) (g:Nat→Bool) (hn:n<4611686018427387904) (w:World) (h:ES w ao n k v g) :
  Calls Tryz.prog 120 #[.slice ao n c, .func (.func 87) #[] #[]] w fun e w'=>(∃ r:Int,e=.returned (.int .i64 r)∧((∃ i:Nat,r=i∧i<n∧Bad v g i∧∀ j,j<i→¬ Bad v g j)∨(r=-1∧∀ j,j<n→¬ Bad v g j)))∧Gw w w':=by
 go_enter Tryz.func120,Tryz.ntmps120
 go_wp2_with fail
 go_loopg [5,8] n (fun gg _ s8 wr=>∃ i:Nat,s8=.int .i64 i∧i≤n∧n-i≤gg∧Aside (∀ j,j<i→¬ Bad v g j)∧Aside (Gw w wr))
 case atStart=>exact ⟨0,rfl,Nat.zero_le _,by omega,fun j hj=>by omega,Gw.refl w⟩
 case round =>
  obtain ⟨i,rfl,h1,h2,A,G⟩:=hrel
  by_cases hlt:i<n
  ·obtain ⟨b,off,rfl,hb,hc⟩:=(h.gw G.out).cells (by omega)
   obtain ⟨c1,c2,c3⟩:=hc i hlt
   clear hc h
   generalize k i=k1 at c1
   have Y:Aside ((g i&&(v i != 0))=true↔Bad v g i):=bad_and
   generalize hp:(g i&&(v i != 0))=p at Y
   have hv:=valued_any k1 (v i) (g i)
   rw [hp] at hv
   have hv':Aside _:=hv
   clear hv hp
   generalize v i=v1 at c2 hv'
   generalize g i=g1 at c3 hv'
   cases p with
   | true =>
    have B:Aside (Bad v g i):=Y.out.1 rfl
    clear Y
    go_wp2_with fail
    refine (hv'.out _).mono ?_
    rintro e w1 ⟨rfl,g1⟩
    go_wp2_with fail
    go_ret
    exact ⟨⟨_,rfl, .inl ⟨i,rfl,hlt,B.out,A.out⟩⟩,G.out.trans g1⟩
   | false =>
    have B:Aside (¬ Bad v g i):=fun hb=>Bool.noConfusion (Y.out.2 hb)
    clear Y
    go_wp2_with fail
    refine (hv'.out _).mono ?_
    rintro e w1 ⟨rfl,g1⟩
    go_wp2_with fail
    go_roundg (n-(i+1))
    case measure=>omega
    case rel =>
     refine ⟨i+1,by go_num,by omega,Nat.le_refl _,(show Aside _ from fun j hj=>?_),(show Aside _ from G.out.trans g1)⟩
     by_cases e:j=i
     ·subst e;exact B.out
     ·exact A.out j (by omega)
  ·obtain rfl:i=n:=by omega
   go_wp2_with fail
   go_ret
   exact ⟨⟨_,rfl, .inr ⟨rfl,A.out⟩⟩,G.out⟩
theorem containsf_any (ao:Option Addr) (n c:Nat) (k v:Nat→Int) (g:Nat→Bool) (hn:n<4611686018427387904) (w:World) (h:ES w ao n k v g) :
  Calls Tryz.prog 86 #[.slice ao n c, .func (.func 87) #[] #[]] w fun e w'=>(∃ r:Bool,e=.returned (.bool r)∧(r=true→∃ i:Nat,i<n∧Bad v g i∧∀ j,j<i→¬ Bad v g j)∧(r=false→∀ j,j<n→¬ Bad v g j))∧Gw w w':=by
 go_enter Tryz.func86,Tryz.ntmps86
 go_wp2_with fail
 refine (indexf_any ao n c k v g hn w h).mono ?_
 rintro e w1 ⟨⟨r,rfl,hr⟩,g1⟩
 have R:Hid _:=hr
 clear hr
 by_cases h0:0≤r
 ·go_wp2_with fail
  go_ret
  refine ⟨⟨true,by simp,fun _=>?_,fun hh=>Bool.noConfusion hh⟩,g1⟩
  rcases R.out with ⟨i,e,q⟩ | ⟨e,q⟩
  ·exact ⟨i,q⟩
  ·omega
 ·go_wp2_with fail
  go_ret
  refine ⟨⟨false,by simp;omega,fun hh=>Bool.noConfusion hh,fun _=>?_⟩,g1⟩
  rcases R.out with ⟨i,e,q⟩ | ⟨e,q⟩
  ·omega
  ·exact q
theorem ES.take {w:World} {ao:Option Addr} {n:Nat} {k v:Nat→Int} {g:Nat→Bool} (h:ES w ao n k v g) {m:Nat} (hm:m≤n):ES w ao m k v g :=
 ⟨fun hn=>by
  obtain ⟨b,off,e,hb,hc⟩:=h.cells (by omega)
  exact ⟨b,off,e,hb,fun i hi=>hc i (by omega)⟩,fun i hi=>h.bd i (by omega)⟩
set_option maxHeartbeats 1000000 in
theorem check3_any (ao:Option Addr) (n c:Nat) (k v:Nat→Int) (g:Nat→Bool) (hn:n<4611686018427387904) (hc:n≤c) (w:World) (h:ES w ao n k v g) :
  Calls Tryz.prog 40 #[.slice ao n c] w fun e w'=>(∃ r:Int,e=.returned (.int .i64 r)∧ChkR k v g n r)∧Gw w w':=by
 go_enter Tryz.func40,Tryz.ntmps40
 go_wp2_with fail
 refine (rises_entries ao n c k v g hn w h).mono ?_
 rintro e w1 ⟨⟨r,rfl,h1,h2,h3⟩,g1⟩
 have H:Hid (Up k r∧(r<n→1≤r∧k r≤k (r-1))):=⟨h2,h3⟩
 clear h2 h3
 have hrc:r≤c:=by omega
 go_wp2_with fail
 refine (containsf_any ao r c k v g (by omega) w1 ((h.gw g1).take h1)).mono ?_
 rintro e w2 ⟨⟨t,rfl,k1,k2⟩,g2⟩
 cases t with
 | true =>
  have B:Hid (∃ i:Nat,i<r∧Bad v g i∧∀ j,j<i→¬ Bad v g j):=k1 rfl
  clear k1 k2
  go_wp2_with fail
  go_ret
  obtain ⟨i,hi,hb,hj⟩:=B.out
  refine ⟨⟨31,rfl, .gone i (by omega) (fun j hj=>H.out.1 j (by omega)) hj hb⟩,g1.trans g2⟩
 | false =>
  have B:Hid (∀ j,j<r→¬ Bad v g j):=k2 rfl
  clear k1 k2
  by_cases hlt:r<n
  ·go_wp2_with fail
   go_ret
   obtain ⟨q1,q2⟩:=H.out.2 hlt
   obtain ⟨m,rfl⟩:∃ m,r=m+1:=⟨r-1,by omega⟩
   exact ⟨⟨30,rfl, .order m hlt H.out.1 B.out q2⟩,g1.trans g2⟩
  ·obtain rfl:r=n:=by omega
   go_wp2_with fail
   go_ret
   exact ⟨⟨0,rfl, .ok H.out.1 B.out⟩,g1.trans g2⟩
end Go.Proofs.YtjhaiiegdnamcabGreat
namespace Go.Proofs.YtjhaiiegdnamcabGreat
open Go.RowKit
set_option linter.unusedVariables false
set_option maxHeartbeats 1000000 in
theorem of3_any (ao:Option Addr) (n c:Nat) (k v:Nat→Int) (g:Nat→Bool) (hn:n*8≤281474976710656) (w:World) (h:ES w ao n k v g) :
  Calls Tryz.prog 78 #[.slice ao n c] w fun e w'=>(∃ b,e=.returned (.slice (some ⟨b,0,none⟩) n n)∧w.heap.size≤b∧w'.rowIs b 32 n (fun i=>.int .u64 (k i)))∧Gw w w':=by
 have hmk:=run_make_row' (P:=Tryz.prog) 121 32 (.int .u64 0) 8 Tryz.underlying121 info_k rfl .i64 .i64 n (by omega) (by omega)
 have hR:=World.rowIs_made w (.int .u64 0) n 32
 have hG:=(Gw.refl w).alloc (madeCells #[.int .u64 0] n) 32
 go_enter Tryz.func78,Tryz.ntmps78
 go_wp2_with fail
 generalize w.alloc (.cells (madeCells #[.int .u64 0] n) 32)=w0 at hR hG ⊢
 obtain ⟨b,hb⟩:∃ b,b=w.heap.size:=⟨_,rfl⟩
 rw [←hb] at hR ⊢
 have hbw:w.heap.size≤b:=by omega
 clear hb hmk
 have RR:Aside (w0.rowIs b 32 n (fun _=>.int .u64 0)):=hR
 have GG:Aside (Gw w w0):=hG
 clear hR hG
 go_loopg [11] n (fun gg s11 wr=>∃ i:Nat,s11=.int .i64 i∧i≤n∧n-i≤gg∧Aside (wr.rowIs b 32 n (fun j=>.int .u64 (if j<i then k j else 0)))∧Aside (Gw w wr))
 case atStart=>exact ⟨0,rfl,Nat.zero_le _,by omega,(show Aside _ from RR.out.congr fun j hj=>by simp),GG⟩
 case round =>
  obtain ⟨i,rfl,h1,h2,R,G⟩:=hrel
  by_cases hlt:i<n
  ·obtain ⟨b',off,rfl,hb',hc⟩:=(h.gw G.out).cells (by omega)
   obtain ⟨c1,c2,c3⟩:=hc i hlt
   have r1:=R.out.cell hlt
   have r2:=R.out.frozen i
   have r3:=R.out.lt
   clear hc h RR GG
   generalize hk1:k i=k1 at c1
   have Y:Aside (k i=k1):=hk1
   clear hk1
   generalize v i=v1 at c2
   generalize g i=g1 at c3
   go_wp2_with fail
   go_roundg (n-(i+1))
   case measure=>omega
   case rel =>
    refine ⟨i+1,by go_num,by omega,Nat.le_refl _,(show Aside _ from (((R.out.set i (.int .u64 k1)).alloc _).congr fun j hj=>?_)),(show Aside _ from ((G.out.setCell hbw _).alloc _ _))⟩
    by_cases e:j=i
    ·subst e;rw [if_pos rfl,if_pos (by omega),Y.out]
    ·rw [if_neg e]
     by_cases q:j<i
     ·rw [if_pos q,if_pos (by omega)]
     ·rw [if_neg q,if_neg (by omega)]
  ·obtain rfl:i=n:=by omega
   go_wp2_with fail
   go_ret
   exact ⟨⟨b,rfl,hbw,R.out.congr fun j hj=>by simp [hj]⟩,G.out⟩
end Go.Proofs.YtjhaiiegdnamcabGreat
namespace Go.Proofs.YtjhaiiegdnamcabGreat
open Go.RowKit
set_option linter.unusedVariables false
end Go.Proofs.YtjhaiiegdnamcabGreat
namespace Go.Proofs.YtjhaiiegdnamcabGreat
open Go.RowKit
set_option linter.unusedVariables false
attribute [local go_sem] run_store_float
abbrev entV (k v:Int) (g:Bool):Value:=.agg #[.int .u64 k, .int .u64 v, .bool g]
def atV (k v:Nat→Int) (g:Nat→Bool) (n:Nat) (i:Int):Value×Int:=if 0≤i∧i<n then (entV (k i.toNat) (v i.toNat) (g i.toNat),0) else (entV 0 0 false,1)
def getV (k v:Nat→Int) (g:Nat→Bool) (n:Nat) (q:Int):Value×Bool:=if cntb k q n<n∧k (cntb k q n)=q then (entV (k (cntb k q n)) (v (cntb k q n)) (g (cntb k q n)),true) else (entV 0 0 false,false)
theorem ES.kept {u w:World} {eo:Option Addr} {n:Nat} {k v:Nat→Int} {g:Nat→Bool} {base:Nat} (h:ES u eo n k v g) (hb:∀ a,eo=some a→base≤a.block) (hs:u.heap.size≤w.heap.size) (hk:∀ q,base≤q→q<u.heap.size→w.heap[q]?=u.heap[q]?):ES w eo n k v g:=by
 refine ⟨fun hn=>?_,h.bd⟩
 obtain ⟨b,off,e,hb',hc⟩:=h.cells hn
 have bb:base≤b:=hb _ e
 have eq:∀ o,w.cell? ⟨b,o,none⟩=u.cell? ⟨b,o,none⟩:=fun o=>World.cell?_of_block (a:=⟨b,o,none⟩) (hk b bb hb')
 exact ⟨b,off,e,by omega,fun i hi=>⟨(eq _).trans (hc i hi).1,(eq _).trans (hc i hi).2.1,(eq _).trans (hc i hi).2.2⟩⟩
structure HDoc (w:World) (p:Nat) (S:Nat→Prop) (eps:Int) (k v:Nat→Int) (g:Nat→Bool) (n:Nat) (L:List (List Sg)):Prop where
 lies:∃ (u:World) (base:Nat) (eo:Option Addr) (ec:Nat) (lo:Option Addr) (lc:Nat),(∀ q,S q↔base≤q∧q<u.heap.size)∧u.heap.size≤w.heap.size∧(∀ q,base≤q→q<u.heap.size→w.heap[q]?=u.heap[q]?)∧u.heap[p]?=some (.cells #[.slice eo n ec, .int .i64 eps, .slice lo L.length lc] 118 (0,0))∧base≤p∧ES u eo n k v g∧(∀ a,eo=some a→base≤a.block)∧VSf u base lo L
 n1:n≤2000000
 sh:Short L
section
variable {w:World} {p:Nat} {S:Nat→Prop} {eps:Int} {k v:Nat→Int} {g:Nat→Bool} {n:Nat} {L:List (List Sg)}
theorem HDoc.lt (h:HDoc w p S eps k v g n L):∀ q,S q→q<w.heap.size:=by
 obtain ⟨u,base,ko,kc,lo,lc,h1,h2,_⟩:=h.lies
 intro q hq
 have:=(h1 q).1 hq
 omega
theorem HDoc.keep {w':World} (h:HDoc w p S eps k v g n L) (kk:∀ q,S q→w'.heap[q]?=w.heap[q]?):HDoc w' p S eps k v g n L:=by
 obtain ⟨u,base,ko,kc,lo,lc,h1,h2,h3,h4,h5,h6⟩:=h.lies
 have pu:p<u.heap.size:=(Array.getElem?_eq_some_iff.1 h4).1
 refine ⟨⟨u,base,ko,kc,lo,lc,h1,?_,fun q a b=>(kk q ((h1 q).2 ⟨a,b⟩)).trans (h3 q a b),h4,h5,h6⟩,h.n1,h.sh⟩
 have e:=kk (u.heap.size-1) ((h1 _).2 ⟨by omega,by omega⟩)
 rw [Array.getElem?_eq_getElem (show u.heap.size-1<w.heap.size by omega)] at e
 have:=(Array.getElem?_eq_some_iff.1 e).1
 omega
theorem HDoc.gw {w':World} (h:HDoc w p S eps k v g n L) (gg:Gw w w'):HDoc w' p S eps k v g n L:=h.keep fun q hq=>gg.below.block q (h.lt q hq)
theorem HDoc.opened (h:HDoc w p S eps k v g n L):∃ eo ec lo lc,w.heap[p]?=some (.cells #[.slice eo n ec, .int .i64 eps, .slice lo L.length lc] 118 (0,0))∧ES w eo n k v g∧VS w lo L:=by
 obtain ⟨u,base,ko,kc,lo,lc,h1,h2,h3,h4,h5,h6,h7,h8⟩:=h.lies
 have pu:p<u.heap.size:=(Array.getElem?_eq_some_iff.1 h4).1
 exact ⟨ko,kc,lo,lc,(h3 p h5 pu).trans h4,h6.kept h7 h2 h3,(h8.keep (fun q a b=>h3 q a b) h2).vs⟩
end
end Go.Proofs.YtjhaiiegdnamcabGreat
namespace Go.Proofs.YtjhaiiegdnamcabGreat
open Go.RowKit
set_option linter.unusedVariables false
def ecs (k v:Nat→Int) (g:Nat→Bool) (n:Nat):List Value:=(List.range (n*3)).map (ecell k v g)
theorem ecs_len (k v:Nat→Int) (g:Nat→Bool) (n:Nat):(ecs k v g n).length=n*3:=by simp [ecs]
theorem ecs_at (k v:Nat→Int) (g:Nat→Bool) {n j:Nat} (h:j<n*3):(ecs k v g n)[j]?=some (ecell k v g j):=by simp [ecs,h]
theorem ecs_one (k v:Nat→Int) (g:Nat→Bool) (n:Nat):∀ u∈ecs k v g n,u.oneCell'=true:=by
 intro u hu
 obtain ⟨j,_,rfl⟩:=List.mem_map.1 hu
 exact ecell_one k v g j
theorem es_news {w:World} {ao:Option Addr} {n:Nat} {k v:Nat→Int} {g:Nat→Bool} (h:ES w ao n k v g):∀ ad,ao=some ad→∀ j u,(ecs k v g n)[j]?=some u→w.cell? (ad.add j)=some u:=by
 intro ad e j u hu
 have hj:j<n*3:=by
  have:=(List.getElem?_eq_some_iff.1 hu).1
  rwa [ecs_len] at this
 obtain ⟨b,off,e',_,hc⟩:=h.flat (by omega)
 rw [e] at e'
 cases e'
 rw [Addr.add_lit,hc j hj,←ecs_at k v g hj]
 exact hu
def ER (w:World) (base:Nat) (x:Value) (k v:Nat→Int) (g:Nat→Bool) (n:Nat):Prop:=w.ownsRow base 65 3 x n (ecs k v g n)
theorem er_es {w:World} {base:Nat} {ao:Option Addr} {cap n:Nat} {k v:Nat→Int} {g:Nat→Bool} (h:ER w base (.slice ao n cap) k v g n) (bd:∀ i,i<n→(0≤k i∧k i<18446744073709551616)∧(0≤v i∧v i<18446744073709551616)):ES w ao n k v g:=by
 refine ⟨fun h0=>?_,bd⟩
 rcases h.2 with ⟨e,z⟩ | ⟨b,cap',cur,e,hb,hh,r⟩
 ·omega
 ·cases e
  have h':w.ownsRow base 65 3 (.slice (some ⟨b,0,none⟩) n cap) n (ecs k v g n):=h
  have ce:∀ j,j<n*3→w.cell? ⟨b,j,none⟩=some (ecell k v g j):=fun j hj=>by
   rw [h'.cellAt j hj,ecs_at k v g hj]
  refine ⟨b,0,rfl,(Array.getElem?_eq_some_iff.1 hh).1,fun i hi=>⟨?_,?_,?_⟩⟩
  ·rw [Nat.zero_add,ce _ (by omega),ecell_0]
  ·rw [Nat.zero_add,ce _ (by omega),ecell_1]
  ·rw [Nat.zero_add,ce _ (by omega),ecell_2]
theorem er_form {w:World} {base:Nat} {x:Value} {k v:Nat→Int} {g:Nat→Bool} {n:Nat} (h:ER w base x k v g n):∃ bo c,x=.slice bo n c∧n≤c∧∀ a,bo=some a→base≤a.block∧a.block<w.heap.size:=by
 rcases h.2 with ⟨e,z⟩ | ⟨b,cap,cur,e,hb,hh,hc,_⟩
 ·exact ⟨none,0,by rw [e,z],by omega,fun a q=>by cases q⟩
 ·exact ⟨some ⟨b,0,none⟩,cap,e,hc,fun a q=>by cases q;exact ⟨hb,(Array.getElem?_eq_some_iff.1 hh).1⟩⟩
theorem VSf.low {w:World} {base base':Nat} {ao:Option Addr} {L:List (List Sg)} (h:VSf w base ao L) (hb:base'≤base):VSf w base' ao L :=
 ⟨fun h0=>by
  obtain ⟨b,off,e,x,hc⟩:=h.cells h0
  refine ⟨b,off,e,⟨Nat.le_trans hb x.1,x.2⟩,fun i hi=>?_⟩
  obtain ⟨bo,c,y1,y2,y3,y4,y5⟩:=hc i hi
  exact ⟨bo,c,y1,y2,y3,y4,fun a ea=>⟨Nat.le_trans hb (y5 a ea).1,(y5 a ea).2⟩⟩⟩
def NewE (eps:Int) (k v:Nat→Int) (g:Nat→Bool) (n:Nat) (E:Int):Prop:=(¬ (2≤eps∧eps≤64)∧E=1)∨((2≤eps∧eps≤64)∧ChkR k v g n E)
theorem NewE.one {eps:Int} {k v:Nat→Int} {g:Nat→Bool} {n:Nat} {E E':Int} (h:NewE eps k v g n E) (h':NewE eps k v g n E'):E=E':=by
 rcases h with ⟨a,rfl⟩ | ⟨a,c⟩
 ·rcases h' with ⟨_,rfl⟩ | ⟨b,_⟩
  ·rfl
  ·exact absurd b a
 ·rcases h' with ⟨b,_⟩ | ⟨_,d⟩
  ·exact absurd a b
  ·exact c.one d
def OfE (eps:Int) (k v:Nat→Int) (g:Nat→Bool) (n:Nat) (L:List (List Sg)) (E:Int):Prop:=∃ r,NewE eps k v g n r∧((r≠0∧E=r)∨(r=0∧CheckR eps k n L E))
theorem OfE.one {eps:Int} {k v:Nat→Int} {g:Nat→Bool} {n:Nat} {L:List (List Sg)} {E E':Int} (h:OfE eps k v g n L E) (h':OfE eps k v g n L E'):E=E':=by
 obtain ⟨r,a,b⟩:=h
 obtain ⟨r',a',b'⟩:=h'
 have e:=a.one a'
 subst e
 rcases b with ⟨x,rfl⟩ | ⟨x,y⟩
 ·rcases b' with ⟨_,rfl⟩ | ⟨z,_⟩
  ·rfl
  ·exact absurd z x
 ·rcases b' with ⟨z,_⟩ | ⟨_,u⟩
  ·exact absurd x z
  ·exact y.one u
theorem NewE.up {eps:Int} {k v:Nat→Int} {g:Nat→Bool} {n:Nat} (h:NewE eps k v g n 0):(2≤eps∧eps≤64)∧Up k n:=by
 rcases h with ⟨_,e⟩ | ⟨a,⟨_,u,_⟩ | ⟨e,_⟩ | ⟨e,_⟩⟩
 ·cases e
 ·exact ⟨a,u⟩
 ·cases e
 ·cases e
def RunOut (HR:World→Nat→(Nat→Prop)→Int→(Nat→Int)→(Nat→Int)→(Nat→Bool)→Nat→List (List Sg)→Prop) (w w':World) (ex:Ending) (eps:Int) (k v:Nat→Int) (g:Nat→Bool) (n:Nat):Prop :=
 ∃ E,NewE eps k v g n E∧((E≠0∧ex=.returned (.tuple #[.pointer none, .int .i64 E]))∨(E=0∧∃ p S L,ex=.returned (.tuple #[.pointer (some ⟨p,0,none⟩), .int .i64 0])∧(∀ q,S q→w.heap.size≤q)∧BuildR eps k n L∧HR w' p S eps k v g n L))
def OfOutR (HR:World→Nat→(Nat→Prop)→Int→(Nat→Int)→(Nat→Int)→(Nat→Bool)→Nat→List (List Sg)→Prop) (w w':World) (ex:Ending) (eps:Int) (k v:Nat→Int) (g:Nat→Bool) (n:Nat) (L:List (List Sg)):Prop :=
 ∃ E,OfE eps k v g n L E∧((E≠0∧ex=.returned (.tuple #[.pointer none, .int .i64 E]))∨(E=0∧∃ p S,ex=.returned (.tuple #[.pointer (some ⟨p,0,none⟩), .int .i64 0])∧(∀ q,S q→w.heap.size≤q)∧HR w' p S eps k v g n L))
theorem BuildR.fine {eps:Int} {f:Nat→Int} {n:Nat} {L:List (List Sg)} (e0:2≤eps) (n1:n≤2000000) (bd:∀ t,t<n→0≤f t∧f t<18446744073709551616) (u:Up f n) (b:BuildR eps f n L):Short L:=by
 refine ⟨?_,fun i hi=>by have:=b.short n1 bd u i hi;omega⟩
 have a:=b.low e0 n1 bd u
 have c:=hgt_le (e:=eps.toNat) (by omega) n
 omega
end Go.Proofs.YtjhaiiegdnamcabGreat
