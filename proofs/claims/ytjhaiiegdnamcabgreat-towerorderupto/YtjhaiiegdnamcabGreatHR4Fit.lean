/- The document's own Fit in memory: New, Count, Least, Most. -/
import Derived.ArgAppend
import Derived.Deep.RegionHeld3
import Derived.Maps.AppendAt
import Derived.Test.YtjhaiiegdnamcabGreatHPBs
import Derived.Test.YtjhaiiegdnamcabGreatHPVo
namespace Go.Proofs.YtjhaiiegdnamcabGreat
open Go.RowKit
set_option linter.unusedVariables false
def Bx (w:World) (b:Nat) (t:TypeId) (u v:Value):Prop:=w.heap[b]?=some (.cells #[u,v] t (0,0))
theorem Bx.lt {w:World} {b:Nat} {t:TypeId} {u v:Value} (h:Bx w b t u v):b<w.heap.size:=(Array.getElem?_eq_some_iff.1 h).1
theorem Bx.c0 {w:World} {b:Nat} {t:TypeId} {u v:Value} (h:Bx w b t u v):w.cell? ⟨b,0,none⟩=some u:=by unfold Bx at h;simp [World.cell?,h]
theorem Bx.c1 {w:World} {b:Nat} {t:TypeId} {u v:Value} (h:Bx w b t u v):w.cell? ⟨b,1,none⟩=some v:=by unfold Bx at h;simp [World.cell?,h]
theorem Bx.fz {w:World} {b:Nat} {t:TypeId} {u v:Value} (h:Bx w b t u v) (o:Nat):w.frozen? ⟨b,o,none⟩=false:=by unfold Bx at h;simp [World.frozen?,h]
theorem Bx.gw {w w':World} {b:Nat} {t:TypeId} {u v:Value} (h:Bx w b t u v) (g:Gw w w'):Bx w' b t u v:=(g.below.block b h.lt).trans h
theorem Bx.new (w:World) (t:TypeId) (u v:Value):Bx (w.alloc (.cells #[u,v] t)) w.heap.size t u v:=heap_alloc_new w _
theorem Bx.set {w:World} {b:Nat} {t:TypeId} {u v:Value} (h:Bx w b t u v) (u' v':Value):Bx ((w.setCell ⟨b,0,none⟩ u').setCell ⟨b,1,none⟩ v') b t u' v':=by
 unfold Bx at h ⊢
 simp [World.setCell,Array.getElem?_modify,h]
theorem Bx.far {w:World} {b:Nat} {t:TypeId} {u v:Value} (h:Bx w b t u v) {q o:Nat} (x:Value) (hq:b≠q):Bx (w.setCell ⟨q,o,none⟩ x) b t u v:=(Go.Deep.blk_setCell_other _ _ _ _ hq).trans h
theorem Bx.alloc {w:World} {b:Nat} {t:TypeId} {u v:Value} (h:Bx w b t u v) (o:Obj):Bx (w.alloc o) b t u v:=(heap_alloc_old w o h.lt).trans h
theorem Bx.at {w:World} {b b':Nat} {t:TypeId} {u v:Value} (h:Bx w b t u v) (e:b=b'):Bx w b' t u v:=e▸h
structure RF (w:World) (p:Nat) (v:Value) (e:Int) (n:Nat) (f:Nat→Int) (a b c d:Int):Prop where
 blk:w.heap[p]?=some (.cells #[.int .i64 (e+1),v, .int .u64 a, .int .u64 b, .int .u64 c, .int .u64 d] 231 (0,0))
 own:w.ownsRow 0 32 1 v n ((List.range n).map fun i=>Value.int .u64 (f i))
 ne:∀ q,v.ownBlock=some q→q≠p
 up:Up f n
 bd:∀ i,i<n→0≤f i∧f i<18446744073709551616
 low:LowOn e f (Prs n) a b
 top:TopOn e f (Prs n) c d
 fit:FitsOn e f (Prs n)
 e1:1≤e∧e≤63
 wd:(a<18446744073709551616∧b<18446744073709551616)∧(0≤c∧c<18446744073709551616)∧(0≤d∧d<18446744073709551616)
theorem RF.lt {w:World} {p:Nat} {v:Value} {e:Int} {n:Nat} {f:Nat→Int} {a b c d:Int} (h:RF w p v e n f a b c d):p<w.heap.size:=(Array.getElem?_eq_some_iff.1 h.blk).1
theorem RF.cells {w:World} {p:Nat} {v:Value} {e:Int} {n:Nat} {f:Nat→Int} {a b c d:Int} (h:RF w p v e n f a b c d) :
  w.cell? ⟨p,0,none⟩=some (.int .i64 (e+1))∧w.cell? ⟨p,1,none⟩=some v∧w.cell? ⟨p,2,none⟩=some (.int .u64 a)∧w.cell? ⟨p,3,none⟩=some (.int .u64 b)∧w.cell? ⟨p,4,none⟩=some (.int .u64 c)∧w.cell? ⟨p,5,none⟩=some (.int .u64 d):=by
 have:=h.blk
 refine ⟨?_,?_,?_,?_,?_,?_⟩<;>simp [World.cell?,this]
theorem RF.frozen {w:World} {p:Nat} {v:Value} {e:Int} {n:Nat} {f:Nat→Int} {a b c d:Int} (h:RF w p v e n f a b c d) (o:Nat):w.frozen? ⟨p,o,none⟩=false:=by
 have:=h.blk
 simp [World.frozen?,this]
def rfp (p:Nat) (v:Value) (q:Nat):Prop:=q=p∨v.ownBlock=some q
theorem RF.in {w:World} {p:Nat} {v:Value} {e:Int} {n:Nat} {f:Nat→Int} {a b c d:Int} (h:RF w p v e n f a b c d) (q:Nat) (hq:rfp p v q):q<w.heap.size:=by
 rcases hq with rfl | hq
 ·exact h.lt
 ·exact (h.own.lt q hq).2
theorem RF.keep {w w':World} {p:Nat} {v:Value} {e:Int} {n:Nat} {f:Nat→Int} {a b c d:Int} (h:RF w p v e n f a b c d) (k:∀ q,rfp p v q→w'.heap[q]?=w.heap[q]?):RF w' p v e n f a b c d:=by
 refine ⟨(k p (.inl rfl)).trans h.blk,⟨h.own.1,?_⟩,h.ne,h.up,h.bd,h.low,h.top,h.fit,h.e1,h.wd⟩
 rcases h.own.2 with q | ⟨g,cap,cur,rfl,hb,hh,r⟩
 ·exact .inl q
 ·exact .inr ⟨g,cap,cur,rfl,hb,(k g (.inr rfl)).trans hh,r⟩
theorem RF.gw {w w':World} {p:Nat} {v:Value} {e:Int} {n:Nat} {f:Nat→Int} {a b c d:Int} (h:RF w p v e n f a b c d) (g:Gw w w'):RF w' p v e n f a b c d :=
 h.keep fun q hq=>g.below.block q (h.in q hq)
theorem RF.ks {w:World} {p:Nat} {v:Value} {e:Int} {n:Nat} {f:Nat→Int} {a b c d:Int} (h:RF w p v e n f a b c d):∃ ao cap,v=.slice ao n cap∧KS w ao n f:=by
 have ho:=h.own
 rcases h.own.2 with ⟨rfl,rfl⟩ | ⟨g,cap,cur,rfl,_⟩
 ·exact ⟨none,0,rfl,⟨fun q=>by omega,h.bd⟩⟩
 ·exact ⟨_,cap,rfl,⟨fun q=>⟨g,0,rfl,(ho.lt g rfl).2,fun i hi=>by rw [Nat.zero_add,ho.cellAt i (by omega)];simp [hi]⟩,h.bd⟩⟩
end Go.Proofs.YtjhaiiegdnamcabGreat
namespace Go.Proofs.YtjhaiiegdnamcabGreat
open Go.RowKit
set_option linter.unusedVariables false
structure Gs (S:Nat→Prop) (w w':World):Prop where
 os:w'.os=w.os
 tape:w'.tape=w.tape
 output:w'.output=w.output
 size:w.heap.size≤w'.heap.size
 block:∀ q,q<w.heap.size→¬ S q→w'.heap[q]?=w.heap[q]?
theorem Gw.gs {w w':World} (h:Gw w w') (S:Nat→Prop):Gs S w w':=⟨h.below.os,h.below.tape,h.below.output,h.below.size,fun q hq _=>h.below.block q hq⟩
theorem Gs.set {S:Nat→Prop} {w w':World} (h:Gs S w w') {q:Nat} (hq:S q) (o:Nat) (v:Value):Gs S w (w'.setCell ⟨q,o,none⟩ v) :=
 ⟨h.os,h.tape,h.output,by simpa [World.setCell] using h.size,fun k hk hs=>(Go.Deep.blk_setCell_other _ _ _ _ (fun e=>hs (by rw [e];exact hq))).trans (h.block k hk hs)⟩
theorem Gs.grown {S:Nat→Prop} {w w' w'':World} {row:Option Nat} (h:Gs S w w') (g:w'.grownBy w'' row) (hr:∀ k,row=some k→S k):Gs S w w'' :=
 ⟨g.os.trans h.os,g.tape.trans h.tape,g.output.trans h.output,Nat.le_trans h.size g.size,fun k hk hs=>(g.block k (Nat.lt_of_lt_of_le hk h.size) (fun e=>hs (hr k e.symm))).trans (h.block k hk hs)⟩
end Go.Proofs.YtjhaiiegdnamcabGreat
namespace Go.Proofs.YtjhaiiegdnamcabGreat
open Go.RowKit
set_option linter.unusedVariables false
def OfOut (ex:Ending) (eps:Int) (f:Nat→Int) (n:Nat):Prop:=∃ a b c err:Int,ex=.returned (.tuple #[.agg #[.int .u64 a, .int .u64 b, .int .i64 c], .int .i64 err])∧OfR eps f n a b c err∧(0≤a∧a<18446744073709551616)∧(0≤b∧b<18446744073709551616)∧(-9223372036854775808≤c∧c<9223372036854775808)
theorem Gs.gw5 {S:Nat→Prop} {W w w':World} (h:Gw W w) (g:Gs S w w') (hS:∀ q,S q→W.heap.size≤q):Gw W w' :=
 ⟨⟨g.os.trans h.below.os,g.tape.trans h.below.tape,g.output.trans h.below.output,Nat.le_trans h.below.size g.size,fun q hq=>(g.block q (Nat.lt_of_lt_of_le hq h.below.size) (fun s=>by have:=hS q s;omega)).trans (h.below.block q hq)⟩⟩
theorem FitsOn.part {e:Int} {f:Nat→Int} {n m:Nat} (h:FitsOn e f (Prs n)) (hm:m≤n):FitsOn e f (Prs m):=fun i j i' j' s s'=>h i j i' j' ⟨s.1,by have:=s.2;omega⟩ ⟨s'.1,by have:=s'.2;omega⟩
def Ln (w:World) (b:Nat) (x y z:Int):Prop:=w.heap[b]?=some (.cells #[.int .u64 x, .int .u64 y, .int .i64 z] 204 (0,0))
theorem Ln.lt {w:World} {b:Nat} {x y z:Int} (h:Ln w b x y z):b<w.heap.size:=(Array.getElem?_eq_some_iff.1 h).1
theorem Ln.c0 {w:World} {b:Nat} {x y z:Int} (h:Ln w b x y z):w.cell? ⟨b,0,none⟩=some (.int .u64 x):=by unfold Ln at h;simp [World.cell?,h]
theorem Ln.c1 {w:World} {b:Nat} {x y z:Int} (h:Ln w b x y z):w.cell? ⟨b,1,none⟩=some (.int .u64 y):=by unfold Ln at h;simp [World.cell?,h]
theorem Ln.c2 {w:World} {b:Nat} {x y z:Int} (h:Ln w b x y z):w.cell? ⟨b,2,none⟩=some (.int .i64 z):=by unfold Ln at h;simp [World.cell?,h]
theorem Ln.fz {w:World} {b:Nat} {x y z:Int} (h:Ln w b x y z) (o:Nat):w.frozen? ⟨b,o,none⟩=false:=by unfold Ln at h;simp [World.frozen?,h]
theorem Ln.gw {w w':World} {b:Nat} {x y z:Int} (h:Ln w b x y z) (g:Gw w w'):Ln w' b x y z:=(g.below.block b h.lt).trans h
theorem Ln.far {w:World} {b:Nat} {x y z:Int} (h:Ln w b x y z) {q o:Nat} (u:Value) (hq:b≠q):Ln (w.setCell ⟨q,o,none⟩ u) b x y z:=(Go.Deep.blk_setCell_other _ _ _ _ hq).trans h
theorem Ln.gs {S:Nat→Prop} {w w':World} {b:Nat} {x y z:Int} (h:Ln w b x y z) (g:Gs S w w') (n:¬ S b):Ln w' b x y z:=(g.block b h.lt n).trans h
end Go.Proofs.YtjhaiiegdnamcabGreat
namespace Go.Proofs.YtjhaiiegdnamcabGreat
open Go.RowKit
set_option linter.unusedVariables false
theorem Gs.gw {S:Nat→Prop} {W w w':World} (h:Gw W w) (g:Gs S w w') (hS:∀ q,S q→W.heap.size≤q):Gw W w' :=
 ⟨⟨g.os.trans h.below.os,g.tape.trans h.below.tape,g.output.trans h.below.output,Nat.le_trans h.below.size g.size,fun q hq=>(g.block q (Nat.lt_of_lt_of_le hq h.below.size) (fun s=>by have:=hS q s;omega)).trans (h.below.block q hq)⟩⟩
structure HullC (HF:World→Nat→(Nat→Prop)→Int→Nat→(Nat→Int)→Prop):Prop where
 keep:∀ {w w':World} {p:Nat} {S:Nat→Prop} {e:Int} {n:Nat} {f:Nat→Int},HF w p S e n f→(∀ q,S q→w'.heap[q]?=w.heap[q]?)→HF w' p S e n f
 lt:∀ {w:World} {p:Nat} {S:Nat→Prop} {e:Int} {n:Nat} {f:Nat→Int},HF w p S e n f→∀ q,S q→q<w.heap.size
 ext:∀ {w:World} {p:Nat} {S:Nat→Prop} {e:Int} {n:Nat} {f g:Nat→Int},HF w p S e n f→(∀ i,i<n→f i=g i)→HF w p S e n g
 facts:∀ {w:World} {p:Nat} {S:Nat→Prop} {e:Int} {n:Nat} {f:Nat→Int},HF w p S e n f→Up f n∧(∀ i,i<n→0≤f i∧f i<18446744073709551616)∧FitsOn e f (Prs n)∧1≤e∧e≤63
 bad:∀ (eps:Int),¬ (2≤eps∧eps≤64)→∀ w:World,Calls Tryz.prog 151 #[.int .i64 eps] w fun ex w'=>ex=.returned (.tuple #[.pointer none, .int .i64 1])∧Gw w w'
 new:∀ (eps:Int),2≤eps→eps≤64→∀ w:World,Calls Tryz.prog 151 #[.int .i64 eps] w fun ex w'=>(∃ p S,ex=.returned (.tuple #[.pointer (some ⟨p,0,none⟩), .int .i64 0])∧(∀ q,S q→w.heap.size≤q)∧HF w' p S (eps-1) 0 (fun _=>0))∧Gw w w'
 add:∀ {w:World} {p:Nat} {S:Nat→Prop} {e:Int} {n:Nat} {f:Nat→Int},HF w p S e n f→∀ x:Int,0≤x→x<18446744073709551616→n≤3000000 →
  Calls Tryz.prog 173 #[.pointer (some ⟨p,0,none⟩), .int .u64 x] w fun ex w' =>
   (∃ (ok:Bool) (err:Int) (S':Nat→Prop),ex=.returned (.tuple #[.bool ok, .int .i64 err])∧AddR e n f x ok err∧HF w' p S' e (if ok then n+1 else n) (if ok then upd f n x else f)∧∀ q,S' q→S q∨w.heap.size≤q)∧Gs S w w'
 least:∀ {w:World} {p:Nat} {S:Nat→Prop} {e:Int} {n:Nat} {f:Nat→Int},HF w p S e n f→n≤3000001→Calls Tryz.prog 176 #[.pointer (some ⟨p,0,none⟩)] w fun ex w'=>(∃ a b,ex=.returned (.agg #[.int .u64 a, .int .u64 b])∧LowOn e f (Prs n) a b∧a<18446744073709551616∧b<18446744073709551616)∧Gw w w'
theorem HullC.gw {HF:World→Nat→(Nat→Prop)→Int→Nat→(Nat→Int)→Prop} (H:HullC HF) {w w':World} {p:Nat} {S:Nat→Prop} {e:Int} {n:Nat} {f:Nat→Int} (h:HF w p S e n f) (g:Gw w w'):HF w' p S e n f :=
 H.keep h fun q hq=>g.below.block q (H.lt h q hq)
end Go.Proofs.YtjhaiiegdnamcabGreat
namespace Go.Proofs.YtjhaiiegdnamcabGreat
open Go.RowKit
set_option linter.unusedVariables false
theorem info_i:(Tryz.prog.info? 3).map (fun i=>(i.zero,i.size,i.bytes))=some (some (.int .i64 0),1,8):=by kernel_rfl
def IR (w:World) (base:Nat) (v:Value) (l:List Nat):Prop:=w.ownsRow base 3 1 v l.length (l.map fun (j:Nat)=>Value.int .i64 (j:Int))
theorem ir_keep {w w':World} {base:Nat} {v:Value} {l:List Nat} (h:IR w base v l) (k:∀ q,v.ownBlock=some q→w'.heap[q]?=w.heap[q]?):IR w' base v l:=by
 refine ⟨h.1,?_⟩
 rcases h.2 with q | ⟨g,cap,cur,rfl,hb,hh,r⟩
 ·exact .inl q
 ·exact .inr ⟨g,cap,cur,rfl,hb,(k g rfl).trans hh,r⟩
theorem ir_lt {w:World} {base:Nat} {v:Value} {l:List Nat} (h:IR w base v l):∀ q,v.ownBlock=some q→base≤q∧q<w.heap.size:=fun q hq=>World.ownsRow.lt h q hq
theorem ir_gw {w w':World} {base:Nat} {v:Value} {l:List Nat} (h:IR w base v l) (g:Gw w w'):IR w' base v l:=ir_keep h fun q hq=>g.below.block q (ir_lt h q hq).2
theorem ir_nil (w:World) (base:Nat):IR w base (.slice none 0 0) []:=World.ownsRow_nil _ _ _ _
theorem ir_slice {w:World} {base:Nat} {v:Value} {l:List Nat} (h:IR w base v l):∃ ao cap,v=.slice ao l.length cap∧(ao=none→l=[]∧cap=0)∧(∀ ad,ao=some ad→∃ g,ad=⟨g,0,none⟩∧base≤g∧g<w.heap.size∧∀ i,i<l.length→w.cell? ⟨g,i,none⟩=some (.int .i64 ((l.getD i 0:Nat):Int))):=by
 rcases h.2 with ⟨rfl,q⟩ | ⟨g,cap,cur,rfl,hb,hh,r⟩
 ·have:l=[]:=List.eq_nil_of_length_eq_zero q
  subst this
  exact ⟨none,0,rfl,fun _=>⟨rfl,rfl⟩,fun ad e=>by cases e⟩
 ·refine ⟨some ⟨g,0,none⟩,cap,rfl,(fun e=>by cases e),fun ad e=>⟨g,by cases e;rfl,hb,(Array.getElem?_eq_some_iff.1 hh).1,fun i hi=>?_⟩⟩
  have:=World.ownsRow.cellAt h i (by omega)
  rw [this]
  simp [hi,List.getD]
theorem new_i (w:World) (x:Int):∀ j u,[Value.int .i64 x][j]?=some u→(w.alloc (.cells #[.int .i64 x] 3)).cell? ((⟨w.heap.size,0,none⟩:Addr).add j)=some u:=by
 intro j u hu
 cases j with
 | zero =>
  simp only [List.getElem?_cons_zero,Option.some.injEq] at hu
  subst hu
  simp [Addr.add,go_sem]
 | succ j=>simp at hu
def cut0 (f:Nat→Int) (m j:Nat):Int:=if j<m then f j else 0
theorem cut0_lo {f:Nat→Int} {m j:Nat} (h:j<m):cut0 f m j=f j:=if_pos h
theorem cut0_next (f:Nat→Int) (m:Nat):upd (cut0 f m) m (f m)=cut0 f (m+1):=by
 funext j
 by_cases e:j=m
 ·subst e;rw [upd_at,cut0_lo (by omega)]
 ·by_cases e':j<m
  ·rw [upd_lo e',cut0_lo e',cut0_lo (by omega)]
  ·unfold upd
   rw [if_neg e]
   unfold cut0
   rw [if_neg e',if_neg (by omega)]
theorem cut0_none (f:Nat→Int):cut0 f 0=fun _=>0:=by funext j;exact if_neg (by omega)
theorem gs_gw {S:Nat→Prop} {W w w':World} (h:Gw W w) (g:Gs S w w') (hS:∀ q,S q→W.heap.size≤q):Gw W w' :=
 ⟨⟨g.os.trans h.below.os,g.tape.trans h.below.tape,g.output.trans h.below.output,Nat.le_trans h.below.size g.size,fun q hq=>(g.block q (Nat.lt_of_lt_of_le hq h.below.size) (fun s=>by have:=hS q s;omega)).trans (h.below.block q hq)⟩⟩
end Go.Proofs.YtjhaiiegdnamcabGreat
namespace Go.Proofs.YtjhaiiegdnamcabGreat
open Go.RowKit
set_option linter.unusedVariables false
def EndsOut (base:Nat) (w':World) (ex:Ending) (eps:Int) (f:Nat→Int) (n:Nat):Prop:=∃ v l err,ex=.returned (.tuple #[v, .int .i64 err])∧EndsR eps f n l err∧IR w' base v l
end Go.Proofs.YtjhaiiegdnamcabGreat
namespace Go.Proofs.YtjhaiiegdnamcabGreat
open Go.RowKit
set_option linter.unusedVariables false
attribute [local go_sem] run_store_float
def VI (w:World) (base ob:Nat) (vals:List Value) (L:List (List Sg)):Prop :=
 vals.length=L.length∧∀ i,i<L.length→∃ g cap,vals[i]?=some (.slice (some ⟨g,0,none⟩) (L.getD i []).length cap)∧(L.getD i []).length≤cap∧g≠ob∧(base≤g∧g<w.heap.size)∧GS w (some ⟨g,0,none⟩) (L.getD i [])
theorem VI.gw {w w':World} {base ob:Nat} {vals:List Value} {L:List (List Sg)} (h:VI w base ob vals L) (g:Gw w w'):VI w' base ob vals L :=
 ⟨h.1,fun i hi=>by
  obtain ⟨a,cap,h1,h2,h3,h4,h5⟩:=h.2 i hi
  exact ⟨a,cap,h1,h2,h3,⟨h4.1,Nat.lt_of_lt_of_le h4.2 g.size⟩,h5.gw g⟩⟩
theorem gs_blocks {w w':World} {g:Nat} {l:List Sg} (h:GS w (some ⟨g,0,none⟩) l) (hb:w'.heap[g]?=w.heap[g]?) (hs:w.heap.size≤w'.heap.size):GS w' (some ⟨g,0,none⟩) l :=
 ⟨fun h0=>by
  obtain ⟨b,off,e,hl,hc⟩:=h.cells h0
  cases e
  have cc:∀ o,w'.cell? ⟨g,o,none⟩=w.cell? ⟨g,o,none⟩:=fun o=>by unfold World.cell?;rw [hb]
  exact ⟨g,0,rfl,by omega,fun i hi=>⟨(cc _).trans (hc i hi).c0,(cc _).trans (hc i hi).c1,(cc _).trans (hc i hi).c2,(cc _).trans (hc i hi).c3,(cc _).trans (hc i hi).c4⟩⟩,h.ok⟩
theorem VI.more {w w':World} {o:Obj} {base ob ob':Nat} {vals:List Value} {L:List (List Sg)} {l:List Sg} {g cap:Nat} (h:VI w base ob vals L) (r:(w.alloc o).grownBy w' (some ob)) (ho:ob'=ob∨w.heap.size≤ob') (gl:GS w (some ⟨g,0,none⟩) l) (gc:l.length≤cap) (gn:g≠ob) (gb:base≤g) (gw:g<w.heap.size):VI w' base ob' (vals++[.slice (some ⟨g,0,none⟩) l.length cap]) (L++[l]):=by
 have keep:∀ q,q<w.heap.size→q≠ob→w'.heap[q]?=w.heap[q]?:=fun q hq hn=>(r.block q (by simp;omega) (by simpa using hn)).trans (heap_alloc_old w o hq)
 have sz:w.heap.size≤w'.heap.size:=by have:=r.size;simp at this;omega
 refine ⟨by simp [h.1],fun i hi=>?_⟩
 by_cases e:i<L.length
 ·obtain ⟨a,c,h1,h2,h3,h4,h5⟩:=h.2 i e
  have gd:(L++[l]).getD i []=L.getD i []:=by simp [List.getD,List.getElem?_append_left e]
  rw [gd]
  exact ⟨a,c,by rw [List.getElem?_append_left (by rw [h.1];exact e)];exact h1,h2,by omega,⟨h4.1,by omega⟩,gs_blocks h5 (keep a h4.2 h3) sz⟩
 ·have ei:i=L.length:=by simp at hi;omega
  have gd:(L++[l]).getD i []=l:=by subst ei;simp [List.getD]
  rw [gd]
  exact ⟨g,cap,by rw [List.getElem?_append_right (by rw [h.1];omega),h.1,ei];simp,gc,by omega,⟨gb,by omega⟩,gs_blocks gl (keep g gw gn) sz⟩
theorem new_val (w:World) (v:Value) (t:TypeId):∀ j u,[v][j]?=some u→(w.alloc (.cells #[v] t)).cell? ((⟨w.heap.size,0,none⟩:Addr).add j)=some u:=by
 intro j u hu
 have h:=heap_alloc_new w (.cells #[v] t)
 rw [Addr.add_lit,Nat.zero_add]
 simp only [World.cell?,h]
 simpa using hu
theorem seg_ok {eps fr:Int} {h:Nat→Int} {N:Nat} {k:Int} {s ic:Nat} {F T er:Int} (S:SegR eps fr h N k s ic F T er) (e:2≤eps∧eps≤64) (n0:0<N) (u:Up h N) (ft:FitsOn (eps-1) h (Prs N)) (f0:0≤fr) (f1:fr+N≤4294967296):er=0:=by
 have z:∀ {a b c x:Int},OfR eps h N a b c x→x=0:=fun o=>by
  rcases o with ⟨q,_⟩ | ⟨_,q,_⟩ | ⟨_,_,q,_⟩ | ⟨_,_,_,_,_,q⟩
  ·exact absurd q (by omega)
  ·exact absurd ⟨n0,u⟩ q
  ·exact absurd ft q
  ·exact q
 rcases S with ⟨a,b,c,o,ne,_⟩ | ⟨a,b,c,o,nb,_⟩ | ⟨a,b,c,o,_,_,_,_,_,_,_,q⟩
 ·exact absurd (z o) ne
 ·exact absurd ⟨f0,f1⟩ nb
 ·exact q
end Go.Proofs.YtjhaiiegdnamcabGreat
