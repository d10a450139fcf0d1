/- The document's own Fit in memory: New, Count, Least, Most. -/
import Derived.ArgAppend
import Derived.Test.YtinefkljjnepjaaGreatHPBs
namespace Go.Proofs.YtinefkljjnepjaaGreat
open Go.RowKit
set_option linter.unusedVariables false
def Bx (w:World) (b:Nat) (t:TypeId) (u v:Value):Prop:=w.heap[b]?=some (.cells #[u,v] t (0,0))
theorem Bx.lt {w:World} {b:Nat} {t:TypeId} {u v:Value} (h:Bx w b t u v):b<w.heap.size:=(Array.getElem?_eq_some_iff.1 h).1
theorem Bx.c0 {w:World} {b:Nat} {t:TypeId} {u v:Value} (h:Bx w b t u v):w.cell? ⟨b,0,none⟩=some u:=by unfold Bx at h;simp [World.cell?,h]
theorem Bx.c1 {w:World} {b:Nat} {t:TypeId} {u v:Value} (h:Bx w b t u v):w.cell? ⟨b,1,none⟩=some v:=by unfold Bx at h;simp [World.cell?,h]
theorem Bx.fz {w:World} {b:Nat} {t:TypeId} {u v:Value} (h:Bx w b t u v) (o:Nat):w.frozen? ⟨b,o,none⟩=false:=by unfold Bx at h;simp [World.frozen?,h]
theorem Bx.gw {w w':World} {b:Nat} {t:TypeId} {u v:Value} (h:Bx w b t u v) (g:Gw w w'):Bx w' b t u v:=(g.below.block b h.lt).trans h
theorem Bx.new (w:World) (t:TypeId) (u v:Value):Bx (w.alloc (.cells #[u,v] t)) w.heap.size t u v:=heap_alloc_new w _
theorem Bx.set {w:World} {b:Nat} {t:TypeId} {u v:Value} (h:Bx w b t u v) (u' v':Value):Bx ((w.setCell ⟨b,0,none⟩ u').setCell ⟨b,1,none⟩ v') b t u' v':=by
 unfold Bx at h ⊢
 simp [World.setCell,Array.getElem?_modify,h]
theorem Bx.far {w:World} {b:Nat} {t:TypeId} {u v:Value} (h:Bx w b t u v) {q o:Nat} (x:Value) (hq:b≠q):Bx (w.setCell ⟨q,o,none⟩ x) b t u v:=(Go.Deep.blk_setCell_other _ _ _ _ hq).trans h
theorem Bx.alloc {w:World} {b:Nat} {t:TypeId} {u v:Value} (h:Bx w b t u v) (o:Obj):Bx (w.alloc o) b t u v:=(heap_alloc_old w o h.lt).trans h
theorem Bx.at {w:World} {b b':Nat} {t:TypeId} {u v:Value} (h:Bx w b t u v) (e:b=b'):Bx w b' t u v:=e▸h
structure RF (w:World) (p:Nat) (v:Value) (e:Int) (n:Nat) (f:Nat→Int) (a b c d:Int):Prop where
 blk:w.heap[p]?=some (.cells #[.int .i64 (e+1),v, .int .u64 a, .int .u64 b, .int .u64 c, .int .u64 d] 192 (0,0))
 own:w.ownsRow 0 52 1 v n ((List.range n).map fun i=>Value.int .u64 (f i))
 ne:∀ q,v.ownBlock=some q→q≠p
 up:Up f n
 bd:∀ i,i<n→0≤f i∧f i<18446744073709551616
 low:LowOn e f (Prs n) a b
 top:TopOn e f (Prs n) c d
 fit:FitsOn e f (Prs n)
 e1:1≤e∧e≤63
 wd:(a<18446744073709551616∧b<18446744073709551616)∧(0≤c∧c<18446744073709551616)∧(0≤d∧d<18446744073709551616)
theorem RF.lt {w:World} {p:Nat} {v:Value} {e:Int} {n:Nat} {f:Nat→Int} {a b c d:Int} (h:RF w p v e n f a b c d):p<w.heap.size:=(Array.getElem?_eq_some_iff.1 h.blk).1
theorem RF.cells {w:World} {p:Nat} {v:Value} {e:Int} {n:Nat} {f:Nat→Int} {a b c d:Int} (h:RF w p v e n f a b c d) :
  w.cell? ⟨p,0,none⟩=some (.int .i64 (e+1))∧w.cell? ⟨p,1,none⟩=some v∧w.cell? ⟨p,2,none⟩=some (.int .u64 a)∧w.cell? ⟨p,3,none⟩=some (.int .u64 b)∧w.cell? ⟨p,4,none⟩=some (.int .u64 c)∧w.cell? ⟨p,5,none⟩=some (.int .u64 d):=by
 have:=h.blk
 refine ⟨?_,?_,?_,?_,?_,?_⟩<;>simp [World.cell?,this]
theorem RF.frozen {w:World} {p:Nat} {v:Value} {e:Int} {n:Nat} {f:Nat→Int} {a b c d:Int} (h:RF w p v e n f a b c d) (o:Nat):w.frozen? ⟨p,o,none⟩=false:=by
 have:=h.blk
 simp [World.frozen?,this]
def rfp (p:Nat) (v:Value) (q:Nat):Prop:=q=p∨v.ownBlock=some q
theorem RF.in {w:World} {p:Nat} {v:Value} {e:Int} {n:Nat} {f:Nat→Int} {a b c d:Int} (h:RF w p v e n f a b c d) (q:Nat) (hq:rfp p v q):q<w.heap.size:=by
 rcases hq with rfl | hq
 ·exact h.lt
 ·exact (h.own.lt q hq).2
theorem RF.keep {w w':World} {p:Nat} {v:Value} {e:Int} {n:Nat} {f:Nat→Int} {a b c d:Int} (h:RF w p v e n f a b c d) (k:∀ q,rfp p v q→w'.heap[q]?=w.heap[q]?):RF w' p v e n f a b c d:=by
 refine ⟨(k p (.inl rfl)).trans h.blk,⟨h.own.1,?_⟩,h.ne,h.up,h.bd,h.low,h.top,h.fit,h.e1,h.wd⟩
 rcases h.own.2 with q | ⟨g,cap,cur,rfl,hb,hh,r⟩
 ·exact .inl q
 ·exact .inr ⟨g,cap,cur,rfl,hb,(k g (.inr rfl)).trans hh,r⟩
theorem RF.gw {w w':World} {p:Nat} {v:Value} {e:Int} {n:Nat} {f:Nat→Int} {a b c d:Int} (h:RF w p v e n f a b c d) (g:Gw w w'):RF w' p v e n f a b c d :=
 h.keep fun q hq=>g.below.block q (h.in q hq)
theorem RF.ks {w:World} {p:Nat} {v:Value} {e:Int} {n:Nat} {f:Nat→Int} {a b c d:Int} (h:RF w p v e n f a b c d):∃ ao cap,v=.slice ao n cap∧KS w ao n f:=by
 have ho:=h.own
 rcases h.own.2 with ⟨rfl,rfl⟩ | ⟨g,cap,cur,rfl,_⟩
 ·exact ⟨none,0,rfl,⟨fun q=>by omega,h.bd⟩⟩
 ·exact ⟨_,cap,rfl,⟨fun q=>⟨g,0,rfl,(ho.lt g rfl).2,fun i hi=>by rw [Nat.zero_add,ho.cellAt i (by omega)];simp [hi]⟩,h.bd⟩⟩
end Go.Proofs.YtinefkljjnepjaaGreat
namespace Go.Proofs.YtinefkljjnepjaaGreat
open Go.RowKit
set_option linter.unusedVariables false
structure Gs (S:Nat→Prop) (w w':World):Prop where
 os:w'.os=w.os
 tape:w'.tape=w.tape
 output:w'.output=w.output
 size:w.heap.size≤w'.heap.size
 block:∀ q,q<w.heap.size→¬ S q→w'.heap[q]?=w.heap[q]?
theorem Gw.gs {w w':World} (h:Gw w w') (S:Nat→Prop):Gs S w w':=⟨h.below.os,h.below.tape,h.below.output,h.below.size,fun q hq _=>h.below.block q hq⟩
theorem Gs.set {S:Nat→Prop} {w w':World} (h:Gs S w w') {q:Nat} (hq:S q) (o:Nat) (v:Value):Gs S w (w'.setCell ⟨q,o,none⟩ v) :=
 ⟨h.os,h.tape,h.output,by simpa [World.setCell] using h.size,fun k hk hs=>(Go.Deep.blk_setCell_other _ _ _ _ (fun e=>hs (by rw [e];exact hq))).trans (h.block k hk hs)⟩
theorem Gs.grown {S:Nat→Prop} {w w' w'':World} {row:Option Nat} (h:Gs S w w') (g:w'.grownBy w'' row) (hr:∀ k,row=some k→S k):Gs S w w'' :=
 ⟨g.os.trans h.os,g.tape.trans h.tape,g.output.trans h.output,Nat.le_trans h.size g.size,fun k hk hs=>(g.block k (Nat.lt_of_lt_of_le hk h.size) (fun e=>hs (hr k e.symm))).trans (h.block k hk hs)⟩
end Go.Proofs.YtinefkljjnepjaaGreat
namespace Go.Proofs.YtinefkljjnepjaaGreat
open Go.RowKit
set_option linter.unusedVariables false
def OfOut (ex:Ending) (eps:Int) (f:Nat→Int) (n:Nat):Prop:=∃ a b c err:Int,ex=.returned (.tuple #[.agg #[.int .u64 a, .int .u64 b, .int .i64 c], .int .i64 err])∧OfR eps f n a b c err∧(0≤a∧a<18446744073709551616)∧(0≤b∧b<18446744073709551616)∧(-9223372036854775808≤c∧c<9223372036854775808)
theorem Gs.gw5 {S:Nat→Prop} {W w w':World} (h:Gw W w) (g:Gs S w w') (hS:∀ q,S q→W.heap.size≤q):Gw W w' :=
 ⟨⟨g.os.trans h.below.os,g.tape.trans h.below.tape,g.output.trans h.below.output,Nat.le_trans h.below.size g.size,fun q hq=>(g.block q (Nat.lt_of_lt_of_le hq h.below.size) (fun s=>by have:=hS q s;omega)).trans (h.below.block q hq)⟩⟩
theorem FitsOn.part {e:Int} {f:Nat→Int} {n m:Nat} (h:FitsOn e f (Prs n)) (hm:m≤n):FitsOn e f (Prs m):=fun i j i' j' s s'=>h i j i' j' ⟨s.1,by have:=s.2;omega⟩ ⟨s'.1,by have:=s'.2;omega⟩
def Ln (w:World) (b:Nat) (x y z:Int):Prop:=w.heap[b]?=some (.cells #[.int .u64 x, .int .u64 y, .int .i64 z] 176 (0,0))
theorem Ln.lt {w:World} {b:Nat} {x y z:Int} (h:Ln w b x y z):b<w.heap.size:=(Array.getElem?_eq_some_iff.1 h).1
theorem Ln.c0 {w:World} {b:Nat} {x y z:Int} (h:Ln w b x y z):w.cell? ⟨b,0,none⟩=some (.int .u64 x):=by unfold Ln at h;simp [World.cell?,h]
theorem Ln.c1 {w:World} {b:Nat} {x y z:Int} (h:Ln w b x y z):w.cell? ⟨b,1,none⟩=some (.int .u64 y):=by unfold Ln at h;simp [World.cell?,h]
theorem Ln.c2 {w:World} {b:Nat} {x y z:Int} (h:Ln w b x y z):w.cell? ⟨b,2,none⟩=some (.int .i64 z):=by unfold Ln at h;simp [World.cell?,h]
theorem Ln.fz {w:World} {b:Nat} {x y z:Int} (h:Ln w b x y z) (o:Nat):w.frozen? ⟨b,o,none⟩=false:=by unfold Ln at h;simp [World.frozen?,h]
theorem Ln.gw {w w':World} {b:Nat} {x y z:Int} (h:Ln w b x y z) (g:Gw w w'):Ln w' b x y z:=(g.below.block b h.lt).trans h
theorem Ln.far {w:World} {b:Nat} {x y z:Int} (h:Ln w b x y z) {q o:Nat} (u:Value) (hq:b≠q):Ln (w.setCell ⟨q,o,none⟩ u) b x y z:=(Go.Deep.blk_setCell_other _ _ _ _ hq).trans h
theorem Ln.gs {S:Nat→Prop} {w w':World} {b:Nat} {x y z:Int} (h:Ln w b x y z) (g:Gs S w w') (n:¬ S b):Ln w' b x y z:=(g.block b h.lt n).trans h
end Go.Proofs.YtinefkljjnepjaaGreat
