/- Heads of lists in memory; all but some blocks as they were. -/
import Derived.BigRegion
import Derived.Lib.SmallJoins
import Derived.Test.YtpoohadckhphpaaGreatBPBs
import Derived.Test.YtpoohadckhphpaaGreatBGPlain
set_option linter.unusedVariables false
namespace Go.Proofs.YtpoohadckhphpaaGreat
open Go.RowKit
structure Gx (S:Nat->Prop) (w w':World):Prop where
 os:w'.os=w.os
 tape:w'.tape=w.tape
 output:w'.output=w.output
 size:w.heap.size<=w'.heap.size
 block:∀ q,q<w.heap.size->¬ S q->w'.heap[q]?=w.heap[q]?
theorem Gx.refl (S:Nat->Prop) (w:World):Gx S w w:=⟨rfl,rfl,rfl,Nat.le_refl _,fun _ _ _=>rfl⟩
theorem Gw.gx {w w':World} (h:Gw w w') (S:Nat->Prop):Gx S w w':=⟨h.below.os,h.below.tape,h.below.output,h.below.size,fun q hq _=>h.below.block q hq⟩
theorem Gx.trans {S S':Nat->Prop} {a b c:World} (h:Gx S a b) (k:Gx S' b c) (e:∀ q,S' q->S q\/a.heap.size<=q):Gx S a c :=
 ⟨k.os.trans h.os,k.tape.trans h.tape,k.output.trans h.output,Nat.le_trans h.size k.size,fun q hq hs=>(k.block q (Nat.lt_of_lt_of_le hq h.size) (fun x=>by
  rcases e q x with y | y
  ·exact hs y
  ·omega)).trans (h.block q hq hs)⟩
theorem Gx.mono {S S':Nat->Prop} {a b:World} (h:Gx S a b) (e:∀ q,S q->S' q\/a.heap.size<=q):Gx S' a b :=
 ⟨h.os,h.tape,h.output,h.size,fun q hq hs=>h.block q hq (fun x=>by
  rcases e q x with y | y
  ·exact hs y
  ·omega)⟩
theorem Gx.tw {S:Nat->Prop} {a b c:World} (h:Gx S a b) (k:Gw b c):Gx S a c:=h.trans (k.gx fun _=>False) (fun _ x=>x.elim)
theorem Gx.gw {S:Nat->Prop} {W w w':World} (h:Gw W w) (g:Gx S w w') (hS:∀ q,S q->W.heap.size<=q):Gw W w' :=
 ⟨⟨g.os.trans h.below.os,g.tape.trans h.below.tape,g.output.trans h.below.output,Nat.le_trans h.size g.size,fun q hq=>(g.block q (Nat.lt_of_lt_of_le hq h.size) (fun x=>by have:=hS q x;omega)).trans (h.below.block q hq)⟩⟩
theorem Gx.set {S:Nat->Prop} {w w':World} (h:Gx S w w') {q:Nat} (hq:S q\/w.heap.size<=q) (o:Nat) (v:Value):Gx S w (w'.setCell ⟨q,o,none⟩ v) :=
 ⟨h.os,h.tape,h.output,by simpa [World.setCell] using h.size,fun k hk hs=>(Go.Deep.blk_setCell_other _ _ _ _ (fun e=>by
  have e':k=q:=e;rcases hq with x | x
  ·exact hs (by rw [e'];exact x)
  ·omega)).trans (h.block k hk hs)⟩
theorem Gx.grown {S:Nat->Prop} {w w' w'':World} {row:Option Nat} (h:Gx S w w') (g:w'.grownBy w'' row) (hr:∀ k,row=some k->S k\/w.heap.size<=k):Gx S w w'' :=
 ⟨g.os.trans h.os,g.tape.trans h.tape,g.output.trans h.output,Nat.le_trans h.size g.size,fun k hk hs=>(g.block k (Nat.lt_of_lt_of_le hk h.size) (fun e=>by
  rcases hr k e.symm with x | x
  ·exact hs x
  ·omega)).trans (h.block k hk hs)⟩
theorem Gx.drew {S:Nat->Prop} {w w':World} (h:Gx S w w'):Gx S w w'.drew:=⟨h.os,h.tape,h.output,h.size,h.block⟩
theorem Gx.alloc {S:Nat->Prop} {w w':World} (h:Gx S w w') (c:Array Value) (t:TypeId):Gx S w (w'.alloc (.cells c t)):=h.tw ((Gw.refl _).alloc _ _)
theorem blkc {W:World} {k o:Nat} {vs:Array Value} {t:TypeId} {v:Value} (h:W.heap[k]?=some (.cells vs t (0,0))) (hv:vs[o]?=some v):W.cell? ⟨k,o,none⟩=some v:=by simp [World.cell?,h,hv]
theorem blkf {W:World} {k o:Nat} {vs:Array Value} {t:TypeId} (h:W.heap[k]?=some (.cells vs t (0,0))):W.frozen? ⟨k,o,none⟩=false:=by simp [World.frozen?,h]
theorem blkl {W:World} {k:Nat} {o:Obj} (h:W.heap[k]?=some o):k<W.heap.size:=(Array.getElem?_eq_some_iff.1 h).1
section
variable {α:Type}
end
end Go.Proofs.YtpoohadckhphpaaGreat
