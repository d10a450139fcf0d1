/- The document's Add. -/
import Derived.ArgAppend
import Derived.Deep.CutBlock
import Derived.Deep.DeepCutAuto
import Derived.Test.YtemijdhemdhclaaGreatNPBs
set_option linter.unusedVariables false
open Go.Proofs.Tryz
namespace Go.Proofs.YtemijdhemdhclaaGreat
open Go.RowKit
structure Gs (S:Nat->Prop) (w w':World):Prop where
 os:w'.os=w.os
 tape:w'.tape=w.tape
 output:w'.output=w.output
 size:w.heap.size<=w'.heap.size
 block:∀ q,q<w.heap.size->¬ S q->w'.heap[q]?=w.heap[q]?
theorem Gw.gs {w w':World} (h:Gw w w') (S:Nat->Prop):Gs S w w':=⟨h.below.os,h.below.tape,h.below.output,h.below.size,fun q hq _=>h.below.block q hq⟩
theorem Gs.set {S:Nat->Prop} {w w':World} (h:Gs S w w') {q:Nat} (hq:S q) (o:Nat) (v:Value):Gs S w (w'.setCell ⟨q,o,none⟩ v) :=
 ⟨h.os,h.tape,h.output,by simpa [World.setCell] using h.size,fun k hk hs=>(Go.Deep.blk_setCell_other _ _ _ _ (fun e=>hs (by rw [e];exact hq))).trans (h.block k hk hs)⟩
theorem Gs.grown {S:Nat->Prop} {w w' w'':World} {row:Option Nat} (h:Gs S w w') (g:w'.grownBy w'' row) (hr:∀ k,row=some k->S k):Gs S w w'' :=
 ⟨g.os.trans h.os,g.tape.trans h.tape,g.output.trans h.output,Nat.le_trans h.size g.size,fun k hk hs=>(g.block k (Nat.lt_of_lt_of_le hk h.size) (fun e=>hs (hr k e.symm))).trans (h.block k hk hs)⟩
theorem Gs.gw {S:Nat->Prop} {W w w':World} (h:Gw W w) (g:Gs S w w') (hS:∀ q,S q->W.heap.size<=q):Gw W w' :=
 ⟨⟨g.os.trans h.below.os,g.tape.trans h.below.tape,g.output.trans h.below.output,Nat.le_trans h.below.size g.size,fun q hq=>(g.block q (Nat.lt_of_lt_of_le hq h.below.size) (fun s=>by have:=hS q s;omega)).trans (h.below.block q hq)⟩⟩
structure HullC (HF:World->Nat->(Nat->Prop)->Int->Nat->(Nat->Int)->Prop):Prop where
 keep:∀ {w w':World} {p:Nat} {S:Nat->Prop} {e:Int} {n:Nat} {f:Nat->Int},HF w p S e n f->(∀ q,S q->w'.heap[q]?=w.heap[q]?)->HF w' p S e n f
 lt:∀ {w:World} {p:Nat} {S:Nat->Prop} {e:Int} {n:Nat} {f:Nat->Int},HF w p S e n f->∀ q,S q->q<w.heap.size
 ext:∀ {w:World} {p:Nat} {S:Nat->Prop} {e:Int} {n:Nat} {f g:Nat->Int},HF w p S e n f->(∀ i,i<n->f i=g i)->HF w p S e n g
 facts:∀ {w:World} {p:Nat} {S:Nat->Prop} {e:Int} {n:Nat} {f:Nat->Int},HF w p S e n f->Up f n/\(∀ i,i<n->0<=f i/\f i<18446744073709551616)/\FitsOn e f (Prs n)/\1<=e/\e<=63
 bad:∀ (eps:Int),¬ (2<=eps/\eps<=64)->∀ w:World,Calls prog 127 #[.int .i64 eps] w fun ex w'=>ex=.returned (.tuple #[.pointer none,.int .i64 1])/\Gw w w'
 new:∀ (eps:Int),2<=eps->eps<=64->∀ w:World,Calls prog 127 #[.int .i64 eps] w fun ex w'=>(∃ p S,ex=.returned (.tuple #[.pointer (some ⟨p,0,none⟩),.int .i64 0])/\(∀ q,S q->w.heap.size<=q)/\HF w' p S (eps-1) 0 (fun _=>0))/\Gw w w'
 add:∀ {w:World} {p:Nat} {S:Nat->Prop} {e:Int} {n:Nat} {f:Nat->Int},HF w p S e n f->∀ x:Int,0<=x->x<18446744073709551616->n<=3000000 ->
  Calls prog 143 #[.pointer (some ⟨p,0,none⟩),.int .u64 x] w fun ex w' =>
   (∃ (ok:Bool) (err:Int) (S':Nat->Prop),ex=.returned (.tuple #[.bool ok,.int .i64 err])/\AddR e n f x ok err/\HF w' p S' e (if ok then n+1 else n) (if ok then upd f n x else f)/\∀ q,S' q->S q\/w.heap.size<=q)/\Gs S w w'
 least:∀ {w:World} {p:Nat} {S:Nat->Prop} {e:Int} {n:Nat} {f:Nat->Int},HF w p S e n f->n<=3000001->Calls prog 146 #[.pointer (some ⟨p,0,none⟩)] w fun ex w'=>(∃ a b,ex=.returned (.agg #[.int .u64 a,.int .u64 b])/\LowOn e f (Prs n) a b/\a<18446744073709551616/\b<18446744073709551616)/\Gw w w'
theorem HullC.gw {HF:World->Nat->(Nat->Prop)->Int->Nat->(Nat->Int)->Prop} (H:HullC HF) {w w':World} {p:Nat} {S:Nat->Prop} {e:Int} {n:Nat} {f:Nat->Int} (h:HF w p S e n f) (g:Gw w w'):HF w' p S e n f :=
 H.keep h fun q hq=>g.below.block q (H.lt h q hq)
theorem info_i:(prog.info? 3).map (fun i=>(i.zero,i.size,i.bytes))=some (some (.int .i64 0),1,8):=by kernel_rfl
def IR (w:World) (base:Nat) (v:Value) (l:List Nat):Prop:=w.ownsRow base 3 1 v l.length (l.map fun (j:Nat)=>Value.int .i64 (j:Int))
theorem ir_keep {w w':World} {base:Nat} {v:Value} {l:List Nat} (h:IR w base v l) (k:∀ q,v.ownBlock=some q->w'.heap[q]?=w.heap[q]?):IR w' base v l:=by
 refine ⟨h.1,?_⟩;rcases h.2 with q | ⟨g,cap,cur,rfl,hb,hh,r⟩
 ·exact .inl q
 ·exact .inr ⟨g,cap,cur,rfl,hb,(k g rfl).trans hh,r⟩
theorem ir_lt {w:World} {base:Nat} {v:Value} {l:List Nat} (h:IR w base v l):∀ q,v.ownBlock=some q->base<=q/\q<w.heap.size:=fun q hq=>World.ownsRow.lt h q hq
theorem ir_gw {w w':World} {base:Nat} {v:Value} {l:List Nat} (h:IR w base v l) (g:Gw w w'):IR w' base v l:=ir_keep h fun q hq=>g.below.block q (ir_lt h q hq).2
theorem ir_nil (w:World) (base:Nat):IR w base (.slice none 0 0) []:=World.ownsRow_nil _ _ _ _
theorem ir_slice {w:World} {base:Nat} {v:Value} {l:List Nat} (h:IR w base v l):∃ ao cap,v=.slice ao l.length cap/\(ao=none->l=[]/\cap=0)/\(∀ ad,ao=some ad->∃ g,ad=⟨g,0,none⟩/\base<=g/\g<w.heap.size/\∀ i,i<l.length->w.cell? ⟨g,i,none⟩=some (.int .i64 ((l.getD i 0:Nat):Int))):=by
 rcases h.2 with ⟨rfl,q⟩ | ⟨g,cap,cur,rfl,hb,hh,r⟩
 ·have:l=[]:=List.eq_nil_of_length_eq_zero q
  subst this;exact ⟨none,0,rfl,fun _=>⟨rfl,rfl⟩,fun ad e=>by cases e⟩
 ·refine ⟨some ⟨g,0,none⟩,cap,rfl,(fun e=>by cases e),fun ad e=>⟨g,by cases e;rfl,hb,(Array.getElem?_eq_some_iff.1 hh).1,fun i hi=>?_⟩⟩
  have:=World.ownsRow.cellAt h i (by omega)
  rw [this];simp [hi,List.getD]
theorem new_i (w:World) (x:Int):∀ j u,[Value.int .i64 x][j]?=some u->(w.alloc (.cells #[.int .i64 x] 3)).cell? ((⟨w.heap.size,0,none⟩:Addr).add j)=some u:=by
 intro j u hu;cases j with
 | zero =>
  simp only [List.getElem?_cons_zero,Option.some.injEq] at hu;subst hu;simp [Addr.add,go_sem]
 | succ j=>simp at hu
def cut0 (f:Nat->Int) (m j:Nat):Int:=if j<m then f j else 0
theorem cut0_lo {f:Nat->Int} {m j:Nat} (h:j<m):cut0 f m j=f j:=if_pos h
theorem cut0_next (f:Nat->Int) (m:Nat):upd (cut0 f m) m (f m)=cut0 f (m+1):=by
 funext j
 by_cases e:j=m
 ·subst e;rw [upd_at,cut0_lo (by omega)]
 ·by_cases e':j<m
  ·rw [upd_lo e',cut0_lo e',cut0_lo (by omega)]
  ·unfold upd
   rw [if_neg e];unfold cut0;rw [if_neg e',if_neg (by omega)]
theorem cut0_none (f:Nat->Int):cut0 f 0=fun _=>0:=by funext j;exact if_neg (by omega)
theorem gs_gw {S:Nat->Prop} {W w w':World} (h:Gw W w) (g:Gs S w w') (hS:∀ q,S q->W.heap.size<=q):Gw W w' :=
 ⟨⟨g.os.trans h.below.os,g.tape.trans h.below.tape,g.output.trans h.below.output,Nat.le_trans h.below.size g.size,fun q hq=>(g.block q (Nat.lt_of_lt_of_le hq h.below.size) (fun s=>by have:=hS q s;omega)).trans (h.below.block q hq)⟩⟩
def EndsOut (base:Nat) (w':World) (ex:Ending) (eps:Int) (f:Nat->Int) (n:Nat):Prop:=∃ v l err,ex=.returned (.tuple #[v,.int .i64 err])/\EndsR eps f n l err/\IR w' base v l
end Go.Proofs.YtemijdhemdhclaaGreat
