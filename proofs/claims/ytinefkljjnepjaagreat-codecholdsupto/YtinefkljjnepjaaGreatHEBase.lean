/- Rows of ints of a call's own, and a Fit of the document's beside them. -/
import Derived.Test.YtinefkljjnepjaaGreatHPBs
import Derived.Test.YtinefkljjnepjaaGreatHEPlain
import Derived.Test.YtinefkljjnepjaaGreatHR4Fit
namespace Go.Proofs.YtinefkljjnepjaaGreat
open Go.RowKit
set_option linter.unusedVariables false
theorem info_i:(Tryz.prog.info? 3).map (fun i=>(i.zero,i.size,i.bytes))=some (some (.int .i64 0),1,8):=by kernel_rfl
def IR (w:World) (base:Nat) (v:Value) (l:List Nat):Prop:=w.ownsRow base 3 1 v l.length (l.map fun (j:Nat)=>Value.int .i64 (j:Int))
theorem ir_keep {w w':World} {base:Nat} {v:Value} {l:List Nat} (h:IR w base v l) (k:∀ q,v.ownBlock=some q→w'.heap[q]?=w.heap[q]?):IR w' base v l:=by
 refine ⟨h.1,?_⟩
 rcases h.2 with q | ⟨g,cap,cur,rfl,hb,hh,r⟩
 ·exact .inl q
 ·exact .inr ⟨g,cap,cur,rfl,hb,(k g rfl).trans hh,r⟩
theorem ir_lt {w:World} {base:Nat} {v:Value} {l:List Nat} (h:IR w base v l):∀ q,v.ownBlock=some q→base≤q∧q<w.heap.size:=fun q hq=>World.ownsRow.lt h q hq
theorem ir_gw {w w':World} {base:Nat} {v:Value} {l:List Nat} (h:IR w base v l) (g:Gw w w'):IR w' base v l:=ir_keep h fun q hq=>g.below.block q (ir_lt h q hq).2
theorem ir_nil (w:World) (base:Nat):IR w base (.slice none 0 0) []:=World.ownsRow_nil _ _ _ _
theorem ir_slice {w:World} {base:Nat} {v:Value} {l:List Nat} (h:IR w base v l):∃ ao cap,v=.slice ao l.length cap∧(ao=none→l=[]∧cap=0)∧(∀ ad,ao=some ad→∃ g,ad=⟨g,0,none⟩∧base≤g∧g<w.heap.size∧∀ i,i<l.length→w.cell? ⟨g,i,none⟩=some (.int .i64 ((l.getD i 0:Nat):Int))):=by
 rcases h.2 with ⟨rfl,q⟩ | ⟨g,cap,cur,rfl,hb,hh,r⟩
 ·have:l=[]:=List.eq_nil_of_length_eq_zero q
  subst this
  exact ⟨none,0,rfl,fun _=>⟨rfl,rfl⟩,fun ad e=>by cases e⟩
 ·refine ⟨some ⟨g,0,none⟩,cap,rfl,(fun e=>by cases e),fun ad e=>⟨g,by cases e;rfl,hb,(Array.getElem?_eq_some_iff.1 hh).1,fun i hi=>?_⟩⟩
  have:=World.ownsRow.cellAt h i (by omega)
  rw [this]
  simp [hi,List.getD]
theorem new_i (w:World) (x:Int):∀ j u,[Value.int .i64 x][j]?=some u→(w.alloc (.cells #[.int .i64 x] 3)).cell? ((⟨w.heap.size,0,none⟩:Addr).add j)=some u:=by
 intro j u hu
 cases j with
 | zero =>
  simp only [List.getElem?_cons_zero,Option.some.injEq] at hu
  subst hu
  simp [Addr.add,go_sem]
 | succ j=>simp at hu
def cut0 (f:Nat→Int) (m j:Nat):Int:=if j<m then f j else 0
theorem cut0_lo {f:Nat→Int} {m j:Nat} (h:j<m):cut0 f m j=f j:=if_pos h
theorem cut0_next (f:Nat→Int) (m:Nat):upd (cut0 f m) m (f m)=cut0 f (m+1):=by
 funext j
 by_cases e:j=m
 ·subst e;rw [upd_at,cut0_lo (by omega)]
 ·by_cases e':j<m
  ·rw [upd_lo e',cut0_lo e',cut0_lo (by omega)]
  ·unfold upd
   rw [if_neg e]
   unfold cut0
   rw [if_neg e',if_neg (by omega)]
theorem cut0_none (f:Nat→Int):cut0 f 0=fun _=>0:=by funext j;exact if_neg (by omega)
theorem gs_gw {S:Nat→Prop} {W w w':World} (h:Gw W w) (g:Gs S w w') (hS:∀ q,S q→W.heap.size≤q):Gw W w' :=
 ⟨⟨g.os.trans h.below.os,g.tape.trans h.below.tape,g.output.trans h.below.output,Nat.le_trans h.below.size g.size,fun q hq=>(g.block q (Nat.lt_of_lt_of_le hq h.below.size) (fun s=>by have:=hS q s;omega)).trans (h.below.block q hq)⟩⟩
end Go.Proofs.YtinefkljjnepjaaGreat
namespace Go.Proofs.YtinefkljjnepjaaGreat
open Go.RowKit
set_option linter.unusedVariables false
def EndsOut (base:Nat) (w':World) (ex:Ending) (eps:Int) (f:Nat→Int) (n:Nat):Prop:=∃ v l err,ex=.returned (.tuple #[v, .int .i64 err])∧EndsR eps f n l err∧IR w' base v l
end Go.Proofs.YtinefkljjnepjaaGreat
