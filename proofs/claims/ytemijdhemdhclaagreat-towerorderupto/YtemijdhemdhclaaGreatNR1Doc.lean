/- The document's layer 11: a run in memory, and what it is asked. -/
import Derived.Test.YtemijdhemdhclaaGreatNPZa
import Derived.Test.YtemijdhemdhclaaGreatNPE3
set_option linter.unusedVariables false
namespace Go.Proofs.YtemijdhemdhclaaGreat
open Go.RowKit
attribute [local go_sem] run_store_float
abbrev entV (k v:Int) (g:Bool):Value:=.agg #[.int .u64 k,.int .u64 v,.bool g]
def atV (k v:Nat->Int) (g:Nat->Bool) (n:Nat) (i:Int):Value×Int:=if 0<=i/\i<n then (entV (k i.toNat) (v i.toNat) (g i.toNat),0) else (entV 0 0 false,1)
def getV (k v:Nat->Int) (g:Nat->Bool) (n:Nat) (q:Int):Value×Bool:=if cntb k q n<n/\k (cntb k q n)=q then (entV (k (cntb k q n)) (v (cntb k q n)) (g (cntb k q n)),true) else (entV 0 0 false,false)
theorem ES.kept {u w:World} {eo:Option Addr} {n:Nat} {k v:Nat->Int} {g:Nat->Bool} {base:Nat} (h:ES u eo n k v g) (hb:∀ a,eo=some a->base<=a.block) (hs:u.heap.size<=w.heap.size) (hk:∀ q,base<=q->q<u.heap.size->w.heap[q]?=u.heap[q]?):ES w eo n k v g:=by
 refine ⟨fun hn=>?_,h.bd⟩
 obtain ⟨b,off,e,hb',hc⟩:=h.cells hn;have bb:base<=b:=hb _ e;have eq:∀ o,w.cell? ⟨b,o,none⟩=u.cell? ⟨b,o,none⟩:=fun o=>World.cell?_of_block (a:=⟨b,o,none⟩) (hk b bb hb')
 exact ⟨b,off,e,by omega,fun i hi=>⟨(eq _).trans (hc i hi).1,(eq _).trans (hc i hi).2.1,(eq _).trans (hc i hi).2.2⟩⟩
end Go.Proofs.YtemijdhemdhclaaGreat
