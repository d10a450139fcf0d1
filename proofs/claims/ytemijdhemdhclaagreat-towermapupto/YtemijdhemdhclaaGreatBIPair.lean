/- Pairs of a key and a value: rows of a call's own, and the plain map that they are. -/
import Derived.Test.YtemijdhemdhclaaGreatBGMem
import Derived.Test.YtemijdhemdhclaaGreatBPMem
set_option linter.unusedVariables false
namespace Go.Proofs.YtemijdhemdhclaaGreat
open Go.RowKit
def pr2 (x:Int×Int):List Value:=[.int .u64 x.1,.int .u64 x.2]
def PO (w:World) (base:Nat) (v:Value) (l:List (Int×Int)):Prop:=w.ownsRow base 44 2 v l.length (l.flatMap pr2)
theorem po_keep {w w':World} {base:Nat} {v:Value} {l:List (Int×Int)} (h:PO w base v l) (k:∀ q,v.ownBlock=some q->w'.heap[q]?=w.heap[q]?):PO w' base v l:=by
 refine ⟨h.1,?_⟩;rcases h.2 with q | ⟨b,cap,cur,rfl,hb,hh,r⟩
 ·exact .inl q
 ·exact .inr ⟨b,cap,cur,rfl,hb,(k b rfl).trans hh,r⟩
theorem po_gw {w w':World} {base:Nat} {v:Value} {l:List (Int×Int)} (h:PO w base v l) (g:Gw w w'):PO w' base v l:=po_keep h fun q hq=>g.below.block q (World.ownsRow.lt h q hq).2
theorem flat_p:∀ (l:List (Int×Int)) (i:Nat),i<l.length->∀ j,j<2->(l.flatMap pr2)[i*2+j]?=(pr2 (l.getD i (0,0)))[j]?:=by
 intro l;induction l with
 | nil=>intro i hi;simp at hi
 | cons s l ih =>
  intro i hi j hj;rw [List.flatMap_cons];cases i with
  | zero=>rw [List.getElem?_append_left (by simp [pr2];omega)];simp
  | succ i =>
   rw [List.getElem?_append_right (by simp [pr2];omega)]
   have:=ih i (by simpa using hi) j hj
   rw [show (i+1)*2+j-(pr2 s).length=i*2+j by simp [pr2];omega,this]
   rfl
theorem flatp_len (l:List (Int×Int)):(l.flatMap pr2).length=l.length*2:=by
 induction l with
 | nil=>rfl
 | cons s l ih=>rw [List.flatMap_cons,List.length_append,ih];simp [pr2];omega
theorem flatp_set:∀ (l:List (Int×Int)) (k:Nat) (s:Int×Int),k<l.length->((l.flatMap pr2).set (k*2) (.int .u64 s.1)).set (k*2+1) (.int .u64 s.2)=(l.set k s).flatMap pr2:=by
 intro l;induction l with
 | nil=>intro k s hk;simp at hk
 | cons t l ih =>
  intro k s hk;cases k with
  | zero=>simp [pr2]
  | succ k =>
   have:=ih k s (by simpa using hk)
   rw [List.set_cons_succ,List.flatMap_cons,List.flatMap_cons,<-this];have e:(k+1)*2+1=k*2+1+2:=by omega
   have e0:(k+1)*2=k*2+2:=by omega
   rw [e,e0];simp [pr2]
theorem flatp_set1:∀ (l:List (Int×Int)) (k:Nat) (y:Int),k<l.length->(l.flatMap pr2).set (k*2+1) (.int .u64 y)=(l.set k ((l.getD k (0,0)).1,y)).flatMap pr2:=by
 intro l;induction l with
 | nil=>intro k s hk;simp at hk
 | cons t l ih =>
  intro k y hk;cases k with
  | zero=>simp [pr2]
  | succ k =>
   have:=ih k y (by simpa using hk)
   rw [List.set_cons_succ,List.flatMap_cons,List.flatMap_cons];have e:(k+1)*2+1=k*2+1+2:=by omega
   rw [e];have g:(t::l).getD (k+1) (0,0)=l.getD k (0,0):=rfl;rw [g,<-this];simp [pr2]
def put2 (w:World) (g o:Nat) (s:Int×Int):World:=(w.setCell ⟨g,o,none⟩ (.int .u64 s.1)).setCell ⟨g,o+1,none⟩ (.int .u64 s.2)
theorem po_put {w:World} {base g cap k n:Nat} {l:List (Int×Int)} (h:PO w base (.slice (some ⟨g,0,none⟩) n cap) l) (hn:l.length=n) (hk:k<l.length) (s:Int×Int):PO (put2 w g (k*2) s) base (.slice (some ⟨g,0,none⟩) n cap) (l.set k s):=by
 subst hn;have h':w.ownsRow base 44 2 (.slice (some ⟨g,0,none⟩) l.length cap) l.length (l.flatMap pr2):=h;have r:=((h'.stored (k*2) (.int .u64 s.1)).1.stored (k*2+1) (.int .u64 s.2)).1;rw [flatp_set l k s hk] at r;show World.ownsRow _ _ _ _ _ _ _;rw [List.length_set];exact r
theorem po_put1 {w:World} {base g cap k n:Nat} {l:List (Int×Int)} (h:PO w base (.slice (some ⟨g,0,none⟩) n cap) l) (hn:l.length=n) (hk:k<l.length) (y:Int):PO (w.setCell ⟨g,k*2+1,none⟩ (.int .u64 y)) base (.slice (some ⟨g,0,none⟩) n cap) (l.set k ((l.getD k (0,0)).1,y)):=by
 subst hn;have h':w.ownsRow base 44 2 (.slice (some ⟨g,0,none⟩) l.length cap) l.length (l.flatMap pr2):=h;have r:=(h'.stored (k*2+1) (.int .u64 y)).1;rw [flatp_set1 l k y hk] at r;show World.ownsRow _ _ _ _ _ _ _;rw [List.length_set];exact r
theorem po_form {w:World} {base:Nat} {bo:Option Addr} {n c:Nat} {l:List (Int×Int)} (h:PO w base (.slice bo n c) l) (hn:l.length=n) (h0:0<n):∃ b,bo=some ⟨b,0,none⟩/\base<=b/\b<w.heap.size/\(∀ i,w.frozen? ⟨b,i,none⟩=false)/\∀ i,i<n->w.cell? ⟨b,i*2,none⟩=some (.int .u64 (l.getD i (0,0)).1)/\w.cell? ⟨b,i*2+1,none⟩=some (.int .u64 (l.getD i (0,0)).2):=by
 subst hn;rcases h.2 with ⟨_,z⟩ | ⟨b,cap,cur,e,hb,hh,r⟩
 ·omega
 ·injection e with e1 e2 e3
  subst e1 e3;have c':∀ i,i<l.length->∀ j,j<2->w.cell? ⟨b,i*2+j,none⟩=(pr2 (l.getD i (0,0)))[j]?:=fun i hi j hj=>by
   have:=World.ownsRow.cellAt h (i*2+j) (by omega)
   rw [this];exact flat_p l i hi j hj
  exact ⟨b,rfl,hb,(Array.getElem?_eq_some_iff.1 hh).1,fun i=>by simp [World.frozen?,hh],fun i hi=>⟨c' i hi 0 (by decide),c' i hi 1 (by decide)⟩⟩
theorem po_shape {w:World} {base:Nat} {v:Value} {l:List (Int×Int)} (h:PO w base v l):∃ bo c,v=.slice bo l.length c/\l.length<=c/\(bo=none->l.length=0/\c=0):=by
 rcases h.2 with ⟨e,z⟩ | ⟨b,cap,cur,e,hb,hh,hc,_⟩
 ·exact ⟨none,0,by rw [e,z],by omega,fun _=>⟨z,rfl⟩⟩
 ·exact ⟨_,cap,e,hc,fun x=>by cases x⟩
structure HP (w:World) (p:Nat) (S:Nat->Prop) (l:List (Int×Int)):Prop where
 lies:∃ v,w.heap[p]?=some (.cells #[v] 35 (0,0))/\PO w 0 v l/\(∀ q,v.ownBlock=some q->q≠p)/\∀ q,S q↔q=p\/v.ownBlock=some q
 rise:Rise Prod.fst l
 bd:∀ x∈l,(0<=x.1/\x.1<18446744073709551616)/\0<=x.2/\x.2<18446744073709551616
section
variable {w w':World} {p:Nat} {S:Nat->Prop} {l:List (Int×Int)}
theorem HP.lt (h:HP w p S l):∀ q,S q->q<w.heap.size:=by
 obtain ⟨v,h1,h2,h3,h4⟩:=h.lies;intro q hq;rcases (h4 q).1 hq with rfl | e
 ·exact blkl h1
 ·exact (World.ownsRow.lt h2 q e).2
theorem HP.own (h:HP w p S l):S p:=by
 obtain ⟨v,h1,h2,h3,h4⟩:=h.lies;exact (h4 p).2 (.inl rfl)
theorem HP.keep (h:HP w p S l) (k:∀ q,S q->w'.heap[q]?=w.heap[q]?):HP w' p S l:=by
 obtain ⟨v,h1,h2,h3,h4⟩:=h.lies;exact ⟨⟨v,(k p h.own).trans h1,po_keep h2 (fun q hq=>k q ((h4 q).2 (.inr hq))),h3,h4⟩,h.rise,h.bd⟩
theorem HP.gw (h:HP w p S l) (g:Gw w w'):HP w' p S l:=h.keep fun q hq=>g.below.block q (h.lt q hq)
theorem HP.gx {T:Nat->Prop} (h:HP w p S l) (g:Gx T w w') (d:∀ q,S q->¬ T q):HP w' p S l:=h.keep fun q hq=>g.block q (h.lt q hq) (d q hq)
theorem HP.new (w:World):HP (w.alloc (.cells #[.slice none 0 0] 35)) w.heap.size (fun q=>q=w.heap.size) [] :=
 ⟨⟨.slice none 0 0,heap_alloc_new w _,World.ownsRow_nil _ _ _ _,(fun q e=>by cases e),fun q=>⟨fun e=>.inl e,fun e=>e.elim id (fun x=>by cases x)⟩⟩,List.Pairwise.nil,fun e he=>by cases he⟩
end
def valP (l:List (Int×Int)) (q:Int):Option Int:=(look Prod.fst q l).map Prod.snd
theorem valP_ins {l:List (Int×Int)} {k v:Int} (r:Rise Prod.fst l) (q:Int):valP (ins Prod.fst (k,v) l) q=if k=q then some v else valP l q:=by
 unfold valP;rw [look_ins r];by_cases e:k=q
 ·rw [if_pos e,if_pos e];rfl
 ·rw [if_neg e,if_neg e]
def dropP (k:Int) (l:List (Int×Int)):List (Int×Int):=l.filter fun x=>decide (x.1≠k)
theorem look_drop {l:List (Int×Int)} (k q:Int):look Prod.fst q (dropP k l)=if k=q then none else look Prod.fst q l:=by
 induction l with
 | nil=>simp [dropP,look]
 | cons x l ih =>
  unfold dropP at ih ⊢;rw [List.filter_cons];by_cases c:x.1=k
  ·rw [if_neg (by simpa using c),ih]
   by_cases e:k=q
   ·rw [if_pos e,if_pos e]
   ·rw [if_neg e,if_neg e,look_cons,if_neg (by omega)]
  ·rw [if_pos (by simpa using c),look_cons,look_cons,ih]
   by_cases e:x.1=q
   ·rw [if_pos e,if_pos e,if_neg (by omega)]
   ·rw [if_neg e,if_neg e]
theorem valP_drop {l:List (Int×Int)} (k q:Int):valP (dropP k l) q=if k=q then none else valP l q:=by
 unfold valP;rw [look_drop];by_cases e:k=q
 ·rw [if_pos e,if_pos e];rfl
 ·rw [if_neg e,if_neg e]
end Go.Proofs.YtemijdhemdhclaaGreat
