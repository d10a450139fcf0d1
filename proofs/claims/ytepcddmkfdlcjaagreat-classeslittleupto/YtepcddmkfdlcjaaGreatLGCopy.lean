/- Layer 13's statements' own: copied, asWere. -/
import Derived.Deep.AppendLies
import Derived.Deep.RegionHeld3
import Derived.Deep.RegionLaw
import Derived.Test.YtepcddmkfdlcjaaGreatLPBs
import Derived.Test.YtepcddmkfdlcjaaGreatLGPlain
namespace Go.Proofs.YtepcddmkfdlcjaaGreat
open Go.RowKit
set_option linter.unusedVariables false
def e77:Ent:=⟨77,77,false⟩
theorem getD_app {l:List Ent} {e:Ent} {i:Nat} (hi:i<l.length):(l++[e]).getD i ent0=l.getD i ent0:=by
 rw [List.getD_eq_getElem?_getD,List.getElem?_append_left hi,←List.getD_eq_getElem?_getD]
theorem EL.front {w:World} {ao:Option Addr} {l:List Ent} {e:Ent} (h:EL w ao (l++[e])):EL w ao l:=by
 have hl:(l++[e]).length=l.length+1:=by simp
 refine ⟨fun h0=>?_,fun i hi=>?_⟩
 ·obtain ⟨b,off,q,hb,hc⟩:=h.cells (by omega)
  refine ⟨b,off,q,hb,fun i hi=>?_⟩
  have:=hc i (by omega)
  rw [getD_app hi] at this
  exact this
 ·have:=h.bd i (by omega)
  rw [getD_app hi] at this
  exact this
theorem EL.keep {w w':World} {rb:Nat} {l:List Ent} (h:EL w (some ⟨rb,0,none⟩) l) (hb:rb<w'.heap.size) (k:w'.heap[rb]?=w.heap[rb]?):EL w' (some ⟨rb,0,none⟩) l :=
 ⟨fun h0=>by
  obtain ⟨b,off,e,_,hc⟩:=h.cells h0
  cases e
  refine ⟨rb,0,rfl,hb,fun i hi=>?_⟩
  have:=hc i hi
  simp only [World.cell?] at this ⊢
  rw [k]
  exact this,h.bd⟩
structure CI13 (w:World) (ob:Nat) (vals:List Value) (L:List (List Ent)):Prop where
 len:vals.length=L.length
 row:∀ i,i<L.length→∃ rb rc,vals[i]?=some (.slice (some ⟨rb,0,none⟩) (L.getD i []).length rc)∧(L.getD i []).length+1≤rc∧rb≠ob∧rb<w.heap.size∧EL w (some ⟨rb,0,none⟩) (L.getD i []++[e77])
theorem CI13.gw {w w':World} {ob:Nat} {vals:List Value} {L:List (List Ent)} (h:CI13 w ob vals L) (g:Gw w w'):CI13 w' ob vals L :=
 ⟨h.len,fun i hi=>by
  obtain ⟨rb,rc,h1,h0,h2,h3,h4⟩:=h.row i hi
  exact ⟨rb,rc,h1,h0,h2,Nat.lt_of_lt_of_le h3 g.size,h4.gw g⟩⟩
theorem CI13.more {w w8:World} {o:Obj} {ob ob':Nat} {vals:List Value} {L:List (List Ent)} {l:List Ent} {rb rc:Nat} (h:CI13 w ob vals L) (r2:(w.alloc o).grownBy w8 (some ob)) (o8:ob'=ob∨w.heap.size≤ob') (rn:rb≠ob) (rl:rb<w.heap.size) (hc:l.length+1≤rc) (ks:EL w (some ⟨rb,0,none⟩) (l++[e77])):CI13 w8 ob' (vals++[.slice (some ⟨rb,0,none⟩) l.length rc]) (L++[l]):=by
 have kp:∀ q,q<w.heap.size→q≠ob→w8.heap[q]?=w.heap[q]?:=fun q hq hn=>(r2.block q (by simp;omega) (fun e=>hn (by cases e;rfl))).trans (heap_alloc_old w _ hq)
 have lt8:∀ q,q<w.heap.size→q≠ob→q<w8.heap.size:=fun q hq hn=>by
  have e:=kp q hq hn
  rw [Array.getElem?_eq_getElem hq] at e
  exact (Array.getElem?_eq_some_iff.1 e).1
 refine ⟨by rw [List.length_append,List.length_append,h.len];rfl,fun i hi=>?_⟩
 by_cases e:i<L.length
 ·obtain ⟨b,c,h1,h0,h2,h3,h4⟩:=h.row i e
  have eg:(L++[l]).getD i []=L.getD i []:=by
   rw [List.getD_eq_getElem?_getD,List.getElem?_append_left e,←List.getD_eq_getElem?_getD]
  rw [eg]
  refine ⟨b,c,by rw [List.getElem?_append_left (by rw [h.len];exact e)];exact h1,h0,?_,lt8 b h3 h2,h4.keep (lt8 b h3 h2) (kp b h3 h2)⟩
  rcases o8 with q | q
  ·rw [q];exact h2
  ·omega
 ·have ei:i=L.length:=by
   rw [List.length_append] at hi
   simp at hi
   omega
  subst ei
  have eg:(L++[l]).getD L.length []=l:=by simp [List.getD]
  rw [eg]
  refine ⟨rb,rc,by rw [←h.len];simp,hc,?_,lt8 rb rl rn,ks.keep (lt8 rb rl rn) (kp rb rl rn)⟩
  rcases o8 with q | q
  ·rw [q];exact rn
  ·omega
structure EX (w:World) (ao:Option Addr) (L:List (List Ent)):Prop where
 cells:0<L.length→∃ b off,ao=some ⟨b,off,none⟩∧b<w.heap.size∧∀ i,i<L.length→∃ bo c,w.cell? ⟨b,off+i,none⟩=some (.slice bo (L.getD i []).length c)∧(L.getD i []).length+1≤c∧EL w bo (L.getD i []++[e77])
theorem EX.gw {w w':World} {ao:Option Addr} {L:List (List Ent)} (h:EX w ao L) (g:Gw w w'):EX w' ao L :=
 ⟨fun h0=>by
  obtain ⟨b,off,e,hb,hc⟩:=h.cells h0
  refine ⟨b,off,e,Nat.lt_of_lt_of_le hb g.size,fun i hi=>?_⟩
  obtain ⟨bo,c,h1,h2,h3⟩:=hc i hi
  exact ⟨bo,c,(g.cell _ _ hb).trans h1,h2,h3.gw g⟩⟩
theorem EX.ev {w:World} {ao:Option Addr} {L:List (List Ent)} (h:EX w ao L):EV w ao L :=
 ⟨fun h0=>by
  obtain ⟨b,off,e,hb,hc⟩:=h.cells h0
  refine ⟨b,off,e,hb,fun i hi=>?_⟩
  obtain ⟨bo,c,h1,h2,h3⟩:=hc i hi
  refine ⟨bo,c,h1,by omega,h3.front,fun q=>?_⟩
  obtain ⟨_,_,q',_⟩:=h3.cells (by simp)
  rw [q] at q'
  cases q'⟩
theorem CI13.ex {w:World} {base ob n oc:Nat} {vals:List Value} {L:List (List Ent)} (h:CI13 w ob vals L) (o:w.ownsRow base 35 1 (.slice (some ⟨ob,0,none⟩) n oc) n vals) (hn:L.length=n):EX w (some ⟨ob,0,none⟩) L :=
 ⟨fun h0=>⟨ob,0,rfl,(o.lt ob rfl).2,fun i hi=>by
  obtain ⟨rb,rc,h1,h0,_,_,h4⟩:=h.row i hi
  refine ⟨some ⟨rb,0,none⟩,rc,?_,h0,h4⟩
  rw [Nat.zero_add,World.ownsRow.cellAt o i (by omega)]
  exact h1⟩⟩
theorem info_es13:(Tryz.prog.info? 35).map (fun i=>(i.zero,i.size,i.bytes))=some (some (.slice none 0 0),1,24):=by kernel_rfl
theorem orow13' {w w':World} {base e size n:Nat} {v:Value} {xs:List Value} (h:w.ownsRow base e size v n xs) (g:Gw w w'):w'.ownsRow base e size v n xs:=by
 refine ⟨h.1,?_⟩
 rcases h.2 with q | ⟨b,cap,cur,rfl,hb,hh,r⟩
 ·exact .inl q
 ·exact .inr ⟨b,cap,cur,rfl,hb,(g.below.block b (Array.getElem?_eq_some_iff.1 hh).1).trans hh,r⟩
theorem new_v13' (w:World) (x:Value) (t:TypeId):∀ j u,[x][j]?=some u→(w.alloc (.cells #[x] t)).cell? ((⟨w.heap.size,0,none⟩:Addr).add j)=some u:=by
 intro j u hu
 cases j with
 | zero =>
  simp only [List.getElem?_cons_zero,Option.some.injEq] at hu
  subst hu
  simp [Addr.add,go_sem]
 | succ j=>simp at hu
end Go.Proofs.YtepcddmkfdlcjaaGreat
namespace Go.Proofs.YtepcddmkfdlcjaaGreat
open Go.RowKit
set_option linter.unusedVariables false
theorem KS.keep {w w':World} {rb n:Nat} {f:Nat→Int} (h:KS w (some ⟨rb,0,none⟩) n f) (hb:rb<w'.heap.size) (k:w'.heap[rb]?=w.heap[rb]?):KS w' (some ⟨rb,0,none⟩) n f :=
 ⟨fun h0=>by
  obtain ⟨b,off,e,_,hc⟩:=h.cells h0
  cases e
  refine ⟨rb,0,rfl,hb,fun i hi=>?_⟩
  have:=hc i hi
  simp only [World.cell?] at this ⊢
  rw [k]
  exact this,h.bd⟩
structure KI (w:World) (ob:Nat) (vals:List Value) (K:List (List Int)):Prop where
 len:vals.length=K.length
 row:∀ i,i<K.length→∃ rb rc,vals[i]?=some (.slice (some ⟨rb,0,none⟩) (K.getD i []).length rc)∧rb≠ob∧rb<w.heap.size∧KS w (some ⟨rb,0,none⟩) (K.getD i []).length (fun j=>(K.getD i []).getD j 0)
theorem KI.gw {w w':World} {ob:Nat} {vals:List Value} {K:List (List Int)} (h:KI w ob vals K) (g:Gw w w'):KI w' ob vals K :=
 ⟨h.len,fun i hi=>by
  obtain ⟨rb,rc,h1,h2,h3,h4⟩:=h.row i hi
  exact ⟨rb,rc,h1,h2,Nat.lt_of_lt_of_le h3 g.size,h4.gw g⟩⟩
theorem KI.more {w w8:World} {o:Obj} {ob ob':Nat} {vals:List Value} {K:List (List Int)} {row:List Int} {rb rc:Nat} (h:KI w ob vals K) (r2:(w.alloc o).grownBy w8 (some ob)) (o8:ob'=ob∨w.heap.size≤ob') (rn:rb≠ob) (rl:rb<w.heap.size) (ks:KS w (some ⟨rb,0,none⟩) row.length (fun j=>row.getD j 0)):KI w8 ob' (vals++[.slice (some ⟨rb,0,none⟩) row.length rc]) (K++[row]):=by
 have kp:∀ q,q<w.heap.size→q≠ob→w8.heap[q]?=w.heap[q]?:=fun q hq hn=>(r2.block q (by simp;omega) (fun e=>hn (by cases e;rfl))).trans (heap_alloc_old w _ hq)
 have lt8:∀ q,q<w.heap.size→q≠ob→q<w8.heap.size:=fun q hq hn=>by
  have e:=kp q hq hn
  rw [Array.getElem?_eq_getElem hq] at e
  exact (Array.getElem?_eq_some_iff.1 e).1
 refine ⟨by rw [List.length_append,List.length_append,h.len];rfl,fun i hi=>?_⟩
 by_cases e:i<K.length
 ·obtain ⟨b,c,h1,h2,h3,h4⟩:=h.row i e
  have eg:(K++[row]).getD i []=K.getD i []:=by
   rw [List.getD_eq_getElem?_getD,List.getElem?_append_left e,←List.getD_eq_getElem?_getD]
  rw [eg]
  refine ⟨b,c,by rw [List.getElem?_append_left (by rw [h.len];exact e)];exact h1,?_,lt8 b h3 h2,h4.keep (lt8 b h3 h2) (kp b h3 h2)⟩
  rcases o8 with q | q
  ·rw [q];exact h2
  ·omega
 ·have ei:i=K.length:=by
   rw [List.length_append] at hi
   simp at hi
   omega
  subst ei
  have eg:(K++[row]).getD K.length []=row:=by simp [List.getD]
  rw [eg]
  refine ⟨rb,rc,by rw [←h.len];simp,?_,lt8 rb rl rn,ks.keep (lt8 rb rl rn) (kp rb rl rn)⟩
  rcases o8 with q | q
  ·rw [q];exact rn
  ·omega
end Go.Proofs.YtepcddmkfdlcjaaGreat
namespace Go.Proofs.YtepcddmkfdlcjaaGreat
open Go.RowKit
set_option linter.unusedVariables false
structure FnB (K:FuncId) (cap:Array Value) (p:Int→Bool) (w:World):Prop where
 enter:∀ (args:Array Value) (W:World),(callFunc K args).run Tryz.prog W=.ok (.enter K args) W
 tells:∀ W,Gw w W→∀ q:Int,0≤q→q<18446744073709551616→Calls Tryz.prog K (#[.int .u64 q]++cap) W fun e w'=>e=.returned (.bool (p q))∧Gw W w'
theorem FnB.gw {K:FuncId} {cap:Array Value} {p:Int→Bool} {w w':World} (h:FnB K cap p w) (g:Gw w w'):FnB K cap p w':=⟨h.enter,fun W gg=>h.tells W (g.trans gg)⟩
def keepP (p:Int→Bool) (e:Ent):Bool:=!e.g||p e.k
theorem Mg.oks {L:List (List Ent)} {o:List Ent} (h:Mg Ent.k L o) (ok:∀ l∈L,∀ e∈l,e.ok):∀ e∈o,e.ok:=by
 induction h using Mg.ind with
 | done _=>intro e he;cases he
 | @step ls x out e r ih =>
  obtain ⟨a,l,b,el,_,_⟩:=least_some e
  intro y hy
  rcases List.mem_cons.1 hy with rfl | q
  ·exact ok (y::l) (by rw [el];simp) y (List.mem_cons_self ..)
  ·refine ih (fun l' hl' z hz=>?_) y q
   obtain ⟨l0,hl0,rfl⟩:=List.mem_map.1 hl'
   exact ok l0 hl0 z (pass_mem hz)
theorem EV.oks {w:World} {ao:Option Addr} {L:List (List Ent)} (h:EV w ao L):∀ l∈L,∀ e∈l,e.ok:=by
 intro l hl
 obtain ⟨i,hi,rfl⟩:=List.mem_iff_getElem.1 hl
 obtain ⟨_,_,_,_,hc⟩:=h.cells (by omega)
 obtain ⟨bo,c,_,_,h3,_⟩:=hc i hi
 have e:L.getD i []=L[i]:=by simp [List.getD,hi]
 rw [e] at h3
 exact h3.all
theorem rows_le {L:List (List Ent)} {i:Nat} (hi:i<L.length):(L.getD i []).length≤sizes L:=by
 have e:L.getD i []=L[i]:=by simp [List.getD,hi]
 rw [e]
 have:∀ (L:List (List Ent)) (l:List Ent),l∈L→l.length≤sizes L:=by
  intro L
  induction L with
  | nil=>intro l hl;cases hl
  | cons a L ih =>
   intro l hl
   rw [sizes_cons]
   rcases List.mem_cons.1 hl with rfl | q
   ·omega
   ·have:=ih l q;omega
 exact this _ _ (List.getElem_mem hi)
end Go.Proofs.YtepcddmkfdlcjaaGreat
