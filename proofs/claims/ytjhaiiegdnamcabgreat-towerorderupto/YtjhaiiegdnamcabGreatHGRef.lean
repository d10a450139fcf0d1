/- The document's layer 13: Merge. -/
import Derived.BigQuiet
import Derived.Deep.AppendLies
import Derived.Deep.LoopGhost
import Derived.Deep.QuietTactic
import Derived.Deep.RegionHeld3
import Derived.Deep.RegionLaw
import Derived.Test.YtjhaiiegdnamcabGreatHPBs
import Derived.Test.YtjhaiiegdnamcabGreatHPZa
import Derived.Test.YtjhaiiegdnamcabGreatHZPile
import Derived.Test.YtjhaiiegdnamcabGreatHGPlain
import Derived.Test.YtjhaiiegdnamcabGreatHGEnt
namespace Go.Proofs.YtjhaiiegdnamcabGreat
open Go.RowKit
set_option linter.unusedVariables false
def FI (key:Nat×Nat→Int) (len a:Nat→Nat) (i:Nat) (z:Int):Prop:=(z=-1∧∀ j,j<i→¬ a j<len j)∨∃ f:Nat,z=f∧f<i∧a f<len f∧(∀ j,j<f→a j<len j→key (f,a f)<key (j,a j))∧∀ j,j<i→a j<len j→key (f,a f)≤key (j,a j)
theorem FI.zero (key:Nat×Nat→Int) (len a:Nat→Nat):FI key len a 0 (-1):=.inl ⟨rfl,fun j hj=>by omega⟩
theorem FI.skip {key:Nat×Nat→Int} {len a:Nat→Nat} {i:Nat} {z:Int} (h:FI key len a i z) (hi:¬ a i<len i):FI key len a (i+1) z:=by
 rcases h with ⟨e,h⟩ | ⟨f,e,h1,h2,h3,h4⟩
 ·refine .inl ⟨e,fun j hj=>?_⟩
  by_cases q:j=i
  ·rw [q];exact hi
  ·exact h j (by omega)
 ·refine .inr ⟨f,e,by omega,h2,h3,fun j hj hl=>?_⟩
  by_cases q:j=i
  ·rw [q] at hl;exact absurd hl hi
  ·exact h4 j (by omega) hl
theorem FI.first {key:Nat×Nat→Int} {len a:Nat→Nat} {i:Nat} (h:FI key len a i (-1)) (hi:a i<len i):FI key len a (i+1) i:=by
 rcases h with ⟨e,h⟩ | ⟨f,e,_⟩
 ·refine .inr ⟨i,rfl,by omega,hi,fun j hj hl=>absurd hl (h j hj),fun j hj hl=>?_⟩
  by_cases q:j=i
  ·rw [q];exact Int.le_refl _
  ·exact absurd hl (h j (by omega))
 ·omega
theorem FI.less {key:Nat×Nat→Int} {len a:Nat→Nat} {i f:Nat} (h:FI key len a i f) (hi:a i<len i) (k:key (i,a i)<key (f,a f)):FI key len a (i+1) i:=by
 rcases h with ⟨e,_⟩ | ⟨f',e,h1,h2,h3,h4⟩
 ·omega
 ·have:f=f':=by omega
  subst this
  refine .inr ⟨i,rfl,by omega,hi,fun j hj hl=>?_,fun j hj hl=>?_⟩
  ·have:=h4 j hj hl;omega
  ·by_cases q:j=i
   ·rw [q];exact Int.le_refl _
   ·have:=h4 j (by omega) hl;omega
theorem FI.more {key:Nat×Nat→Int} {len a:Nat→Nat} {i f:Nat} (h:FI key len a i f) (hi:a i<len i) (k:¬ key (i,a i)<key (f,a f)):FI key len a (i+1) f:=by
 rcases h with ⟨e,_⟩ | ⟨f',e,h1,h2,h3,h4⟩
 ·omega
 ·have:f=f':=by omega
  subst this
  refine .inr ⟨f,rfl,by omega,h2,h3,fun j hj hl=>?_⟩
  by_cases q:j=i
  ·rw [q];omega
  ·exact h4 j (by omega) hl
structure MI (key:Nat×Nat→Int) (ln:Nat) (len a:Nat→Nat) (P:List (Nat×Nat)):Prop where
 cn:∀ o,Mg key (froms ln len a) o→Mg key (froms ln len fun _=>0) (P++o)
 al:∀ i,i<ln→a i≤len i
 pb:∀ p∈P,p.1<ln∧p.2<len p.1
theorem MI.start (key:Nat×Nat→Int) (ln:Nat) (len:Nat→Nat):MI key ln len (fun _=>0) []:=⟨fun o h=>h,fun _ _=>Nat.zero_le _,fun p hp=>by cases hp⟩
theorem MI.more {key:Nat×Nat→Int} {ln:Nat} {len a:Nat→Nat} {P:List (Nat×Nat)} (h:MI key ln len a P) {f:Nat} (hf:FI key len a ln f):MI key ln len (passA key (key (f,a f)) len a) (P++[(f,a f)]):=by
 rcases hf with ⟨e,_⟩ | ⟨f',e,h1,h2,h3,h4⟩
 ·omega
 ·have:f=f':=by omega
  subst this
  have ls:=froms_least (key:=key) h1 h2 h3 h4
  refine ⟨fun o ho=>?_,fun i hi=>?_,fun p hp=>?_⟩
  ·rw [List.append_assoc]
   refine h.cn _ (.step ls ?_)
   rw [froms_pass]
   exact ho
  ·unfold passA
   have:=h.al i hi
   split<;>omega
  ·rcases List.mem_append.1 hp with q | q
   ·exact h.pb p q
   ·rw [List.mem_singleton.1 q];exact ⟨h1,h2⟩
theorem MI.done {key:Nat×Nat→Int} {ln:Nat} {len a:Nat→Nat} {P:List (Nat×Nat)} (h:MI key ln len a P) (hf:FI key len a ln (-1)):Mg key (froms ln len fun _=>0) P:=by
 rcases hf with ⟨_,q⟩ | ⟨f',e,_⟩
 ·have:=h.cn [] (.done (froms_none q))
  rwa [List.append_nil] at this
 ·omega
theorem MI.few {key:Nat×Nat→Int} {ln:Nat} {len a:Nat→Nat} {P:List (Nat×Nat)} (h:MI key ln len a P):P.length≤sizes (froms ln len fun _=>0):=by
 obtain ⟨o,ho⟩:=Mg.ex key _ (froms ln len a) (Nat.le_refl _)
 have:=(h.cn o ho).few
 rw [List.length_append] at this
 omega
end Go.Proofs.YtjhaiiegdnamcabGreat
namespace Go.Proofs.YtjhaiiegdnamcabGreat
open Go.RowKit
set_option linter.unusedVariables false
theorem KS.keep {w w':World} {rb n:Nat} {f:Nat→Int} (h:KS w (some ⟨rb,0,none⟩) n f) (hb:rb<w'.heap.size) (k:w'.heap[rb]?=w.heap[rb]?):KS w' (some ⟨rb,0,none⟩) n f :=
 ⟨fun h0=>by
  obtain ⟨b,off,e,_,hc⟩:=h.cells h0
  cases e
  refine ⟨rb,0,rfl,hb,fun i hi=>?_⟩
  have:=hc i hi
  simp only [World.cell?] at this ⊢
  rw [k]
  exact this,h.bd⟩
structure KI (w:World) (ob:Nat) (vals:List Value) (K:List (List Int)):Prop where
 len:vals.length=K.length
 row:∀ i,i<K.length→∃ rb rc,vals[i]?=some (.slice (some ⟨rb,0,none⟩) (K.getD i []).length rc)∧rb≠ob∧rb<w.heap.size∧KS w (some ⟨rb,0,none⟩) (K.getD i []).length (fun j=>(K.getD i []).getD j 0)
theorem KI.gw {w w':World} {ob:Nat} {vals:List Value} {K:List (List Int)} (h:KI w ob vals K) (g:Gw w w'):KI w' ob vals K :=
 ⟨h.len,fun i hi=>by
  obtain ⟨rb,rc,h1,h2,h3,h4⟩:=h.row i hi
  exact ⟨rb,rc,h1,h2,Nat.lt_of_lt_of_le h3 g.size,h4.gw g⟩⟩
theorem KI.more {w w8:World} {o:Obj} {ob ob':Nat} {vals:List Value} {K:List (List Int)} {row:List Int} {rb rc:Nat} (h:KI w ob vals K) (r2:(w.alloc o).grownBy w8 (some ob)) (o8:ob'=ob∨w.heap.size≤ob') (rn:rb≠ob) (rl:rb<w.heap.size) (ks:KS w (some ⟨rb,0,none⟩) row.length (fun j=>row.getD j 0)):KI w8 ob' (vals++[.slice (some ⟨rb,0,none⟩) row.length rc]) (K++[row]):=by
 have kp:∀ q,q<w.heap.size→q≠ob→w8.heap[q]?=w.heap[q]?:=fun q hq hn=>(r2.block q (by simp;omega) (fun e=>hn (by cases e;rfl))).trans (heap_alloc_old w _ hq)
 have lt8:∀ q,q<w.heap.size→q≠ob→q<w8.heap.size:=fun q hq hn=>by
  have e:=kp q hq hn
  rw [Array.getElem?_eq_getElem hq] at e
  exact (Array.getElem?_eq_some_iff.1 e).1
 refine ⟨by rw [List.length_append,List.length_append,h.len];rfl,fun i hi=>?_⟩
 by_cases e:i<K.length
 ·obtain ⟨b,c,h1,h2,h3,h4⟩:=h.row i e
  have eg:(K++[row]).getD i []=K.getD i []:=by
   rw [List.getD_eq_getElem?_getD,List.getElem?_append_left e,←List.getD_eq_getElem?_getD]
  rw [eg]
  refine ⟨b,c,by rw [List.getElem?_append_left (by rw [h.len];exact e)];exact h1,?_,lt8 b h3 h2,h4.keep (lt8 b h3 h2) (kp b h3 h2)⟩
  rcases o8 with q | q
  ·rw [q];exact h2
  ·omega
 ·have ei:i=K.length:=by
   rw [List.length_append] at hi
   simp at hi
   omega
  subst ei
  have eg:(K++[row]).getD K.length []=row:=by simp [List.getD]
  rw [eg]
  refine ⟨rb,rc,by rw [←h.len];simp,?_,lt8 rb rl rn,ks.keep (lt8 rb rl rn) (kp rb rl rn)⟩
  rcases o8 with q | q
  ·rw [q];exact rn
  ·omega
end Go.Proofs.YtjhaiiegdnamcabGreat
namespace Go.Proofs.YtjhaiiegdnamcabGreat
open Go.RowKit
set_option linter.unusedVariables false
theorem flat_set13:∀ (l:List Ent) (k:Nat) (s:Ent),k<l.length→(((l.flatMap ent3).set (k*3) (.int .u64 s.k)).set (k*3+1) (.int .u64 s.v)).set (k*3+2) (.bool s.g)=(l.set k s).flatMap ent3:=by
 intro l
 induction l with
 | nil=>intro k s hk;simp at hk
 | cons t l ih =>
  intro k s hk
  cases k with
  | zero=>simp [ent3]
  | succ k =>
   have:=ih k s (by simpa using hk)
   rw [List.set_cons_succ,List.flatMap_cons,List.flatMap_cons,←this]
   have e:∀ r,(k+1)*3+r=k*3+r+3:=fun r=>by omega
   have e0:(k+1)*3=k*3+3:=by omega
   rw [e 1,e 2,e0]
   simp [ent3]
def put3 (w:World) (g o:Nat) (s:Ent):World:=((w.setCell ⟨g,o,none⟩ (.int .u64 s.k)).setCell ⟨g,o+1,none⟩ (.int .u64 s.v)).setCell ⟨g,o+2,none⟩ (.bool s.g)
theorem eo_put {w:World} {base g cap k n:Nat} {l:List Ent} (h:EO w base (.slice (some ⟨g,0,none⟩) n cap) l) (hn:l.length=n) (hk:k<l.length) (s:Ent):EO (put3 w g (k*3) s) base (.slice (some ⟨g,0,none⟩) n cap) (l.set k s):=by
 subst hn
 have h':w.ownsRow base 65 3 (.slice (some ⟨g,0,none⟩) l.length cap) l.length (l.flatMap ent3):=h
 have r:=(((h'.stored (k*3) (.int .u64 s.k)).1.stored (k*3+1) (.int .u64 s.v)).1.stored (k*3+2) (.bool s.g)).1
 rw [flat_set13 l k s hk] at r
 show World.ownsRow _ _ _ _ _ _ _
 rw [List.length_set]
 exact r
theorem eo_form {w:World} {base:Nat} {bo:Option Addr} {n c:Nat} {l:List Ent} (h:EO w base (.slice bo n c) l) (hn:l.length=n) (h0:0<n):∃ b,bo=some ⟨b,0,none⟩∧base≤b∧b<w.heap.size∧(∀ i,w.frozen? ⟨b,i,none⟩=false)∧∀ i,i<n→w.cell? ⟨b,i*3,none⟩=some (.int .u64 (l.getD i ent0).k)∧w.cell? ⟨b,i*3+1,none⟩=some (.int .u64 (l.getD i ent0).v)∧w.cell? ⟨b,i*3+2,none⟩=some (.bool (l.getD i ent0).g):=by
 subst hn
 rcases h.2 with ⟨_,z⟩ | ⟨b,cap,cur,e,hb,hh,r⟩
 ·omega
 ·injection e with e1 e2 e3
  subst e1 e3
  have c':∀ i,i<l.length→∀ j,j<3→w.cell? ⟨b,i*3+j,none⟩=(ent3 (l.getD i ent0))[j]?:=fun i hi j hj=>by
   have:=World.ownsRow.cellAt h (i*3+j) (by omega)
   rw [this]
   exact flat_e l i hi j hj
  exact ⟨b,rfl,hb,(Array.getElem?_eq_some_iff.1 hh).1,fun i=>by simp [World.frozen?,hh],fun i hi=>⟨c' i hi 0 (by decide),c' i hi 1 (by decide),c' i hi 2 (by decide)⟩⟩
end Go.Proofs.YtjhaiiegdnamcabGreat
namespace Go.Proofs.YtjhaiiegdnamcabGreat
open Go.RowKit
set_option linter.unusedVariables false
structure FnB (K:FuncId) (cap:Array Value) (p:Int→Bool) (w:World):Prop where
 enter:∀ (args:Array Value) (W:World),(callFunc K args).run Tryz.prog W=.ok (.enter K args) W
 tells:∀ W,Gw w W→∀ q:Int,0≤q→q<18446744073709551616→Calls Tryz.prog K (#[.int .u64 q]++cap) W fun e w'=>e=.returned (.bool (p q))∧Gw W w'
theorem FnB.gw {K:FuncId} {cap:Array Value} {p:Int→Bool} {w w':World} (h:FnB K cap p w) (g:Gw w w'):FnB K cap p w':=⟨h.enter,fun W gg=>h.tells W (g.trans gg)⟩
def keepP (p:Int→Bool) (e:Ent):Bool:=!e.g||p e.k
theorem Mg.oks {L:List (List Ent)} {o:List Ent} (h:Mg Ent.k L o) (ok:∀ l∈L,∀ e∈l,e.ok):∀ e∈o,e.ok:=by
 induction h using Mg.ind with
 | done _=>intro e he;cases he
 | @step ls x out e r ih =>
  obtain ⟨a,l,b,el,_,_⟩:=least_some e
  intro y hy
  rcases List.mem_cons.1 hy with rfl | q
  ·exact ok (y::l) (by rw [el];simp) y (List.mem_cons_self ..)
  ·refine ih (fun l' hl' z hz=>?_) y q
   obtain ⟨l0,hl0,rfl⟩:=List.mem_map.1 hl'
   exact ok l0 hl0 z (pass_mem hz)
theorem EV.oks {w:World} {ao:Option Addr} {L:List (List Ent)} (h:EV w ao L):∀ l∈L,∀ e∈l,e.ok:=by
 intro l hl
 obtain ⟨i,hi,rfl⟩:=List.mem_iff_getElem.1 hl
 obtain ⟨_,_,_,_,hc⟩:=h.cells (by omega)
 obtain ⟨bo,c,_,_,h3,_⟩:=hc i hi
 have e:L.getD i []=L[i]:=by simp [List.getD,hi]
 rw [e] at h3
 exact h3.all
theorem rows_le {L:List (List Ent)} {i:Nat} (hi:i<L.length):(L.getD i []).length≤sizes L:=by
 have e:L.getD i []=L[i]:=by simp [List.getD,hi]
 rw [e]
 have:∀ (L:List (List Ent)) (l:List Ent),l∈L→l.length≤sizes L:=by
  intro L
  induction L with
  | nil=>intro l hl;cases hl
  | cons a L ih =>
   intro l hl
   rw [sizes_cons]
   rcases List.mem_cons.1 hl with rfl | q
   ·omega
   ·have:=ih l q;omega
 exact this _ _ (List.getElem_mem hi)
end Go.Proofs.YtjhaiiegdnamcabGreat
namespace Go.Proofs.YtjhaiiegdnamcabGreat
open Go.RowKit
set_option linter.unusedVariables false
structure Rn where
 p:Nat
 S:Nat→Prop
 eps:Int
 l:List Ent
 L:List (List Sg)
def ek (l:List Ent) (i:Nat):Int:=(l.getD i ent0).k
def ev (l:List Ent) (i:Nat):Int:=(l.getD i ent0).v
def eg (l:List Ent) (i:Nat):Bool:=(l.getD i ent0).g
def EOk (l:List Ent):Prop:=ChkR (ek l) (ev l) (eg l) l.length 0
theorem getD_lt {l:List Ent} {i:Nat} (hi:i<l.length):l.getD i ent0=l[i]:=by simp [List.getD,hi]
theorem EOk.iff {l:List Ent}:EOk l↔Rise Ent.k l∧∀ e∈l,¬ (e.g=true∧e.v≠0):=by
 unfold EOk
 rw [show ChkR (ek l) (ev l) (eg l) l.length 0↔_ from ⟨fun h=>(ChkR.zero h).1 rfl,fun h=>ChkR.ok h.1 h.2⟩]
 refine and_congr rise_up.symm ⟨fun h e he=>?_,fun h j hj=>?_⟩
 ·obtain ⟨i,hi,rfl⟩:=List.mem_iff_getElem.1 he
  have:=h i hi
  unfold eg ev at this
  rwa [getD_lt hi] at this
 ·unfold eg ev
  rw [getD_lt hj]
  exact h _ (List.getElem_mem hj)
theorem EOk.rise {l:List Ent} (h:EOk l):Rise Ent.k l:=(EOk.iff.1 h).1
theorem EOk.up {l:List Ent} (h:EOk l):Up (ek l) l.length:=rise_up.1 h.rise
theorem look_mem {l:List Ent} (h:Rise Ent.k l) {e:Ent} (he:e∈l):look Ent.k e.k l=some e:=by
 induction l with
 | nil=>cases he
 | cons z o ih =>
  obtain ⟨z1,z2⟩:=List.pairwise_cons.1 h
  rw [look_cons]
  rcases List.mem_cons.1 he with rfl | q
  ·rw [if_pos rfl]
  ·have:=z1 e q
   rw [if_neg (by omega)]
   exact ih z2 q
theorem look_in {l:List Ent} {q:Int} {e:Ent} (h:look Ent.k q l=some e):e∈l∧e.k=q:=⟨List.mem_of_find?_eq_some h,look_key h⟩
def lookV (o:Option Ent):Value×Bool:=match o with
 | some e=>(entV e.k e.v e.g,true)
 | none=>(entV 0 0 false,false)
theorem getV_look {l:List Ent} (h:Rise Ent.k l) (q:Int):getV (ek l) (ev l) (eg l) l.length q=lookV (look Ent.k q l):=by
 have u:Up (ek l) l.length:=rise_up.1 h
 unfold getV
 cases hl:look Ent.k q l with
 | some e =>
  obtain ⟨he,hk⟩:=look_in hl
  obtain ⟨i,hi,ei⟩:=List.mem_iff_getElem.1 he
  have k1:ek l i=q:=by unfold ek;rw [getD_lt hi,ei,hk]
  have c:cntb (ek l) q l.length=i:=by rw [←k1];exact cntb_key u hi
  rw [c,if_pos ⟨hi,k1⟩]
  unfold ek ev eg lookV
  rw [getD_lt hi,ei]
 | none =>
  rw [if_neg]
  ·rfl
  ·rintro ⟨a,b⟩
   have hm:=List.getElem_mem a
   have:=look_mem h hm
   rw [show (l[cntb (ek l) q l.length]).k=q from by rw [←getD_lt a];exact b] at this
   rw [this] at hl
   cases hl
def ptr (o:Option Rn):Value:=match o with
 | some r=>.pointer (some ⟨r.p,0,none⟩)
 | none=>.pointer none
def lists (rs:List (Option Rn)):List (List Ent):=rs.filterMap (Option.map Rn.l)
theorem lists_some (r:Rn) (rs:List (Option Rn)):lists (some r::rs)=r.l::lists rs:=rfl
theorem lists_app (a b:List (Option Rn)):lists (a++b)=lists a++lists b:=List.filterMap_append
def tot (rs:List (Option Rn)):Nat:=sizes (lists rs)
theorem tot_none (rs:List (Option Rn)):tot (none::rs)=tot rs:=rfl
theorem tot_some (r:Rn) (rs:List (Option Rn)):tot (some r::rs)=r.l.length+tot rs:=by unfold tot;rw [lists_some,sizes_cons]
theorem tot_app (a b:List (Option Rn)):tot (a++b)=tot a+tot b:=by unfold tot;rw [lists_app,sizes_app]
theorem tot_mem {rs:List (Option Rn)} {r:Rn} (h:some r∈rs):r.l.length≤tot rs:=by
 induction rs with
 | nil=>cases h
 | cons o rs ih =>
  rcases List.mem_cons.1 h with q | q
  ·rw [←q,tot_some];omega
  ·have:=ih q
   cases o with
   | none=>rw [tot_none];exact this
   | some x=>rw [tot_some];omega
theorem tot_take (rs:List (Option Rn)) (j:Nat):tot (rs.take j)+tot (rs.drop j)=tot rs:=by rw [←tot_app,List.take_append_drop]
theorem lists_mem {rs:List (Option Rn)} {l:List Ent} (h:l∈lists rs):∃ r,some r∈rs∧r.l=l:=by
 obtain ⟨o,ho,e⟩:=List.mem_filterMap.1 h
 cases o with
 | none=>cases e
 | some r=>exact ⟨r,ho,Option.some.inj e⟩
def nw (q:Int) (rs:List (Option Rn)):Option Ent:=firstOf Ent.k q (lists rs)
theorem nw_none (q:Int) (rs:List (Option Rn)):nw q (none::rs)=nw q rs:=rfl
theorem nw_some (q:Int) (r:Rn) (rs:List (Option Rn)):nw q (some r::rs)=(look Ent.k q r.l).or (nw q rs):=by
 unfold nw
 rw [lists_some]
 simp only [firstOf]
 cases look Ent.k q r.l<;>rfl
theorem firstOf_or (q:Int) (a b:List (List Ent)):firstOf Ent.k q (a++b)=(firstOf Ent.k q a).or (firstOf Ent.k q b):=by
 induction a with
 | nil=>rfl
 | cons l a ih =>
  simp only [List.cons_append,firstOf]
  cases look Ent.k q l with
  | some e=>rfl
  | none=>exact ih
theorem nw_app (q:Int) (a b:List (Option Rn)):nw q (a++b)=(nw q a).or (nw q b):=by unfold nw;rw [lists_app,firstOf_or]
theorem nw_rep (q:Int) (n:Nat) (rs:List (Option Rn)):nw q (List.replicate n none++rs)=nw q rs:=by
 induction n with
 | zero=>rfl
 | succ n ih=>rw [List.replicate_succ,List.cons_append,nw_none];exact ih
def liveO (o:Option Ent):Bool:=match o with
 | some e=>!e.g
 | none=>false
def liveQ (rs:List (Option Rn)) (q:Int):Bool:=liveO (nw q rs)
def free:List (Option Rn)→Nat
 | []=>0
 | none::_=>0
 | some _::rs=>free rs+1
theorem free_at {rs:List (Option Rn)} {i:Nat} (h:∀ j,j<i→∃ r,rs[j]?=some (some r)) (hn:rs[i]?=some none∨rs.length=i):free rs=i:=by
 induction rs generalizing i with
 | nil =>
  rcases hn with q | q
  ·simp at q
  ·simpa [free] using q
 | cons o rs ih =>
  cases i with
  | zero =>
   rcases hn with q | q
   ·simp at q;subst q;rfl
   ·simp at q
  | succ i =>
   obtain ⟨r,hr⟩:=h 0 (by omega)
   simp at hr
   subst hr
   simp only [free]
   rw [ih (i:=i) (fun j hj=>by simpa using h (j+1) (by omega)) (by simpa using hn)]
theorem free_none {rs:List (Option Rn)} (h:free rs<rs.length):rs[free rs]?=some none:=by
 induction rs with
 | nil=>simp at h
 | cons o rs ih =>
  cases o with
  | none=>rfl
  | some x=>simp only [free,List.length_cons] at h ⊢;simpa using ih (by omega)
def freeC (rs:List (Option Rn)):Nat:=min (free rs) 39
structure TakeR (rs:List (Option Rn)) (l:List Ent) (o kept:List Ent):Prop where
 mg:Mg Ent.k (l::lists (rs.take (freeC rs+1))) o
 kp:kept=o.filter (keepP (liveQ (rs.drop (freeC rs+1))))
theorem TakeR.one {rs:List (Option Rn)} {l o o' k k':List Ent} (h:TakeR rs l o k) (h':TakeR rs l o' k'):k=k':=by
 rw [h.kp,h'.kp,h.mg.one h'.mg]
def took (rs:List (Option Rn)) (l:List Ent):Nat:=l.length+tot (rs.take (freeC rs+1))
def laid (rs:List (Option Rn)) (r:Option Rn):List (Option Rn):=List.replicate (freeC rs) none++r::rs.drop (freeC rs+1)
theorem laid_len {rs:List (Option Rn)} (h:rs.length=40) (r:Option Rn):(laid rs r).length=40:=by
 unfold laid freeC
 simp
 omega
section
variable {rs:List (Option Rn)} {l o kept:List Ent}
theorem TakeR.facts (h:TakeR rs l o kept) (hl:EOk l) (hr:∀ r,some r∈rs→EOk r.l):EOk o∧EOk kept:=by
 have ha:∀ m∈l::lists (rs.take (freeC rs+1)),EOk m:=fun m hm=>by
  rcases List.mem_cons.1 hm with rfl | q
  ·exact hl
  ·obtain ⟨r,h1,rfl⟩:=lists_mem q
   exact hr r (List.mem_of_mem_take h1)
 obtain ⟨r1,r2⟩:=h.mg.once (fun m hm=>(ha m hm).rise)
 have ho:EOk o:=EOk.iff.2 ⟨r1,fun e he=>by
  have q:=look_mem r1 he
  rw [r2] at q
  have:∀ ls:List (List Ent),(∀ m∈ls,EOk m)→firstOf Ent.k e.k ls=some e→¬ (e.g=true∧e.v≠0):=by
   intro ls
   induction ls with
   | nil=>intro _ h;cases h
   | cons m ls ih =>
    intro hm hf
    simp only [firstOf] at hf
    cases hk:look Ent.k e.k m with
    | some x =>
     rw [hk] at hf
     cases hf
     exact (EOk.iff.1 (hm m (List.mem_cons_self ..))).2 e (look_in hk).1
    | none =>
     rw [hk] at hf
     exact ih (fun m h=>hm m (List.mem_cons_of_mem _ h)) hf
  exact this _ ha q⟩
 refine ⟨ho,?_⟩
 rw [h.kp]
 exact EOk.iff.2 ⟨ho.rise.filter _,fun e he=>(EOk.iff.1 ho).2 e (List.mem_filter.1 he).1⟩
theorem TakeR.few (h:TakeR rs l o kept):kept.length≤took rs l∧o.length≤took rs l:=by
 have a:=h.mg.few
 rw [sizes_cons] at a
 have b:kept.length≤o.length:=by rw [h.kp];exact List.length_filter_le ..
 unfold took tot
 omega
theorem TakeR.look (h:TakeR rs l o kept) (hl:EOk l) (hr:∀ r,some r∈rs→EOk r.l) (q:Int):Go.Proofs.YtjhaiiegdnamcabGreat.look Ent.k q o=(Go.Proofs.YtjhaiiegdnamcabGreat.look Ent.k q l).or (nw q (rs.take (freeC rs+1))):=by
 have ha:∀ m∈l::lists (rs.take (freeC rs+1)),Rise Ent.k m:=fun m hm=>by
  rcases List.mem_cons.1 hm with rfl | q
  ·exact hl.rise
  ·obtain ⟨r,h1,rfl⟩:=lists_mem q
   exact (hr r (List.mem_of_mem_take h1)).rise
 rw [(h.mg.once ha).2 q]
 simp only [firstOf]
 unfold nw
 cases Go.Proofs.YtjhaiiegdnamcabGreat.look Ent.k q l<;>rfl
end
end Go.Proofs.YtjhaiiegdnamcabGreat
