/- Heads of lists in memory; all but some blocks as they were. -/
import Derived.BigRegion
import Derived.Deep.RegionHeld3
import Derived.Deep.RegionLaw
import Derived.Laws.CopyRow
import Derived.Lib.SmallJoins
import Derived.Maps.AppendAt
import Derived.Test.YtjhaiiegdnamcabGreatHPBs
import Derived.Test.YtjhaiiegdnamcabGreatHGPlain
import Derived.Test.YtjhaiiegdnamcabGreatHGEnt
import Derived.Test.YtjhaiiegdnamcabGreatHGRef
import Derived.Test.YtjhaiiegdnamcabGreatHPHeap
namespace Go.Proofs.YtjhaiiegdnamcabGreat
open Go.RowKit
set_option linter.unusedVariables false
structure Gx (S:Nat→Prop) (w w':World):Prop where
 os:w'.os=w.os
 tape:w'.tape=w.tape
 output:w'.output=w.output
 size:w.heap.size≤w'.heap.size
 block:∀ q,q<w.heap.size→¬ S q→w'.heap[q]?=w.heap[q]?
theorem Gx.refl (S:Nat→Prop) (w:World):Gx S w w:=⟨rfl,rfl,rfl,Nat.le_refl _,fun _ _ _=>rfl⟩
theorem Gw.gx {w w':World} (h:Gw w w') (S:Nat→Prop):Gx S w w':=⟨h.below.os,h.below.tape,h.below.output,h.below.size,fun q hq _=>h.below.block q hq⟩
theorem Gx.trans {S S':Nat→Prop} {a b c:World} (h:Gx S a b) (k:Gx S' b c) (e:∀ q,S' q→S q∨a.heap.size≤q):Gx S a c :=
 ⟨k.os.trans h.os,k.tape.trans h.tape,k.output.trans h.output,Nat.le_trans h.size k.size,fun q hq hs=>(k.block q (Nat.lt_of_lt_of_le hq h.size) (fun x=>by
  rcases e q x with y | y
  ·exact hs y
  ·omega)).trans (h.block q hq hs)⟩
theorem Gx.mono {S S':Nat→Prop} {a b:World} (h:Gx S a b) (e:∀ q,S q→S' q∨a.heap.size≤q):Gx S' a b :=
 ⟨h.os,h.tape,h.output,h.size,fun q hq hs=>h.block q hq (fun x=>by
  rcases e q x with y | y
  ·exact hs y
  ·omega)⟩
theorem Gx.tw {S:Nat→Prop} {a b c:World} (h:Gx S a b) (k:Gw b c):Gx S a c:=h.trans (k.gx fun _=>False) (fun _ x=>x.elim)
theorem Gx.gw {S:Nat→Prop} {W w w':World} (h:Gw W w) (g:Gx S w w') (hS:∀ q,S q→W.heap.size≤q):Gw W w' :=
 ⟨⟨g.os.trans h.below.os,g.tape.trans h.below.tape,g.output.trans h.below.output,Nat.le_trans h.size g.size,fun q hq=>(g.block q (Nat.lt_of_lt_of_le hq h.size) (fun x=>by have:=hS q x;omega)).trans (h.below.block q hq)⟩⟩
theorem Gx.set {S:Nat→Prop} {w w':World} (h:Gx S w w') {q:Nat} (hq:S q∨w.heap.size≤q) (o:Nat) (v:Value):Gx S w (w'.setCell ⟨q,o,none⟩ v) :=
 ⟨h.os,h.tape,h.output,by simpa [World.setCell] using h.size,fun k hk hs=>(Go.Deep.blk_setCell_other _ _ _ _ (fun e=>by
  have e':k=q:=e
  rcases hq with x | x
  ·exact hs (by rw [e'];exact x)
  ·omega)).trans (h.block k hk hs)⟩
theorem Gx.grown {S:Nat→Prop} {w w' w'':World} {row:Option Nat} (h:Gx S w w') (g:w'.grownBy w'' row) (hr:∀ k,row=some k→S k∨w.heap.size≤k):Gx S w w'' :=
 ⟨g.os.trans h.os,g.tape.trans h.tape,g.output.trans h.output,Nat.le_trans h.size g.size,fun k hk hs=>(g.block k (Nat.lt_of_lt_of_le hk h.size) (fun e=>by
  rcases hr k e.symm with x | x
  ·exact hs x
  ·omega)).trans (h.block k hk hs)⟩
theorem Gx.drew {S:Nat→Prop} {w w':World} (h:Gx S w w'):Gx S w w'.drew:=⟨h.os,h.tape,h.output,h.size,h.block⟩
theorem Gx.alloc {S:Nat→Prop} {w w':World} (h:Gx S w w') (c:Array Value) (t:TypeId):Gx S w (w'.alloc (.cells c t)):=h.tw ((Gw.refl _).alloc _ _)
theorem blkc {W:World} {k o:Nat} {vs:Array Value} {t:TypeId} {v:Value} (h:W.heap[k]?=some (.cells vs t (0,0))) (hv:vs[o]?=some v):W.cell? ⟨k,o,none⟩=some v:=by simp [World.cell?,h,hv]
theorem blkf {W:World} {k o:Nat} {vs:Array Value} {t:TypeId} (h:W.heap[k]?=some (.cells vs t (0,0))):W.frozen? ⟨k,o,none⟩=false:=by simp [World.frozen?,h]
theorem blkl {W:World} {k:Nat} {o:Obj} (h:W.heap[k]?=some o):k<W.heap.size:=(Array.getElem?_eq_some_iff.1 h).1
section
variable {α:Type}
def Lst.v (s:Lst α):Value:=.slice (some ⟨s.b,s.off,none⟩) s.l.length s.c
def hd3 (h:Hd α):List Value:=[.int .u64 h.k, .int .i64 (h.i:Int),h.s.v]
def Hd.v (h:Hd α):Value:=.agg #[.int .u64 h.k, .int .i64 (h.i:Int), .slice (some ⟨h.s.b,h.s.off,none⟩) h.s.l.length h.s.c]
theorem hd3_one (h:Hd α):∀ u∈hd3 h,u.oneCell'=true:=by
 intro u hu
 simp only [hd3,List.mem_cons,List.not_mem_nil,or_false] at hu
 rcases hu with rfl | rfl | rfl<;>rfl
def HR (t:TypeId) (w:World) (base:Nat) (v:Value) (H:List (Hd α)):Prop:=w.ownsRow base t 3 v H.length (H.flatMap hd3)
theorem hr_keep {t:TypeId} {w w':World} {base:Nat} {v:Value} {H:List (Hd α)} (h:HR t w base v H) (k:∀ q,v.ownBlock=some q→w'.heap[q]?=w.heap[q]?):HR t w' base v H:=by
 refine ⟨h.1,?_⟩
 rcases h.2 with q | ⟨b,cap,cur,rfl,hb,hh,r⟩
 ·exact .inl q
 ·exact .inr ⟨b,cap,cur,rfl,hb,(k b rfl).trans hh,r⟩
theorem hr_lt {t:TypeId} {w:World} {base:Nat} {v:Value} {H:List (Hd α)} (h:HR t w base v H):∀ q,v.ownBlock=some q→base≤q∧q<w.heap.size:=World.ownsRow.lt h
theorem hr_gw {t:TypeId} {w w':World} {base:Nat} {v:Value} {H:List (Hd α)} (h:HR t w base v H) (g:Gw w w'):HR t w' base v H:=hr_keep h fun q hq=>g.below.block q (hr_lt h q hq).2
theorem hr_gx {t:TypeId} {w w':World} {base:Nat} {v:Value} {H:List (Hd α)} {S:Nat→Prop} (h:HR t w base v H) (g:Gx S w w') (no:∀ q,v.ownBlock=some q→¬ S q):HR t w' base v H:=hr_keep h fun q hq=>g.block q (hr_lt h q hq).2 (no q hq)
theorem flat_hd:∀ (l:List (Hd α)) (i:Nat),i<l.length→∀ j,j<3→(l.flatMap hd3)[i*3+j]?=(hd3 (gt l i))[j]?:=by
 intro l
 induction l with
 | nil=>intro i hi;simp at hi
 | cons s l ih =>
  intro i hi j hj
  rw [List.flatMap_cons]
  cases i with
  | zero =>
   rw [Nat.zero_mul,Nat.zero_add,List.getElem?_append_left (by show j<3;exact hj)]
   rfl
  | succ i =>
   have e:(i+1)*3+j=i*3+j+3:=by omega
   rw [e,List.getElem?_append_right (by show 3≤_;omega),show i*3+j+3-(hd3 s).length=i*3+j by show i*3+j+3-3=_;omega]
   exact ih i (by simpa using hi) j hj
theorem hr_form {t:TypeId} {w:World} {base:Nat} {v:Value} {H:List (Hd α)} (h:HR t w base v H) (h0:0<H.length):∃ b cap,v=.slice (some ⟨b,0,none⟩) H.length cap∧H.length≤cap∧base≤b∧b<w.heap.size:=by
 rcases h.2 with ⟨_,z⟩ | ⟨b,cap,cur,e,hb,hh,hc,_⟩
 ·omega
 ·exact ⟨b,cap,e,hc,hb,(Array.getElem?_eq_some_iff.1 hh).1⟩
theorem hr_cells {t:TypeId} {w:World} {base b n cap:Nat} {H:List (Hd α)} (h:HR t w base (.slice (some ⟨b,0,none⟩) n cap) H) (hn:H.length=n):(∀ i,w.frozen? ⟨b,i,none⟩=false)∧n≤cap∧b<w.heap.size∧∀ i,i<n→w.cell? ⟨b,i*3,none⟩=some (.int .u64 (gt H i).k)∧w.cell? ⟨b,i*3+1,none⟩=some (.int .i64 ((gt H i).i:Int))∧w.cell? ⟨b,i*3+2,none⟩=some (gt H i).s.v:=by
 subst hn
 rcases h.2 with ⟨z,_⟩ | ⟨g,cap',cur,e,hb,hh,r⟩
 ·cases z
 ·injection e with e1 e2 e3
  injection e1 with e1
  injection e1 with e1
  subst e1 e3
  have c':∀ i,i<H.length→∀ j,j<3→w.cell? ⟨b,i*3+j,none⟩=(hd3 (gt H i))[j]?:=fun i hi j hj=>by
   have:=World.ownsRow.cellAt h (i*3+j) (by omega)
   rw [this]
   exact flat_hd H i hi j hj
  exact ⟨fun i=>by simp [World.frozen?,hh],r.1,(Array.getElem?_eq_some_iff.1 hh).1,fun i hi=>⟨c' i hi 0 (by decide),c' i hi 1 (by decide),c' i hi 2 (by decide)⟩⟩
theorem flat_hset:∀ (l:List (Hd α)) (k:Nat) (s:Hd α),k<l.length→(((l.flatMap hd3).set (k*3) (.int .u64 s.k)).set (k*3+1) (.int .i64 (s.i:Int))).set (k*3+2) s.s.v=(l.set k s).flatMap hd3:=by
 intro l
 induction l with
 | nil=>intro k s hk;simp at hk
 | cons t l ih =>
  intro k s hk
  cases k with
  | zero=>simp [hd3]
  | succ k =>
   have:=ih k s (by simpa using hk)
   rw [List.set_cons_succ,List.flatMap_cons,List.flatMap_cons,←this]
   have e:∀ r,(k+1)*3+r=k*3+r+3:=fun r=>by omega
   have e0:(k+1)*3=k*3+3:=by omega
   rw [e 1,e 2,e0]
   simp [hd3]
def puth (w:World) (g o:Nat) (s:Hd α):World:=((w.setCell ⟨g,o,none⟩ (.int .u64 s.k)).setCell ⟨g,o+1,none⟩ (.int .i64 (s.i:Int))).setCell ⟨g,o+2,none⟩ s.s.v
theorem hr_put {t:TypeId} {w:World} {base g cap k n:Nat} {H:List (Hd α)} (h:HR t w base (.slice (some ⟨g,0,none⟩) n cap) H) (hn:H.length=n) (hk:k<n) (s:Hd α):HR t (puth w g (k*3) s) base (.slice (some ⟨g,0,none⟩) n cap) (H.set k s):=by
 subst hn
 have h':w.ownsRow base t 3 (.slice (some ⟨g,0,none⟩) H.length cap) H.length (H.flatMap hd3):=h
 have r:=(((h'.stored (k*3) (.int .u64 s.k)).1.stored (k*3+1) (.int .i64 (s.i:Int))).1.stored (k*3+2) s.s.v).1
 rw [flat_hset H k s hk] at r
 show World.ownsRow _ _ _ _ _ _ _
 rw [List.length_set]
 exact r
theorem puth_gx {w w':World} {S:Nat→Prop} {g:Nat} (h:Gx S w w') (hg:S g∨w.heap.size≤g) (o:Nat) (s:Hd α):Gx S w (puth w' g o s):=((h.set hg _ _).set hg _ _).set hg _ _
theorem hr_more {t:TypeId} {w:World} {base:Nat} {v:Value} {H:List (Hd α)} {x:Hd α} (h:w.ownsRow base t 3 v (H.length+1) (H.flatMap hd3++hd3 x)):HR t w base v (H++[x]):=by
 show World.ownsRow _ _ _ _ _ _ _
 rw [List.length_append,List.flatMap_append]
 simpa using h
theorem flat_htake:∀ (l:List (Hd α)) (k:Nat),(l.take k).flatMap hd3=(l.flatMap hd3).take (k*3)
 | [],k=>by simp
 | s::l,0=>by simp
 | s::l,k+1=>by
  rw [List.take_succ_cons,List.flatMap_cons,List.flatMap_cons,flat_htake l k,show (k+1)*3=(hd3 s).length+k*3 by show _=3+_;omega,List.take_length_add_append]
theorem hr_take {t:TypeId} {w:World} {base g cap n:Nat} {H:List (Hd α)} (h:HR t w base (.slice (some ⟨g,0,none⟩) n cap) H) (hn:H.length=n) (k:Nat) (hk:k≤n):HR t w base (.slice (some ⟨g,0,none⟩) k cap) (H.take k):=by
 subst hn
 have e:(H.take k).length=k:=by simp;omega
 show World.ownsRow _ _ _ _ _ _ _
 rw [e]
 rcases h.2 with ⟨z,_⟩ | ⟨b,cap',cur,e1,hb,hh,hc,hm,hs,ht⟩
 ·cases z
 ·injection e1 with q1 q2 q3
  injection q1 with q1
  injection q1 with q1
  subst q1 q3
  refine ⟨?_, .inr ⟨g,cap,cur,rfl,hb,hh,by omega,hm,hs,?_⟩⟩
  ·rw [flat_htake,←ht];simp;omega
  ·rw [flat_htake,←ht,List.take_take,Nat.min_eq_left (by omega)]
theorem hr_nil (t:TypeId) (w:World) (base:Nat):HR t w base (.slice none 0 0) ([]:List (Hd α)):=World.ownsRow_nil w base t 3
theorem new_hd (t:TypeId) (w:World) (h:Hd α):∀ j u,(hd3 h)[j]?=some u→(w.alloc (.cells #[.int .u64 h.k, .int .i64 (h.i:Int), .slice (some ⟨h.s.b,h.s.off,none⟩) h.s.l.length h.s.c] t)).cell? ((⟨w.heap.size,0,none⟩:Addr).add j)=some u:=by
 intro j u hu
 match j,hu with
 | 0,hu=>simp [hd3] at hu;subst hu;simp [Addr.add,go_sem]
 | 1,hu=>simp [hd3] at hu;subst hu;simp [Addr.add,go_sem]
 | 2,hu=>simp [hd3,Lst.v] at hu;subst hu;simp [Addr.add,go_sem]
 | j+3,hu=>simp [hd3] at hu
end
end Go.Proofs.YtjhaiiegdnamcabGreat
namespace Go.Proofs.YtjhaiiegdnamcabGreat
open Go.RowKit
set_option linter.unusedVariables false
theorem step_app {P:Program} (w:World) {ops:Array Oper} {o:Oper} {a:Act} {K:Act→World→Prop} {Q:Exit→Act→World→Prop} {E:Prop} (hgd:o.guard=none) (s x:Operand) (t:TypeId)
  (ho:o.op=.call { callee:=.builtin .append,args:=#[s,x],argTypes:=#[t,t] })
  (base:Nat) (e:TypeId) (i:TypeInfo) (z:Value) (size bytes:Nat) (ht:P.underlying t=some (.slice e)) (hi:P.info? e=some i) (hz:i.zero=some z)
  (hsize:i.size=size) (hby:i.bytes=bytes) (hzs:z.cells.size=size) (hsz:0<size)
  (v:Value) (n:Nat) (xs:List Value) (hs:a.eval s=v) (hown:w.ownsRow base e size v n xs)
  (ad:Addr) (m c:Nat) (news:List Value) (hx:a.eval x=.slice (some ad) m c) (hl:news.length=m*size) (hnews:∀ j u,news[j]?=some u→w.cell? (ad.add j)=some u) (h1:∀ u∈news,u.oneCell'=true)
  (h63:n+m≤maxLen) (hbytes:(n+m)*bytes≤140737488355328) (hbase:base≤w.heap.size)
  (h:∀ v' w',w'.ownsRow base e size v' (n+m) (xs++news)→w.grownBy w' v.ownBlock→(v'=.slice none 0 0↔v=.slice none 0 0∧m=0)→(v'.ownBlock=v.ownBlock∨v'.ownBlock=some w.heap.size)→K (a.put o.dst v') w') :
  if Region.wanted o (yielded ops a.tmps)=true then Oper.wp P o a w K Q else E:=by
 have hw:Region.wanted o (yielded ops a.tmps)=true:=by simp [Region.wanted,hgd]
 rw [if_pos hw]
 obtain ⟨v',w',hr,h2,h3,h4,h5⟩:=run_append_own_at (P:=P) w base t o.type e i z size bytes ht hi hz hsize hby hzs hsz v n xs hown ad m c news hl hnews h1 h63 hbytes hbase
 unfold Oper.wp execOp
 simp only [ho,resolve,invoke,builtin,Sem.run_bind,Sem.run_pure,Result.andThen_ok,List.map_toArray,List.map_cons,List.map_nil,hs,hx,hr]
 exact h v' w' h2 h3 h4 h5
structure FnK {α:Type} (enc:α→Value) (key:α→Int) (ok:α→Prop) (K:FuncId):Prop where
 enter:∀ (args:Array Value) (W:World),(callFunc K args).run Tryz.prog W=.ok (.enter K args) W
 tells:∀ (W:World) (x:α),ok x→Calls Tryz.prog K #[enc x] W fun e w'=>e=.returned (.int .u64 (key x))∧Gw W w'
def El1 {α:Type} (enc:α→Value) (w:World) (s:Lst α):Prop:=∀ i x,s.l[i]?=some x→w.cell? ⟨s.b,s.off+i,none⟩=some (enc x)
def encE (e:Ent):Value:=.agg #[.int .u64 e.k, .int .u64 e.v, .bool e.g]
def ElE (w:World) (s:Lst Ent):Prop:=∀ i x,s.l[i]?=some x→w.cell? ⟨s.b,s.off+i*3,none⟩=some (.int .u64 x.k)∧w.cell? ⟨s.b,s.off+i*3+1,none⟩=some (.int .u64 x.v)∧w.cell? ⟨s.b,s.off+i*3+2,none⟩=some (.bool x.g)
theorem El1.keep {α:Type} {enc:α→Value} {w w':World} {s:Lst α} (h:El1 enc w s) (k:w'.heap[s.b]?=w.heap[s.b]?):El1 enc w' s:=fun i x hx=>(World.cell?_of_block (a:=⟨s.b,s.off+i,none⟩) k).trans (h i x hx)
theorem ElE.keep {w w':World} {s:Lst Ent} (h:ElE w s) (k:w'.heap[s.b]?=w.heap[s.b]?):ElE w' s:=fun i x hx=>by
 have c:∀ o,w'.cell? ⟨s.b,o,none⟩=w.cell? ⟨s.b,o,none⟩:=fun o=>World.cell?_of_block (a:=⟨s.b,o,none⟩) k
 obtain ⟨h1,h2,h3⟩:=h i x hx
 exact ⟨(c _).trans h1,(c _).trans h2,(c _).trans h3⟩
theorem El1.adv {α:Type} {enc:α→Value} {w:World} {s:Lst α} (h:El1 enc w s):El1 enc w (adv 1 s):=fun i x hx=>by
 have e:s.l[i+1]?=some x:=by
  obtain ⟨b,off,c,l⟩:=s
  cases l with
  | nil=>simp [Go.Proofs.YtjhaiiegdnamcabGreat.adv] at hx
  | cons y t=>simpa [Go.Proofs.YtjhaiiegdnamcabGreat.adv] using hx
 have:=h (i+1) x e
 show w.cell? ⟨s.b,s.off+1+i,none⟩=_
 rw [show s.off+1+i=s.off+(i+1) by omega]
 exact this
theorem ElE.adv {w:World} {s:Lst Ent} (h:ElE w s):ElE w (adv 3 s):=fun i x hx=>by
 have e:s.l[i+1]?=some x:=by
  obtain ⟨b,off,c,l⟩:=s
  cases l with
  | nil=>simp [Go.Proofs.YtjhaiiegdnamcabGreat.adv] at hx
  | cons y t=>simpa [Go.Proofs.YtjhaiiegdnamcabGreat.adv] using hx
 have:=h (i+1) x e
 show w.cell? ⟨s.b,s.off+3+i*3,none⟩=_∧w.cell? ⟨s.b,s.off+3+i*3+1,none⟩=_∧w.cell? ⟨s.b,s.off+3+i*3+2,none⟩=_
 rw [show s.off+3+i*3=s.off+(i+1)*3 by omega]
 exact this
end Go.Proofs.YtjhaiiegdnamcabGreat
namespace Go.Proofs.YtjhaiiegdnamcabGreat
open Go.RowKit
set_option linter.unusedVariables false
theorem Hd.lt.trans {α:Type} {a b c:Hd α} (h:a.lt b) (k:b.lt c):a.lt c:=by simp only [Hd.lt] at *;omega
def BelowI {α:Type} (H:List (Hd α)) (a j f:Nat):Prop:=(f=a∨(a<f∧f<H.length∧(f-1)/2=a∧(gt H f).lt (gt H a)))∧∀ c,2*a+1≤c→c≤2*a+j→c<H.length→¬ (gt H c).lt (gt H f)
theorem BelowI.start {α:Type} (H:List (Hd α)) (a:Nat):BelowI H a 0 a:=⟨.inl rfl,fun c h1 h2 _=>by omega⟩
theorem BelowI.out {α:Type} {H:List (Hd α)} {a j f c:Nat} (h:BelowI H a j f) (hc:c=2*a+1+j) (no:¬ c<H.length):BelowI H a (j+1) f:=⟨h.1,fun d h1 h2 h3=>h.2 d h1 (by omega) h3⟩
theorem BelowI.stay {α:Type} {H:List (Hd α)} {a j f c:Nat} (h:BelowI H a j f) (hc:c=2*a+1+j) (no:¬ (gt H c).lt (gt H f)):BelowI H a (j+1) f:=⟨h.1,fun d h1 h2 h3=>by
 by_cases q:d=c
 ·rw [q];exact no
 ·exact h.2 d h1 (by omega) h3⟩
theorem BelowI.turn {α:Type} {H:List (Hd α)} {a j f c:Nat} (h:BelowI H a j f) (hj:j<2) (hc:c=2*a+1+j) (cl:c<H.length) (lt:(gt H c).lt (gt H f)):BelowI H a (j+1) c:=by
 refine ⟨.inr ⟨by omega,cl,by omega,?_⟩,fun d h1 h2 h3=>?_⟩
 ·rcases h.1 with q | ⟨_,_,_,q⟩
  ·rw [q] at lt;exact lt
  ·exact lt.trans q
 ·by_cases q:d=c
  ·rw [q];simp only [Hd.lt];omega
  ·exact Hd.nlt_lt (h.2 d h1 (by omega) h3) lt
theorem BelowI.done {α:Type} {H:List (Hd α)} {a f:Nat} (h:BelowI H a 2 f):BelowR H a f:=by
 rcases h.1 with rfl | ⟨q1,q2,q3,q4⟩
 ·exact .inl ⟨rfl,fun c c0 cl e=>h.2 c (by omega) (by omega) cl⟩
 ·exact .inr ⟨q1,q2,q3,q4,fun c c0 cl e=>h.2 c (by omega) (by omega) cl⟩
theorem BelowI.lt {α:Type} {H:List (Hd α)} {a j f c:Nat} (h:BelowI H a j f) (hc:c=2*a+1+j) (cl:c<H.length):f<H.length:=by
 rcases h.1 with q | ⟨_,q,_⟩
 ·omega
 ·exact q
structure Hpm {α:Type} (tp th:TypeId) (w:World) (hb base:Nat) (kf hv pv:Value) (H:List (Hd α)):Prop where
 blk:w.heap[hb]?=some (.cells #[kf,hv,pv] tp (0,0))
 row:HR th w base hv H
 ne:∀ q,hv.ownBlock=some q→q≠hb
theorem puth_blk {α:Type} {W:World} {q g o:Nat} {s:Hd α} (h:q≠g):(puth W g o s).heap[q]?=W.heap[q]?:=by
 unfold puth
 rw [Go.Deep.blk_setCell_other _ _ _ _ h,Go.Deep.blk_setCell_other _ _ _ _ h,Go.Deep.blk_setCell_other _ _ _ _ h]
theorem hr_swp {α:Type} {t:TypeId} {w:World} {base g cap n i j:Nat} {H:List (Hd α)} (h:HR t w base (.slice (some ⟨g,0,none⟩) n cap) H) (hn:H.length=n) (hi:i<n) (hj:j<n):HR t (puth (puth w g (i*3) (gt H j)) g (j*3) (gt H i)) base (.slice (some ⟨g,0,none⟩) n cap) (swp H i j) :=
 hr_put (hr_put h hn hi (gt H j)) (by simpa using hn) hj (gt H i)
theorem swp_facts {α:Type} {t:TypeId} {w:World} {base g cap n i j:Nat} {H:List (Hd α)} (h:HR t w base (.slice (some ⟨g,0,none⟩) n cap) H) (hn:H.length=n) (hi:i<n) (hj:j<n) (ne:j≠i) {x y:Hd α} (hx:gt H i=x) (hy:gt H j=y) :
  ∃ W1 W2,puth w g (i*3) y=W1∧puth W1 g (j*3) x=W2∧HR t W2 base (.slice (some ⟨g,0,none⟩) n cap) (swp H i j)∧(∀ q,q≠g→W1.heap[q]?=w.heap[q]?)∧(∀ o,W1.frozen? ⟨g,o,none⟩=false)∧(W1.cell? ⟨g,j*3,none⟩=some (.int .u64 y.k)∧W1.cell? ⟨g,j*3+1,none⟩=some (.int .i64 (y.i:Int))∧W1.cell? ⟨g,j*3+2,none⟩=some y.s.v)∧Gx (fun q=>q=g) w W2:=by
 have h1:=hr_put h hn hi (gt H j)
 have c:=hr_cells h1 (by simpa using hn)
 have s:=hr_swp h hn hi hj
 rw [hy] at h1 c
 rw [hx,hy] at s
 refine ⟨_,_,rfl,rfl,s,fun q hq=>puth_blk hq,c.1,?_,puth_gx (puth_gx (Gx.refl (fun q=>q=g) _) (.inl rfl) _ _) (.inl rfl) _ _⟩
 have:=c.2.2.2 j hj
 rw [gt_set _ _ _ (by omega),if_neg ne,hy] at this
 exact this
theorem blk_set {w:World} {b o:Nat} {vs:Array Value} {t:TypeId} (h:w.heap[b]?=some (.cells vs t (0,0))) (u:Value):(w.setCell ⟨b,o,none⟩ u).heap[b]?=some (.cells (vs.setIfInBounds o u) t (0,0)):=by simp [World.setCell,Array.getElem?_modify,h]
theorem cut_facts {α:Type} {t tp:TypeId} {w:World} {base g cap n m hb:Nat} {kf pv:Value} {H:List (Hd α)} (h:HR t w base (.slice (some ⟨g,0,none⟩) n cap) H) (hn:H.length=n) (h1:1≤n) (hm:m=n-1) (gne:g≠hb) (hb0:w.heap[hb]?=some (.cells #[kf, .slice (some ⟨g,0,none⟩) n cap,pv] tp (0,0))) {y:Hd α} (hy:gt H m=y) :
  ∃ W1 W2,puth w g 0 y=W1∧W1.setCell ⟨hb,1,none⟩ (.slice (some ⟨g,0,none⟩) m cap)=W2∧W1.cell? ⟨hb,1,none⟩=some (.slice (some ⟨g,0,none⟩) n cap)∧W1.frozen? ⟨hb,1,none⟩=false∧Hpm tp t W2 hb base kf (.slice (some ⟨g,0,none⟩) m cap) pv (cutL H)∧Gx (fun q=>q=hb∨q=g) w W2:=by
 have k1:=hr_put (k:=0) h hn (by omega) (gt H m)
 rw [Nat.zero_mul,hy] at k1
 have b1:(puth w g 0 y).heap[hb]?=some (.cells #[kf, .slice (some ⟨g,0,none⟩) n cap,pv] tp (0,0)):=(puth_blk (fun e=>gne e.symm)).trans hb0
 have k2:=hr_take k1 (by simpa using hn) m (by omega)
 have e:cutL H=(H.set 0 y).take m:=by unfold cutL;rw [hn,←hm,hy]
 refine ⟨_,_,rfl,rfl,blkc b1 rfl,blkf b1,⟨?_,?_,fun q hq=>?_⟩,?_⟩
 ·exact blk_set b1 _
 ·rw [e]
  exact hr_keep k2 fun q hq=>Go.Deep.blk_setCell_other _ _ _ _ (by cases hq;exact gne)
 ·cases hq;exact gne
 ·exact (puth_gx (Gx.refl _ _) (.inl (Or.inr rfl)) _ _).set (.inl (Or.inl rfl)) _ _
theorem hr_len {α:Type} {t:TypeId} {w:World} {base:Nat} {v:Value} {H:List (Hd α)} (h:HR t w base v H):v=.slice none 0 0∧H.length=0∨∃ g cap,v=.slice (some ⟨g,0,none⟩) H.length cap∧H.length≤cap:=by
 rcases h.2 with q | ⟨g,cap,cur,e,_,_,hc,_⟩
 ·exact .inl q
 ·exact .inr ⟨g,cap,e,hc⟩
structure Hst {α:Type} (tp th:TypeId) (w:World) (hb:Nat) (kf hv pv:Value) (H P:List (Hd α)):Prop where
 hp:Hpm tp th w hb (hb+1) kf hv pv H
 pr:HR th w (hb+1) pv P
 ap:∀ q,hv.ownBlock=some q→pv.ownBlock=some q→False
theorem Hst.pne {α:Type} {tp th:TypeId} {w:World} {hb:Nat} {kf hv pv:Value} {H P:List (Hd α)} (h:Hst tp th w hb kf hv pv H P):∀ q,pv.ownBlock=some q→q≠hb:=fun q hq=>by have:=(hr_lt h.pr q hq).1;omega
def hpS (hb:Nat) (hv pv:Value) (q:Nat):Prop:=q=hb∨hv.ownBlock=some q∨pv.ownBlock=some q
theorem Hst.keep {α:Type} {tp th:TypeId} {w w':World} {hb:Nat} {kf hv pv:Value} {H P:List (Hd α)} (h:Hst tp th w hb kf hv pv H P) (k:∀ q,hpS hb hv pv q→w'.heap[q]?=w.heap[q]?):Hst tp th w' hb kf hv pv H P :=
 ⟨⟨(k hb (.inl rfl)).trans h.hp.blk,hr_keep h.hp.row fun q hq=>k q (.inr (.inl hq)),h.hp.ne⟩,hr_keep h.pr fun q hq=>k q (.inr (.inr hq)),h.ap⟩
theorem Hst.lt {α:Type} {tp th:TypeId} {w:World} {hb:Nat} {kf hv pv:Value} {H P:List (Hd α)} (h:Hst tp th w hb kf hv pv H P) {q:Nat} (hq:hpS hb hv pv q):hb≤q∧q<w.heap.size:=by
 rcases hq with e | e | e
 ·subst e;exact ⟨Nat.le_refl _,blkl h.hp.blk⟩
 ·have:=hr_lt h.hp.row q e;exact ⟨by omega,this.2⟩
 ·have:=hr_lt h.pr q e;exact ⟨by omega,this.2⟩
end Go.Proofs.YtjhaiiegdnamcabGreat
namespace Go.Proofs.YtjhaiiegdnamcabGreat
open Go.RowKit
set_option linter.unusedVariables false
structure HB (t:TypeId) (w:World) (p:Nat) (S:Nat→Prop) (most:Int) (l:List Ent):Prop where
 lies:∃ v,w.heap[p]?=some (.cells #[.int .i64 most,v] t (0,0))∧EO w 0 v l∧(∀ q,v.ownBlock=some q→q≠p)∧∀ q,S q↔q=p∨v.ownBlock=some q
 rise:Rise Ent.k l
 ok:∀ e∈l,e.ok
 room:(l.length:Int)≤most
section
variable {t:TypeId} {w w':World} {p:Nat} {S:Nat→Prop} {most:Int} {l:List Ent}
theorem HB.lt (h:HB t w p S most l):∀ q,S q→q<w.heap.size:=by
 obtain ⟨v,h1,h2,h3,h4⟩:=h.lies
 intro q hq
 rcases (h4 q).1 hq with rfl | e
 ·exact blkl h1
 ·exact (World.ownsRow.lt h2 q e).2
theorem HB.own (h:HB t w p S most l):S p:=by
 obtain ⟨v,h1,h2,h3,h4⟩:=h.lies
 exact (h4 p).2 (.inl rfl)
theorem HB.keep (h:HB t w p S most l) (k:∀ q,S q→w'.heap[q]?=w.heap[q]?):HB t w' p S most l:=by
 obtain ⟨v,h1,h2,h3,h4⟩:=h.lies
 exact ⟨⟨v,(k p h.own).trans h1,eo_keep h2 (fun q hq=>k q ((h4 q).2 (.inr hq))),h3,h4⟩,h.rise,h.ok,h.room⟩
theorem HB.gw (h:HB t w p S most l) (g:Gw w w'):HB t w' p S most l:=h.keep fun q hq=>g.below.block q (h.lt q hq)
theorem HB.gx {T:Nat→Prop} (h:HB t w p S most l) (g:Gx T w w') (d:∀ q,S q→¬ T q):HB t w' p S most l:=h.keep fun q hq=>g.block q (h.lt q hq) (d q hq)
theorem HB.new (t:TypeId) (w:World) (most:Int) (h:0≤most):HB t (w.alloc (.cells #[.int .i64 most, .slice none 0 0] t)) w.heap.size (fun q=>q=w.heap.size) most [] :=
 ⟨⟨.slice none 0 0,heap_alloc_new w _,World.ownsRow_nil _ _ _ _,(fun q e=>by cases e),fun q=>⟨fun e=>.inl e,fun e=>e.elim id (fun x=>by cases x)⟩⟩,List.Pairwise.nil,(fun e he=>by cases he),by simpa using h⟩
end
theorem eo_shape {w:World} {base:Nat} {v:Value} {l:List Ent} (h:EO w base v l):∃ bo c,v=.slice bo l.length c∧l.length≤c∧(bo=none→l.length=0∧c=0):=by
 rcases h.2 with ⟨e,z⟩ | ⟨b,cap,cur,e,hb,hh,hc,_⟩
 ·exact ⟨none,0,by rw [e,z],by omega,fun _=>⟨z,rfl⟩⟩
 ·exact ⟨_,cap,e,hc,fun x=>by cases x⟩
def putR (most:Int) (l:List Ent) (e:Ent):Int×List Ent:=if e.g=true∧e.v≠0 then (31,l) else if look Ent.k e.k l=none∧(l.length:Int)=most then (140,l) else (0,ins Ent.k e l)
def PutOut (t:TypeId) (w w':World) (p:Nat) (S:Nat→Prop) (most:Int) (l:List Ent):Prop:=∃ S',HB t w' p S' most l∧Gx S w w'∧∀ q,S' q→S q∨w.heap.size≤q
theorem PutOut.same {t:TypeId} {w w':World} {p:Nat} {S:Nat→Prop} {most:Int} {l:List Ent} (h:HB t w p S most l) (g:Gw w w'):PutOut t w w' p S most l:=⟨S,h.gw g,g.gx S,fun q hq=>.inl hq⟩
def entV14 (e:Ent):Value:=.agg #[.int .u64 e.k, .int .u64 e.v, .bool e.g]
def getV14 (o:Option Ent):Value:=.tuple #[entV14 (o.getD ent0), .bool o.isSome]
theorem flat_take:∀ (l:List Ent) (k:Nat),(l.take k).flatMap ent3=(l.flatMap ent3).take (k*3)
 | [],k=>by simp
 | s::l,0=>by simp
 | s::l,k+1=>by
  rw [List.take_succ_cons,List.flatMap_cons,List.flatMap_cons,flat_take l k,show (k+1)*3=(ent3 s).length+k*3 by show _=3+_;omega,List.take_length_add_append]
theorem flat_drop:∀ (l:List Ent) (k:Nat),(l.drop k).flatMap ent3=(l.flatMap ent3).drop (k*3)
 | [],k=>by simp
 | s::l,0=>by simp
 | s::l,k+1=>by
  rw [List.drop_succ_cons,List.flatMap_cons,flat_drop l k,show (k+1)*3=(ent3 s).length+k*3 by show _=3+_;omega,List.drop_length_add_append]
theorem run_copy_ent (w:World) (ty:TypeId) (g o dLen dCap:Nat) (a:Addr) (sLen sCap:Nat) (cur:Array Value) (t:TypeId) (cs:List Value)
  (hg:w.heap[g]?=some (.cells cur t (0,0))) (hn:cs.length=Nat.min sLen dLen*3)
  (hsrc:∀ j v,cs[j]?=some v→w.cell? (a.add j)=some v) (hfit:o+cs.length≤cur.size) (h1:∀ v∈cs,v.oneCell'=true) :
  (Builtin.copy_ #[36,36] ty #[.slice (some ⟨g,o,none⟩) dLen dCap, .slice (some a) sLen sCap]).run Tryz.prog w =
   .ok (goInt (Nat.min sLen dLen)) (w.setRow g (cur.toList.take o++cs++cur.toList.drop (o+cs.length)).toArray):=by
 have hl:=run_loadCells_list (P:=Tryz.prog) w a cs hsrc
 have hst:=run_storeCells_at Tryz.prog g o t cs 0 cur w hg (by simpa using hfit) h1
 obtain ⟨i,hi,_,hs,_⟩:=info_parts info_e
 rw [hn] at hl
 simp [Builtin.copy_,run_underlying Tryz.underlying36,Builtin.lenOf,Builtin.firstCells,sizeOf,typeInfo,hi,hs,hl,hst]
def further (L:List Ent) (n k:Nat):List Ent:=L.take (k+1)++(L.drop k).take (n-k)
theorem further_len {L:List Ent} {n k:Nat} (h:L.length=n+1) (hk:k≤n):(further L n k).length=n+1:=by
 unfold further
 rw [List.length_append,List.length_take,List.length_take,List.length_drop]
 omega
theorem further_set {l:List Ent} {e0 e:Ent} {k:Nat} (hk:k≤l.length):(further (l++[e0]) l.length k).set k e=l.take k++e::l.drop k:=by
 unfold further
 rw [List.set_append_left _ _ (by simp;omega)]
 have a:((l++[e0]).take (k+1)).set k e=l.take k++[e]:=by
  by_cases q:k<l.length
  ·rw [List.take_append_of_le_length (by omega),List.set_eq_take_append_cons_drop,if_pos (by simp;omega),List.take_take,Nat.min_eq_left (by omega),List.drop_eq_nil_of_le (by simp;omega)]
  ·have e:k=l.length:=by omega
   subst e
   rw [List.take_of_length_le (by simp)]
   simp
 rw [a,List.append_assoc,List.singleton_append]
 congr 2
 rw [List.drop_append_of_le_length hk,List.take_append_of_le_length (by simp)]
 rw [List.take_of_length_le (by simp)]
theorem step_copy_e {ops:Array Oper} {o:Oper} {a:Act} {w:World} {K:Act→World→Prop} {Q:Exit→Act→World→Prop} {E:Prop} (hgd:o.guard=none) (d s:Operand)
  (ho:o.op=.call { callee:=.builtin .copy,args:=#[d,s],argTypes:=#[36,36] })
  (b cap n k:Nat) (L:List Ent) (hown:EO w 0 (.slice (some ⟨b,0,none⟩) (n+1) cap) L) (hL:L.length=n+1) (hk:k≤n)
  (dp:Option Addr) (dL dC:Nat) (so sL sC:Nat) (hd:a.eval d=.slice dp dL dC) (hs:a.eval s=.slice (some ⟨b,so,none⟩) sL sC) (hdL:dL=n-k) (hsL:sL=n+1-k) (hso:so=k*3) (hdp:k<n→dp=some ⟨b,(k+1)*3,none⟩)
  (h:∀ w',EO w' 0 (.slice (some ⟨b,0,none⟩) (n+1) cap) (further L n k)→Gx (fun q=>q=b) w w'→K (a.put o.dst (goInt (n-k:Nat))) w') :
  if Region.wanted o (yielded ops a.tmps)=true then Oper.wp Tryz.prog o a w K Q else E:=by
 have hw:Region.wanted o (yielded ops a.tmps)=true:=by simp [Region.wanted,hgd]
 rw [if_pos hw]
 subst hdL hsL hso
 have hmin:Nat.min (n+1-k) (n-k)=n-k:=Nat.min_eq_right (by omega)
 rcases hown.2 with ⟨z,_⟩ | ⟨b',cap',cur,e,hb,hh,hc,hm,hz,ht⟩
 ·cases z
 injection e with e1 e2 e3
 injection e1 with e1
 injection e1 with e1
 subst e1 e3
 rw [hL] at hc ht
 have hown':w.ownsRow 0 65 3 (.slice (some ⟨b,0,none⟩) (n+1) cap) (n+1) (L.flatMap ent3):=by
  have:=hown
  unfold EO at this
  rw [hL] at this
  exact this
 by_cases kn:k<n
 ·have:=hdp kn
  subst this
  have cl:((L.drop k).take (n-k)).length=n-k:=by simp;omega
  have fl:=flat_len13 ((L.drop k).take (n-k))
  rw [cl] at fl
  have hrun:=run_copy_ent w o.type b ((k+1)*3) (n-k) dC ⟨b,k*3,none⟩ (n+1-k) sC cur _ (((L.drop k).take (n-k)).flatMap ent3) hh (by rw [fl,hmin]) (fun j v hj=>by
    have hj':j<(n-k)*3:=by
     have:=(List.getElem?_eq_some_iff.1 hj).1
     rwa [fl] at this
    rw [flat_take,flat_drop,List.getElem?_take_of_lt hj',List.getElem?_drop] at hj
    have:=World.ownsRow.cellAt hown' (k*3+j) (by omega)
    rw [Addr.add_lit]
    exact this.trans hj) (by rw [fl,hz];have:n+1≤cap:=hc;omega) (flat_ones _)
  rw [hmin] at hrun
  unfold Oper.wp
  simp only [execOp,ho,resolve,invoke,builtin,Sem.run_bind,Sem.run_pure,Result.andThen_ok,List.map_toArray,List.map_cons,List.map_nil,hd,hs,hrun]
  refine h _ ⟨?_, .inr ⟨b,cap,_,?_,hb,setRow_heap w b cur _ _ _ hh,?_,hm,?_,?_⟩⟩ ⟨rfl,rfl,rfl,by simp [World.setRow],fun q hq hn=>setRow_other w b q _ hn⟩
  ·rw [flat_len13]
  ·rw [further_len hL hk]
  ·rw [further_len hL hk];exact hc
  ·have:n+1≤cap:=hc
   rw [List.size_toArray,List.length_append,List.length_append,fl,List.length_take,List.length_drop,Array.length_toList,hz]
   omega
  ·rw [further_len hL hk]
   unfold further
   rw [List.flatMap_append,flat_take L,←ht]
   have z1:(cur.toList.take ((k+1)*3)).length=(k+1)*3:=by have:n+1≤cap:=hc;simp [hz];omega
   have z2:∀ X Y Z:List Value,X.length+Y.length=(n+1)*3→((X++Y++Z).toArray.toList).take ((n+1)*3)=X++Y:=fun X Y Z e=>List.take_left' (by rw [List.length_append];exact e)
   rw [z2 _ _ _ (by rw [z1,fl];omega),List.take_take,Nat.min_eq_left (by omega)]
 ·have kn':k=n:=by omega
  subst kn'
  have hrun:(Builtin.copy_ #[36,36] o.type #[.slice dp (k-k) dC, .slice (some ⟨b,k*3,none⟩) (k+1-k) sC]).run Tryz.prog w=.ok (.int .i64 0) w:=by
   obtain ⟨i,hi,_,hs',_⟩:=info_parts info_e
   have hl:∀ (x:Addr),(loadCells x 0).run Tryz.prog w=.ok #[] w:=fun x=>by simpa using run_loadCells_list (P:=Tryz.prog) w x [] (by simp)
   cases dp<;>simp [Builtin.copy_,run_underlying Tryz.underlying36,Builtin.lenOf,Builtin.firstCells,sizeOf,typeInfo,hi,storeCells,hl,goInt]
  unfold Oper.wp
  simp only [execOp,ho,resolve,invoke,builtin,Sem.run_bind,Sem.run_pure,Result.andThen_ok,List.map_toArray,List.map_cons,List.map_nil,hd,hs,hrun]
  have fe:further L k k=L:=by unfold further;rw [Nat.sub_self,List.take_zero,List.append_nil,List.take_of_length_le (by omega)]
  have:=h w (by rw [fe];exact hown) (Gx.refl _ w)
  simp [goInt] at this
  exact this
end Go.Proofs.YtjhaiiegdnamcabGreat
