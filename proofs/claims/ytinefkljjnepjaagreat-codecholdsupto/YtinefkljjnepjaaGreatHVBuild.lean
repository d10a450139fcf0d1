/- The document's Build of layer 8. -/
import Derived.Deep.DeepCutAuto
import Derived.Deep.RegionHeld3
import Derived.Maps.AppendAt
import Derived.Test.YtinefkljjnepjaaGreatHPVo
import Derived.Test.YtinefkljjnepjaaGreatHEBase
namespace Go.Proofs.YtinefkljjnepjaaGreat
open Go.RowKit
set_option linter.unusedVariables false
attribute [local go_sem] run_store_float
def VI (w:World) (base ob:Nat) (vals:List Value) (L:List (List Sg)):Prop :=
 vals.length=L.length∧∀ i,i<L.length→∃ g cap,vals[i]?=some (.slice (some ⟨g,0,none⟩) (L.getD i []).length cap)∧(L.getD i []).length≤cap∧g≠ob∧(base≤g∧g<w.heap.size)∧GS w (some ⟨g,0,none⟩) (L.getD i [])
theorem VI.gw {w w':World} {base ob:Nat} {vals:List Value} {L:List (List Sg)} (h:VI w base ob vals L) (g:Gw w w'):VI w' base ob vals L :=
 ⟨h.1,fun i hi=>by
  obtain ⟨a,cap,h1,h2,h3,h4,h5⟩:=h.2 i hi
  exact ⟨a,cap,h1,h2,h3,⟨h4.1,Nat.lt_of_lt_of_le h4.2 g.size⟩,h5.gw g⟩⟩
theorem gs_blocks {w w':World} {g:Nat} {l:List Sg} (h:GS w (some ⟨g,0,none⟩) l) (hb:w'.heap[g]?=w.heap[g]?) (hs:w.heap.size≤w'.heap.size):GS w' (some ⟨g,0,none⟩) l :=
 ⟨fun h0=>by
  obtain ⟨b,off,e,hl,hc⟩:=h.cells h0
  cases e
  have cc:∀ o,w'.cell? ⟨g,o,none⟩=w.cell? ⟨g,o,none⟩:=fun o=>by unfold World.cell?;rw [hb]
  exact ⟨g,0,rfl,by omega,fun i hi=>⟨(cc _).trans (hc i hi).c0,(cc _).trans (hc i hi).c1,(cc _).trans (hc i hi).c2,(cc _).trans (hc i hi).c3,(cc _).trans (hc i hi).c4⟩⟩,h.ok⟩
theorem VI.more {w w':World} {o:Obj} {base ob ob':Nat} {vals:List Value} {L:List (List Sg)} {l:List Sg} {g cap:Nat} (h:VI w base ob vals L) (r:(w.alloc o).grownBy w' (some ob)) (ho:ob'=ob∨w.heap.size≤ob') (gl:GS w (some ⟨g,0,none⟩) l) (gc:l.length≤cap) (gn:g≠ob) (gb:base≤g) (gw:g<w.heap.size):VI w' base ob' (vals++[.slice (some ⟨g,0,none⟩) l.length cap]) (L++[l]):=by
 have keep:∀ q,q<w.heap.size→q≠ob→w'.heap[q]?=w.heap[q]?:=fun q hq hn=>(r.block q (by simp;omega) (by simpa using hn)).trans (heap_alloc_old w o hq)
 have sz:w.heap.size≤w'.heap.size:=by have:=r.size;simp at this;omega
 refine ⟨by simp [h.1],fun i hi=>?_⟩
 by_cases e:i<L.length
 ·obtain ⟨a,c,h1,h2,h3,h4,h5⟩:=h.2 i e
  have gd:(L++[l]).getD i []=L.getD i []:=by simp [List.getD,List.getElem?_append_left e]
  rw [gd]
  exact ⟨a,c,by rw [List.getElem?_append_left (by rw [h.1];exact e)];exact h1,h2,by omega,⟨h4.1,by omega⟩,gs_blocks h5 (keep a h4.2 h3) sz⟩
 ·have ei:i=L.length:=by simp at hi;omega
  have gd:(L++[l]).getD i []=l:=by subst ei;simp [List.getD]
  rw [gd]
  exact ⟨g,cap,by rw [List.getElem?_append_right (by rw [h.1];omega),h.1,ei];simp,gc,by omega,⟨gb,by omega⟩,gs_blocks gl (keep g gw gn) sz⟩
theorem new_val (w:World) (v:Value) (t:TypeId):∀ j u,[v][j]?=some u→(w.alloc (.cells #[v] t)).cell? ((⟨w.heap.size,0,none⟩:Addr).add j)=some u:=by
 intro j u hu
 have h:=heap_alloc_new w (.cells #[v] t)
 rw [Addr.add_lit,Nat.zero_add]
 simp only [World.cell?,h]
 simpa using hu
theorem seg_ok {eps fr:Int} {h:Nat→Int} {N:Nat} {k:Int} {s ic:Nat} {F T er:Int} (S:SegR eps fr h N k s ic F T er) (e:2≤eps∧eps≤64) (n0:0<N) (u:Up h N) (ft:FitsOn (eps-1) h (Prs N)) (f0:0≤fr) (f1:fr+N≤4294967296):er=0:=by
 have z:∀ {a b c x:Int},OfR eps h N a b c x→x=0:=fun o=>by
  rcases o with ⟨q,_⟩ | ⟨_,q,_⟩ | ⟨_,_,q,_⟩ | ⟨_,_,_,_,_,q⟩
  ·exact absurd q (by omega)
  ·exact absurd ⟨n0,u⟩ q
  ·exact absurd ft q
  ·exact q
 rcases S with ⟨a,b,c,o,ne,_⟩ | ⟨a,b,c,o,nb,_⟩ | ⟨a,b,c,o,_,_,_,_,_,_,_,q⟩
 ·exact absurd (z o) ne
 ·exact absurd ⟨f0,f1⟩ nb
 ·exact q
end Go.Proofs.YtinefkljjnepjaaGreat
