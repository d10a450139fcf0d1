/- Bytes made and copied; the statements' lent and kept of layer 10. -/
import Derived.Laws.IdiomCopy
import Derived.Test.YtpoohadckhphpaaGreatBORef
set_option linter.unusedVariables false
open Go.Proofs.Tryz
namespace Go.Proofs.YtpoohadckhphpaaGreat
open Go.RowKit
theorem made_b (m:Nat) (z:Int) (hz:z=(m:Int)) (hm:m<=281474976710656) (w:World) :
  (Instr.makeSlice 22 (.int .i64 z) (.int .i64 z)).run prog w=.ok (.slice (some ⟨w.heap.size,0,none⟩) m m) (w.alloc (.cells (madeCells #[.int .u8 0] m) 5)):=by
 obtain ⟨i,hi,hz',hs,hb⟩:=info_parts info_b;subst hz;exact run_make_row (P:=prog) 22 5 i (.int .u8 0) underlying22 hi hz' hs rfl .i64 .i64 m (by rw [hb];omega) (by omega) w
theorem copy_brun (ty:TypeId) (ao:Option Addr) (n c m cm:Nat) (k:Nat->Int) (w:World) (h:BS w ao n k) (hm:n<=m) (hcm:m<=cm) (b:Nat) (f:Nat->Value) (hr:w.rowIs b 5 cm f) :
  ∃ w',(Builtin.copy_ #[22,22] ty #[.slice (some ⟨b,0,none⟩) m cm,.slice ao n c]).run prog w=.ok (.int .i64 (n:Int)) w' /\
   w'.rowIs b 5 cm (fun j=>if j<n then .int .u8 (k j) else f j)/\∀ W,Gw W w->W.heap.size<=b->Gw W w':=by
 obtain ⟨i,hi,_,hs,_⟩:=info_parts info_b;by_cases h0:n=0
 ·subst h0
  refine ⟨w,?_,hr.congr fun j hj=>by simp,fun W hg _=>hg⟩
  have hl:∀ (x:Addr),(loadCells x 0).run prog w=.ok #[] w:=fun x=>by simpa using run_loadCells_list (P:=prog) w x [] (by simp)
  cases ao<;>simp [Builtin.copy_,run_underlying underlying22,Builtin.lenOf,Builtin.firstCells,sizeOf,typeInfo,hi,storeCells,hl,goInt]
 ·obtain ⟨b',off,rfl,hb',hc⟩:=h.cells (by omega)
  obtain ⟨cur,hcur,hsz,hcc⟩:=hr;have hlen:((List.range n).map (fun j=>Value.int .u8 (k j))).length=n:=by simp
  have hl:=run_loadCells_list (P:=prog) w ⟨b',off,none⟩ ((List.range n).map (fun j=>Value.int .u8 (k j))) (fun j u hu=>by
   have hj:j<n:=by
    have:=(List.getElem?_eq_some_iff.1 hu).1
    simpa using this
   rw [Addr.add_lit,hc j hj];simpa [hj] using hu)
  rw [hlen] at hl;have hst:=run_storeCells_at prog b 0 5 ((List.range n).map (fun j=>Value.int .u8 (k j))) 0 cur w hcur (by simp;omega) (fun u hu=>by
   obtain ⟨j,_,rfl⟩:=List.mem_map.1 hu;rfl)
  simp only [Nat.add_zero,List.take_zero,List.nil_append,hlen,Nat.zero_add] at hst;generalize hX:((List.range n).map (fun j=>Value.int .u8 (k j))++cur.toList.drop n).toArray=X at hst
  have hX':X.size=cm:=by rw [<-hX];simp;omega
  have hXc:∀ j,j<cm->X[j]?=some (if j<n then .int .u8 (k j) else f j):=by
   intro j hj;rw [<-hX,List.getElem?_toArray];by_cases hj':j<n
   ·rw [if_pos hj',List.getElem?_append_left (by rw [hlen];exact hj')]
    simp [hj']
   ·rw [if_neg hj',List.getElem?_append_right (by rw [hlen];omega),hlen,List.getElem?_drop,show n+(j-n)=j by omega]
    simpa using hcc j hj
  clear hX;refine ⟨_,?_,⟨X,setRow_heap w b cur X 5 (0,0) hcur,hX',hXc⟩,fun W hg hW=>⟨hg.below.trans ⟨rfl,rfl,rfl,by simp [World.setRow],fun q hq=>setRow_other w b q X (by omega)⟩⟩⟩
  have hmin:Nat.min n m=n:=Nat.min_eq_left hm;simp [Builtin.copy_,Builtin.lenOf,Builtin.firstCells,sizeOf,typeInfo,run_underlying underlying22,hi,hs,hmin,hl,goInt,hst]
theorem bs_of_row {w:World} {b m n:Nat} {f:Nat->Int} (h:w.rowIs b 5 m (fun i=>.int .u8 (f i))) (hn:n<=m) (bd:∀ i,i<n->0<=f i/\f i<256) :
  BS w (some ⟨b,0,none⟩) n f :=
 ⟨fun h0=>⟨b,0,rfl,h.lt,fun i hi=>by rw [Nat.zero_add,h.cell (by omega)]⟩,bd⟩
theorem BS.congr {w:World} {ao:Option Addr} {n:Nat} {f g:Nat->Int} (h:BS w ao n f) (e:∀ i,i<n->f i=g i):BS w ao n g :=
 ⟨fun hn=>by
  obtain ⟨b,off,x,hb,hc⟩:=h.cells hn;exact ⟨b,off,x,hb,fun i hi=>by rw [hc i hi,e i hi]⟩,fun i hi=>e i hi▸h.bd i hi⟩
end Go.Proofs.YtpoohadckhphpaaGreat
