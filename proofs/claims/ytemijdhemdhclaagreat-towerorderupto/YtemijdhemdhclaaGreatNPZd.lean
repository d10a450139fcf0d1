/- What is descended, in one structure. -/
import Derived.Lib.MinMax
import Derived.StillTailTactics
import Derived.Test.YtemijdhemdhclaaGreatNPZa
set_option linter.unusedVariables false
open Go.Proofs.Tryz
namespace Go.Proofs.YtemijdhemdhclaaGreat
open Go.RowKit
theorem gs_gwd {S:Nat->Prop} {W w w':World} (h:Gw W w) (g:Gs S w w') (hS:∀ q,S q->W.heap.size<=q):Gw W w' :=
 ⟨⟨g.os.trans h.below.os,g.tape.trans h.below.tape,g.output.trans h.below.output,Nat.le_trans h.below.size g.size,fun q hq=>(g.block q (Nat.lt_of_lt_of_le hq h.below.size) (fun s=>by have:=hS q s;omega)).trans (h.below.block q hq)⟩⟩
structure DSC (fE fH fK fS:Nat) (v:Value) (w0:World) (HS:World->(Nat->Prop)->List (Int×Int)->List (Int×Int)->Prop) (eps:Int) (f:Nat->Int) (n:Nat) (L:List (List Sg)):Prop where
 gw:∀ {w:World} {S:Nat->Prop} {A B:List (Int×Int)},HS w S A B->Gw w0 w
 ge:∀ {w:World} {S:Nat->Prop} {A B:List (Int×Int)},HS w S A B->∀ q,S q->w0.heap.size<=q
 lt:∀ {w:World} {S:Nat->Prop} {A B:List (Int×Int)},HS w S A B->∀ q,S q->q<w.heap.size
 keep:∀ {w w':World} {S:Nat->Prop} {A B:List (Int×Int)},HS w S A B->Gw w0 w'->(∀ q,S q->w'.heap[q]?=w.heap[q]?)->HS w' S A B
 sok:∀ i,i<L.length->∀ j,j<(L.getD i []).length->((L.getD i []).getD j sg0).ok
 eps:∀ {w:World} {S:Nat->Prop} {A B:List (Int×Int)},HS w S A B->Calls prog fE #[v] w fun e w'=>e=.returned (.int .i64 eps)/\w'=w
 height:∀ {w:World} {S:Nat->Prop} {A B:List (Int×Int)},HS w S A B->Calls prog fH #[v] w fun e w'=>e=.returned (.int .i64 (L.length:Int))/\w'=w
 key:∀ {w:World} {S:Nat->Prop} {A B:List (Int×Int)},HS w S A B->A.length<=2000000000->∀ a sl:Nat,a<=L.length->sl<rowN n L a->Calls prog fK #[v,.int .i64 (a:Int),.int .i64 (sl:Int)] w fun e w'=>(∃ S',e=.returned (.int .u64 (rowF f L a sl))/\HS w' S' (A++[((a:Int),(sl:Int))]) B/\∀ q,S' q->S q\/w.heap.size<=q)/\Gs S w w'
 seg:∀ {w:World} {S:Nat->Prop} {A B:List (Int×Int)},HS w S A B->B.length<=2000000000->∀ a sl:Nat,a<L.length->sl<(L.getD a []).length->Calls prog fS #[v,.int .i64 ((a:Int)+1),.int .i64 (sl:Int)] w fun e w'=>(∃ S',e=.returned (sgV ((L.getD a []).getD sl sg0))/\HS w' S' A (B++[((a:Int)+1,(sl:Int))])/\∀ q,S' q->S q\/w.heap.size<=q)/\Gs S w w'
theorem DSC.step {fE fH fK fS:Nat} {v:Value} {w0:World} {HS:World->(Nat->Prop)->List (Int×Int)->List (Int×Int)->Prop} {eps:Int} {f:Nat->Int} {n:Nat} {L:List (List Sg)} (D:DSC fE fH fK fS v w0 HS eps f n L) {w w':World} {S T:Nat->Prop} {A B:List (Int×Int)} (h:HS w S A B) (g:Gs T w w') (hT:∀ q,T q->w0.heap.size<=q/\¬ S q):HS w' S A B :=
 D.keep h (gs_gwd (D.gw h) g fun q hq=>(hT q hq).1) fun q hq=>g.block q (D.lt h q hq) fun t=>(hT q t).2 hq
theorem DSC.grow {fE fH fK fS:Nat} {v:Value} {w0:World} {HS:World->(Nat->Prop)->List (Int×Int)->List (Int×Int)->Prop} {eps:Int} {f:Nat->Int} {n:Nat} {L:List (List Sg)} (D:DSC fE fH fK fS v w0 HS eps f n L) {w w':World} {S:Nat->Prop} {A B:List (Int×Int)} (h:HS w S A B) (g:Gw w w'):HS w' S A B :=
 D.keep h ((D.gw h).trans g) fun q hq=>g.below.block q (D.lt h q hq)
theorem gs_trans9 {S S':Nat->Prop} {w w1 w2:World} (h:Gs S w w1) (g:Gs S' w1 w2) (hS:∀ q,S' q->S q\/w.heap.size<=q):Gs S w w2 :=
 ⟨g.os.trans h.os,g.tape.trans h.tape,g.output.trans h.output,Nat.le_trans h.size g.size,fun q hq hn=>(g.block q (Nat.lt_of_lt_of_le hq h.size) (fun s=>by rcases hS q s with e | e;exact hn e;omega)).trans (h.block q hq hn)⟩
structure SeekR (i:Nat) (lo hi te:Nat) (A:List (Int×Int)):Prop where
 nd:A.Nodup
 mem:∀ a∈A,∃ t:Nat,a=((i:Int),(t:Int))/\lo<=t/\t<=hi/\t<te
 len:A.length<=hi-lo+1
structure TellC (K:Nat) (args:Value->Value->Array Value) (T:World->(Nat->Prop)->List Vis->Bool->Prop):Prop where
 lt:∀ {w:World} {X:Nat->Prop} {l:List Vis} {st:Bool},T w X l st->∀ q,X q->q<w.heap.size
 keep:∀ {w w':World} {X:Nat->Prop} {l:List Vis} {st:Bool},T w X l st->(∀ q,X q->w'.heap[q]?=w.heap[q]?)->T w' X l st
 call:∀ {w:World} {X:Nat->Prop} {l:List Vis} {st:Bool},T w X l st->l.length<=2000000->∀ (v:Vis) (s:Bool),Calls prog K (args (visV v) (.bool s)) w fun e w'=>e=.returned (.tuple #[])/\(∃ X',T w' X' (l++[v]) s/\∀ q,X' q->X q\/w.heap.size<=q)/\Gs X w w'
def standA (q:Int) (f:Nat->Int) (n:Nat) (L:List (List Sg)) (i:Nat):Bool:=decide (cntb (rowF f L i) q (rowN n L i)<rowN n L i/\rowF f L i (cntb (rowF f L i) q (rowN n L i))=q)
def pathTo (eps q:Int) (f:Nat->Int) (n:Nat) (L:List (List Sg)) (j:Nat):List Vis:=(List.range (L.length-j)).map fun k=>visAt eps q f n L (L.length-1-k)
def standTo (q:Int) (f:Nat->Int) (n:Nat) (L:List (List Sg)) (j:Nat):Bool:=if j=L.length then false else standA q f n L j
theorem pathTo_zero (eps q:Int) (f:Nat->Int) (n:Nat) (L:List (List Sg)):pathTo eps q f n L 0=pathL eps q f n L:=rfl
theorem pathTo_top (eps q:Int) (f:Nat->Int) (n:Nat) (L:List (List Sg)):pathTo eps q f n L L.length=[]:=by simp [pathTo]
theorem pathTo_next (eps q:Int) (f:Nat->Int) (n:Nat) (L:List (List Sg)) {i:Nat} (hi:i<L.length):pathTo eps q f n L i=pathTo eps q f n L (i+1)++[visAt eps q f n L i]:=by
 unfold pathTo;rw [show L.length-i=(L.length-(i+1))+1 by omega,List.range_succ,List.map_append,List.map_cons,List.map_nil,show L.length-1-(L.length-(i+1))=i by omega]
theorem pathTo_len (eps q:Int) (f:Nat->Int) (n:Nat) (L:List (List Sg)) (j:Nat):(pathTo eps q f n L j).length=L.length-j:=by simp [pathTo]
structure AskT (eps q:Int) (f:Nat->Int) (n:Nat) (L:List (List Sg)) (j:Nat) (A B:List (Int×Int)):Prop where
 an:A.Nodup
 ain:∀ a∈A,∃ i,j<=i/\i<L.length/\a.1=i/\(visAt eps q f n L i).lo<=a.2/\a.2<=(visAt eps q f n L i).hi/\a.2<(segA q L i).te
 al:A.length<=(L.length-j)*132
 bn:B.Nodup
 bl:B.length=L.length-j
 bin:∀ b∈B,∃ i,j<=i/\i<L.length/\b.1=(i:Int)+1/\b.2=slotA q L i
theorem AskT.none (eps q:Int) (f:Nat->Int) (n:Nat) (L:List (List Sg)):AskT eps q f n L L.length [] []:=⟨by simp,fun a h=>by simp at h,by simp,by simp,by simp,fun a h=>by simp at h⟩
theorem AskT.all {eps q:Int} {f:Nat->Int} {n:Nat} {L:List (List Sg)} {A B:List (Int×Int)} (h:AskT eps q f n L 0 A B):AskR eps q f n L A B :=
 ⟨h.an,fun a ha=>by obtain ⟨i,_,r⟩:=h.ain a ha;exact ⟨i,r⟩,h.bn,h.bl,fun b hb=>by obtain ⟨i,_,r⟩:=h.bin b hb;exact ⟨i,r⟩⟩
theorem AskT.next {eps q:Int} {f:Nat->Int} {n:Nat} {L:List (List Sg)} {i:Nat} {A B A':List (Int×Int)} (h:AskT eps q f n L (i+1) A B) (hi:i<L.length) {lo hi' te:Nat} (s:SeekR i lo hi' te A') (e1:(visAt eps q f n L i).lo=lo) (e2:(visAt eps q f n L i).hi=hi') (e3:(segA q L i).te=te) (w:hi'-lo<=131):AskT eps q f n L i (A++A') (B++[((i:Int)+1,((slotA q L i:Nat):Int))]):=by
 refine ⟨List.nodup_append.2 ⟨h.an,s.nd,fun a ha b hb e=>?_⟩,fun a ha=>?_,?_,List.nodup_append.2 ⟨h.bn,by simp,fun a ha b hb e=>?_⟩,?_,fun b hb=>?_⟩
 ·obtain ⟨k,k1,_,k2,_⟩:=h.ain a ha
  obtain ⟨t,t1,_⟩:=s.mem b hb;rw [e,t1] at k2;have:(i:Int)=(k:Int):=k2;omega
 ·rcases List.mem_append.1 ha with ha | ha
  ·obtain ⟨k,k1,r⟩:=h.ain a ha
   exact ⟨k,by omega,r⟩
  ·obtain ⟨t,t1,t2,t3,t4⟩:=s.mem a ha
   rw [t1];exact ⟨i,Nat.le_refl _,hi,rfl,by rw [e1];show (lo:Int)<=(t:Int);omega,by rw [e2];show (t:Int)<=(hi':Int);omega,by rw [e3];show (t:Int)<(te:Int);omega⟩
 ·have:=h.al
  have:=s.len
  rw [List.length_append,show L.length-i=(L.length-(i+1))+1 by omega]
  omega
 ·obtain ⟨k,k1,_,k2,_⟩:=h.bin a ha
  simp only [List.mem_cons,List.not_mem_nil,or_false] at hb;rw [e,hb] at k2;have:(i:Int)+1=(k:Int)+1:=k2;omega
 ·have:=h.bl
  rw [List.length_append,List.length_cons,List.length_nil];omega
 ·rcases List.mem_append.1 hb with hb | hb
  ·obtain ⟨k,k1,r⟩:=h.bin b hb
   exact ⟨k,by omega,r⟩
  ·simp only [List.mem_cons,List.not_mem_nil,or_false] at hb
   rw [hb];exact ⟨i,Nat.le_refl _,hi,rfl,rfl⟩
structure SeekI (i lo hi l h:Nat) (A:List (Int×Int)):Prop where
 nd:A.Nodup
 mem:∀ a∈A,∃ t:Nat,a=((i:Int),(t:Int))/\lo<=t/\t<hi/\(t<l\/h<=t)
theorem SeekI.add {i lo hi l h:Nat} {A:List (Int×Int)} (s:SeekI i lo hi l h A) {m l' h':Nat} (m1:l<=m) (m2:m<h) (m3:lo<=l) (m4:h<=hi) (c:(l'=m+1/\h'=h)\/(l'=l/\h'=m)):SeekI i lo hi l' h' (A++[((i:Int),(m:Int))]):=by
 refine ⟨List.nodup_append.2 ⟨s.nd,by simp,fun a ha b hb e=>?_⟩,fun a ha=>?_⟩
 ·obtain ⟨t,e1,_,_,e2⟩:=s.mem a ha
  simp only [List.mem_cons,List.not_mem_nil,or_false] at hb;rw [e1,hb] at e;have:=(Prod.mk.inj e).2;omega
 ·rcases List.mem_append.1 ha with ha | ha
  ·obtain ⟨t,e1,e2,e3,e4⟩:=s.mem a ha
   exact ⟨t,e1,e2,e3,by omega⟩
  ·simp only [List.mem_cons,List.not_mem_nil,or_false] at ha
   exact ⟨m,ha,by omega,by omega,by omega⟩
theorem SeekI.done {i lo hi te l h:Nat} {A:List (Int×Int)} (s:SeekI i lo hi l h A) (ht:hi<=te) (hl:A.length<=hi-lo+1):SeekR i lo hi te A :=
 ⟨s.nd,fun a ha=>by
  obtain ⟨t,e1,e2,e3,_⟩:=s.mem a ha;exact ⟨t,e1,e2,by omega,by omega⟩,hl⟩
theorem SeekI.last {i lo hi te l h:Nat} {A:List (Int×Int)} (s:SeekI i lo hi l h A) (hl:lo<=hi) (ht:hi<te) (ha:A.length<=hi-lo):SeekR i lo hi te (A++[((i:Int),(hi:Int))]):=by
 refine ⟨List.nodup_append.2 ⟨s.nd,by simp,fun a ha b hb e=>?_⟩,fun a ha=>?_,by simp;omega⟩
 ·obtain ⟨t,e1,_,e3,e2⟩:=s.mem a ha
  simp only [List.mem_cons,List.not_mem_nil,or_false] at hb;rw [e1,hb] at e;have:=(Prod.mk.inj e).2;omega
 ·rcases List.mem_append.1 ha with ha | ha
  ·obtain ⟨t,e1,e2,e3,e4⟩:=s.mem a ha
   exact ⟨t,e1,e2,by omega,by omega⟩
  ·simp only [List.mem_cons,List.not_mem_nil,or_false] at ha
   exact ⟨hi,ha,hl,Nat.le_refl _,ht⟩
theorem vis_cells {w:World} {b:Nat} {v:Vis} (h:w.heap[b]?=some (.cells #[.int .i64 v.lv,.int .i64 v.sl,.int .i64 v.gu,.int .i64 v.lo,.int .i64 v.hi,.int .i64 v.rk] 151 (0,0))):VisAt w b 0 v:=by
 refine ⟨?_,?_,?_,?_,?_,?_⟩<;>simp [World.cell?,h]
theorem next_any (r fr:Int) (st:Bool) (r0:0<=r) (r1:r<=4294967296) (w:World) :
  Calls prog 110 #[.int .i64 r,.int .i64 fr,.bool st] w fun e w'=>e=.returned (.int .i64 (if st then r else max (r-1) fr))/\w'=w:=by
 have wj:IntKind.i64.wrap (r-1)=r-1:=by rw [IntKind.wrap_i64];omega
 cases st with
 | true =>
  go_enter func110,ntmps110;go_wp2_with fail;go_ret;exact ⟨rfl,rfl⟩
 | false =>
  go_enter func110,ntmps110;go_wp2_with fail;go_ret;exact ⟨rfl,rfl⟩
end Go.Proofs.YtemijdhemdhclaaGreat
namespace Go.Proofs.YtemijdhemdhclaaGreat
open Go.RowKit
attribute [local go_sem] run_store_float
theorem cell_blk9 {w:World} {b o:Nat} {cs:Array Value} {t:TypeId} {v:Value} (h:w.heap[b]?=some (.cells cs t (0,0))) (hv:cs[o]?=some v):w.cell? ⟨b,o,none⟩=some v:=by simp [World.cell?,h,hv]
theorem fz_blk9 {w:World} {b o:Nat} {cs:Array Value} {t:TypeId} (h:w.heap[b]?=some (.cells cs t (0,0))):w.frozen? ⟨b,o,none⟩=false:=by simp [World.frozen?,h]
theorem set_blk9 {w:World} {b:Nat} {cs:Array Value} {t:TypeId} (h:w.heap[b]?=some (.cells cs t (0,0))) (o:Nat) (u:Value):(w.setCell ⟨b,o,none⟩ u).heap[b]?=some (.cells (cs.setIfInBounds o u) t (0,0)):=by simp [World.setCell,Array.getElem?_modify,h]
end Go.Proofs.YtemijdhemdhclaaGreat
