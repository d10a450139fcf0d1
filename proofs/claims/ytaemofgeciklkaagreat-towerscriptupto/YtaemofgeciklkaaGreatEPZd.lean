import Derived.Lib.MinMax
import Derived.StillTailTactics
import Derived.Test.YtaemofgeciklkaaGreatEPZa
set_option linter.unusedVariables false
open Go.Proofs.Tryz
namespace Go.Proofs.YtaemofgeciklkaaGreat
open Go.RowKit
variable {S:Nat->Prop} {w w':World}
theorem afG {W:World} (h:Gw W w) (g:Gs S w w') (hS:∀ q,S q->W.heap.size<=q):Gw W w' :=
 ⟨⟨g.os.trans h.below.os,g.tape.trans h.below.tape,g.output.trans h.below.output,Φ h.below.size g.size,fun q hq=>(g.block q (Θ hq h.below.size) (fun s=>by have:=hS q s;omega)).trans (h.below.block q hq)⟩⟩
structure sw (fE fH fK fS:Nat) (v:Value) (w0:World) (HS:World->(Nat->Prop)->List (Int×Int)->List (Int×Int)->Prop) (eps:Int) (f:Nat->Int) (n:Nat) (L:List (List Sg)):Prop where
 gw:∀ {w:World} {S:Nat->Prop} {A B:List (Int×Int)},HS w S A B->Gw w0 w
 ge:∀ {w:World} {S:Nat->Prop} {A B:List (Int×Int)},HS w S A B->∀ q,S q->w0.heap.size<=q
 lt:∀ {w:World} {S:Nat->Prop} {A B:List (Int×Int)},HS w S A B->∀ q,S q->q<w.heap.size
 keep:∀ {w w':World} {S:Nat->Prop} {A B:List (Int×Int)},HS w S A B->Gw w0 w'->(∀ q,S q->w'.heap[q]?=w.heap[q]?)->HS w' S A B
 sok:∀ i,i<L.length->∀ j,j<(L.getD i []).length->((L.getD i []).getD j aF).ok
 eps:∀ {w:World} {S:Nat->Prop} {A B:List (Int×Int)},HS w S A B->Calls prog fE #[v] w fun e w'=>e=χ (By eps)/\w'=w
 height:∀ {w:World} {S:Nat->Prop} {A B:List (Int×Int)},HS w S A B->Calls prog fH #[v] w fun e w'=>e=χ (By (L.length:Int))/\w'=w
 key:∀ {w:World} {S:Nat->Prop} {A B:List (Int×Int)},HS w S A B->A.length<=2000000000->∀ a sl:Nat,a<=L.length->sl<bK n L a->Calls prog fK #[v,By (a:Int),By (sl:Int)] w fun e w'=>(∃ S',e=χ (BY (bF f L a sl))/\HS w' S' (A++[((a:Int),(sl:Int))]) B/\∀ q,S' q->S q\/w.heap.size<=q)/\Gs S w w'
 seg:∀ {w:World} {S:Nat->Prop} {A B:List (Int×Int)},HS w S A B->B.length<=2000000000->∀ a sl:Nat,a<L.length->sl<(L.getD a []).length->Calls prog fS #[v,By ((a:Int)+1),By (sl:Int)] w fun e w'=>(∃ S',e=χ (OH ((L.getD a []).getD sl aF))/\HS w' S' A (B++[((a:Int)+1,(sl:Int))])/\∀ q,S' q->S q\/w.heap.size<=q)/\Gs S w w'
variable {v:Value} {eps:Int} {f:Nat->Int} {n:Nat} {L:List (List Sg)} {A B:List (Int×Int)}
theorem sw.step {fE fH fK fS:Nat} {w0:World} {HS:World->(Nat->Prop)->List (Int×Int)->List (Int×Int)->Prop} (D:sw fE fH fK fS v w0 HS eps f n L) {T:Nat->Prop} (h:HS w S A B) (g:Gs T w w') (hT:∀ q,T q->w0.heap.size<=q/\¬ S q):HS w' S A B :=
 D.keep h (afG (D.gw h) g fun q hq=>(hT q hq).1) fun q hq=>g.block q (D.lt h q hq) fun t=>(hT q t).2 hq
theorem sw.grow {fE fH fK fS:Nat} {w0:World} {HS:World->(Nat->Prop)->List (Int×Int)->List (Int×Int)->Prop} (D:sw fE fH fK fS v w0 HS eps f n L) (h:HS w S A B) (g:Gw w w'):HS w' S A B :=
 D.keep h ((D.gw h).trans g) fun q hq=>g.below.block q (D.lt h q hq)
theorem lM {S':Nat->Prop} {w1 w2:World} (h:Gs S w w1) (g:Gs S' w1 w2) (hS:∀ q,S' q->S q\/w.heap.size<=q):Gs S w w2 :=
 ⟨g.os.trans h.os,g.tape.trans h.tape,g.output.trans h.output,Φ h.size g.size,fun q hq hn=>(g.block q (Θ hq h.size) (fun s=>by rcases hS q s with e | e;exact hn e;omega)).trans (h.block q hq hn)⟩
structure zU (i:Nat) (lo hi te:Nat) (A:List (Int×Int)):Prop where
 nd:A.Nodup
 mem:∀ a∈A,∃ t:Nat,a=((i:Int),(t:Int))/\lo<=t/\t<=hi/\t<te
 len:A.length<=hi-lo+1
structure Wb (K:Nat) (args:Value->Value->Array Value) (T:World->(Nat->Prop)->List iY->Bool->Prop):Prop where
 lt:∀ {w:World} {X:Nat->Prop} {l:List iY} {st:Bool},T w X l st->∀ q,X q->q<w.heap.size
 keep:∀ {w w':World} {X:Nat->Prop} {l:List iY} {st:Bool},T w X l st->(∀ q,X q->w'.heap[q]?=w.heap[q]?)->T w' X l st
 call:∀ {w:World} {X:Nat->Prop} {l:List iY} {st:Bool},T w X l st->l.length<=2000000->∀ (v:iY) (s:Bool),Calls prog K (args (PJ v) (.bool s)) w fun e w'=>e=π #[]/\(∃ X',T w' X' (l++[v]) s/\∀ q,X' q->X q\/w.heap.size<=q)/\Gs X w w'
def Wc (q:Int) (f:Nat->Int) (n:Nat) (L:List (List Sg)) (i:Nat):Bool:=decide (aB (bF f L i) q (bK n L i)<bK n L i/\bF f L i (aB (bF f L i) q (bK n L i))=q)
def nW (eps q:Int) (f:Nat->Int) (n:Nat) (L:List (List Sg)) (j:Nat):List iY:=(List.range (L.length-j)).map fun k=>fT eps q f n L (L.length-1-k)
def qu (q:Int) (f:Nat->Int) (n:Nat) (L:List (List Sg)) (j:Nat):Bool:=if j=L.length then false else Wc q f n L j
theorem afH (eps q:Int) (f:Nat->Int) (n:Nat) (L:List (List Sg)):nW eps q f n L 0=Hh eps q f n L:=rfl
theorem afI (eps q:Int) (f:Nat->Int) (n:Nat) (L:List (List Sg)):nW eps q f n L L.length=[]:=by simp [nW]
variable {i:Nat}
theorem Wd (eps q:Int) (f:Nat->Int) (n:Nat) (L:List (List Sg)) (hi:i<L.length):nW eps q f n L i=nW eps q f n L (i+1)++[fT eps q f n L i]:=by unfold nW;rw [show L.length-i=(L.length-(i+1))+1 by omega,List.range_succ,qaV,qaw,List.map_nil,show L.length-1-(L.length-(i+1))=i by omega]
theorem afJ (eps q:Int) (f:Nat->Int) (n:Nat) (L:List (List Sg)) (j:Nat):(nW eps q f n L j).length=L.length-j:=by simp [nW]
structure oY (eps q:Int) (f:Nat->Int) (n:Nat) (L:List (List Sg)) (j:Nat) (A B:List (Int×Int)):Prop where
 an:A.Nodup
 ain:∀ a∈A,∃ i,j<=i/\i<L.length/\a.1=i/\(fT eps q f n L i).lo<=a.2/\a.2<=(fT eps q f n L i).hi/\a.2<(dV q L i).te
 al:A.length<=(L.length-j)*132
 bn:B.Nodup
 bl:B.length=L.length-j
 bin:∀ b∈B,∃ i,j<=i/\i<L.length/\b.1=(i:Int)+1/\b.2=jJ q L i
theorem oY.none (eps q:Int) (f:Nat->Int) (n:Nat) (L:List (List Sg)):oY eps q f n L L.length [] []:=⟨ε,fun a h=>by simp at h,ε,ε,ε,fun a h=>by simp at h⟩
theorem oY.all {q:Int} (h:oY eps q f n L 0 A B):BM eps q f n L A B :=
 ⟨h.an,fun a ha=>by obtain ⟨i,_,r⟩:=h.ain a ha;exact ⟨i,r⟩,h.bn,h.bl,fun b hb=>by obtain ⟨i,_,r⟩:=h.bin b hb;exact ⟨i,r⟩⟩
variable {lo te:Nat}
theorem oY.next {q:Int} {A':List (Int×Int)} (h:oY eps q f n L (i+1) A B) (hi:i<L.length) {dQ:Nat} (s:zU i lo dQ te A') (e1:(fT eps q f n L i).lo=lo) (e2:(fT eps q f n L i).hi=dQ) (e3:(dV q L i).te=te) (w:dQ-lo<=131):oY eps q f n L i (A++A') (B++[((i:Int)+1,((jJ q L i:Nat):Int))]):=by
 refine ⟨List.nodup_append.2 ⟨h.an,s.nd,fun a ha b hb e=>?_⟩,fun a ha=>?_,?_,List.nodup_append.2 ⟨h.bn,ε,fun a ha b hb e=>?_⟩,?_,fun b hb=>?_⟩
 ·obtain ⟨k,k1,_,k2,_⟩:=h.ain a ha
  obtain ⟨t,t1,_⟩:=s.mem b hb;rw [e,t1] at k2;have:(i:Int)=(k:Int):=k2;omega
 ·rcases qaq.1 ha with ha | ha
  ·obtain ⟨k,k1,r⟩:=h.ain a ha
   exact ⟨k,ω,r⟩
  ·obtain ⟨t,t1,t2,t3,t4⟩:=s.mem a ha
   rw [t1];exact ⟨i,Yk _,hi,rfl,by rw [e1];show (lo:Int)<=(t:Int);omega,by rw [e2];show (t:Int)<=(dQ:Int);omega,by rw [e3];show (t:Int)<(te:Int);omega⟩
 ·have:=h.al
  have:=s.len
  rw [Ψ,show L.length-i=(L.length-(i+1))+1 by omega]
  omega
 ·obtain ⟨k,k1,_,k2,_⟩:=h.bin a ha
  simp only [qaf,List.not_mem_nil,or_false] at hb;rw [e,hb] at k2;have:(i:Int)+1=(k:Int)+1:=k2;omega
 ·have:=h.bl
  rw [Ψ,qak,List.length_nil];omega
 ·rcases qaq.1 hb with hb | hb
  ·obtain ⟨k,k1,r⟩:=h.bin b hb
   exact ⟨k,ω,r⟩
  ·simp only [qaf,List.not_mem_nil,or_false] at hb
   rw [hb];exact ⟨i,Yk _,hi,rfl,rfl⟩
structure sA (i lo hi l h:Nat) (A:List (Int×Int)):Prop where
 nd:A.Nodup
 mem:∀ a∈A,∃ t:Nat,a=((i:Int),(t:Int))/\lo<=t/\t<hi/\(t<l\/h<=t)
variable {hi l h:Nat}
theorem sA.add (s:sA i lo hi l h A) {m l' h':Nat} (m1:l<=m) (m2:m<h) (m3:lo<=l) (m4:h<=hi) (c:(l'=m+1/\h'=h)\/(l'=l/\h'=m)):sA i lo hi l' h' (A++[((i:Int),(m:Int))]):=by
 refine ⟨List.nodup_append.2 ⟨s.nd,ε,fun a ha b hb e=>?_⟩,fun a ha=>?_⟩
 ·obtain ⟨t,e1,_,_,e2⟩:=s.mem a ha
  simp only [qaf,List.not_mem_nil,or_false] at hb;rw [e1,hb] at e;have:=(Prod.mk.inj e).2;omega
 ·rcases qaq.1 ha with ha | ha
  ·obtain ⟨t,e1,e2,e3,e4⟩:=s.mem a ha
   exact ⟨t,e1,e2,e3,ω⟩
  ·simp only [qaf,List.not_mem_nil,or_false] at ha
   exact ⟨m,ha,ω,ω,ω⟩
theorem sA.done (s:sA i lo hi l h A) (ht:hi<=te) (hl:A.length<=hi-lo+1):zU i lo hi te A :=
 ⟨s.nd,fun a ha=>by
  obtain ⟨t,e1,e2,e3,_⟩:=s.mem a ha;exact ⟨t,e1,e2,ω,ω⟩,hl⟩
theorem sA.last (s:sA i lo hi l h A) (hl:lo<=hi) (ht:hi<te) (ha:A.length<=hi-lo):zU i lo hi te (A++[((i:Int),(hi:Int))]):=by
 refine ⟨List.nodup_append.2 ⟨s.nd,ε,fun a ha b hb e=>?_⟩,fun a ha=>?_,by simp;omega⟩
 ·obtain ⟨t,e1,_,e3,e2⟩:=s.mem a ha
  simp only [qaf,List.not_mem_nil,or_false] at hb;rw [e1,hb] at e;have:=(Prod.mk.inj e).2;omega
 ·rcases qaq.1 ha with ha | ha
  ·obtain ⟨t,e1,e2,e3,e4⟩:=s.mem a ha
   exact ⟨t,e1,e2,ω,ω⟩
  ·simp only [qaf,List.not_mem_nil,or_false] at ha
   exact ⟨hi,ha,hl,Yk _,ht⟩
variable {b:Nat}
theorem Ko {v:iY} (h:w.heap[b]?=some (.cells #[By v.lv,By v.sl,By v.gu,By v.lo,By v.hi,By v.rk] 219 (0,0))):PK w b 0 v:=by refine ⟨?_,?_,?_,?_,?_,?_⟩<;>simp [World.cell?,h]
theorem afK (r fr:Int) (st:Bool) (r0:0<=r) (r1:r<=4294967296) (w:World) :
  Calls prog 169 #[By r,By fr,.bool st] w fun e w'=>e=χ (By (if st then r else max (r-1) fr))/\w'=w:=by
 have wj:IntKind.i64.wrap (r-1)=r-1:=by rw [Δ];omega
 cases st with
 | true =>
  go_enter func169,ntmps169;go_wp2_with fail;go_ret;exact ⟨rfl,rfl⟩
 | false =>
  go_enter func169,ntmps169;go_wp2_with fail;go_ret;exact ⟨rfl,rfl⟩
end Go.Proofs.YtaemofgeciklkaaGreat
namespace Go.Proofs.YtaemofgeciklkaaGreat
open Go.RowKit
attribute [local go_sem] iV
variable {w:World} {b:Nat} {cs:Array Value} {t:TypeId} {v:Value}
theorem oZ {o:Nat} (h:w.heap[b]?=some (.cells cs t (0,0))) (hv:cs[o]?=some v):w.cell? (φ b o)=some v:=by simp [World.cell?,h,hv]
theorem DT {o:Nat} (h:w.heap[b]?=some (.cells cs t (0,0))):w.frozen? (φ b o)=false:=by simp [World.frozen?,h]
theorem zV (h:w.heap[b]?=some (.cells cs t (0,0))) (o:Nat) (u:Value):(w.setCell (φ b o) u).heap[b]?=some (.cells (cs.setIfInBounds o u) t (0,0)):=by simp [World.setCell,Array.getElem?_modify,h]
