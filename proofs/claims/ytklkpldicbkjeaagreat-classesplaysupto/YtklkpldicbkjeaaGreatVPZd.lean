/- What is descended, in one structure. -/
import Derived.Deep.AppendLies
import Derived.Lib.MinMax
import Derived.Test.YtklkpldicbkjeaaGreatVZPile
set_option linter.unusedVariables false
open Go.Proofs.Tryz
namespace Go.Proofs.YtklkpldicbkjeaaGreat
open Go.RowKit
theorem acR {S:Nat->Prop} {W w w':World} (h:Gw W w) (g:Gs S w w') (hS:∀ q,S q->W.heap.size<=q):Gw W w' :=
 ⟨⟨g.os.trans h.below.os,g.tape.trans h.below.tape,g.output.trans h.below.output,Nat.le_trans h.below.size g.size,fun q hq=>(g.block q (Nat.lt_of_lt_of_le hq h.below.size) (fun s=>by have:=hS q s;omega)).trans (h.below.block q hq)⟩⟩
structure pQ (fE fH fK fS:Nat) (v:Value) (w0:World) (HS:World->(Nat->Prop)->List (Int×Int)->List (Int×Int)->Prop) (eps:Int) (f:Nat->Int) (n:Nat) (L:List (List Sg)):Prop where
 gw:∀ {w:World} {S:Nat->Prop} {A B:List (Int×Int)},HS w S A B->Gw w0 w
 ge:∀ {w:World} {S:Nat->Prop} {A B:List (Int×Int)},HS w S A B->∀ q,S q->w0.heap.size<=q
 lt:∀ {w:World} {S:Nat->Prop} {A B:List (Int×Int)},HS w S A B->∀ q,S q->q<w.heap.size
 keep:∀ {w w':World} {S:Nat->Prop} {A B:List (Int×Int)},HS w S A B->Gw w0 w'->(∀ q,S q->w'.heap[q]?=w.heap[q]?)->HS w' S A B
 sok:∀ i,i<L.length->∀ j,j<(L.getD i []).length->((L.getD i []).getD j az).ok
 eps:∀ {w:World} {S:Nat->Prop} {A B:List (Int×Int)},HS w S A B->Calls prog fE #[v] w fun e w'=>e=.returned (.int .i64 eps)/\w'=w
 height:∀ {w:World} {S:Nat->Prop} {A B:List (Int×Int)},HS w S A B->Calls prog fH #[v] w fun e w'=>e=.returned (.int .i64 (L.length:Int))/\w'=w
 key:∀ {w:World} {S:Nat->Prop} {A B:List (Int×Int)},HS w S A B->A.length<=2000000000->∀ a sl:Nat,a<=L.length->sl<bD n L a->Calls prog fK #[v,.int .i64 (a:Int),.int .i64 (sl:Int)] w fun e w'=>(∃ S',e=.returned (.int .u64 (bj f L a sl))/\HS w' S' (A++[((a:Int),(sl:Int))]) B/\∀ q,S' q->S q\/w.heap.size<=q)/\Gs S w w'
 seg:∀ {w:World} {S:Nat->Prop} {A B:List (Int×Int)},HS w S A B->B.length<=2000000000->∀ a sl:Nat,a<L.length->sl<(L.getD a []).length->Calls prog fS #[v,.int .i64 ((a:Int)+1),.int .i64 (sl:Int)] w fun e w'=>(∃ S',e=.returned (Li ((L.getD a []).getD sl az))/\HS w' S' A (B++[((a:Int)+1,(sl:Int))])/\∀ q,S' q->S q\/w.heap.size<=q)/\Gs S w w'
theorem pQ.step {fE fH fK fS:Nat} {v:Value} {w0:World} {HS:World->(Nat->Prop)->List (Int×Int)->List (Int×Int)->Prop} {eps:Int} {f:Nat->Int} {n:Nat} {L:List (List Sg)} (D:pQ fE fH fK fS v w0 HS eps f n L) {w w':World} {S T:Nat->Prop} {A B:List (Int×Int)} (h:HS w S A B) (g:Gs T w w') (hT:∀ q,T q->w0.heap.size<=q/\¬ S q):HS w' S A B :=
 D.keep h (acR (D.gw h) g fun q hq=>(hT q hq).1) fun q hq=>g.block q (D.lt h q hq) fun t=>(hT q t).2 hq
theorem pQ.grow {fE fH fK fS:Nat} {v:Value} {w0:World} {HS:World->(Nat->Prop)->List (Int×Int)->List (Int×Int)->Prop} {eps:Int} {f:Nat->Int} {n:Nat} {L:List (List Sg)} (D:pQ fE fH fK fS v w0 HS eps f n L) {w w':World} {S:Nat->Prop} {A B:List (Int×Int)} (h:HS w S A B) (g:Gw w w'):HS w' S A B :=
 D.keep h ((D.gw h).trans g) fun q hq=>g.below.block q (D.lt h q hq)
theorem jW {S S':Nat->Prop} {w w1 w2:World} (h:Gs S w w1) (g:Gs S' w1 w2) (hS:∀ q,S' q->S q\/w.heap.size<=q):Gs S w w2 :=
 ⟨g.os.trans h.os,g.tape.trans h.tape,g.output.trans h.output,Nat.le_trans h.size g.size,fun q hq hn=>(g.block q (Nat.lt_of_lt_of_le hq h.size) (fun s=>by rcases hS q s with e | e;exact hn e;omega)).trans (h.block q hq hn)⟩
structure xH (i:Nat) (lo hi te:Nat) (A:List (Int×Int)):Prop where
 nd:A.Nodup
 mem:∀ a∈A,∃ t:Nat,a=((i:Int),(t:Int))/\lo<=t/\t<=hi/\t<te
 len:A.length<=hi-lo+1
structure Tw (K:Nat) (args:Value->Value->Array Value) (T:World->(Nat->Prop)->List fR->Bool->Prop):Prop where
 lt:∀ {w:World} {X:Nat->Prop} {l:List fR} {st:Bool},T w X l st->∀ q,X q->q<w.heap.size
 keep:∀ {w w':World} {X:Nat->Prop} {l:List fR} {st:Bool},T w X l st->(∀ q,X q->w'.heap[q]?=w.heap[q]?)->T w' X l st
 call:∀ {w:World} {X:Nat->Prop} {l:List fR} {st:Bool},T w X l st->l.length<=2000000->∀ (v:fR) (s:Bool),Calls prog K (args (Mu v) (.bool s)) w fun e w'=>e=.returned (.tuple #[])/\(∃ X',T w' X' (l++[v]) s/\∀ q,X' q->X q\/w.heap.size<=q)/\Gs X w w'
def Tx (q:Int) (f:Nat->Int) (n:Nat) (L:List (List Sg)) (i:Nat):Bool:=decide (ax (bj f L i) q (bD n L i)<bD n L i/\bj f L i (ax (bj f L i) q (bD n L i))=q)
def lP (eps q:Int) (f:Nat->Int) (n:Nat) (L:List (List Sg)) (j:Nat):List fR:=(List.range (L.length-j)).map fun k=>eR eps q f n L (L.length-1-k)
def om (q:Int) (f:Nat->Int) (n:Nat) (L:List (List Sg)) (j:Nat):Bool:=if j=L.length then false else Tx q f n L j
theorem acS (eps q:Int) (f:Nat->Int) (n:Nat) (L:List (List Sg)):lP eps q f n L 0=Dh eps q f n L:=rfl
theorem acT (eps q:Int) (f:Nat->Int) (n:Nat) (L:List (List Sg)):lP eps q f n L L.length=[]:=by simp [lP]
theorem Ty (eps q:Int) (f:Nat->Int) (n:Nat) (L:List (List Sg)) {i:Nat} (hi:i<L.length):lP eps q f n L i=lP eps q f n L (i+1)++[eR eps q f n L i]:=by
 unfold lP;rw [show L.length-i=(L.length-(i+1))+1 by omega,List.range_succ,List.map_append,List.map_cons,List.map_nil,show L.length-1-(L.length-(i+1))=i by omega]
theorem acU (eps q:Int) (f:Nat->Int) (n:Nat) (L:List (List Sg)) (j:Nat):(lP eps q f n L j).length=L.length-j:=by simp [lP]
structure mV (eps q:Int) (f:Nat->Int) (n:Nat) (L:List (List Sg)) (j:Nat) (A B:List (Int×Int)):Prop where
 an:A.Nodup
 ain:∀ a∈A,∃ i,j<=i/\i<L.length/\a.1=i/\(eR eps q f n L i).lo<=a.2/\a.2<=(eR eps q f n L i).hi/\a.2<(dy q L i).te
 al:A.length<=(L.length-j)*132
 bn:B.Nodup
 bl:B.length=L.length-j
 bin:∀ b∈B,∃ i,j<=i/\i<L.length/\b.1=(i:Int)+1/\b.2=iF q L i
theorem mV.none (eps q:Int) (f:Nat->Int) (n:Nat) (L:List (List Sg)):mV eps q f n L L.length [] []:=⟨by simp,fun a h=>by simp at h,by simp,by simp,by simp,fun a h=>by simp at h⟩
theorem mV.all {eps q:Int} {f:Nat->Int} {n:Nat} {L:List (List Sg)} {A B:List (Int×Int)} (h:mV eps q f n L 0 A B):zp eps q f n L A B :=
 ⟨h.an,fun a ha=>by obtain ⟨i,_,r⟩:=h.ain a ha;exact ⟨i,r⟩,h.bn,h.bl,fun b hb=>by obtain ⟨i,_,r⟩:=h.bin b hb;exact ⟨i,r⟩⟩
theorem mV.next {eps q:Int} {f:Nat->Int} {n:Nat} {L:List (List Sg)} {i:Nat} {A B A':List (Int×Int)} (h:mV eps q f n L (i+1) A B) (hi:i<L.length) {lo bV te:Nat} (s:xH i lo bV te A') (e1:(eR eps q f n L i).lo=lo) (e2:(eR eps q f n L i).hi=bV) (e3:(dy q L i).te=te) (w:bV-lo<=131):mV eps q f n L i (A++A') (B++[((i:Int)+1,((iF q L i:Nat):Int))]):=by
 refine ⟨List.nodup_append.2 ⟨h.an,s.nd,fun a ha b hb e=>?_⟩,fun a ha=>?_,?_,List.nodup_append.2 ⟨h.bn,by simp,fun a ha b hb e=>?_⟩,?_,fun b hb=>?_⟩
 ·obtain ⟨k,k1,_,k2,_⟩:=h.ain a ha
  obtain ⟨t,t1,_⟩:=s.mem b hb;rw [e,t1] at k2;have:(i:Int)=(k:Int):=k2;omega
 ·rcases List.mem_append.1 ha with ha | ha
  ·obtain ⟨k,k1,r⟩:=h.ain a ha
   exact ⟨k,by omega,r⟩
  ·obtain ⟨t,t1,t2,t3,t4⟩:=s.mem a ha
   rw [t1];exact ⟨i,Nat.le_refl _,hi,rfl,by rw [e1];show (lo:Int)<=(t:Int);omega,by rw [e2];show (t:Int)<=(bV:Int);omega,by rw [e3];show (t:Int)<(te:Int);omega⟩
 ·have:=h.al
  have:=s.len
  rw [List.length_append,show L.length-i=(L.length-(i+1))+1 by omega]
  omega
 ·obtain ⟨k,k1,_,k2,_⟩:=h.bin a ha
  simp only [List.mem_cons,List.not_mem_nil,or_false] at hb;rw [e,hb] at k2;have:(i:Int)+1=(k:Int)+1:=k2;omega
 ·have:=h.bl
  rw [List.length_append,List.length_cons,List.length_nil];omega
 ·rcases List.mem_append.1 hb with hb | hb
  ·obtain ⟨k,k1,r⟩:=h.bin b hb
   exact ⟨k,by omega,r⟩
  ·simp only [List.mem_cons,List.not_mem_nil,or_false] at hb
   rw [hb];exact ⟨i,Nat.le_refl _,hi,rfl,rfl⟩
structure pR (i lo hi l h:Nat) (A:List (Int×Int)):Prop where
 nd:A.Nodup
 mem:∀ a∈A,∃ t:Nat,a=((i:Int),(t:Int))/\lo<=t/\t<hi/\(t<l\/h<=t)
theorem pR.add {i lo hi l h:Nat} {A:List (Int×Int)} (s:pR i lo hi l h A) {m l' h':Nat} (m1:l<=m) (m2:m<h) (m3:lo<=l) (m4:h<=hi) (c:(l'=m+1/\h'=h)\/(l'=l/\h'=m)):pR i lo hi l' h' (A++[((i:Int),(m:Int))]):=by
 refine ⟨List.nodup_append.2 ⟨s.nd,by simp,fun a ha b hb e=>?_⟩,fun a ha=>?_⟩
 ·obtain ⟨t,e1,_,_,e2⟩:=s.mem a ha
  simp only [List.mem_cons,List.not_mem_nil,or_false] at hb;rw [e1,hb] at e;have:=(Prod.mk.inj e).2;omega
 ·rcases List.mem_append.1 ha with ha | ha
  ·obtain ⟨t,e1,e2,e3,e4⟩:=s.mem a ha
   exact ⟨t,e1,e2,e3,by omega⟩
  ·simp only [List.mem_cons,List.not_mem_nil,or_false] at ha
   exact ⟨m,ha,by omega,by omega,by omega⟩
theorem pR.done {i lo hi te l h:Nat} {A:List (Int×Int)} (s:pR i lo hi l h A) (ht:hi<=te) (hl:A.length<=hi-lo+1):xH i lo hi te A :=
 ⟨s.nd,fun a ha=>by
  obtain ⟨t,e1,e2,e3,_⟩:=s.mem a ha;exact ⟨t,e1,e2,by omega,by omega⟩,hl⟩
theorem pR.last {i lo hi te l h:Nat} {A:List (Int×Int)} (s:pR i lo hi l h A) (hl:lo<=hi) (ht:hi<te) (ha:A.length<=hi-lo):xH i lo hi te (A++[((i:Int),(hi:Int))]):=by
 refine ⟨List.nodup_append.2 ⟨s.nd,by simp,fun a ha b hb e=>?_⟩,fun a ha=>?_,by simp;omega⟩
 ·obtain ⟨t,e1,_,e3,e2⟩:=s.mem a ha
  simp only [List.mem_cons,List.not_mem_nil,or_false] at hb;rw [e1,hb] at e;have:=(Prod.mk.inj e).2;omega
 ·rcases List.mem_append.1 ha with ha | ha
  ·obtain ⟨t,e1,e2,e3,e4⟩:=s.mem a ha
   exact ⟨t,e1,e2,by omega,by omega⟩
  ·simp only [List.mem_cons,List.not_mem_nil,or_false] at ha
   exact ⟨hi,ha,hl,Nat.le_refl _,ht⟩
theorem Ie {w:World} {b:Nat} {v:fR} (h:w.heap[b]?=some (.cells #[.int .i64 v.lv,.int .i64 v.sl,.int .i64 v.gu,.int .i64 v.lo,.int .i64 v.hi,.int .i64 v.rk] 180 (0,0))):Mv w b 0 v:=by
 refine ⟨?_,?_,?_,?_,?_,?_⟩<;>simp [World.cell?,h]
theorem acV (r fr:Int) (st:Bool) (r0:0<=r) (r1:r<=4294967296) (w:World) :
  Calls prog 133 #[.int .i64 r,.int .i64 fr,.bool st] w fun e w'=>e=.returned (.int .i64 (if st then r else max (r-1) fr))/\w'=w:=by
 have wj:IntKind.i64.wrap (r-1)=r-1:=by rw [IntKind.wrap_i64];omega
 cases st with
 | true =>
  go_enter func133,ntmps133;go_wp2_with fail;go_ret;exact ⟨rfl,rfl⟩
 | false =>
  go_enter func133,ntmps133;go_wp2_with fail;go_ret;exact ⟨rfl,rfl⟩
end Go.Proofs.YtklkpldicbkjeaaGreat
namespace Go.Proofs.YtklkpldicbkjeaaGreat
open Go.RowKit
attribute [local go_sem] fZ
theorem mW {w:World} {b o:Nat} {cs:Array Value} {t:TypeId} {v:Value} (h:w.heap[b]?=some (.cells cs t (0,0))) (hv:cs[o]?=some v):w.cell? ⟨b,o,none⟩=some v:=by simp [World.cell?,h,hv]
theorem AP {w:World} {b o:Nat} {cs:Array Value} {t:TypeId} (h:w.heap[b]?=some (.cells cs t (0,0))):w.frozen? ⟨b,o,none⟩=false:=by simp [World.frozen?,h]
theorem xI {w:World} {b:Nat} {cs:Array Value} {t:TypeId} (h:w.heap[b]?=some (.cells cs t (0,0))) (o:Nat) (u:Value):(w.setCell ⟨b,o,none⟩ u).heap[b]?=some (.cells (cs.setIfInBounds o u) t (0,0)):=by simp [World.setCell,Array.getElem?_modify,h]
end Go.Proofs.YtklkpldicbkjeaaGreat
namespace Go.Proofs.YtklkpldicbkjeaaGreat
open Go.RowKit
def pT (w:World) (b:Nat) (v:Value) (t:TypeId):Prop:=w.heap[b]?=some (.cells #[v] t (0,0))
theorem pT.lt {w:World} {b:Nat} {v:Value} {t:TypeId} (h:pT w b v t):b<w.heap.size:=(Array.getElem?_eq_some_iff.1 h).1
theorem pT.cell {w:World} {b:Nat} {v:Value} {t:TypeId} (h:pT w b v t):w.cell? ⟨b,0,none⟩=some v:=mW h rfl
theorem pT.fz {w:World} {b:Nat} {v:Value} {t:TypeId} (h:pT w b v t):w.frozen? ⟨b,0,none⟩=false:=AP h
def AQ (l:List fR):Int:=match l.getLast? with | none=>0 | some v=>v.rk
theorem Tz (l:List fR) (v:fR):AQ (l++[v])=v.rk:=by simp [AQ]
structure Ig (br bt:Nat) (w:World) (X:Nat->Prop) (l:List fR) (st:Bool):Prop where
 r:pT w br (.int .i64 (AQ l)) 3
 t:pT w bt (.bool st) 4
 x:∀ q,X q↔q=br\/q=bt
theorem acW {eps q:Int} {f:Nat->Int} {n:Nat} {L:List (List Sg)} (R:mw eps f n L):AQ (Dh eps q f n L)=(ax f q n:Nat)/\om q f n L 0=decide (ax f q n<n/\f (ax f q n)=q):=by
 by_cases e:L.length=0
 ·have n0:=R.z.1 e
  have l0:L=[]:=List.eq_nil_of_length_eq_zero e;subst l0;subst n0;exact ⟨rfl,by simp [om]⟩
 ·constructor
  ·rw [<-acS,Ty eps q f n L (show 0<L.length by omega),Tz]
   rfl
  ·unfold om
   rw [if_neg (by omega)]
   rfl
theorem TC {w:World} {lo:Option Addr} {L:List (List Sg)} (h:VS w lo L):∀ i,i<L.length->∀ j,j<(L.getD i []).length->((L.getD i []).getD j az).ok:=fun i hi j hj=>by
 obtain ⟨b,off,_,_,hc⟩:=h.cells (by omega)
 obtain ⟨bo,c,_,_,_,g⟩:=hc i hi;exact g.ok j hj
def TJ (w:World) (W:World) (S:Nat->Prop) (A B:List (Int×Int)):Prop:=Gw w W/\∀ q,¬ S q
theorem acX {w:World} {p:Nat} {S:Nat->Prop} {eps:Int} {f:Nat->Int} {n:Nat} {L:List (List Sg)} (h:eJ w p S eps f n L):pQ 49 76 218 95 (.pointer (some ⟨p,0,none⟩)) w (TJ w) eps f n L where
 gw x:=x.1
 ge x q hq:=(x.2 q hq).elim
 lt x q hq:=(x.2 q hq).elim
 keep x g _:=⟨g,x.2⟩
 sok:=by
  obtain ⟨ko,kc,lo,lc,_,_,hv⟩:=h.opened;exact TC hv
 eps x:=Dz (h.keep fun q hq=>x.1.below.block q (h.lt q hq))
 height x:=M4 (h.keep fun q hq=>x.1.below.block q (h.lt q hq))
 key {w1 S1 A B} x la a sl ha hs:=by
  have n1:=h.n1;have s1:=h.sh;have sl1:(sl:Int)<9223372036854775808:=by
   have:bD n L a<=2000000:=by
    unfold bD;by_cases z:a=0
    ·rw [if_pos z];exact n1
    ·rw [if_neg z];exact s1.2 _ (by omega)
   omega
  have e:qM f n L (a:Int) (sl:Int)=bj f L a sl:=by
   unfold qM;rw [if_pos ⟨⟨by omega,by omega⟩,by omega,by simpa using hs⟩]
   simp
  refine (aax (h.keep fun q hq=>x.1.below.block q (h.lt q hq)) (a:Int) (sl:Int) (by omega) (by have:=s1.1;omega) (by omega) sl1).mono ?_
  rintro ex w2 ⟨rfl,g2⟩;rw [e];exact ⟨⟨S1,rfl,⟨x.1.trans g2,x.2⟩,fun q hq=>.inl hq⟩,g2.gs _⟩
 seg {w1 S1 A B} x lb a sl ha hs:=by
  have s1:=h.sh;have:=s1.2 a ha;have e:iW L ((a:Int)+1) (sl:Int)=(L.getD a []).getD sl az:=by
   unfold iW;rw [show ((a:Int)+1).toNat-1=a by omega,if_pos ⟨⟨by omega,by omega⟩,by omega,by omega⟩]
   simp
  refine (DB (h.keep fun q hq=>x.1.below.block q (h.lt q hq)) ((a:Int)+1) (sl:Int) (by omega) (by have:=s1.1;omega) (by omega) (by omega)).mono ?_
  rintro ex w2 ⟨rfl,g2⟩;rw [e];exact ⟨⟨S1,rfl,⟨x.1.trans g2,x.2⟩,fun q hq=>.inl hq⟩,g2.gs _⟩
end Go.Proofs.YtklkpldicbkjeaaGreat
