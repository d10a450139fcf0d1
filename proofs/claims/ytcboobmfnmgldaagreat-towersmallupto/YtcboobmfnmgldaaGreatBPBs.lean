/- What every walk here keeps: old memory as it was. -/
import Derived.Test.YtcboobmfnmgldaaGreatBA
import Derived.BigQuiet
import Derived.Deep.LoopGhost
import Derived.Deep.OwnRows
import Derived.Deep.QuietTactic
import Derived.Deep.RegionHeld3
import Derived.Laws.CopyRow
import Derived.Laws.Pointers
import Derived.OwnWalk
import Derived.RowKit3
import Derived.StillTactics
import Derived.Test.YtcboobmfnmgldaaGreatRows
import Derived.WalkKit
import Derived.WalkLawsBesides
import Derived.WalkSpells
import Init
set_option linter.unusedVariables false
set_option maxHeartbeats 2000000
set_option maxRecDepth 10000
open Go.Proofs.Tryz
namespace Go.Proofs.YtcboobmfnmgldaaGreat
open Go.RowKit
structure Gb (w w':World):Prop where
 below:Below w.heap.size w w'
 frozen:∀ a,w'.frozen? a=w.frozen? a
theorem Gb.refl (w:World):Gb w w:=⟨Below.refl _ _,fun _=>rfl⟩
theorem Gb.trans {a b c:World} (h:Gb a b) (k:Gb b c):Gb a c :=
 ⟨h.below.trans (k.below.mono h.below.size),fun x=>(k.frozen x).trans (h.frozen x)⟩
variable {w:World}
theorem Gb.alloc {a:World} (h:Gb a w) (c:Array Value) (t:TypeId):Gb a (w.alloc (.cells c t)) :=
 ⟨h.below.alloc h.below.size _,fun x=>(frozen?_alloc_cells _ _ _ x).trans (h.frozen x)⟩
theorem Gb.setCell {a:World} (h:Gb a w) {p:Addr} (hp:a.heap.size<=p.block) (v:Value):Gb a (w.setCell p v) :=
 ⟨h.below.setCell hp v,fun x=>(World.frozen?_setCell _ _ _ _).trans (h.frozen x)⟩
theorem Gb.drew {a:World} (h:Gb a w):Gb a w.drew:=⟨h.below.drew,h.frozen⟩
variable {w':World}
theorem Gb.cell (h:Gb w w') (b o:Nat) (hb:b<w.heap.size):w'.cell? ⟨b,o,none⟩=w.cell? ⟨b,o,none⟩:=h.below.cell (p:=⟨b,o,none⟩) hb
theorem Gb.size (h:Gb w w'):w.heap.size<=w'.heap.size:=h.below.size
variable {W:World}
theorem Gb.facts (h:Gb W w'):(∀ b o,b<W.heap.size->w'.cell? ⟨b,o,none⟩=W.cell? ⟨b,o,none⟩)/\(∀ a,w'.frozen? a=W.frozen? a) :=
 ⟨fun b o hb=>h.cell b o hb,h.frozen⟩
theorem dF (w:World) (b o:Nat) (h:w.heap.size<=b):w.frozen? ⟨b,o,none⟩=false:=by
 have e:w.heap[b]?=none:=by simp;omega
 simp [World.frozen?,e]
structure Gk (k:Nat) (w w':World):Prop where
 gb:Gb w w'
 grew:w'.heap.size=w.heap.size+k
theorem Gk.facts {k:Nat} (h:Gk k W w'):(∀ b o,b<W.heap.size->w'.cell? ⟨b,o,none⟩=W.cell? ⟨b,o,none⟩)/\(∀ a,w'.frozen? a=W.frozen? a)/\w'.heap.size=W.heap.size+k :=
 ⟨fun b o hb=>h.gb.cell b o hb,h.gb.frozen,h.grew⟩
structure H2 (w:World) (b:Nat) (u v:Value):Prop where
 lt:b<w.heap.size
 c0:w.cell? ⟨b,0,none⟩=some u
 c1:w.cell? ⟨b,1,none⟩=some v
variable {u v:Value}
theorem H2.gb {b:Nat} (h:H2 w b u v) (g:Gb w w'):H2 w' b u v :=
 ⟨Nat.lt_of_lt_of_le h.lt g.size,(g.cell b 0 h.lt).trans h.c0,(g.cell b 1 h.lt).trans h.c1⟩
theorem H2.new (w:World) (u v:Value) (t:TypeId):H2 (w.alloc (.cells #[u,v] t)) w.heap.size u v :=
 ⟨by simp,by simp [go_sem],by simp [go_sem]⟩
theorem H2.at {b:Nat} (h:H2 w b u v) (b':Nat) (e:b=b'):H2 w b' u v:=e▸h
theorem H2.alloc {b:Nat} (h:H2 w b u v) (o:Obj):H2 (w.alloc o) b u v :=
 ⟨Nat.lt_of_lt_of_le h.lt (by simp),(World.cell?_alloc_past _ _ _ h.lt).trans h.c0,(World.cell?_alloc_past _ _ _ h.lt).trans h.c1⟩
theorem yT (n:Int):0<=IntKind.u64.wrap n/\IntKind.u64.wrap n<18446744073709551616:=by rw [IntKind.wrap_u64];omega
theorem Gb.drewN {a:World} (h:Gb a w) (n:Nat):Gb a (w.drewN n):=⟨⟨h.below.os,h.below.tape,h.below.output,h.below.size,h.below.block⟩,h.frozen⟩
def Up (f:Nat->Int) (n:Nat):Prop:=∀ j,j+1<n->f j<f (j+1)
variable {f:Nat->Int} {n:Nat}
theorem Up.lt (h:Up f n):∀ {a b:Nat},a<b->b<n->f a<f b:=by
 intro a b cT hb;induction b with
 | zero=>omega
 | succ b ih =>
  have h1:=h b hb;by_cases e:a=b
  ·subst e;exact h1
  ·have h2:=ih (by omega) (by omega)
   omega
theorem Up.le (h:Up f n) {a b:Nat} (cT:a<=b) (hb:b<n):f a<=f b:=by
 by_cases e:a=b
 ·subst e;omega
 ·have:=h.lt (show a<b by omega) hb;omega
def dw (k v:Nat->Int) (g:Nat->Bool) (n:Nat) (e:Int):Prop :=
 (e=0/\Up k n/\∀ j,j<n->¬ (g j=true/\v j≠0)) \/
 (e=30/\∃ i,i+1<n/\Up k (i+1)/\(∀ j,j<i+1->¬ (g j=true/\v j≠0))/\k (i+1)<=k i) \/
 (e=31/\∃ i,i<n/\Up k (i+1)/\(∀ j,j<i->¬ (g j=true/\v j≠0))/\(g i=true/\v i≠0))
variable {k:Nat->Int} {g:Nat->Bool}
theorem dw.ok {v:Nat->Int} (u:Up k n) (b:∀ j,j<n->¬ (g j=true/\v j≠0)):dw k v g n 0:=.inl ⟨rfl,u,b⟩
theorem dw.order {v:Nat->Int} (i:Nat) (hi:i+1<n) (u:Up k (i+1)) (b:∀ j,j<i+1->¬ (g j=true/\v j≠0)) (d:k (i+1)<=k i):dw k v g n 30:=.inr (.inl ⟨rfl,i,hi,u,b,d⟩)
theorem dw.gone {v:Nat->Int} (i:Nat) (hi:i<n) (u:Up k (i+1)) (b:∀ j,j<i->¬ (g j=true/\v j≠0)) (d:g i=true/\v i≠0):dw k v g n 31:=.inr (.inr ⟨rfl,i,hi,u,b,d⟩)
variable {e:Int}
theorem dw.one {v:Nat->Int} {e':Int} (h:dw k v g n e) (h':dw k v g n e'):e=e':=by
 rcases h with ⟨e1,u,b⟩ | ⟨e1,i,hi,u,b,d⟩ | ⟨e1,i,hi,u,b,d⟩
 ·rcases h' with ⟨e2,u',b'⟩ | ⟨e2,i,hi,u',b',d⟩ | ⟨e2,i,hi,u',b',d⟩
  ·omega
  ·have:=u i hi;omega
  ·exact absurd d (b i hi)
 ·rcases h' with ⟨e2,u',b'⟩ | ⟨e2,j,hj,u',b',d'⟩ | ⟨e2,j,hj,u',b',d'⟩
  ·have:=u' i hi;omega
  ·omega
  ·rcases Nat.lt_or_ge j (i+1) with hh | hh
   ·exact absurd d' (b j hh)
   ·have:=u' i (by omega);omega
 ·rcases h' with ⟨e2,u',b'⟩ | ⟨e2,j,hj,u',b',d'⟩ | ⟨e2,j,hj,u',b',d'⟩
  ·exact absurd d (b' i hi)
  ·rcases Nat.lt_or_ge i (j+1) with hh | hh
   ·exact absurd d (b' i hh)
   ·have:=u j (by omega);omega
  ·omega
theorem dw.zero {v:Nat->Int} (h:dw k v g n e):e=0↔(Up k n/\∀ j,j<n->¬ (g j=true/\v j≠0)):=by
 constructor
 ·intro e0
  rcases h with ⟨_,u,b⟩ | ⟨e1,_⟩ | ⟨e1,_⟩
  ·exact ⟨u,b⟩
  ·omega
  ·omega
 ·intro ⟨u,b⟩
  exact h.one (.ok u b)
def lv (g:Nat->Bool):Nat->Nat
 | 0=>0
 | n+1=>lv g n+(if g n=true then 0 else 1)
theorem WJ (g:Nat->Bool) (n:Nat):lv g n<=n:=by
 induction n with
 | zero=>simp [lv]
 | succ n ih=>simp only [lv];split<;>omega
structure Gw (w w':World):Prop where
 below:Below w.heap.size w w'
theorem Gw.refl (w:World):Gw w w:=⟨Below.refl _ _⟩
theorem Gw.trans {a b c:World} (h:Gw a b) (k:Gw b c):Gw a c :=
 ⟨h.below.trans (k.below.mono h.below.size)⟩
theorem Gw.alloc {a:World} (h:Gw a w) (c:Array Value) (t:TypeId):Gw a (w.alloc (.cells c t)) :=
 ⟨h.below.alloc h.below.size _⟩
theorem Gw.setCell {a:World} (h:Gw a w) {p:Addr} (hp:a.heap.size<=p.block) (v:Value):Gw a (w.setCell p v) :=
 ⟨h.below.setCell hp v⟩
theorem Gw.drew {a:World} (h:Gw a w):Gw a w.drew:=⟨h.below.drew⟩
theorem Gw.drewN {a:World} (h:Gw a w) (n:Nat):Gw a (w.drewN n):=by
 obtain ⟨q1⟩:=h;exact ⟨q1.trans ⟨rfl,rfl,rfl,Nat.le_refl _,fun _ _=>rfl⟩⟩
theorem Gw.grown {a:World} {row:Option Nat} (h:Gw a w) (g:w.grownBy w' row) (hr:∀ k,row=some k->a.heap.size<=k):Gw a w' :=
 ⟨h.below.grown g h.below.size hr⟩
theorem Gw.cell (h:Gw w w') (b o:Nat) (hb:b<w.heap.size):w'.cell? ⟨b,o,none⟩=w.cell? ⟨b,o,none⟩:=h.below.cell (p:=⟨b,o,none⟩) hb
theorem Gw.size (h:Gw w w'):w.heap.size<=w'.heap.size:=h.below.size
theorem Gb.gw (h:Gb w w'):Gw w w':=⟨h.below⟩
structure KS (w:World) (ao:Option Addr) (n:Nat) (f:Nat->Int):Prop where
 cells:0<n->∃ b off,ao=some ⟨b,off,none⟩/\b<w.heap.size/\∀ i,i<n->w.cell? ⟨b,off+i,none⟩=some (By (f i))
 bd:∀ i,i<n->0<=f i/\f i<18446744073709551616
theorem KS.gw {ao:Option Addr} (h:KS w ao n f) (g:Gw w w'):KS w' ao n f :=
 ⟨fun hn=>by
  obtain ⟨b,off,e,hb,hc⟩:=h.cells hn;exact ⟨b,off,e,Nat.lt_of_lt_of_le hb g.size,fun i hi=>(g.cell b (off+i) hb).trans (hc i hi)⟩,h.bd⟩
theorem qu (m:Nat) (h:m<4611686018427387904):IntKind.i64.wrap (m:Int)=m:=by rw [IntKind.wrap_i64];omega
theorem WK {b t:Nat} {f:Nat->Value} (h:w.rowIs b t n f) (g:Gw w w'):w'.rowIs b t n f:=h.of_block (g.below.block _ h.lt)
theorem qv:(prog.info? 42).map (fun i=>(i.zero,i.size,i.bytes))=some (some (By 0),1,8):=by kernel_rfl
theorem uL {P:Program} (w:World) {ops:Array Oper} {rest:List Oper} {o:Oper} {a:Act} {Q:Exit->Act->World->Prop} (kT:o.guard=none) (s x:Operand) (t:TypeId)
  (ho:o.op=.call { callee:=.builtin .append,args:=#[s,x],argTypes:=#[t,t] })
  (base:Nat) (e:TypeId) (i:TypeInfo) (z:Value) (size bytes:Nat) (ht:P.underlying t=some (.slice e)) (hi:P.info? e=some i) (hz:i.zero=some z)
  (qz:i.size=size) (aR:i.bytes=bytes) (qA:z.cells.size=size) (cU:0<size)
  (v:Value) (n:Nat) (xs:List Value) (hs:a.eval s=v) (iM:w.ownsRow base e size v n xs)
  (ao:Option Addr) (m c:Nat) (news:List Value) (hx:a.eval x=.slice ao m c) (CP:ao=none->m=0/\c=0) (hl:news.length=m*size) (kU:∀ ad,ao=some ad->∀ j u,news[j]?=some u->w.cell? (ad.add j)=some u) (h1:∀ u∈news,u.oneCell'=true)
  (qB:n+m<=maxLen) (qC:(n+m)*bytes<=140737488355328) (qD:base<=w.heap.size)
  (h:∀ v' w',w'.ownsRow base e size v' (n+m) (xs++news)->w.grownBy w' v.ownBlock->(v'=.slice none 0 0↔v=.slice none 0 0/\m=0)->wpList P ops Q rest (a.put o.dst v') w'):wpList P ops Q (o::rest) a w:=by
 cases ao with
 | some ad=>exact wpList_append_own w kT s x t ho base e i z size bytes ht hi hz qz aR qA cU v n xs hs iM ad m c news hx hl (kU ad rfl) h1 qB qC qD h
 | none =>
  obtain ⟨rfl,rfl⟩:=CP rfl;have hn:news=[]:=List.eq_nil_of_length_eq_zero (by simpa using hl)
  subst hn;refine wpList_plain kT fun K WL=>?_
  have oG:=run_append_owned_none (P:=P) w base t o.type e i size ht hi v n xs iM;unfold Oper.wp;simp [execOp,ho,resolve,invoke,builtin,hs,hx,oG,Result.andThen];exact WL _ _ (by simpa using h v w (by simpa using iM) (World.grownBy.refl _ _) (by simp))
theorem dh {base e size:Nat} {xs:List Value} (h:w.ownsRow base e size v n xs) (hv:¬ v=.slice none 0 0):∃ g cap,v=.slice (some ⟨g,0,none⟩) n cap/\base<=g/\n<=cap/\g<w.heap.size:=by
 rcases h.2 with ⟨e,_⟩ | ⟨g,cap,cur,rfl,hg,hh,uM,_⟩
 ·exact absurd e hv
 ·exact ⟨g,cap,rfl,hg,uM,(Array.getElem?_eq_some_iff.1 hh).1⟩
theorem yU {base g cap:Nat} {xs:List Value} {m:Nat} (h:w.ownsRow base 42 1 (.slice (some ⟨g,0,none⟩) m cap) m xs) (hn:n<=m) (hx:∀ i,i<n->xs[i]?=some (By (f i))) (bd:∀ i,i<n->0<=f i/\f i<18446744073709551616):KS w (some ⟨g,0,none⟩) n f :=
 ⟨fun h0=>⟨g,0,rfl,(h.lt g rfl).2,fun i hi=>by rw [Nat.zero_add,h.cellAt i (by omega),hx i hi]⟩,bd⟩
theorem uN (w:World) (x:Int):∀ j u,[Value.int .u64 x][j]?=some u->(w.alloc (.cells #[By x] 42)).cell? ((⟨w.heap.size,0,none⟩:Addr).add j)=some u:=by
 intro j u hu;cases j with
 | zero =>
  simp only [List.getElem?_cons_zero,Option.some.injEq] at hu;subst hu;simp [Addr.add,go_sem]
 | succ j=>simp at hu
def eM (a b c d:Int):Prop:=(b≠0/\d=0)\/(b≠0/\d≠0/\a*d<c*b)
structure oH (f:Nat->Int) (S:Nat->Nat->Prop):Prop where
 lt:∀ i j,S i j->i<j
 pos:∀ i j,S i j->0<f j-f i
structure bK (e:Int) (f:Nat->Int) (S:Nat->Nat->Prop) (a b:Int):Prop where
 a0:0<=a
 b1:1<=b
 low:Int.gcd a b=1
 bound:∀ i j,S i j->((j:Int)-i-2*e)*b<=a*(f j-f i)
 att:a=0\/∃ i j,S i j/\0<(j:Int)-i-2*e/\((j:Int)-i-2*e)*b=a*(f j-f i)
def di (e:Int) (f:Nat->Int) (S:Nat->Nat->Prop) (a b:Int):Prop :=
 (a=1/\b=0/\∀ i j,¬ S i j) \/
 (1<=a/\1<=b/\Int.gcd a b=1/\(∀ i j,S i j->a*(f j-f i)<=((j:Int)-i+2*e)*b)/\∃ i j,S i j/\a*(f j-f i)=((j:Int)-i+2*e)*b)
def aY (e:Int) (f:Nat->Int) (S:Nat->Nat->Prop):Prop :=
 ∀ i j i' j',S i j->S i' j'->((j:Int)-i-2*e)*(f j'-f i')<=((j':Int)-i'+2*e)*(f j-f i)
theorem kV (p q r s:Int):p*q*(r*s)=p*r*(q*s):=by
 rw [Int.mul_assoc,<-Int.mul_assoc q r s,Int.mul_comm q r,Int.mul_assoc r q s,<-Int.mul_assoc]
variable {b a d:Int}
theorem J' (h:Int.gcd a b=1) (hd:b ∣ a*d):b ∣ d:=by
 have h1:b.natAbs.Coprime a.natAbs:=by
  show Nat.gcd b.natAbs a.natAbs=1;rw [Nat.gcd_comm];exact h
 have h2:b.natAbs ∣ a.natAbs*d.natAbs:=by
  rw [<-Int.natAbs_mul];exact Int.natAbs_dvd_natAbs.2 hd
 exact Int.natAbs_dvd_natAbs.1 (h1.dvd_of_dvd_mul_left h2)
variable {c:Int}
theorem WM (a0:0<=a) (c0:0<=c) (b1:1<=b) (d1:1<=d) (h:Int.gcd a b=1) (k:Int.gcd c d=1) (e:a*d=c*b):a=c/\b=d:=by
 have hb:b ∣ d:=J' h ⟨c,by rw [e,Int.mul_comm]⟩
 have hd:d ∣ b:=J' k ⟨a,by rw [<-e,Int.mul_comm]⟩
 have WO:b=d:=Int.dvd_antisymm (by omega) (by omega) hb hd
 subst WO;exact ⟨Int.eq_of_mul_eq_mul_right (by omega) e,rfl⟩
variable {S T:Nat->Nat->Prop}
theorem Ka (p:oH f S) (h:bK e f S a b) (k:bK e f T c d) (sub:∀ i j,S i j->T i j):a*d<=c*b:=by
 have hb:=h.b1;have hd:=k.b1;have hc:=k.a0;rcases h.att with h0 | ⟨i,j,s,m0,m1⟩
 ·subst h0
  have:0<=c*b:=Int.mul_nonneg hc (by omega)
  omega
 ·have D:=p.pos i j s
  have k1:=k.bound i j (sub i j s);have e1:(a*d)*(f j-f i)=((j:Int)-i-2*e)*d*b:=by
   rw [Int.mul_right_comm,<-m1,Int.mul_right_comm]
  have e2:((j:Int)-i-2*e)*d*b<=c*(f j-f i)*b:=Int.mul_le_mul_of_nonneg_right k1 (by omega)
  have e3:c*(f j-f i)*b=(c*b)*(f j-f i):=Int.mul_right_comm _ _ _;exact Int.le_of_mul_le_mul_right (by rw [e1,<-e3];exact e2) D
theorem bK.one (p:oH f S) (h:bK e f S a b) (k:bK e f S c d):a=c/\b=d :=
 WM h.a0 k.a0 h.b1 k.b1 h.low k.low (Int.le_antisymm (Ka p h k fun _ _ s=>s) (Ka p k h fun _ _ s=>s))
theorem Kb (he:0<=e) (p:oH f S) (h:bK e f S a b) (k:di e f S c d):¬ eM c d a b↔aY e f S:=by
 have hb:=h.b1;have ha:=h.a0;constructor
 ·intro hn i j i' j' s s'
  have D:=p.pos i j s;have D':=p.pos i' j' s';have M':0<=(j':Int)-i'+2*e:=by have:=p.lt i' j' s';omega
  have R:0<=((j':Int)-i'+2*e)*(f j-f i):=Int.mul_nonneg M' (by omega)
  by_cases m0:(j:Int)-i-2*e<=0
  ·have:((j:Int)-i-2*e)*(f j'-f i')<=0:=by
    have:=Int.mul_le_mul_of_nonneg_right m0 (show 0<=f j'-f i' by omega)
    omega
   omega
  ·rcases k with ⟨_,_,no⟩ | ⟨c1,d1,_,kb,_⟩
   ·exact absurd s (no i j)
   ·have hle:a*d<=c*b:=by
     rcases Int.lt_or_le (c*b) (a*d) with q | q
     ·exact absurd (.inr ⟨by omega,by omega,q⟩) hn
     ·exact q
    have h1:=h.bound i j s;have k1:=kb i' j' s';have s1:((j:Int)-i-2*e)*b*((f j'-f i')*d)<=a*(f j-f i)*((f j'-f i')*d):=Int.mul_le_mul_of_nonneg_right h1 (Int.mul_nonneg (by omega) (by omega))
    have s2:a*d*((f j-f i)*(f j'-f i'))<=c*b*((f j-f i)*(f j'-f i')):=Int.mul_le_mul_of_nonneg_right hle (Int.mul_nonneg (by omega) (by omega))
    have s3:c*(f j'-f i')*((f j-f i)*b)<=((j':Int)-i'+2*e)*d*((f j-f i)*b):=Int.mul_le_mul_of_nonneg_right k1 (Int.mul_nonneg (by omega) (by omega))
    have t1:((j:Int)-i-2*e)*b*((f j'-f i')*d)=((j:Int)-i-2*e)*(f j'-f i')*(b*d):=kV _ _ _ _;have t2:a*(f j-f i)*((f j'-f i')*d)=a*d*((f j-f i)*(f j'-f i')):=by
     rw [Int.mul_comm (f j'-f i') d,kV]
    have t3:c*b*((f j-f i)*(f j'-f i'))=c*(f j'-f i')*((f j-f i)*b):=by
     rw [Int.mul_comm (f j-f i) (f j'-f i'),kV,Int.mul_comm b]
    have t4:((j':Int)-i'+2*e)*d*((f j-f i)*b)=((j':Int)-i'+2*e)*(f j-f i)*(b*d):=by
     rw [kV,Int.mul_comm d b]
    have fin:((j:Int)-i-2*e)*(f j'-f i')*(b*d)<=((j':Int)-i'+2*e)*(f j-f i)*(b*d):=by
     rw [<-t1,<-t4];refine Int.le_trans s1 ?_;rw [t2];refine Int.le_trans s2 ?_;rw [t3];exact s3
    exact Int.le_of_mul_le_mul_right fin (Int.mul_pos (by omega) (by omega))
 ·intro hF hB
  rcases hB with ⟨_,q⟩ | ⟨_,_,q⟩
  ·omega
  ·rcases k with ⟨rfl,rfl,_⟩ | ⟨c1,d1,_,_,i',j',s',k1⟩
   ·omega
   ·rcases h.att with h0 | ⟨i,j,s,_,h1⟩
    ·subst h0
     have:0<=c*b:=Int.mul_nonneg (by omega) (by omega)
     omega
    ·have D:=p.pos i j s
     have D':=p.pos i' j' s';have h2:=hF i j i' j' s s';have s1:((j:Int)-i-2*e)*(f j'-f i')*(b*d)<=((j':Int)-i'+2*e)*(f j-f i)*(b*d):=Int.mul_le_mul_of_nonneg_right h2 (Int.mul_nonneg (by omega) (by omega))
     rw [kV,h1,Int.mul_comm b d,kV ((j':Int)-i'+2*e),<-k1] at s1;have t1:a*(f j-f i)*((f j'-f i')*d)=a*d*((f j-f i)*(f j'-f i')):=by
      rw [Int.mul_comm (f j'-f i') d,kV]
     have t2:c*(f j'-f i')*((f j-f i)*b)=c*b*((f j-f i)*(f j'-f i')):=by
      rw [Int.mul_comm (f j-f i) b,kV,Int.mul_comm (f j'-f i')]
     rw [t1,t2] at s1;have:=Int.le_of_mul_le_mul_right s1 (Int.mul_pos D D');omega
def qE (S:Nat->Nat->Prop) (p q:Nat) (i j:Nat):Prop:=S i j\/(i=p/\j=q)
variable {p q:Nat}
theorem bK.skip (h:bK e f S a b) (hD:0<f q-f p) (m0:(q:Int)-p-2*e<=0):bK e f (qE S p q) a b:=by
 have hb:=h.b1;have ha:=h.a0;refine ⟨h.a0,h.b1,h.low,fun i j s=>?_,?_⟩
 ·rcases s with s | ⟨rfl,rfl⟩
  ·exact h.bound i j s
  ·have h1:=Int.mul_le_mul_of_nonneg_right m0 (show 0<=b by omega)
   have h2:0<=a*(f j-f i):=Int.mul_nonneg ha (by omega)
   omega
 ·rcases h.att with h0 | ⟨i,j,s,r⟩
  ·exact .inl h0
  ·exact .inr ⟨i,j,.inl s,r⟩
theorem bK.keep {g:Int} (h:bK e f S a b) (g0:0<g) (d1:1<=d) (ec:c*g=(q:Int)-p-2*e) (ed:d*g=f q-f p) (hn:¬ eM a b c d):bK e f (qE S p q) a b:=by
 have hb:=h.b1;have ha:=h.a0;have hle:c*b<=a*d:=by
  rcases Int.lt_or_le (a*d) (c*b) with r | r
  ·exact absurd (.inr ⟨by omega,by omega,r⟩) hn
  ·exact r
 refine ⟨h.a0,h.b1,h.low,fun i j s=>?_,?_⟩
 ·rcases s with s | ⟨rfl,rfl⟩
  ·exact h.bound i j s
  ·rw [<-ec,<-ed,Int.mul_right_comm,<-Int.mul_assoc]
   exact Int.mul_le_mul_of_nonneg_right hle (by omega)
 ·rcases h.att with h0 | ⟨i,j,s,r⟩
  ·exact .inl h0
  ·exact .inr ⟨i,j,.inl s,r⟩
theorem bK.take {g:Int} (ps:oH f S) (h:bK e f S a b) (g0:0<g) (c1:1<=c) (d1:1<=d) (hg:Int.gcd c d=1) (ec:c*g=(q:Int)-p-2*e) (ed:d*g=f q-f p) (hB:eM a b c d):bK e f (qE S p q) c d:=by
 have hb:=h.b1;have ha:=h.a0;have hle:a*d<=c*b:=by
  rcases hB with ⟨_,r⟩ | ⟨_,_,r⟩<;>omega
 refine ⟨by omega,d1,hg,fun i j s=>?_,.inr ⟨p,q,.inr ⟨rfl,rfl⟩,by rw [<-ec];exact Int.mul_pos (by omega) g0,by rw [<-ec,<-ed,Int.mul_right_comm,<-Int.mul_assoc]⟩⟩
 rcases s with s | ⟨rfl,rfl⟩
 ·have h1:=h.bound i j s
  have D:=ps.pos i j s;have s1:((j:Int)-i-2*e)*b*d<=a*(f j-f i)*d:=Int.mul_le_mul_of_nonneg_right h1 (by omega)
  have s2:a*d*(f j-f i)<=c*b*(f j-f i):=Int.mul_le_mul_of_nonneg_right hle (by omega)
  have t1:a*(f j-f i)*d=a*d*(f j-f i):=Int.mul_right_comm _ _ _;have t2:c*b*(f j-f i)=c*(f j-f i)*b:=Int.mul_right_comm _ _ _;have t3:((j:Int)-i-2*e)*b*d=((j:Int)-i-2*e)*d*b:=Int.mul_right_comm _ _ _;rw [t3,t1] at s1;rw [t2] at s2;exact Int.le_of_mul_le_mul_right (Int.le_trans s1 s2) (by omega)
 ·rw [<-ec,<-ed,Int.mul_right_comm,<-Int.mul_assoc]
  exact Int.le_refl _
theorem di.keep {g:Int} (h:di e f S a b) (g0:0<g) (c1:1<=c) (d1:1<=d) (ec:c*g=(q:Int)-p+2*e) (ed:d*g=f q-f p) (hn:¬ eM c d a b):di e f (qE S p q) a b:=by
 rcases h with ⟨rfl,rfl,_⟩ | ⟨a1,b1,hg,hb,i,j,s,r⟩
 ·exact absurd (.inl ⟨by omega,rfl⟩) hn
 ·have hle:a*d<=c*b:=by
   rcases Int.lt_or_le (c*b) (a*d) with r | r
   ·exact absurd (.inr ⟨by omega,by omega,r⟩) hn
   ·exact r
  refine .inr ⟨a1,b1,hg,fun i j s=>?_,i,j,.inl s,r⟩
  rcases s with s | ⟨rfl,rfl⟩
  ·exact hb i j s
  ·rw [<-ec,<-ed,Int.mul_right_comm,<-Int.mul_assoc]
   exact Int.mul_le_mul_of_nonneg_right hle (by omega)
theorem di.take {g:Int} (ps:oH f S) (h:di e f S a b) (g0:0<g) (c1:1<=c) (d1:1<=d) (hg:Int.gcd c d=1) (ec:c*g=(q:Int)-p+2*e) (ed:d*g=f q-f p) (hB:eM c d a b):di e f (qE S p q) c d:=by
 refine .inr ⟨c1,d1,hg,fun i j s=>?_,p,q,.inr ⟨rfl,rfl⟩,by rw [<-ec,<-ed,Int.mul_right_comm,<-Int.mul_assoc]⟩
 rcases s with s | ⟨rfl,rfl⟩
 ·rcases h with ⟨_,_,no⟩ | ⟨a1,b1,_,hb,_⟩
  ·exact absurd s (no i j)
  ·have hle:c*b<=a*d:=by
    rcases hB with ⟨_,r⟩ | ⟨_,_,r⟩<;>omega
   have h1:=hb i j s;have D:=ps.pos i j s;have s1:a*(f j-f i)*d<=((j:Int)-i+2*e)*b*d:=Int.mul_le_mul_of_nonneg_right h1 (by omega)
   have s2:c*b*(f j-f i)<=a*d*(f j-f i):=Int.mul_le_mul_of_nonneg_right hle (by omega)
   have t1:a*(f j-f i)*d=a*d*(f j-f i):=Int.mul_right_comm _ _ _;have t2:c*b*(f j-f i)=c*(f j-f i)*b:=Int.mul_right_comm _ _ _;have t3:((j:Int)-i+2*e)*b*d=((j:Int)-i+2*e)*d*b:=Int.mul_right_comm _ _ _;rw [t1,t3] at s1;rw [t2] at s2;exact Int.le_of_mul_le_mul_right (Int.le_trans s2 s1) (by omega)
 ·rw [<-ec,<-ed,Int.mul_right_comm,<-Int.mul_assoc]
  exact Int.le_refl _
def aB (n:Nat) (i j:Nat):Prop:=i<j/\j<n
def aD (f:Nat->Int) (n:Nat) (x:Int) (i:Nat):Int:=if i=n then x else f i
theorem dO (f:Nat->Int) (n:Nat) (x:Int):aD f n x n=x:=if_pos rfl
variable {x:Int} {i:Nat}
theorem bH (h:i<n):aD f n x i=f i:=if_neg (by omega)
theorem sW (u:Up f n):oH f (aB n) :=
 ⟨fun i j s=>s.1,fun i j s=>by have:=u.lt s.1 s.2;omega⟩
theorem CQ (u:Up f n) (h:0<n->f (n-1)<x):Up (aD f n x) (n+1):=by
 intro j hj;by_cases e:j+1=n
 ·rw [e,dO,bH (by omega)]
  have:=h (by omega)
  rw [show n-1=j by omega] at this
  exact this
 ·rw [bH (by omega),bH (by omega)]
  exact u j (by omega)
theorem bK.congr {g:Nat->Int} (h:bK e f S a b) (st:∀ i j,S i j↔T i j) (q:∀ i j,S i j->f j-f i=g j-g i):bK e g T a b :=
 ⟨h.a0,h.b1,h.low,fun i j s=>by rw [<-q i j ((st i j).2 s)];exact h.bound i j ((st i j).2 s),by
  rcases h.att with h0 | ⟨i,j,s,m,r⟩
  ·exact .inl h0
  ·exact .inr ⟨i,j,(st i j).1 s,m,by rw [<-q i j s];exact r⟩⟩
theorem di.congr {g:Nat->Int} (h:di e f S a b) (st:∀ i j,S i j↔T i j) (q:∀ i j,S i j->f j-f i=g j-g i):di e g T a b:=by
 rcases h with ⟨h1,h2,no⟩ | ⟨a1,b1,hg,hb,i,j,s,r⟩
 ·exact .inl ⟨h1,h2,fun i j s=>no i j ((st i j).2 s)⟩
 ·exact .inr ⟨a1,b1,hg,fun i j s=>by rw [<-q i j ((st i j).2 s)];exact hb i j ((st i j).2 s),i,j,(st i j).1 s,by rw [<-q i j s];exact r⟩
theorem aY.congr {g:Nat->Int} (h:aY e f S) (st:∀ i j,T i j->S i j) (q:∀ i j,T i j->f j-f i=g j-g i):aY e g T :=
 fun i j i' j' s s'=>by rw [<-q i j s,<-q i' j' s'];exact h i j i' j' (st i j s) (st i' j' s')
def fO (n i:Nat) (p q:Nat):Prop:=(p<q/\q<n)\/(p<i/\q=n)
theorem Kc (n:Nat) (p q:Nat):aB n p q↔fO n 0 p q:=by unfold aB fO;omega
theorem ni (n i:Nat) (p q:Nat):qE (fO n i) i n p q↔fO n (i+1) p q:=by unfold qE fO;omega
theorem Kd (n:Nat) (p q:Nat):fO n n p q↔aB (n+1) p q:=by unfold aB fO;omega
theorem yV (u:Up f (n+1)) (hi:i<=n):oH f (fO n i) :=
 ⟨fun p q s=>by unfold fO at s;omega,fun p q s=>by
  have h1:p<q/\q<n+1:=by unfold fO at s;omega
  have:=u.lt h1.1 h1.2;omega⟩
def CS (e:Int) (n:Nat) (f:Nat->Int) (x:Int) (ok:Bool) (err:Int):Prop :=
 (0<n/\x<=f (n-1)/\ok=false/\err=40)\/(¬ (0<n/\x<=f (n-1))/\err=0/\(ok=true↔aY e (aD f n x) (aB (n+1))))
theorem yW (he:0<=e) (u:Up f n) (hn:(n:Int)<=2*e+1):aY e f (aB n):=by
 intro i j i' j' s s';have p:=sW u;have D:=p.pos i j s;have D':=p.pos i' j' s';have h1:(j:Int)-i-2*e<=0:=by have:=s.2;omega
 have h2:0<=(j':Int)-i'+2*e:=by have:=s'.1;omega
 have h3:=Int.mul_le_mul_of_nonneg_right h1 (show 0<=f j'-f i' by omega)
 have h4:0<=((j':Int)-i'+2*e)*(f j-f i):=Int.mul_nonneg h2 (by omega)
 omega
theorem WQ (e:Int) (f:Nat->Int) (hn:n<2):bK e f (aB n) 0 1 :=
 ⟨by omega,by omega,by decide,fun i j s=>by have:=s.1;have:=s.2;omega,.inl rfl⟩
theorem WT (e:Int) (f:Nat->Int) (hn:n<2):di e f (aB n) 1 0 :=
 .inl ⟨rfl,rfl,fun i j s=>by have:=s.1;have:=s.2;omega⟩
def yX (e:Int) (f:Nat->Int) (n:Nat) (a b:Int):Prop:=∀ i j,i<n->j<n->((i:Int)-j-2*e)*b<=a*(f i-f j)
theorem WV (he:0<=e) (b1:1<=b) (h1:∀ i j,aB n i j->((j:Int)-i-2*e)*b<=a*(f j-f i)) (h2:∀ i j,aB n i j->a*(f j-f i)<=((j:Int)-i+2*e)*b):yX e f n a b:=by
 intro i j hi hj;rcases Nat.lt_trichotomy i j with q | q | q
 ·have:=h2 i j ⟨q,hj⟩
  have e1:((i:Int)-j-2*e)*b=-(((j:Int)-i+2*e)*b):=by rw [<-Int.neg_mul];congr 1;omega
  have e2:a*(f i-f j)=-(a*(f j-f i)):=by rw [<-Int.mul_neg];congr 1;omega
  rw [e1,e2];omega
 ·subst q
  have:((i:Int)-i-2*e)*b<=0*b:=Int.mul_le_mul_of_nonneg_right (by omega) (by omega)
  have e2:a*(f i-f i)=0:=by rw [Int.sub_self,Int.mul_zero]
  rw [e2];omega
 ·exact h1 j i ⟨q,hi⟩
theorem Ke {m:Nat} (h:aY e f (aB n)) (hm:m<=n):aY e f (aB m) :=
 h.congr (fun i j s=>⟨s.1,by have:=s.2;omega⟩) (fun _ _ _=>rfl)
def WW (a b c d:Int):Prop:=b=0\/c < -2305843009213693952\/2305843009213693952<c\/2305843009213693952<a*d/b
def Kf (e:Int) (f:Nat->Int) (n:Nat) (a b c:Int):Prop:=∀ i,i<n->¬ WW a b c (f i-f 0)/\(i:Int)-e<=a*(f i-f 0)/b+c/\a*(f i-f 0)/b+c<=(i:Int)+e
def WX (eps:Int) (f:Nat->Int) (n:Nat) (a b c:Int):Prop:=(2<=eps/\eps<=64)/\0<n/\Up f n/\Kf (eps-1) f n a b c
structure lZ (e:Int) (f:Nat->Int) (n:Nat) (a b c:Int):Prop where
 ge:∀ i,i<n->(i:Int)-e<=a*(f i-f 0)/b+c
 att:∃ i,i<n/\(i:Int)-e=a*(f i-f 0)/b+c
theorem lZ.one {c':Int} (h:lZ e f n a b c) (k:lZ e f n a b c'):c=c':=by
 obtain ⟨i,hi,ei⟩:=h.att;obtain ⟨j,hj,ej⟩:=k.att;have:=h.ge j hj;have:=k.ge i hi;omega
def dP (eps:Int) (f:Nat->Int) (n:Nat) (a b c err:Int):Prop :=
 (¬ (2<=eps/\eps<=64)/\a=0/\b=0/\c=0/\err=1) \/
 ((2<=eps/\eps<=64)/\¬ (0<n/\Up f n)/\a=0/\b=0/\c=0/\err=50) \/
 ((2<=eps/\eps<=64)/\(0<n/\Up f n)/\¬ aY (eps-1) f (aB n)/\a=0/\b=0/\c=0/\err=51) \/
 ((2<=eps/\eps<=64)/\(0<n/\Up f n)/\aY (eps-1) f (aB n)/\bK (eps-1) f (aB n) a b/\lZ (eps-1) f n a b c/\err=0)
variable {eps:Int}
theorem dP.one {err a' b' c' Kg:Int} (h:dP eps f n a b c err) (k:dP eps f n a' b' c' Kg):(a=a'/\b=b'/\c=c')/\err=Kg:=by
 rcases h with ⟨h1,rfl,rfl,rfl,rfl⟩ | ⟨h1,h2,rfl,rfl,rfl,rfl⟩ | ⟨h1,h2,h3,rfl,rfl,rfl,rfl⟩ | ⟨h1,h2,h3,h4,h5,rfl⟩
 ·rcases k with ⟨k1,rfl,rfl,rfl,rfl⟩ | ⟨k1,_⟩ | ⟨k1,_⟩ | ⟨k1,_⟩
  ·exact ⟨⟨rfl,rfl,rfl⟩,rfl⟩
  all_goals exact absurd k1 h1
 ·rcases k with ⟨k1,_⟩ | ⟨_,k2,rfl,rfl,rfl,rfl⟩ | ⟨_,k2,_⟩ | ⟨_,k2,_⟩
  ·exact absurd h1 k1
  ·exact ⟨⟨rfl,rfl,rfl⟩,rfl⟩
  all_goals exact absurd k2 h2
 ·rcases k with ⟨k1,_⟩ | ⟨_,k2,_⟩ | ⟨_,k2,k3,rfl,rfl,rfl,rfl⟩ | ⟨_,k2,k3,_⟩
  ·exact absurd h1 k1
  ·exact absurd h2 k2
  ·exact ⟨⟨rfl,rfl,rfl⟩,rfl⟩
  ·exact absurd k3 h3
 ·rcases k with ⟨k1,_⟩ | ⟨_,k2,_⟩ | ⟨_,k2,k3,_⟩ | ⟨_,k2,k3,k4,k5,rfl⟩
  ·exact absurd h1 k1
  ·exact absurd h2 k2
  ·exact absurd h3 k3
  ·obtain ⟨rfl,rfl⟩:=h4.one (sW h2.2) k4
   exact ⟨⟨rfl,rfl,h5.one k5⟩,rfl⟩
variable {y:Int}
theorem WY {k:Int} (b1:1<=b) (h:k*b<=x-y):k<=x/b-y/b:=by
 have hx:=Int.emod_add_mul_ediv x b;have hy:=Int.emod_add_mul_ediv y b;have rx:=Int.emod_nonneg x (show b≠0 by omega)
 have rx':=Int.emod_lt_of_pos x (show 0<b by omega)
 have ry:=Int.emod_nonneg y (show b≠0 by omega)
 have ry':=Int.emod_lt_of_pos y (show 0<b by omega)
 have key:(k-1)*b<(x/b-y/b)*b:=by
  have e1:(k-1)*b=k*b-b:=by rw [Int.sub_mul,Int.one_mul]
  have e2:(x/b-y/b)*b=b*(x/b)-b*(y/b):=by rw [Int.sub_mul,Int.mul_comm,Int.mul_comm (y/b)]
  omega
 have:=Int.lt_of_mul_lt_mul_right key (by omega)
 omega
theorem WZ (he:0<=e) (b1:1<=b) (h:yX e f n a b) (B:lZ e f n a b c):∀ i,i<n->(i:Int)-e<=a*(f i-f 0)/b+c/\a*(f i-f 0)/b+c<=(i:Int)+e:=by
 intro i hi;refine ⟨B.ge i hi,?_⟩;obtain ⟨j,hj,ej⟩:=B.att;have k:=h j i hj hi;have e1:a*(f j-f i)=a*(f j-f 0)-a*(f i-f 0):=by rw [<-Int.mul_sub];congr 1;omega
 rw [e1] at k;have:=WY b1 k;omega
theorem uO (he:0<=e) (u:Up f n) (h:bK e f (aB n) a b) (hF:aY e f (aB n)) (hi:i<n):0<=a*(f i-f 0)/b/\a*(f i-f 0)/b<=(n:Int)+2*e:=by
 have b1:=h.b1;have d0:=u.le (Nat.zero_le i) hi;refine ⟨Int.ediv_nonneg (Int.mul_nonneg h.a0 (by omega)) (by omega),?_⟩
 by_cases z:i=0
 ·subst z
  rw [Int.sub_self,Int.mul_zero,Int.zero_ediv];omega
 ·
  have p:=sW u;have s:aB n 0 i:=⟨by omega,hi⟩
  have D:=p.pos 0 i s;have up:a*(f i-f 0)<=((i:Int)-(0:Nat)+2*e)*b:=by
   rcases h.att with q | ⟨i0,j0,s0,m0,r⟩
   ·rw [q,Int.zero_mul]
    exact Int.mul_nonneg (by omega) (by omega)
   ·have D0:=p.pos i0 j0 s0
    have k:=hF i0 j0 0 i s0 s;have k1:=Int.mul_le_mul_of_nonneg_right k (show 0<=b by omega)
    rw [Int.mul_right_comm _ (f i-f 0) b,r,Int.mul_right_comm _ (f j0-f i0) b,Int.mul_right_comm a (f j0-f i0) (f i-f 0)] at k1;exact Int.le_of_mul_le_mul_right k1 D0
  have:=Int.ediv_le_of_le_mul (show 0<b by omega) up
  omega
theorem Kh (k:2<=eps/\eps<=64) (u:Up f n) (n0:0<n) (hn:n<=100000000) (hF:aY (eps-1) f (aB n)) (h:bK (eps-1) f (aB n) a b) (nr:yX (eps-1) f n a b) (B:lZ (eps-1) f n a b c):Kf (eps-1) f n a b c/\(-(eps-1)<=c/\c<=n):=by
 have b1:=h.b1;have Xa:=B.ge 0 n0;rw [Int.sub_self,Int.mul_zero,Int.zero_ediv] at Xa;obtain ⟨j,hj,ej⟩:=B.att;have sj:=uO (by omega) u h hF hj
 have hc:-(eps-1)<=c/\c<=n:=by omega
 refine ⟨fun i hi=>⟨fun q=>?_,WZ (by omega) b1 nr B i hi⟩,hc⟩
 have si:=uO (by omega) u h hF hi
 rcases q with q | q | q | q<;>omega
theorem Ki (he:0<=e) (u:Up f n) (h:bK e f (aB n) a b) (hF:aY e f (aB n)):yX e f n a b:=by
 have b1:=h.b1;have p:=sW u;refine WV he b1 h.bound (fun i j s=>?_)
 rcases h.att with q | ⟨i0,j0,s0,m0,r⟩
 ·rw [q,Int.zero_mul]
  have:=s.1
  exact Int.mul_nonneg (by omega) (by omega)
 ·have D0:=p.pos i0 j0 s0
  have k:=hF i0 j0 i j s0 s;have k1:=Int.mul_le_mul_of_nonneg_right k (show 0<=b by omega)
  rw [Int.mul_right_comm _ (f j-f i) b,r,Int.mul_right_comm _ (f j0-f i0) b,Int.mul_right_comm a (f j0-f i0) (f j-f i)] at k1;exact Int.le_of_mul_le_mul_right k1 D0
structure Told (eps:Int) (f:Nat->Int) (n:Nat) (a b c:Int):Prop where
 e1:2<=eps
 e2:eps<=64
 n0:0<n
 up:Up f n
 fits:aY (eps-1) f (aB n)
 low:bK (eps-1) f (aB n) a b
 base:lZ (eps-1) f n a b c
theorem dP.cases {err:Int} (h:dP eps f n a b c err):(¬ err=0/\a=0/\b=0/\c=0)\/(err=0/\Told eps f n a b c):=by
 rcases h with ⟨_,h1,h2,h3,rfl⟩ | ⟨_,_,h1,h2,h3,rfl⟩ | ⟨_,_,_,h1,h2,h3,rfl⟩ | ⟨k1,k2,k3,k4,k5,rfl⟩
 ·exact .inl ⟨by decide,h1,h2,h3⟩
 ·exact .inl ⟨by decide,h1,h2,h3⟩
 ·exact .inl ⟨by decide,h1,h2,h3⟩
 ·exact .inr ⟨rfl,k1.1,k1.2,k2.1,k2.2,k3,k4,k5⟩
theorem Told.stays (h:Told eps f n a b c) (hn:n<=100000000):WX eps f n a b c/\(-(eps-1)<=c/\c<=n):=by
 have:=h.e1
 have s:=Kh ⟨h.e1,h.e2⟩ h.up h.n0 hn h.fits h.low (Ki (by omega) h.up h.low h.fits) h.base
 exact ⟨⟨⟨h.e1,h.e2⟩,h.n0,h.up,s.1⟩,s.2⟩
def GW (W:World):Type:={ w':World // Gb W w' }
variable {o:Nat}
theorem GW.cell {b:Nat} (h:W.cell? ⟨b,o,none⟩=some v) (hb:b<W.heap.size):∀ g:GW W,g.1.cell? ⟨b,o,none⟩=some v :=
 fun g=>(g.2.cell b o hb).trans h
theorem GW.some (W:World):Nonempty (GW W):=⟨⟨W,Gb.refl W⟩⟩
variable {P:Program} {Q:Exit->Act->World->Prop}
theorem Xb {id:Nat} {a:Act} {l:List Oper} (hm:P.follows .mixedOrders=true) (hB:Region.lexB .any l.toArray=true)
  (h:wpQuiet P l.toArray (fun w'=>∃ g:GW w,w'=g.1) (fun a'=>∀ w',(∃ g:GW w,w'=g.1)->Q .normal a' w') l a):(Code.region id l.toArray true).wp P Q a w :=
 wp_region_quiet (C:=fun w'=>∃ g:GW w,w'=g.1) hm hB ⟨⟨_,(Gb.refl w).drew⟩,rfl⟩ (by simpa using h)
variable {args:Array Value}
theorem Xc {f:FuncId} {g:GW W}
  (h:Calls P f args g.1 fun e w'=>e=.returned v/\Gb g.1 w'):Calls P f args g.1 fun e dG=>e=.returned v/\∃ g':GW W,dG=g'.1 :=
 h.mono fun _ _ ⟨he,hm⟩=>⟨he,⟨_,g.2.trans hm⟩,rfl⟩
theorem CU {f:FuncId} {g:GW W} {k:Nat}
  (h:Calls P f args g.1 fun e w'=>e=.returned v/\Gk k g.1 w'):Calls P f args g.1 fun e dG=>e=.returned v/\∃ g':GW W,dG=g'.1 :=
 Xc (h.mono fun _ _ ⟨he,hm⟩=>⟨he,hm.gb⟩)
theorem H2.drew {b:Nat} (h:H2 w b u v):H2 w.drew b u v:=⟨h.lt,h.c0,h.c1⟩
def GX (W:World):Type:={ w':World // Gw W w' }
theorem GX.cell {b:Nat} (h:W.cell? ⟨b,o,none⟩=some v) (hb:b<W.heap.size):∀ g:GX W,g.1.cell? ⟨b,o,none⟩=some v :=
 fun g=>(g.2.cell b o hb).trans h
theorem GX.gw (g:GX W):Gw W g.1:=g.2
theorem GX.some (W:World):Nonempty (GX W):=⟨⟨W,Gw.refl W⟩⟩
theorem jc {id:Nat} {a:Act} {l:List Oper} (hm:P.follows .mixedOrders=true) (hB:Region.lexB .any l.toArray=true)
  (h:wpQuiet P l.toArray (fun w'=>∃ g:GX w,w'=g.1) (fun a'=>∀ w',(∃ g:GX w,w'=g.1)->Q .normal a' w') l a):(Code.region id l.toArray true).wp P Q a w :=
 wp_region_quiet (C:=fun w'=>∃ g:GX w,w'=g.1) hm hB ⟨⟨_,(Gw.refl w).drew⟩,rfl⟩ (by simpa using h)
theorem eW {f:FuncId} {g:GX W}
  (h:Calls P f args g.1 fun e w'=>e=.returned v/\Gw g.1 w'):Calls P f args g.1 fun e dG=>e=.returned v/\∃ g':GX W,dG=g'.1 :=
 h.mono fun _ _ ⟨he,hm⟩=>⟨he,⟨_,g.2.trans hm⟩,rfl⟩
theorem CW (ao:Option Addr) (n c:Nat) (f:Nat->Int) (hn:n<4611686018427387904) (w:World) (h:KS w ao n f) :
  Calls prog 71 #[.slice ao n c] w fun e w'=>(∃ r:Bool,e=.returned (.bool r)/\(r=true↔Up f n))/\Gw w w':=by
 go_enter func71,ntmps71;go_wp2_with fail;go_loopg [3] n (fun gg s3 wr=>∃ i:Nat,s3=AI i/\1<=i/\(i<=n\/i=1)/\n-i<=gg/\ag (∀ j,j+1<i->f j<f (j+1))/\ag (Gw w wr))
 case atStart=>exact ⟨1,rfl,Nat.le_refl _,.inr rfl,by omega,fun j hj=>by omega,Gw.refl w⟩
 case round =>
  obtain ⟨i,rfl,h1,h2,h3,H4,G⟩:=hrel;by_cases ar:i<n
  ·obtain ⟨b,off,rfl,hb,hc⟩:=(h.gw G.o).cells (by omega)
   obtain ⟨m,hm⟩:∃ m:Nat,(i:Int)-1=m:=⟨i-1,by omega⟩
   have nj:m<n:=by omega
   have hw:=qu m (by omega)
   have c1:=hc i ar;have c0:=hc m nj;clear hc;generalize iu:f i=y1 at c1;generalize iv:f m=y0 at c0;have Y:ag (f i=y1/\f m=y0/\i=m+1):=⟨iu,iv,by omega⟩
   clear iu iv h h2;by_cases hle:y1<=y0
   ·go_wp2_with fail
    go_quiet (fail);go_wp2_with fail
    go_ret
    obtain ⟨e1,e2,e3⟩:=Y.o;refine ⟨⟨false,rfl,⟨fun hh=>Bool.noConfusion hh,fun hu=>?_⟩⟩,G.o.drewN _⟩
    have:=hu m (by omega)
    rw [<-e3,e1,e2] at this;omega
   ·go_wp2_with fail
    go_quiet (fail);go_wp2_with fail
    go_roundg (n-(m+2))
    case measure=>omega
    case rel =>
     obtain ⟨e1,e2,e3⟩:=Y.o;refine ⟨m+2,by go_num,by omega,by omega,Nat.le_refl _,(show ag _ from fun j hj=>?_),(show ag _ from G.o.drewN _)⟩
     by_cases kW:j=m
     ·subst kW;rw [e2,<-e3,e1];omega
     ·exact H4.o j (by omega)
  ·go_wp2_with fail
   go_ret
   exact ⟨⟨true,rfl,⟨fun _ j hj=>H4.o j (by omega),fun _=>rfl⟩⟩,G.o⟩
abbrev iN (a b d:Int):Prop:=b=0\/2305843009213693952<a*d/b
def CX:Prop:=∀ (a b c d:Int),0<=a->a<18446744073709551616->0<=b->b<18446744073709551616->0<=d->d<18446744073709551616->∀ w:World,
  Calls prog 166 #[.agg #[By a,By b,AI c],By d] w fun ex w'=>ex=.returned (.tuple #[AI (if iN a b d then 0 else a*d/b),.bool (!decide (iN a b d))])/\Gw w w'
structure sX (w:World) (ao:Option Addr) (l:List (Int×Int×Int)):Prop where
 cells:0<l.length->∃ b off,ao=some ⟨b,off,none⟩/\b<w.heap.size/\∀ i x,l[i]?=some x->w.cell? ⟨b,off+i*3,none⟩=some (AI x.1)/\w.cell? ⟨b,off+i*3+1,none⟩=some (By x.2.1)/\w.cell? ⟨b,off+i*3+2,none⟩=some (By x.2.2)
 bd:∀ x∈l,(-9223372036854775808<=x.1/\x.1<9223372036854775808)/\(0<=x.2.1/\x.2.1<18446744073709551616)/\0<=x.2.2/\x.2.2<18446744073709551616
theorem sX.gw {ao:Option Addr} {l:List (Int×Int×Int)} (h:sX w ao l) (g:Gw w w'):sX w' ao l :=
 ⟨fun h0=>by
  obtain ⟨b,off,e,hb,hc⟩:=h.cells h0;exact ⟨b,off,e,Nat.lt_of_lt_of_le hb g.size,fun i x hx=>by
   obtain ⟨c0,c1,c2⟩:=hc i x hx;exact ⟨(g.cell _ _ hb).trans c0,(g.cell _ _ hb).trans c1,(g.cell _ _ hb).trans c2⟩⟩,h.bd⟩
def nu (n:Int):Int:=(if n<0 then -(n+1) else n)%8
theorem Xd (n:Int) (h0:-9223372036854775808<=n) (h1:n<9223372036854775808) (w:World) :
  Calls prog 9 #[AI n] w fun e w'=>e=.returned (AI (nu n))/\w'=w:=by
 by_cases c:n<0
 ·have t1:decide (n<0)=true:=by simpa using c
  have w1:IntKind.i64.wrap (n+1)=n+1:=by rw [IntKind.wrap_i64];omega
  have w2:IntKind.i64.wrap (-(n+1))=-(n+1):=by rw [IntKind.wrap_i64];omega
  have w4:Int.tmod (-(n+1)) 8=(-(n+1))%8:=Int.tmod_eq_emod_of_nonneg (by omega)
  have w6:IntKind.i64.wrap ((-(n+1))%8)=(-(n+1))%8:=by rw [IntKind.wrap_i64];omega
  have R:nu n=(-(n+1))%8:=by unfold nu;rw [if_pos c]
  rw [R];clear R c;go_enter func9,ntmps9;go_wp2_with fail;go_ret;exact ⟨by first | rfl | (simp only [go_sem];rw [w4]) | rw [w4,w6] | simp [go_sem,w4,w6],rfl⟩
 ·have t1:decide (n<0)=false:=by simpa using c
  have w4:Int.tmod n 8=n%8:=Int.tmod_eq_emod_of_nonneg (by omega)
  have w6:IntKind.i64.wrap (n%8)=n%8:=by rw [IntKind.wrap_i64];omega
  have R:nu n=n%8:=by unfold nu;rw [if_neg c]
  rw [R];clear R c;go_enter func9,ntmps9;go_wp2_with fail;go_ret;exact ⟨by first | rfl | (simp only [go_sem];rw [w4]) | rw [w4,w6] | simp [go_sem,w4,w6],rfl⟩
def sh (f:Nat->Int) (i k:Nat):Int:=f (i+k)
def cV (e:Int) (f:Nat->Int) (n:Nat):Nat->List Nat->Prop
 | i,[]=>i=n
 | i,j::l=>i<j/\j<=n/\aY e (sh f i) (aB (j-i))/\(j<n->¬ aY e (sh f i) (aB (j+1-i)))/\cV e f n j l
def oI (eps:Int) (f:Nat->Int) (n:Nat) (l:List Nat) (err:Int):Prop :=
 (¬ (2<=eps/\eps<=64)/\l=[]/\err=1)\/((2<=eps/\eps<=64)/\¬ Up f n/\l=[]/\err=60)\/((2<=eps/\eps<=64)/\Up f n/\cV (eps-1) f n 0 l/\err=0)
theorem oJ {j:Nat} (u:Up f n) (h:j<=n):Up (sh f i) (j-i):=fun k hk=>u (i+k) (by omega)
theorem cV.len:∀ {i:Nat} {l:List Nat},cV e f n i l->i+l.length<=n:=by
 intro i l;induction l generalizing i with
 | nil=>intro h;have h':i=n:=h;simp;omega
 | cons j l ih =>
  rintro ⟨h1,h2,_,_,h5⟩;have:=ih h5;simp only [List.length_cons];omega
variable {l:List Nat}
theorem cV.nonempty (h:cV e f n i l) (hi:i<n):l≠[]:=by
 intro q;subst q;have h':i=n:=h;omega
def kX (i:Nat) (l:List Nat) (t:Nat):Nat:=match t with | 0=>i | t+1=>l.getD t 0
theorem cV.step:∀ {i:Nat} {l:List Nat},cV e f n i l->∀ t,t<l.length->kX i l t<l.getD t 0/\l.getD t 0<=n/\aY e (sh f (kX i l t)) (aB (l.getD t 0-kX i l t))/\(l.getD t 0<n->¬ aY e (sh f (kX i l t)) (aB (l.getD t 0+1-kX i l t)))/\cV e f n (l.getD t 0) (l.drop (t+1)):=by
 intro i l;induction l generalizing i with
 | nil=>intro _ t ht;simp at ht
 | cons j l ih =>
  rintro ⟨h1,h2,h3,h4,h5⟩ t ht;cases t with
  | zero=>exact ⟨h1,h2,h3,h4,h5⟩
  | succ t =>
   have:=ih h5 t (by simpa using ht)
   cases t with
   | zero=>exact this
   | succ t=>exact this
theorem cV.last (h:cV e f n i l) (t:Nat) (ht:t<l.length):l.getD t 0=n↔t+1=l.length:=by
 have s:=(h.step t ht).2.2.2.2;constructor
 ·intro q
  rw [q] at s;have:=s.len;simp at this;omega
 ·intro q
  have:l.drop (t+1)=[]:=by rw [q];simp
  rw [this] at s;exact s
theorem cV.few (he:0<=e) (u:Up f n) (h:cV e f n i l) (t:Nat) (ht:t<l.length) (hl:l.getD t 0<n):(2*e+1:Int)<=(l.getD t 0:Int)-kX i l t:=by
 obtain ⟨h1,h2,h3,h4,_⟩:=h.step t ht;by_cases q:((l.getD t 0+1-kX i l t:Nat):Int)<=2*e+1
 ·exact absurd (yW he (oJ u (by omega)) q) (h4 hl)
 ·omega
theorem cV.count (he:0<=e) (u:Up f n):∀ {i:Nat} {l:List Nat},cV e f n i l->i<n->((l.length:Int)-1)*(2*e+1)+1<=(n:Int)-i:=by
 intro i l;induction l generalizing i with
 | nil=>intro h hi;have h':i=n:=h;omega
 | cons j l ih =>
  intro h hi;by_cases hj:j<n
  ·have k:=h.few he u 0 (by simp) hj
   have k':(2*e+1:Int)<=(j:Int)-i:=k;have:=ih h.2.2.2.2 hj;simp only [List.length_cons];have e1:(((l.length+1:Nat):Int)-1)*(2*e+1)=((l.length:Int)-1)*(2*e+1)+(2*e+1):=by
    rw [show ((l.length+1:Nat):Int)-1=((l.length:Int)-1)+1 by omega,Int.add_mul,Int.one_mul]
   omega
  ·have ej:j=n:=by have:=h.2.1;omega
   have h5:=h.2.2.2.2;rw [ej] at h5;have:l=[]:=by
    cases l with
    | nil=>rfl
    | cons a l=>have:=h5.1;have:=h5.2.1;omega
   subst this;simp;omega
variable {t:TypeId}
theorem kY {b:Nat} {vs:Array Value} (h:w.heap[b]?=some (.cells vs t (0,0))):(w.setCell ⟨b,o,none⟩ u).heap[b]?=some (.cells (vs.setIfInBounds o u) t (0,0)):=by simp [World.setCell,Array.getElem?_modify,h]
abbrev eX (eps buf keys:Int):Prop:=(2<=eps/\eps<=64)/\(1<=buf/\buf<=4294967296)/\(1<=keys/\keys<=4294967296)/\2*keys+buf<=4294967296
def eO (eps buf keys:Int):Int:=if eX eps buf keys then 0 else 160
def iO (n:Int):Bool:=decide (1<=n)&&decide (n<=4294967296)
theorem yY (n:Int) (w:World):Calls prog 59 #[AI n] w fun e w'=>e=.returned (.bool (iO n))/\w'=w:=by
 by_cases a:1<=n
 ·by_cases b:n<=4294967296
  ·have t1:decide (1<=n)=true:=by simpa using a
   have t2:decide (n<=4294967296)=true:=by simpa using b
   have R:iO n=true:=by simp [iO,t1,t2]
   rw [R];clear R;go_enter func59,ntmps59;go_wp2_with fail;go_ret;exact ⟨rfl,rfl⟩
  ·have t1:decide (1<=n)=true:=by simpa using a
   have t2:decide (n<=4294967296)=false:=by simpa using b
   have R:iO n=false:=by simp [iO,t2]
   rw [R];clear R;go_enter func59,ntmps59;go_wp2_with fail;go_ret;exact ⟨rfl,rfl⟩
 ·have t1:decide (1<=n)=false:=by simpa using a
  have R:iO n=false:=by simp [iO,t1]
  rw [R];clear R;go_enter func59,ntmps59;go_wp2_with fail;go_ret;exact ⟨rfl,rfl⟩
theorem Xe (eps buf keys:Int) (w:World):Calls prog 32 #[.agg #[AI eps,AI buf,AI keys]] w fun e w'=>e=.returned (AI (eO eps buf keys))/\Gw w w':=by
 by_cases e1:eps<2
 ·have t1:decide (eps<2)=true:=by simpa using e1
  have R:eO eps buf keys=160:=if_neg fun h=>by obtain ⟨⟨h1,h2⟩,⟨h3,h4⟩,⟨h5,h6⟩,h7⟩:=h;omega
  rw [R];clear R;clear e1;go_enter func32,ntmps32;go_wp2_with fail;go_ret;exact ⟨rfl,(Gw.refl w).alloc _ _⟩
 ·have t1:decide (eps<2)=false:=by simpa using e1
  by_cases e2:64<eps
  ·have t2:decide (64<eps)=true:=by simpa using e2
   have R:eO eps buf keys=160:=if_neg fun h=>by obtain ⟨⟨h1,h2⟩,⟨h3,h4⟩,⟨h5,h6⟩,h7⟩:=h;omega
   rw [R];clear R;clear e1 e2;go_enter func32,ntmps32;go_wp2_with fail;go_ret;exact ⟨rfl,(Gw.refl w).alloc _ _⟩
  ·have t2:decide (64<eps)=false:=by simpa using e2
   by_cases e3:1<=buf/\buf<=4294967296
   ·have S1:∀ w:World,Calls prog 59 #[AI buf] w fun e w'=>e=.returned (.bool true)/\w'=w:=fun w=>by have:=yY buf w;rwa [show iO buf=true by simp [iO,e3.1,e3.2]] at this
    by_cases e4:1<=keys/\keys<=4294967296
    ·have S2:∀ w:World,Calls prog 59 #[AI keys] w fun e w'=>e=.returned (.bool true)/\w'=w:=fun w=>by have:=yY keys w;rwa [show iO keys=true by simp [iO,e4.1,e4.2]] at this
     have w1:IntKind.i64.wrap (2*keys)=2*keys:=by rw [IntKind.wrap_i64];omega
     have w2:IntKind.i64.wrap (2*keys+buf)=2*keys+buf:=by rw [IntKind.wrap_i64];omega
     by_cases e5:4294967296<2*keys+buf
     ·have t5:decide (4294967296<2*keys+buf)=true:=by simpa using e5
      have R:eO eps buf keys=160:=if_neg fun h=>by obtain ⟨⟨h1,h2⟩,⟨h3,h4⟩,⟨h5,h6⟩,h7⟩:=h;omega
      rw [R];clear R;clear e1 e2 e3 e4 e5;go_enter func32,ntmps32;go_wp2_with fail;refine (S1 _).mono ?_;rintro e u ⟨rfl,hw⟩;have jI:=hw.symm;subst jI;clear hw;go_wp2_with fail;refine (S2 _).mono ?_;rintro e u ⟨rfl,hw⟩;have jI:=hw.symm;subst jI;clear hw;go_wp2_with fail;go_ret;exact ⟨rfl,(Gw.refl w).alloc _ _⟩
     ·have t5:decide (4294967296<2*keys+buf)=false:=by simpa using e5
      have R:eO eps buf keys=0:=if_pos ⟨⟨by omega,by omega⟩,e3,e4,by omega⟩
      rw [R];clear R e1 e2 e3 e4 e5;go_enter func32,ntmps32;go_wp2_with fail;refine (S1 _).mono ?_;rintro e u ⟨rfl,hw⟩;have jI:=hw.symm;subst jI;clear hw;go_wp2_with fail;refine (S2 _).mono ?_;rintro e u ⟨rfl,hw⟩;have jI:=hw.symm;subst jI;clear hw;go_wp2_with fail;go_ret;exact ⟨rfl,(Gw.refl w).alloc _ _⟩
    ·have S2:∀ w:World,Calls prog 59 #[AI keys] w fun e w'=>e=.returned (.bool false)/\w'=w:=fun w=>by have:=yY keys w;rwa [show iO keys=false by simp only [iO,Bool.and_eq_false_iff,decide_eq_false_iff_not];omega] at this
     have R:eO eps buf keys=160:=if_neg fun h=>by obtain ⟨⟨h1,h2⟩,⟨h3,h4⟩,⟨h5,h6⟩,h7⟩:=h;omega
     rw [R];clear R;clear e1 e2 e3 e4;go_enter func32,ntmps32;go_wp2_with fail;refine (S1 _).mono ?_;rintro e u ⟨rfl,hw⟩;have jI:=hw.symm;subst jI;clear hw;go_wp2_with fail;refine (S2 _).mono ?_;rintro e u ⟨rfl,hw⟩;have jI:=hw.symm;subst jI;clear hw;go_wp2_with fail;go_ret;exact ⟨rfl,(Gw.refl w).alloc _ _⟩
   ·have S1:∀ w:World,Calls prog 59 #[AI buf] w fun e w'=>e=.returned (.bool false)/\w'=w:=fun w=>by have:=yY buf w;rwa [show iO buf=false by simp only [iO,Bool.and_eq_false_iff,decide_eq_false_iff_not];omega] at this
    have R:eO eps buf keys=160:=if_neg fun h=>by obtain ⟨⟨h1,h2⟩,⟨h3,h4⟩,⟨h5,h6⟩,h7⟩:=h;omega
    rw [R];clear R;clear e1 e2 e3;go_enter func32,ntmps32;go_wp2_with fail;refine (S1 _).mono ?_;rintro e u ⟨rfl,hw⟩;have jI:=hw.symm;subst jI;clear hw;go_wp2_with fail;go_ret;exact ⟨rfl,(Gw.refl w).alloc _ _⟩
theorem Xf (eps buf keys:Int) (w:World):Calls prog 75 #[.agg #[AI eps,AI buf,AI keys]] w fun e w'=>e=.returned (AI (eO eps buf keys))/\Gw w w':=by
 by_cases e1:eps<2
 ·have Kj:decide (eps<2)=true:=by simpa using e1
  have R:eO eps buf keys=160:=if_neg fun h=>by obtain ⟨⟨h1,h2⟩,⟨h3,h4⟩,⟨h5,h6⟩,h7⟩:=h;omega
  rw [R];clear R;clear e1;go_enter func75,ntmps75;go_wp2_with fail;go_ret;exact ⟨rfl,(Gw.refl w).alloc _ _⟩
 ·have Kj:decide (eps<2)=false:=by simpa using e1
  by_cases e2:64<eps
  ·have Xg:decide (64<eps)=true:=by simpa using e2
   have R:eO eps buf keys=160:=if_neg fun h=>by obtain ⟨⟨h1,h2⟩,⟨h3,h4⟩,⟨h5,h6⟩,h7⟩:=h;omega
   rw [R];clear R;clear e1 e2;go_enter func75,ntmps75;go_wp2_with fail;go_ret;exact ⟨rfl,(Gw.refl w).alloc _ _⟩
  ·have Xg:decide (64<eps)=false:=by simpa using e2
   by_cases e3:buf<1
   ·have Xh:decide (buf<1)=true:=by simpa using e3
    have R:eO eps buf keys=160:=if_neg fun h=>by obtain ⟨⟨h1,h2⟩,⟨h3,h4⟩,⟨h5,h6⟩,h7⟩:=h;omega
    rw [R];clear R;clear e1 e2 e3;go_enter func75,ntmps75;go_wp2_with fail;go_ret;exact ⟨rfl,(Gw.refl w).alloc _ _⟩
   ·have Xh:decide (buf<1)=false:=by simpa using e3
    by_cases e4:4294967296<buf
    ·have Xi:decide (4294967296<buf)=true:=by simpa using e4
     have R:eO eps buf keys=160:=if_neg fun h=>by obtain ⟨⟨h1,h2⟩,⟨h3,h4⟩,⟨h5,h6⟩,h7⟩:=h;omega
     rw [R];clear R;clear e1 e2 e3 e4;go_enter func75,ntmps75;go_wp2_with fail;go_ret;exact ⟨rfl,(Gw.refl w).alloc _ _⟩
    ·have Xi:decide (4294967296<buf)=false:=by simpa using e4
     by_cases e5:keys<1
     ·have Xj:decide (keys<1)=true:=by simpa using e5
      have R:eO eps buf keys=160:=if_neg fun h=>by obtain ⟨⟨h1,h2⟩,⟨h3,h4⟩,⟨h5,h6⟩,h7⟩:=h;omega
      rw [R];clear R;clear e1 e2 e3 e4 e5;go_enter func75,ntmps75;go_wp2_with fail;go_ret;exact ⟨rfl,(Gw.refl w).alloc _ _⟩
     ·have Xj:decide (keys<1)=false:=by simpa using e5
      by_cases e6:4294967296<keys
      ·have Xk:decide (4294967296<keys)=true:=by simpa using e6
       have R:eO eps buf keys=160:=if_neg fun h=>by obtain ⟨⟨h1,h2⟩,⟨h3,h4⟩,⟨h5,h6⟩,h7⟩:=h;omega
       rw [R];clear R;clear e1 e2 e3 e4 e5 e6;go_enter func75,ntmps75;go_wp2_with fail;go_ret;exact ⟨rfl,(Gw.refl w).alloc _ _⟩
      ·have Xk:decide (4294967296<keys)=false:=by simpa using e6
       have w1:IntKind.i64.wrap (2*keys)=2*keys:=by rw [IntKind.wrap_i64];omega
       have w2:IntKind.i64.wrap (2*keys+buf)=2*keys+buf:=by rw [IntKind.wrap_i64];omega
       by_cases e7:4294967296<2*keys+buf
       ·have t7:decide (4294967296<2*keys+buf)=true:=by simpa using e7
        have R:eO eps buf keys=160:=if_neg fun h=>by obtain ⟨⟨h1,h2⟩,⟨h3,h4⟩,⟨h5,h6⟩,h7⟩:=h;omega
        rw [R];clear R;clear e1 e2 e3 e4 e5 e6 e7;go_enter func75,ntmps75;go_wp2_with fail;go_ret;exact ⟨rfl,(Gw.refl w).alloc _ _⟩
       ·have t7:decide (4294967296<2*keys+buf)=false:=by simpa using e7
        have R:eO eps buf keys=0:=if_pos ⟨⟨by omega,by omega⟩,⟨by omega,by omega⟩,⟨by omega,by omega⟩,by omega⟩
        rw [R];clear R e1 e2 e3 e4 e5 e6 e7;go_enter func75,ntmps75;go_wp2_with fail;go_ret;exact ⟨rfl,(Gw.refl w).alloc _ _⟩
theorem Xl (a1 a0 b1 b0:Int):(a1*4294967296+a0)*(b1*4294967296+b0)=a1*b1*18446744073709551616+(a1*b0+a0*b1)*4294967296+a0*b0:=by
 rw [Int.add_mul,Int.mul_add,Int.mul_add,kV a1 4294967296 b1 4294967296,Int.mul_right_comm a1 4294967296 b0,<-Int.mul_assoc a0 b1 4294967296,Int.add_mul];omega
theorem yZ (hx:0<=x) (fP:x<4294967296) (hy:0<=y) (gO:y<4294967296):0<=x*y/\x*y<=18446744065119617025:=by
 refine ⟨Int.mul_nonneg hx hy,?_⟩;have h1:x*y<=4294967295*y:=Int.mul_le_mul_of_nonneg_right (by omega) hy
 omega
theorem uP (h:0<=x):x.tdiv 4294967296=x/4294967296:=Int.tdiv_eq_ediv_of_nonneg h
theorem y8 (h:0<=x):x.tmod 4294967296=x%4294967296:=Int.tmod_eq_emod_of_nonneg h
theorem wu (h:0<=x) (h':x<18446744073709551616):IntKind.u64.wrap x=x:=by rw [IntKind.wrap_u64];omega
theorem Xm (a b x0 x1 y0 y1 oK uQ uR uS t0 one t1 two t2 t3 t4 t5 t6 hi lo:Int)
  (r1:a.tmod 4294967296=x0) (r2:IntKind.u64.wrap (a.tdiv 4294967296)=x1) (r3:b.tmod 4294967296=y0) (r4:IntKind.u64.wrap (b.tdiv 4294967296)=y1)
  (r5:IntKind.u64.wrap (x0*y0)=oK) (r6:IntKind.u64.wrap (oK.tdiv 4294967296)=t0) (r7:IntKind.u64.wrap (x1*y0)=uQ) (r8:IntKind.u64.wrap (uQ+t0)=one)
  (r9:IntKind.u64.wrap (x0*y1)=uR) (uT:one.tmod 4294967296=t1) (r11:IntKind.u64.wrap (uR+t1)=two) (r12:IntKind.u64.wrap (x1*y1)=uS)
  (r13:IntKind.u64.wrap (one.tdiv 4294967296)=t2) (r14:IntKind.u64.wrap (uS+t2)=t3) (r15:IntKind.u64.wrap (two.tdiv 4294967296)=t4) (r16:IntKind.u64.wrap (t3+t4)=hi)
  (r17:IntKind.u64.wrap (two*4294967296)=t5) (r18:oK.tmod 4294967296=t6) (r19:IntKind.u64.wrap (t5+t6)=lo) (w:World) :
  Calls prog 152 #[By a,By b] w fun e w'=>e=.returned (.tuple #[By hi,By lo])/\w'=w:=by
 go_enter func152,ntmps152;go_wp2;go_ret2;exact ⟨rfl,rfl⟩
theorem Kk (a b:Int) (a0:0<=a) (a1:a<18446744073709551616) (b0:0<=b) (b1:b<18446744073709551616) (w:World) :
  Calls prog 152 #[By a,By b] w fun e w'=>e=.returned (.tuple #[By (a*b/18446744073709551616),By (a*b%18446744073709551616)])/\w'=w:=by
 obtain ⟨x0,Xn⟩:∃ x,a%4294967296=x:=⟨_,rfl⟩;obtain ⟨x1,Xo⟩:∃ x,a/4294967296=x:=⟨_,rfl⟩;obtain ⟨y0,iv⟩:∃ x,b%4294967296=x:=⟨_,rfl⟩;obtain ⟨y1,iu⟩:∃ x,b/4294967296=x:=⟨_,rfl⟩;have ea:a=x1*4294967296+x0:=by omega
 have eb:b=y1*4294967296+y0:=by omega
 have m:=Xl x1 x0 y1 y0;rw [<-ea,<-eb] at m;have Xp:=yZ (x:=x0) (y:=y0) (by omega) (by omega) (by omega) (by omega)
 have CY:=yZ (x:=x1) (y:=y0) (by omega) (by omega) (by omega) (by omega)
 have Xq:=yZ (x:=x0) (y:=y1) (by omega) (by omega) (by omega) (by omega)
 have CZ:=yZ (x:=x1) (y:=y1) (by omega) (by omega) (by omega) (by omega)
 obtain ⟨oK,Kl⟩:∃ p,x0*y0=p:=⟨_,rfl⟩;obtain ⟨uQ,Km⟩:∃ p,x1*y0=p:=⟨_,rfl⟩;obtain ⟨uR,Kn⟩:∃ p,x0*y1=p:=⟨_,rfl⟩;obtain ⟨uS,Ko⟩:∃ p,x1*y1=p:=⟨_,rfl⟩;rw [Kl] at Xp m;rw [Km] at CY m;rw [Kn] at Xq m;rw [Ko] at CZ m;obtain ⟨one,Xr⟩:∃ x,uQ+oK/4294967296=x:=⟨_,rfl⟩;obtain ⟨two,Xs⟩:∃ x,uR+one%4294967296=x:=⟨_,rfl⟩;generalize a*b=ab at m ⊢;refine Xm a b x0 x1 y0 y1 oK uQ uR uS (oK/4294967296) one (one%4294967296) two (one/4294967296) (uS+one/4294967296) (two/4294967296) (two*4294967296%18446744073709551616) (oK%4294967296) _ _
  (by rw [y8 a0];exact Xn) (by rw [uP a0,wu (by omega) (by omega)];exact Xo) (by rw [y8 b0];exact iv) (by rw [uP b0,wu (by omega) (by omega)];exact iu)
  (by rw [Kl,wu (by omega) (by omega)]) (by rw [uP (by omega),wu (by omega) (by omega)]) (by rw [Km,wu (by omega) (by omega)]) (by rw [Xr,wu (by omega) (by omega)])
  (by rw [Kn,wu (by omega) (by omega)]) (y8 (by omega)) (by rw [Xs,wu (by omega) (by omega)]) (by rw [Ko,wu (by omega) (by omega)])
  (by rw [uP (by omega),wu (by omega) (by omega)]) (by rw [wu (by omega) (by omega)]) (by rw [uP (by omega),wu (by omega) (by omega)]) (by rw [wu (by omega) (by omega)];omega)
  (by rw [IntKind.wrap_u64]) (y8 (by omega)) (by rw [IntKind.wrap_u64];omega) w
theorem uU (a b c d:Int) (a0:0<=a) (a1:a<18446744073709551616) (b0:0<=b) (b1:b<18446744073709551616) (c0:0<=c) (c1:c<18446744073709551616) (d0:0<=d) (d1:d<18446744073709551616) (w:World) :
  Calls prog 131 #[.agg #[By a,By b],.agg #[By c,By d]] w fun e w'=>(∃ r:Bool,e=.returned (.bool r)/\(r=true↔eM a b c d))/\Gw w w':=by
 have hG:=((Gw.refl w).alloc #[By a,By b] 198).alloc #[By c,By d] 198;have GG:ag _:=hG;clear hG;by_cases hb:b=0
 ·subst hb
  go_enter func131,ntmps131;go_wp2_with fail;go_ret;exact ⟨⟨false,by simp,by simp [eM]⟩,GG.o⟩
 ·have eP:(b == 0)=false:=by simpa using hb
  by_cases hd:d=0
  ·subst hd
   go_enter func131,ntmps131;go_wp2_with fail;go_ret;exact ⟨⟨true,by simp [hb],by simp [eM,hb]⟩,GG.o⟩
  ·have Xt:(d == 0)=false:=by simpa using hd
   go_enter func131,ntmps131;go_wp2_with fail;refine (Kk a d a0 a1 d0 d1 _).mono ?_;rintro e w1 ⟨rfl,rfl⟩;go_wp2_with fail;refine (Kk c b c0 c1 b0 b1 _).mono ?_;rintro e w1 ⟨rfl,rfl⟩;obtain ⟨xh,Kq⟩:∃ x,a*d/18446744073709551616=x:=⟨_,rfl⟩;obtain ⟨xl,qF⟩:∃ x,a*d%18446744073709551616=x:=⟨_,rfl⟩;obtain ⟨yh,Kr⟩:∃ x,c*b/18446744073709551616=x:=⟨_,rfl⟩;obtain ⟨yl,Ks⟩:∃ x,c*b%18446744073709551616=x:=⟨_,rfl⟩;rw [Kq,qF,Kr,Ks];have K:ag (eM a b c d↔(xh<yh\/(xh=yh/\xl<yl))):=by
    show eM a b c d↔_;unfold eM;constructor
    ·intro hh
     rcases hh with ⟨_,q⟩ | ⟨_,_,q⟩
     ·exact absurd q hd
     ·omega
    ·intro hh
     exact .inr ⟨hb,hd,by omega⟩
   clear Kq qF Kr Ks a0 a1 b0 b1 c0 c1 d0 d1;rcases Int.lt_trichotomy xh yh with q | q | q
   ·go_wp2_with fail
    go_ret
    exact ⟨⟨true,by simp,by rw [K.o];simp [q]⟩,GG.o⟩
   ·subst q
    go_wp2_with fail;go_ret
    exact ⟨⟨decide (xl<yl),by simp,by rw [K.o];simp⟩,GG.o⟩
   ·have q1:¬ xh<yh:=by omega
    have q2:(xh == yh)=false:=by simp;omega
    go_wp2_with fail;go_ret
    exact ⟨⟨false,by simp [q1],by rw [K.o];simp;omega⟩,GG.o⟩
structure sY (num den c d g:Int):Prop where
 g0:0<g
 ec:c*g=num
 ed:d*g=den
 low:Int.gcd c d=1
 c0:0<=c
 d1:1<=d
 cb:c<=num
 db:d<=den
theorem Xu (num den:Nat) (h0:0<den):sY num den ((num/num.gcd den:Nat):Int) ((den/num.gcd den:Nat):Int) (num.gcd den:Nat):=by
 have hg:0<num.gcd den:=Nat.gcd_pos_of_pos_right _ h0;have e1:num/num.gcd den*num.gcd den=num:=Nat.div_mul_cancel (Nat.gcd_dvd_left _ _);have e2:den/num.gcd den*num.gcd den=den:=Nat.div_mul_cancel (Nat.gcd_dvd_right _ _);refine ⟨by omega,by rw [<-Int.natCast_mul,e1],by rw [<-Int.natCast_mul,e2],?_,Int.natCast_nonneg _,?_,by have:=Nat.div_le_self num (num.gcd den);omega,by have:=Nat.div_le_self den (num.gcd den);omega⟩
 ·have:=Nat.coprime_div_gcd_div_gcd (m:=num) (n:=den) hg
  exact this
 ·have:0<den/num.gcd den:=Nat.div_pos (Nat.le_of_dvd h0 (Nat.gcd_dvd_right _ _)) hg
  omega
theorem Xv (num den:Nat) (hn:num<18446744073709551616) (hd:den<18446744073709551616) (h0:0<den) (w:World) :
  Calls prog 130 #[By num,By den] w fun e w'=>e=.returned (.agg #[By ((num/num.gcd den:Nat):Int),By ((den/num.gcd den:Nat):Int)])/\Gw w w':=by
 have hg:0<num.gcd den:=Nat.gcd_pos_of_pos_right _ h0;have h2:((num.gcd den:Int) == 0)=false:=by simp;omega
 have e1:(num:Int)/(num.gcd den:Nat)=((num/num.gcd den:Nat):Int):=(Int.natCast_ediv _ _).symm;have e2:(den:Int)/(num.gcd den:Nat)=((den/num.gcd den:Nat):Int):=(Int.natCast_ediv _ _).symm;have b1:num/num.gcd den<18446744073709551616:=Nat.lt_of_le_of_lt (Nat.div_le_self _ _) hn;have b2:den/num.gcd den<18446744073709551616:=Nat.lt_of_le_of_lt (Nat.div_le_self _ _) hd;generalize num/num.gcd den=a at *;generalize den/num.gcd den=b at *;generalize hG:num.gcd den=G at *;have Kt:ag _:=hG;clear hG;go_enter func130,ntmps130;go_wp2_with fail;go_loopg [5,6] den (fun gg p q wr=>∃ c d:Nat,p=By c/\q=By d/\c<18446744073709551616/\d<18446744073709551616/\d<=gg/\ag (Nat.gcd c d=G)/\wr=w.alloc (.cells #[By 0,By 0] 198))
 case atStart=>exact ⟨num,den,rfl,rfl,hn,hd,Nat.le_refl _,Kt,rfl⟩
 case round =>
  obtain ⟨c,d,rfl,rfl,hc,Xt,hgk,C4,rfl⟩:=hrel;by_cases h:d=0
  ·subst h
   obtain rfl:c=G:=by
    have:=C4.o
    rw [Nat.gcd_zero_right] at this;exact this
   clear C4 Kt;go_wp2_with fail;go_region
   all_goals
    go_wp2_with fail;refine bodyPost_ret (v:=.agg #[By a,By b]) (by simp [results,results130,go_sem]) rfl ⟨rfl,((Gw.refl w).alloc _ _).drew⟩
  ·have h1:((d:Int) == 0)=false:=by simp;omega
   have e3:(c:Int)%(d:Int)=((c%d:Nat):Int):=(Int.natCast_emod _ _).symm;have ar:c%d<d:=Nat.mod_lt _ (by omega)
   go_wp2_with fail;go_roundg (c%d)
   case measure=>omega
   case rel =>
    refine ⟨d,c%d,rfl,?_,by omega,by omega,Nat.le_refl _,?_,rfl⟩
    ·first | rfl | simp
    ·show Nat.gcd d (c%d)=G
     rw [<-C4.o,Nat.gcd_comm c d,Nat.gcd_rec d c,Nat.gcd_comm]
theorem y9 (num den:Int) (n0:0<=num) (hn:num<18446744073709551616) (d0:0<den) (hd:den<18446744073709551616) (w:World) :
  Calls prog 130 #[By num,By den] w fun e w'=>(∃ c d g,e=.returned (.agg #[By c,By d])/\sY num den c d g)/\Gw w w':=by
 obtain ⟨a,rfl⟩:∃ a:Nat,num=a:=⟨num.toNat,by omega⟩
 obtain ⟨b,rfl⟩:∃ b:Nat,den=b:=⟨den.toNat,by omega⟩
 refine (Xv a b (by omega) (by omega) (by omega) w).mono ?_
 rintro e w' ⟨rfl,g⟩;exact ⟨⟨_,_,_,rfl,Xu a b (by omega)⟩,g⟩
def Bx (w:World) (b:Nat) (t:TypeId) (u v:Value):Prop:=w.heap[b]?=some (.cells #[u,v] t (0,0))
theorem Bx.lt {b:Nat} (h:Bx w b t u v):b<w.heap.size:=(Array.getElem?_eq_some_iff.1 h).1
theorem Bx.c0 {b:Nat} (h:Bx w b t u v):w.cell? ⟨b,0,none⟩=some u:=by unfold Bx at h;simp [World.cell?,h]
theorem Bx.c1 {b:Nat} (h:Bx w b t u v):w.cell? ⟨b,1,none⟩=some v:=by unfold Bx at h;simp [World.cell?,h]
theorem Bx.fz {b:Nat} (h:Bx w b t u v) (o:Nat):w.frozen? ⟨b,o,none⟩=false:=by unfold Bx at h;simp [World.frozen?,h]
theorem Bx.gw {b:Nat} (h:Bx w b t u v) (g:Gw w w'):Bx w' b t u v:=(g.below.block b h.lt).trans h
theorem Bx.new (w:World) (t:TypeId) (u v:Value):Bx (w.alloc (.cells #[u,v] t)) w.heap.size t u v:=heap_alloc_new w _
theorem Bx.set {b:Nat} (h:Bx w b t u v) (u' v':Value):Bx ((w.setCell ⟨b,0,none⟩ u').setCell ⟨b,1,none⟩ v') b t u' v':=by
 unfold Bx at h ⊢;simp [World.setCell,Array.getElem?_modify,h]
theorem Bx.far {b:Nat} (h:Bx w b t u v) (x:Value) (hq:b≠q):Bx (w.setCell ⟨q,o,none⟩ x) b t u v:=(Go.Deep.blk_setCell_other _ _ _ _ hq).trans h
theorem Bx.alloc {b:Nat} (h:Bx w b t u v) (o:Obj):Bx (w.alloc o) b t u v:=(heap_alloc_old w o h.lt).trans h
theorem Bx.at {b b':Nat} (h:Bx w b t u v) (e:b=b'):Bx w b' t u v:=e▸h
structure RF (w:World) (p:Nat) (v:Value) (e:Int) (n:Nat) (f:Nat->Int) (a b c d:Int):Prop where
 blk:w.heap[p]?=some (.cells #[AI (e+1),v,By a,By b,By c,By d] 200 (0,0))
 own:w.ownsRow 0 42 1 v n ((List.range n).map fun i=>Value.int .u64 (f i))
 ne:∀ q,v.ownBlock=some q->q≠p
 up:Up f n
 bd:∀ i,i<n->0<=f i/\f i<18446744073709551616
 low:bK e f (aB n) a b
 top:di e f (aB n) c d
 fit:aY e f (aB n)
 e1:1<=e/\e<=63
 wd:(a<18446744073709551616/\b<18446744073709551616)/\(0<=c/\c<18446744073709551616)/\(0<=d/\d<18446744073709551616)
theorem RF.lt (h:RF w p v e n f a b c d):p<w.heap.size:=(Array.getElem?_eq_some_iff.1 h.blk).1
theorem RF.cells (h:RF w p v e n f a b c d) :
  w.cell? ⟨p,0,none⟩=some (AI (e+1))/\w.cell? ⟨p,1,none⟩=some v/\w.cell? ⟨p,2,none⟩=some (By a)/\w.cell? ⟨p,3,none⟩=some (By b)/\w.cell? ⟨p,4,none⟩=some (By c)/\w.cell? ⟨p,5,none⟩=some (By d):=by
 have:=h.blk
 refine ⟨?_,?_,?_,?_,?_,?_⟩<;>simp [World.cell?,this]
def dH (p:Nat) (v:Value) (q:Nat):Prop:=q=p\/v.ownBlock=some q
theorem RF.in (h:RF w p v e n f a b c d) (q:Nat) (hq:dH p v q):q<w.heap.size:=by
 rcases hq with rfl | hq
 ·exact h.lt
 ·exact (h.own.lt q hq).2
theorem RF.keep (h:RF w p v e n f a b c d) (k:∀ q,dH p v q->w'.heap[q]?=w.heap[q]?):RF w' p v e n f a b c d:=by
 refine ⟨(k p (.inl rfl)).trans h.blk,⟨h.own.1,?_⟩,h.ne,h.up,h.bd,h.low,h.top,h.fit,h.e1,h.wd⟩;rcases h.own.2 with q | ⟨g,cap,cur,rfl,hb,hh,r⟩
 ·exact .inl q
 ·exact .inr ⟨g,cap,cur,rfl,hb,(k g (.inr rfl)).trans hh,r⟩
theorem RF.gw (h:RF w p v e n f a b c d) (g:Gw w w'):RF w' p v e n f a b c d :=
 h.keep fun q hq=>g.below.block q (h.in q hq)
theorem RF.ks (h:RF w p v e n f a b c d):∃ ao cap,v=.slice ao n cap/\KS w ao n f:=by
 have ho:=h.own;rcases h.own.2 with ⟨rfl,rfl⟩ | ⟨g,cap,cur,rfl,_⟩
 ·exact ⟨none,0,rfl,⟨fun q=>by omega,h.bd⟩⟩
 ·exact ⟨_,cap,rfl,⟨fun q=>⟨g,0,rfl,(ho.lt g rfl).2,fun i hi=>by rw [Nat.zero_add,ho.cellAt i (by omega)];simp [hi]⟩,h.bd⟩⟩
theorem Xw (eps:Int) (h:¬ (2<=eps/\eps<=64)) (w:World) :
  Calls prog 107 #[AI eps] w fun e w'=>e=.returned (.tuple #[.pointer none,AI 1])/\Gw w w':=by
 by_cases h1:eps<2
 ·go_enter func107,ntmps107
  go_wp2_with fail;go_ret2
  exact ⟨rfl,Gw.refl w⟩
 ·have h2:64<eps:=by omega
  go_enter func107,ntmps107;go_wp2_with fail;go_ret2;exact ⟨rfl,Gw.refl w⟩
theorem Ku (eps:Int) (h1:2<=eps) (h2:eps<=64) (w:World) :
  Calls prog 107 #[AI eps] w fun e w'=>(∃ p,e=.returned (.tuple #[BY p,AI 0])/\w.heap.size<=p/\RF w' p (.slice none 0 0) (eps-1) 0 (fun _=>0) 0 1 1 0)/\Gw w w':=by
 have h3:¬ eps<2:=by omega
 have h4:¬ 64<eps:=by omega
 go_enter func107,ntmps107;go_wp2_with fail;go_ret2;refine ⟨⟨w.heap.size,rfl,Nat.le_refl _,⟨?_,World.ownsRow_nil _ _ _ _,(fun q hq=>by cases hq),(fun j hj=>by omega),(fun i hi=>by omega),WQ _ _ (by decide),WT _ _ (by decide),(fun i j i' j' s=>by have:=s.2;omega),by omega,by omega⟩⟩,(Gw.refl w).alloc _ _⟩
 rw [heap_alloc_new,show eps-1+1=eps by omega]
theorem Xx (h:RF w p v e n f a b c d) :
  Calls prog 132 #[BY p] w fun e w'=>e=.returned (.agg #[By a,By b])/\Gw w w':=by
 obtain ⟨_,_,c2,c3,_⟩:=h.cells;have hl:=h.lt;clear h;go_enter func132,ntmps132;go_wp2_with fail;refine bodyPost_ret (v:=.agg #[By a,By b]) (by simp [results,results132,go_sem]) rfl ⟨rfl,(Gw.refl w).alloc _ _⟩
def aq (v:Int):Int:=(v/18446744073709551616+9223372036854775808)%18446744073709551616-9223372036854775808
def av (v:Int):Int:=v%18446744073709551616
theorem Kv (v:Int):-9223372036854775808<=aq v/\aq v<9223372036854775808:=by
 unfold aq;omega
theorem qG (v:Int):0<=av v/\av v<18446744073709551616:=by
 unfold av;omega
def sv (v:Int):Int:=aq v*18446744073709551616+av v
theorem sZ (v:Int):sv v=(v+170141183460469231731687303715884105728)%340282366920938463463374607431768211456-170141183460469231731687303715884105728:=by
 unfold sv aq av;omega
theorem oL (v:Int) (h0:-170141183460469231731687303715884105728<=v) (h1:v<170141183460469231731687303715884105728):sv v=v:=by
 rw [sZ];omega
theorem Xy (a b:Int):IntKind.u64.wrap a*b%18446744073709551616=av (a*b):=by
 rw [IntKind.wrap_u64];unfold av;exact (by rw [Int.mul_emod (a%18446744073709551616) b,Int.emod_emod_of_dvd a (Int.dvd_refl _),<-Int.mul_emod])
theorem Xz (a b:Int) (h0:-9223372036854775808<=a) (h1:a<9223372036854775808) (hn:a<0) :
  wrap64 (IntKind.u64.wrap (IntKind.u64.wrap a*b/18446744073709551616-b))=aq (a*b):=by
 have e:IntKind.u64.wrap a=a+18446744073709551616:=by rw [IntKind.wrap_u64];omega
 rw [e,Int.add_mul,IntKind.wrap_u64];generalize a*b=p;unfold wrap64 aq;omega
theorem XA (a b:Int):wrap64 (a*b/18446744073709551616)=aq (a*b):=by
 unfold wrap64 aq;omega
def bM (a b:Int):Int:=if a<b then -1 else if a=b then 0 else 1
theorem XB (x y:Int):(aq x=aq y/\av x=av y)↔sv x=sv y:=by
 unfold sv;have:=qG x;have:=qG y;constructor
 ·intro ⟨a,b⟩;rw [a,b]
 ·intro h;omega
theorem XC (x y:Int):sv x<sv y↔(aq x<aq y\/(aq x=aq y/\av x<av y)):=by
 unfold sv;have:=qG x;have:=qG y;omega
def dg (x:Int) (i:Nat):Int:=x/65536^i%65536
def cr (x y:Int) (k:Nat):Int:=(x%65536^k+y%65536^k)/65536^k
theorem ay (x:Int) (i:Nat):0<=dg x i/\dg x i<65536:=by unfold dg;omega
theorem XD (x:Int):av x%65536=dg x 0/\av x/65536%65536=dg x 1/\av x/65536/65536%65536=dg x 2/\av x/65536/65536/65536%65536=dg x 3:=by
 unfold dg av;omega
theorem XE (x:Int):IntKind.u64.wrap (aq x)%65536=dg x 4/\IntKind.u64.wrap (aq x)/65536%65536=dg x 5/\IntKind.u64.wrap (aq x)/65536/65536%65536=dg x 6/\IntKind.u64.wrap (aq x)/65536/65536/65536%65536=dg x 7:=by
 rw [IntKind.wrap_u64];unfold dg aq;omega
theorem XF (x:Int):((dg x 3*65536+dg x 2)*65536+dg x 1)*65536+dg x 0=av x:=by unfold dg av;omega
theorem XG (x:Int):wrap64 (((dg x 7*65536+dg x 6)*65536+dg x 5)*65536+dg x 4)=aq x:=by unfold dg aq wrap64;omega
theorem pw (k:Nat):(0:Int)<65536^k:=Int.pow_pos (by decide)
theorem div_add (x y P:Int) (hP:0<P):(x+y)/P=x/P+y/P+(x%P+y%P)/P:=by
 have e1:=Int.mul_ediv_add_emod x P;have e2:=Int.mul_ediv_add_emod y P;have e:x+y=(x%P+y%P)+(x/P+y/P)*P:=by
  rw [Int.add_mul,Int.mul_comm (x/P),Int.mul_comm (y/P)];omega
 rw [e,Int.add_mul_ediv_right _ _ (by omega)]
 omega
theorem oM (x y:Int) (k:Nat):0<=cr x y k/\cr x y k<=1:=by
 unfold cr;have hP:=pw k;have a0:=Int.emod_nonneg x (b:=65536^k) (by omega)
 have a1:=Int.emod_lt_of_pos x hP;have b0:=Int.emod_nonneg y (b:=65536^k) (by omega)
 have b1:=Int.emod_lt_of_pos y hP;have h1:(x%65536^k+y%65536^k)/65536^k<2:=Int.ediv_lt_of_lt_mul hP (by omega)
 exact ⟨Int.ediv_nonneg (by omega) (by omega),by omega⟩
theorem XI (x y:Int):cr x y 0=0:=by unfold cr;simp
theorem oN (x y:Int) (k:Nat):(dg x k+dg y k+cr x y k)%65536=dg (x+y) k:=by
 unfold dg cr;rw [div_add x y _ (pw k)];generalize x/65536^k=p;generalize y/65536^k=q;omega
theorem za (x:Int) (k:Nat):x%65536^(k+1)=x%65536^k+65536^k*dg x k:=by
 unfold dg;rw [Int.pow_succ];have hP:=pw k;have e1:=Int.mul_ediv_add_emod x (65536^k);have e2:=Int.mul_ediv_add_emod x (65536^k*65536);have e3:=Int.mul_ediv_add_emod (x/65536^k) 65536;have e4:x/65536^k/65536=x/(65536^k*65536):=Int.ediv_ediv_of_nonneg (by omega)
 rw [e4] at e3;have e5:65536^k*(x/65536^k)=65536^k*(65536*(x/(65536^k*65536))+x/65536^k%65536):=by rw [e3]
 rw [Int.mul_add,<-Int.mul_assoc] at e5;omega
theorem oO (x y:Int) (k:Nat):(dg x k+dg y k+cr x y k)/65536=cr x y (k+1):=by
 have hP:=pw k;rw [cr,cr,za,za,Int.pow_succ];have e:x%65536^k+65536^k*dg x k+(y%65536^k+65536^k*dg y k)=(x%65536^k+y%65536^k)+(dg x k+dg y k)*65536^k:=by
  rw [Int.add_mul,Int.mul_comm (dg x k),Int.mul_comm (dg y k)];omega
 rw [e,<-Int.ediv_ediv_of_nonneg (by omega),Int.add_mul_ediv_right _ _ (by omega)]
 congr 1;omega
theorem oP (x:Int) (k:Nat):65535-dg x k=dg (-1-x) k:=by
 unfold dg;have hP:=pw k;have e1:=Int.mul_ediv_add_emod x (65536^k);have a0:=Int.emod_nonneg x (b:=65536^k) (by omega)
 have a1:=Int.emod_lt_of_pos x hP;have e:-1-x=(65536^k-1-x%65536^k)+(-1-x/65536^k)*65536^k:=by
  rw [Int.sub_mul,Int.mul_comm (x/65536^k)];omega
 have e2:(65536^k-1-x%65536^k)/65536^k=0:=Int.ediv_eq_zero_of_lt (by omega) (by omega)
 rw [e,Int.add_mul_ediv_right _ _ (by omega),e2]
 generalize x/65536^k=p;omega
def mc (a y:Int) (k:Nat):Int:=a*(y%65536^k)/65536^k
theorem oQ (a y:Int):mc a y 0=0:=by unfold mc;simp
theorem dy (a y:Int) (k:Nat) (a0:0<=a) (a1:a<65536):0<=mc a y k/\mc a y k<=65535:=by
 unfold mc;have hP:=pw k;have b0:=Int.emod_nonneg y (b:=65536^k) (by omega)
 have b1:=Int.emod_lt_of_pos y hP;have m0:0<=a*(y%65536^k):=Int.mul_nonneg a0 b0;have m1:a*(y%65536^k)<=65535*(y%65536^k):=Int.mul_le_mul_of_nonneg_right (by omega) b0
 have h1:a*(y%65536^k)/65536^k<65536:=Int.ediv_lt_of_lt_mul hP (by omega)
 exact ⟨Int.ediv_nonneg m0 (by omega),by omega⟩
theorem cw (a d:Int) (a0:0<=a) (a1:a<65536) (d0:0<=d) (d1:d<65536):0<=a*d/\a*d<=4294836225:=by
 have m1:a*d<=65535*d:=Int.mul_le_mul_of_nonneg_right (by omega) d0
 exact ⟨Int.mul_nonneg a0 d0,by omega⟩
theorem XJ (a y:Int) (k:Nat):a*y/65536^k=mc a y k+a*(y/65536^k):=by
 unfold mc;have hP:=pw k;have e:=Int.mul_ediv_add_emod y (65536^k);have e2:a*y=a*(y%65536^k)+a*(y/65536^k)*65536^k:=by
  have:a*y=a*(65536^k*(y/65536^k)+y%65536^k):=by rw [e]
  rw [this,Int.mul_add,Int.mul_comm (65536^k),<-Int.mul_assoc];omega
 rw [e2,Int.add_mul_ediv_right _ _ (by omega)]
theorem cx (a y:Int) (k:Nat):(a*dg y k+mc a y k)%65536=dg (a*y) k:=by
 unfold dg;rw [XJ];generalize mc a y k=c;generalize y/65536^k=q;have e:=Int.mul_ediv_add_emod q 65536;have e2:a*q=a*(q%65536)+a*(q/65536)*65536:=by
  have:a*q=a*(65536*(q/65536)+q%65536):=by rw [e]
  rw [this,Int.mul_add,Int.mul_comm 65536,<-Int.mul_assoc];omega
 omega
theorem cy (a y:Int) (k:Nat):(a*dg y k+mc a y k)/65536=mc a y (k+1):=by
 have hP:=pw k;rw [mc,mc,za,Int.pow_succ];have e:a*(y%65536^k+65536^k*dg y k)=a*(y%65536^k)+(a*dg y k)*65536^k:=by
  rw [Int.mul_add,Int.mul_comm (65536^k),<-Int.mul_assoc]
 rw [e,<-Int.ediv_ediv_of_nonneg (by omega),Int.add_mul_ediv_right _ _ (by omega)]
 congr 1;omega
theorem dA (z:Int) (i t:Nat) (h:t<i):dg (z*65536^i) t=0:=by
 unfold dg;obtain ⟨d,rfl⟩:∃ d,i=t+(d+1):=⟨i-t-1,by omega⟩
 rw [Int.pow_add,<-Int.mul_assoc,Int.mul_comm (z*65536^t),Int.mul_comm z,<-Int.mul_assoc,Int.mul_comm (65536^(d+1)*65536^t)];rw [<-Int.mul_assoc,Int.mul_ediv_cancel _ (by have:=pw t;omega),Int.pow_succ,<-Int.mul_assoc]
 exact Int.mul_emod_left _ _
theorem cB (z:Int) (i k:Nat):dg (z*65536^i) (i+k)=dg z k:=by
 unfold dg;rw [Int.pow_add,Int.mul_comm z,Int.mul_ediv_mul_of_pos _ _ (pw i)]
theorem C5 (z t:Int) (k:Nat) (h:k<8):dg (z+t*65536^8) k=dg z k:=by
 unfold dg;obtain ⟨d,hd⟩:∃ d,8=k+(d+1):=⟨8-k-1,by omega⟩
 have e:t*65536^8=(t*65536^d*65536)*65536^k:=by
  rw [hd,Int.pow_add,Int.pow_succ,Int.mul_comm (65536^k),<-Int.mul_assoc,<-Int.mul_assoc]
 rw [e,Int.add_mul_ediv_right _ _ (by have:=pw k;omega)]
 omega
theorem oR (x y:Int) (k:Nat) (h:k<8):dg (x%65536^8*y) k=dg (x*y) k:=by
 have e:=Int.mul_ediv_add_emod x (65536^8);have e2:x*y=x%65536^8*y+(x/65536^8*y)*65536^8:=by
  have:x*y=(65536^8*(x/65536^8)+x%65536^8)*y:=by rw [e]
  rw [this,Int.add_mul,Int.mul_comm (65536^8),Int.mul_assoc,Int.mul_comm (65536^8) y,<-Int.mul_assoc];omega
 rw [e2,C5 _ _ _ h]
theorem p2 (k:Nat):(0:Int)<2^k:=Int.pow_pos (by decide)
theorem C6 (k:Nat):(65536:Int)^k=2^(16*k):=by
 rw [Int.pow_mul];rfl
theorem XK (u:Int) (e:Nat):u/2^(e+1)=u/2^e/2:=by
 rw [Int.pow_succ,Int.ediv_ediv_of_nonneg (by have:=p2 e;omega)]
def qp (Q:Int) (t:Nat):Int:=Q/2^t*2^t
def rp (u d:Int) (t:Nat):Int:=u/2^t%d
def bt (u:Int) (e:Nat):Int:=u/2^e%2
theorem C7 (u:Int) (e:Nat):bt u e=0\/bt u e=1:=by unfold bt;omega
theorem zd (u d:Int) (t:Nat) (hd:0<d):0<=rp u d t/\rp u d t<d :=
 ⟨Int.emod_nonneg _ (by omega),Int.emod_lt_of_pos _ hd⟩
theorem Kw (u d:Int) (e:Nat) (hd:0<d) :
  (d<=2*rp u d (e+1)+bt u e->rp u d e=2*rp u d (e+1)+bt u e-d/\qp (u/d) e=qp (u/d) (e+1)+2^e) /\
  (2*rp u d (e+1)+bt u e<d->rp u d e=2*rp u d (e+1)+bt u e/\qp (u/d) e=qp (u/d) (e+1)):=by
 have hP:=p2 e;have hu:u/2^e=2*(u/2^(e+1))+bt u e:=by unfold bt;rw [XK];omega
 have swap:∀ t,u/d/2^t=u/2^t/d:=fun t=>by
  rw [Int.ediv_ediv_of_nonneg (by omega),Int.ediv_ediv_of_nonneg (by have:=p2 t;omega),Int.mul_comm]
 have bC:=C7 u e;obtain ⟨r0,r1⟩:=zd u d (e+1) hd;have ep:=Int.mul_ediv_add_emod (u/2^(e+1)) d;have er:u/2^(e+1)%d=rp u d (e+1):=rfl;rw [er] at ep;unfold qp;rw [swap,swap];generalize u/2^(e+1)/d=p at *;have XM:(2:Int)^(e+1)=2^e*2:=Int.pow_succ _ _;have e0:rp u d e=u/2^e%d:=rfl;have uV:u/2^e=(2*rp u d (e+1)+bt u e)+(2*p)*d:=by
  rw [hu,Int.mul_assoc,Int.mul_comm p d];omega
 rw [e0,uV,Int.add_mul_emod_self_right,Int.add_mul_ediv_right _ _ (by omega),XM]
 generalize rp u d (e+1)=r at *;generalize bt u e=b at *;constructor
 ·intro h
  have m:(2*r+b)%d=2*r+b-d:=by
   have:2*r+b=(2*r+b-d)+1*d:=by omega
   rw [this,Int.add_mul_emod_self_right,Int.emod_eq_of_lt (by omega) (by omega)];omega
  have q:(2*r+b)/d=1:=by
   have:2*r+b=(2*r+b-d)+1*d:=by omega
   rw [this,Int.add_mul_ediv_right _ _ (by omega),Int.ediv_eq_zero_of_lt (by omega) (by omega)];omega
  refine ⟨m,?_⟩;rw [q,Int.add_mul,Int.mul_comm (2^e) 2,<-Int.mul_assoc,Int.mul_comm p 2];omega
 ·intro h
  refine ⟨Int.emod_eq_of_lt (by omega) h,?_⟩
  rw [Int.ediv_eq_zero_of_lt (by omega) h,Int.mul_comm (2^e) 2,<-Int.mul_assoc,Int.mul_comm p 2];simp
theorem Da (b:Nat) (h:b<16):b=0\/b=1\/b=2\/b=3\/b=4\/b=5\/b=6\/b=7\/b=8\/b=9\/b=10\/b=11\/b=12\/b=13\/b=14\/b=15:=by omega
theorem Kx (u:Int) (i b:Nat) (h:b<16):dg u i/2^b%2=bt u (16*i+b):=by
 unfold dg bt;rw [C6,Int.pow_add,<-Int.ediv_ediv_of_nonneg (by have:=p2 (16*i);omega)]
 generalize u/2^(16*i)=v;rcases Da b h with rfl | rfl | rfl | rfl | rfl | rfl | rfl | rfl | rfl | rfl | rfl | rfl | rfl | rfl | rfl | rfl<;>simp<;>omega
theorem Ky (Q:Int) (i b:Nat) (h:b<16) (k:Nat) :
  dg (qp Q (16*i+b+1)+2^(16*i+b)) k=if k=i then dg (qp Q (16*i+b+1)) i+2^b else dg (qp Q (16*i+b+1)) k:=by
 unfold qp;generalize Q/2^(16*i+b+1)=c;unfold dg;rw [C6,C6];have he:(2:Int)^(16*i+b+1)=2^(16*i+b)*2:=Int.pow_succ _ _;rcases Nat.lt_trichotomy k i with hk | hk | hk
 ·rw [if_neg (by omega)]
  obtain ⟨m,rfl⟩:∃ m,i=k+1+m:=⟨i-k-1,by omega⟩
  have hf:(2:Int)^(16*(k+1+m)+b)=(2^(16*m+b)*65536)*2^(16*k):=by
   rw [show 16*(k+1+m)+b=(16*m+b)+16+16*k by omega,Int.pow_add,Int.pow_add];rfl
  have h1:c*2^(16*(k+1+m)+b+1)=(c*2*2^(16*m+b)*65536)*2^(16*k):=by
   rw [he,hf];generalize (2:Int)^(16*m+b)=A;generalize (2:Int)^(16*k)=B;rw [<-Int.mul_assoc,<-Int.mul_assoc,<-Int.mul_assoc,Int.mul_assoc (c*A*65536),Int.mul_comm B 2,<-Int.mul_assoc];congr 1;rw [Int.mul_assoc c 2,Int.mul_comm 2 A,<-Int.mul_assoc,Int.mul_assoc (c*A),Int.mul_comm 65536 2,<-Int.mul_assoc]
  rw [h1,hf,<-Int.add_mul,Int.mul_ediv_cancel _ (by have:=p2 (16*k);omega),Int.mul_ediv_cancel _ (by have:=p2 (16*k);omega)]
  omega
 ·subst hk
  rw [if_pos rfl];have hf:(2:Int)^(16*k+b)=2^b*2^(16*k):=by rw [Nat.add_comm,Int.pow_add]
  have h1:c*2^(16*k+b+1)=(c*2*2^b)*2^(16*k):=by
   rw [he,hf,Int.mul_comm (2^b*2^(16*k)) 2,<-Int.mul_assoc,<-Int.mul_assoc]
  rw [h1,hf,<-Int.add_mul,Int.mul_ediv_cancel _ (by have:=p2 (16*k);omega),Int.mul_ediv_cancel _ (by have:=p2 (16*k);omega)]
  rcases Da b h with rfl | rfl | rfl | rfl | rfl | rfl | rfl | rfl | rfl | rfl | rfl | rfl | rfl | rfl | rfl | rfl<;>simp<;>omega
 ·rw [if_neg (by omega)]
  obtain ⟨m,hm⟩:∃ m,16*k=(16*i+b+1)+m:=⟨16*k-(16*i+b+1),by omega⟩
  have hE:=p2 (16*i+b);have hZ:(2:Int)^(16*i+b)/2^(16*i+b+1)=0:=Int.ediv_eq_zero_of_lt (by omega) (by omega)
  rw [hm,Int.pow_add 2 (16*i+b+1) m,<-Int.ediv_ediv_of_nonneg (by have:=p2 (16*i+b+1);omega),<-Int.ediv_ediv_of_nonneg (by have:=p2 (16*i+b+1);omega),Int.add_comm,Int.add_mul_ediv_right _ _ (by have:=p2 (16*i+b+1);omega),
   hZ,Int.mul_ediv_cancel _ (by have:=p2 (16*i+b+1);omega),Int.zero_add]
theorem Kz (Q:Int) (h0:0<=Q) (h1:Q<2^128):qp Q 128=0:=by
 unfold qp;rw [Int.ediv_eq_zero_of_lt h0 h1];simp
theorem KD (u d:Int) (h0:0<=u) (h1:u<2^128):rp u d 128=0:=by
 unfold rp;rw [Int.ediv_eq_zero_of_lt h0 h1];simp
theorem KF (Q:Int):qp Q 0=Q:=by unfold qp;simp
theorem Db (u d:Int):rp u d 0=u%d:=by unfold rp;simp
theorem KG (b:Nat):(2:Int)^(b+1)/2=2^b:=by rw [Int.pow_succ];exact Int.mul_ediv_cancel _ (by decide)
theorem KH (b:Nat) (h:b<16):(2:Int)^b<=32768:=by
 rcases Da b h with rfl | rfl | rfl | rfl | rfl | rfl | rfl | rfl | rfl | rfl | rfl | rfl | rfl | rfl | rfl | rfl<;>decide
theorem KI {q r:Int} (r0:0<=r) (r1:r<b):(b*q+r)/b=q:=by
 rw [Int.add_comm,Int.add_mul_ediv_left _ _ (by omega),Int.ediv_eq_zero_of_lt r0 r1]
 omega
structure uW (num den d whole rest x y one a two b:Int):Prop where
 w0:0<=whole
 r0:0<=rest
 r1:rest<den
 ew:num=den*whole+rest
 ex:x=rest/2*d
 ey:y=rest/2*d+rest%2*d
 x0:0<=x
 y0:0<=y
 e1:x=den*one+a
 e2:y=den*two+b
 a0:0<=a
 a1:a<den
 b0:0<=b
 b1:b<den
 o0:0<=one
 t0:0<=two
 lt:one+two<=d
 xs:x<340282366920938463463374607431768211456
variable {num den:Int}
theorem XP (n0:0<=num) (n1:num<18446744073709551616) (d0:0<den) (d1:den<18446744073709551616) (f0:0<=d) (f1:d<18446744073709551616) :
  uW num den d (num/den) (num%den) (num%den/2*d) (num%den/2*d+num%den%2*d) (num%den/2*d/den) (num%den/2*d%den) ((num%den/2*d+num%den%2*d)/den) ((num%den/2*d+num%den%2*d)%den):=by
 have r0:=Int.emod_nonneg num (show den≠0 by omega)
 have r1:=Int.emod_lt_of_pos num d0;generalize hr:num%den=r at r0 r1;have q1:0<=r/2*d:=Int.mul_nonneg (by omega) f0
 have q2:0<=r%2*d:=Int.mul_nonneg (by omega) f0
 have ee:r/2*d+(r/2*d+r%2*d)=r*d:=by
  rw [<-Int.add_mul,<-Int.add_mul];congr 1;omega
 have up:r*d<=den*d:=Int.mul_le_mul_of_nonneg_right (by omega) f0
 have up2:r/2*d<=r*d:=Int.mul_le_mul_of_nonneg_right (by omega) f0
 have cY:den*d<=18446744073709551616*d:=Int.mul_le_mul_of_nonneg_right (by omega) f0
 have x1:=Int.emod_add_mul_ediv (r/2*d) den;have y1:=Int.emod_add_mul_ediv (r/2*d+r%2*d) den;have xa:=Int.emod_nonneg (r/2*d) (show den≠0 by omega)
 have xb:=Int.emod_lt_of_pos (r/2*d) d0;have ya:=Int.emod_nonneg (r/2*d+r%2*d) (show den≠0 by omega)
 have yb:=Int.emod_lt_of_pos (r/2*d+r%2*d) d0;refine ⟨Int.ediv_nonneg n0 (by omega),r0,r1,?_,rfl,rfl,q1,by omega,by omega,by omega,xa,xb,ya,yb,Int.ediv_nonneg q1 (by omega),Int.ediv_nonneg (by omega) (by omega),?_,by omega⟩
 ·have:=Int.emod_add_mul_ediv num den
  omega
 ·have e3:den*(r/2*d/den+(r/2*d+r%2*d)/den)<=den*d:=by
   rw [Int.mul_add];omega
  exact Int.le_of_mul_le_mul_left e3 d0
variable {whole:Int}
theorem uW.sum {rest one two:Int} (p:uW num den d whole rest x y one a two b) (d0:0<den):num*d/den=whole*d+(if den-b<=a then one+two+1 else one+two):=by
 have e:num*d=den*(whole*d+(one+two))+(a+b):=by
  have h1:num*d=den*(whole*d)+rest*d:=by rw [p.ew,Int.add_mul,Int.mul_assoc]
  have h2:rest*d=x+y:=by
   rw [p.ex,p.ey,<-Int.add_mul,<-Int.add_mul];congr 1;omega
  have h3:=p.e1;have h4:=p.e2;rw [h1,h2,h3,h4,Int.mul_add,Int.mul_add];omega
 have a0:=p.a0;have a1:=p.a1;have b0:=p.b0;have b1:=p.b1;split
 ·rename_i h
  have e':num*d=den*(whole*d+(one+two+1))+(a+b-den):=by
   have q:den*(whole*d+(one+two+1))=den*(whole*d+(one+two))+den:=by
    rw [<-Int.add_assoc (whole*d),Int.mul_add den _ 1,Int.mul_one]
   omega
  rw [e',KI (by omega) (by omega)]
 ·rename_i h
  rw [e,KI (by omega) (by omega)]
theorem uW.carry {rest one two:Int} (p:uW num den d whole rest x y one a two b) (d0:0<den) (k:den-b<=a):one+two+1<=d:=by
 have h2:rest*d=x+y:=by
  rw [p.ex,p.ey,<-Int.add_mul,<-Int.add_mul];congr 1;omega
 have dn:0<=d:=by have:=p.o0;have:=p.t0;have:=p.lt;omega
 have h3:rest*d<=den*d:=Int.mul_le_mul_of_nonneg_right (by have:=p.r1;omega) dn
 have h4:den*(one+two+1)<=den*d:=by
  have e1:=p.e1;have e2:=p.e2;rw [Int.mul_add,Int.mul_add,Int.mul_one];omega
 exact Int.le_of_mul_le_mul_left h4 d0
theorem KO (w0:0<whole) (d0:0<=d):2305843009213693952/whole<d↔2305843009213693952<whole*d:=by
 rw [Int.ediv_lt_iff_lt_mul w0,Int.mul_comm]
end Go.Proofs.YtcboobmfnmgldaaGreat
