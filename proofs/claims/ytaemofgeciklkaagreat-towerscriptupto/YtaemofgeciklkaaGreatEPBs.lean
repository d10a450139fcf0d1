import Derived.Test.YtaemofgeciklkaaGreatEA
import Derived.BigQuiet
import Derived.Deep.CondSized
import Derived.Deep.LoopGhost
import Derived.Deep.OwnRows
import Derived.Deep.RegionHeld3
import Derived.Test.YtaemofgeciklkaaGreatRows
import Derived.WalkLawsBesides
import Derived.WalkSpells
import Init
set_option linter.unusedVariables false
set_option maxHeartbeats 2000000
set_option maxRecDepth 10000
open Go.Proofs.Tryz
namespace Go.Proofs.YtaemofgeciklkaaGreat
open Go.RowKit
structure Gb (w w':World):Prop where
 below:Below w.heap.size w w'
 frozen:∀ a,w'.frozen? a=w.frozen? a
theorem Gb.refl (w:World):Gb w w:=⟨Below.refl _ _,fun _=>rfl⟩
theorem Gb.trans {a b c:World} (h:Gb a b) (k:Gb b c):Gb a c :=
 ⟨h.below.trans (k.below.mono h.below.size),fun x=>(k.frozen x).trans (h.frozen x)⟩
variable {w:World}
theorem Gb.alloc {a:World} (h:Gb a w) (c:Array Value) (t:TypeId):Gb a (w.alloc (.cells c t)) :=
 ⟨h.below.alloc h.below.size _,fun x=>(frozen?_alloc_cells _ _ _ x).trans (h.frozen x)⟩
theorem Gb.setCell {a:World} (h:Gb a w) {p:Addr} (hp:a.heap.size<=p.block) (v:Value):Gb a (w.setCell p v) :=
 ⟨h.below.setCell hp v,fun x=>(World.frozen?_setCell _ _ _ _).trans (h.frozen x)⟩
theorem Gb.drew {a:World} (h:Gb a w):Gb a w.drew:=⟨h.below.drew,h.frozen⟩
variable {w':World}
theorem Gb.cell (h:Gb w w') (b o:Nat) (hb:b<w.heap.size):w'.cell? (φ b o)=w.cell? (φ b o):=h.below.cell (p:=⟨b,o,none⟩) hb
theorem Gb.size (h:Gb w w'):w.heap.size<=w'.heap.size:=h.below.size
variable {W:World}
theorem Gb.facts (h:Gb W w'):(∀ b o,b<W.heap.size->w'.cell? (φ b o)=W.cell? (φ b o))/\(∀ a,w'.frozen? a=W.frozen? a) :=
 ⟨fun b o hb=>h.cell b o hb,h.frozen⟩
theorem fL (w:World) (b o:Nat) (h:w.heap.size<=b):w.frozen? (φ b o)=false:=by
 have e:w.heap[b]?=none:=by simp;omega
 simp [World.frozen?,e]
structure Gk (k:Nat) (w w':World):Prop where
 gb:Gb w w'
 grew:w'.heap.size=w.heap.size+k
theorem Gk.facts {k:Nat} (h:Gk k W w'):(∀ b o,b<W.heap.size->w'.cell? (φ b o)=W.cell? (φ b o))/\(∀ a,w'.frozen? a=W.frozen? a)/\w'.heap.size=W.heap.size+k :=
 ⟨fun b o hb=>h.gb.cell b o hb,h.gb.frozen,h.grew⟩
structure H2 (w:World) (b:Nat) (u v:Value):Prop where
 lt:b<w.heap.size
 c0:w.cell? (φ b 0)=some u
 c1:w.cell? (φ b 1)=some v
variable {u v:Value}
theorem H2.gb {b:Nat} (h:H2 w b u v) (g:Gb w w'):H2 w' b u v :=
 ⟨Θ h.lt g.size,(g.cell b 0 h.lt).trans h.c0,(g.cell b 1 h.lt).trans h.c1⟩
theorem H2.new (w:World) (u v:Value) (t:TypeId):H2 (w.alloc (.cells #[u,v] t)) w.heap.size u v :=
 ⟨ε,by simp [go_sem],by simp [go_sem]⟩
theorem H2.at {b:Nat} (h:H2 w b u v) (b':Nat) (e:b=b'):H2 w b' u v:=e▸h
theorem H2.alloc {b:Nat} (h:H2 w b u v) (o:Obj):H2 (w.alloc o) b u v :=
 ⟨Θ h.lt ε,(World.cell?_alloc_past _ _ _ h.lt).trans h.c0,(World.cell?_alloc_past _ _ _ h.lt).trans h.c1⟩
theorem Ax (n:Int):0<=IntKind.u64.wrap n/\IntKind.u64.wrap n<18446744073709551616:=by rw [qao];omega
theorem Gb.drewN {a:World} (h:Gb a w) (n:Nat):Gb a (w.drewN n):=⟨⟨h.below.os,h.below.tape,h.below.output,h.below.size,h.below.block⟩,h.frozen⟩
def Up (f:Nat->Int) (n:Nat):Prop:=∀ j,j+1<n->f j<f (j+1)
variable {f:Nat->Int} {n:Nat}
theorem Up.lt (h:Up f n):∀ {a b:Nat},a<b->b<n->f a<f b:=by
 intro a b cN hb;induction b with
 | zero=>omega
 | succ b ih =>
  have h1:=h b hb;by_cases e:a=b
  ·subst e;exact h1
  ·have h2:=ih ω ω
   omega
theorem Up.le (h:Up f n) {a b:Nat} (cN:a<=b) (hb:b<n):f a<=f b:=by
 by_cases e:a=b
 ·subst e;omega
 ·have:=h.lt (show a<b by omega) hb;omega
def dS (k v:Nat->Int) (g:Nat->Bool) (n:Nat) (e:Int):Prop :=
 (e=0/\Up k n/\∀ j,j<n->¬ (g j=true/\v j≠0)) \/
 (e=30/\∃ i,i+1<n/\Up k (i+1)/\(∀ j,j<i+1->¬ (g j=true/\v j≠0))/\k (i+1)<=k i) \/
 (e=31/\∃ i,i<n/\Up k (i+1)/\(∀ j,j<i->¬ (g j=true/\v j≠0))/\(g i=true/\v i≠0))
variable {k:Nat->Int} {g:Nat->Bool}
theorem dS.ok {v:Nat->Int} (u:Up k n) (b:∀ j,j<n->¬ (g j=true/\v j≠0)):dS k v g n 0:=.inl ⟨rfl,u,b⟩
theorem dS.order {v:Nat->Int} (i:Nat) (hi:i+1<n) (u:Up k (i+1)) (b:∀ j,j<i+1->¬ (g j=true/\v j≠0)) (d:k (i+1)<=k i):dS k v g n 30:=.inr (.inl ⟨rfl,i,hi,u,b,d⟩)
theorem dS.gone {v:Nat->Int} (i:Nat) (hi:i<n) (u:Up k (i+1)) (b:∀ j,j<i->¬ (g j=true/\v j≠0)) (d:g i=true/\v i≠0):dS k v g n 31:=.inr (.inr ⟨rfl,i,hi,u,b,d⟩)
variable {e:Int}
theorem dS.one {v:Nat->Int} {e':Int} (h:dS k v g n e) (h':dS k v g n e'):e=e':=by
 rcases h with ⟨e1,u,b⟩ | ⟨e1,i,hi,u,b,d⟩ | ⟨e1,i,hi,u,b,d⟩
 ·rcases h' with ⟨e2,u',b'⟩ | ⟨e2,i,hi,u',b',d⟩ | ⟨e2,i,hi,u',b',d⟩
  ·omega
  ·have:=u i hi;omega
  ·exact absurd d (b i hi)
 ·rcases h' with ⟨e2,u',b'⟩ | ⟨e2,j,hj,u',b',d'⟩ | ⟨e2,j,hj,u',b',d'⟩
  ·have:=u' i hi;omega
  ·omega
  ·rcases qaB j (i+1) with hh | hh
   ·exact absurd d' (b j hh)
   ·have:=u' i ω;omega
 ·rcases h' with ⟨e2,u',b'⟩ | ⟨e2,j,hj,u',b',d'⟩ | ⟨e2,j,hj,u',b',d'⟩
  ·exact absurd d (b' i hi)
  ·rcases qaB i (j+1) with hh | hh
   ·exact absurd d (b' i hh)
   ·have:=u j ω;omega
  ·omega
theorem dS.zero {v:Nat->Int} (h:dS k v g n e):e=0↔(Up k n/\∀ j,j<n->¬ (g j=true/\v j≠0)):=by
 constructor
 ·intro e0
  rcases h with ⟨_,u,b⟩ | ⟨e1,_⟩ | ⟨e1,_⟩
  ·exact ⟨u,b⟩
  ·omega
  ·omega
 ·intro ⟨u,b⟩
  exact h.one (.ok u b)
def lv (g:Nat->Bool):Nat->Nat
 | 0=>0
 | n+1=>lv g n+(if g n=true then 0 else 1)
structure Gw (w w':World):Prop where
 below:Below w.heap.size w w'
theorem Gw.refl (w:World):Gw w w:=⟨Below.refl _ _⟩
theorem Gw.trans {a b c:World} (h:Gw a b) (k:Gw b c):Gw a c :=
 ⟨h.below.trans (k.below.mono h.below.size)⟩
theorem Gw.alloc {a:World} (h:Gw a w) (c:Array Value) (t:TypeId):Gw a (w.alloc (.cells c t)) :=
 ⟨h.below.alloc h.below.size _⟩
theorem Gw.setCell {a:World} (h:Gw a w) {p:Addr} (hp:a.heap.size<=p.block) (v:Value):Gw a (w.setCell p v) :=
 ⟨h.below.setCell hp v⟩
theorem Gw.drew {a:World} (h:Gw a w):Gw a w.drew:=⟨h.below.drew⟩
theorem Gw.drewN {a:World} (h:Gw a w) (n:Nat):Gw a (w.drewN n):=by obtain ⟨q1⟩:=h;exact ⟨q1.trans ⟨rfl,rfl,rfl,Yk _,fun _ _=>rfl⟩⟩
theorem Gw.grown {a:World} {row:Option Nat} (h:Gw a w) (g:w.grownBy w' row) (hr:∀ k,row=some k->a.heap.size<=k):Gw a w' :=
 ⟨h.below.grown g h.below.size hr⟩
theorem Gw.cell (h:Gw w w') (b o:Nat) (hb:b<w.heap.size):w'.cell? (φ b o)=w.cell? (φ b o):=h.below.cell (p:=⟨b,o,none⟩) hb
theorem Gw.size (h:Gw w w'):w.heap.size<=w'.heap.size:=h.below.size
theorem Gb.gw (h:Gb w w'):Gw w w':=⟨h.below⟩
structure KS (w:World) (ao:Option Addr) (n:Nat) (f:Nat->Int):Prop where
 cells:0<n->∃ b off,ao=some (φ b off)/\b<w.heap.size/\∀ i,i<n->w.cell? (φ b (off+i))=some (BY (f i))
 bd:∀ i,i<n->0<=f i/\f i<18446744073709551616
theorem KS.gw {ao:Option Addr} (h:KS w ao n f) (g:Gw w w'):KS w' ao n f :=
 ⟨fun hn=>by
  obtain ⟨b,off,e,hb,hc⟩:=h.cells hn;exact ⟨b,off,e,Θ hb g.size,fun i hi=>(g.cell b (off+i) hb).trans (hc i hi)⟩,h.bd⟩
theorem sJ (m:Nat) (h:m<4611686018427387904):IntKind.i64.wrap (m:Int)=m:=by rw [Δ];omega
theorem Y3 {b t:Nat} {f:Nat->Value} (h:w.rowIs b t n f) (g:Gw w w'):w'.rowIs b t n f:=h.of_block (g.below.block _ h.lt)
theorem qF:(prog.info? 35).map (fun i=>(i.zero,i.size,i.bytes))=some (some (BY 0),1,8):=η
theorem qG {P:Program} (w:World) {ops:Array Oper} {rest:List Oper} {o:Oper} {a:Act} {Q:Exit->Act->World->Prop} (kT:o.guard=none) (s x:Operand) (t:TypeId)
  (ho:o.op=.call { callee:=.builtin .append,args:=#[s,x],argTypes:=#[t,t] })
  (base:Nat) (e:TypeId) (i:TypeInfo) (z:Value) (size bytes:Nat) (ht:P.underlying t=some (.slice e)) (hi:P.info? e=some i) (hz:i.zero=some z)
  (mL:i.size=size) (aJ:i.bytes=bytes) (mM:z.cells.size=size) (cF:0<size)
  (v:Value) (n:Nat) (xs:List Value) (hs:a.eval s=v) (fM:w.ownsRow base e size v n xs)
  (ao:Option Addr) (m c:Nat) (news:List Value) (hx:a.eval x=.slice ao m c) (sK:ao=none->m=0/\c=0) (hl:news.length=m*size) (jA:∀ ad,ao=some ad->∀ j u,news[j]?=some u->w.cell? (ad.add j)=some u) (h1:∀ u∈news,u.oneCell'=true)
  (mO:n+m<=maxLen) (mP:(n+m)*bytes<=140737488355328) (mQ:base<=w.heap.size)
  (h:∀ v' w',w'.ownsRow base e size v' (n+m) (xs++news)->w.grownBy w' v.ownBlock->(v'=.slice none 0 0↔v=.slice none 0 0/\m=0)->wpList P ops Q rest (a.put o.dst v') w'):wpList P ops Q (o::rest) a w:=by
 cases ao with
 | some ad=>exact wpList_append_own w kT s x t ho base e i z size bytes ht hi hz mL aJ mM cF v n xs hs fM ad m c news hx hl (jA ad rfl) h1 mO mP mQ h
 | none =>
  obtain ⟨rfl,rfl⟩:=sK rfl;have hn:news=[]:=qbd (by simpa using hl)
  subst hn;refine wpList_plain kT fun K Y4=>?_
  have qH:=run_append_owned_none (P:=P) w base t o.type e i size ht hi v n xs fM;unfold Oper.wp;simp [execOp,ho,resolve,invoke,builtin,hs,hx,qH,Result.andThen];exact Y4 _ _ (by simpa using h v w (by simpa using fM) (World.grownBy.refl _ _) ε)
theorem cJ {base e size:Nat} {xs:List Value} (h:w.ownsRow base e size v n xs) (hv:¬ v=.slice none 0 0):∃ g cap,v=ψ g 0 n cap/\base<=g/\n<=cap/\g<w.heap.size:=by
 rcases h.2 with ⟨e,_⟩ | ⟨g,cap,cur,rfl,hg,hh,xz,_⟩
 ·exact absurd e hv
 ·exact ⟨g,cap,rfl,hg,xz,(qab.1 hh).1⟩
theorem xA {base g cap:Nat} {xs:List Value} {m:Nat} (h:w.ownsRow base 35 1 (ψ g 0 m cap) m xs) (hn:n<=m) (hx:∀ i,i<n->xs[i]?=some (BY (f i))) (bd:∀ i,i<n->0<=f i/\f i<18446744073709551616):KS w (some (φ g 0)) n f :=
 ⟨fun h0=>⟨g,0,rfl,(h.lt g rfl).2,fun i hi=>by rw [qai,h.cellAt i ω,hx i hi]⟩,bd⟩
theorem uY (w:World) (x:Int):∀ j u,[Value.int .u64 x][j]?=some u->(w.alloc (.cells #[BY x] 35)).cell? ((⟨w.heap.size,0,none⟩:Addr).add j)=some u:=by
 intro j u hu;cases j with
 | zero =>
  simp only [List.getElem?_cons_zero,Option.some.injEq] at hu;subst hu;simp [Addr.add,go_sem]
 | succ j=>simp at hu
def fN (a b c d:Int):Prop:=(b≠0/\d=0)\/(b≠0/\d≠0/\a*d<c*b)
structure qI (f:Nat->Int) (S:Nat->Nat->Prop):Prop where
 lt:∀ i j,S i j->i<j
 pos:∀ i j,S i j->0<f j-f i
structure bM (e:Int) (f:Nat->Int) (S:Nat->Nat->Prop) (a b:Int):Prop where
 a0:0<=a
 b1:1<=b
 low:Int.gcd a b=1
 bound:∀ i j,S i j->((j:Int)-i-2*e)*b<=a*(f j-f i)
 att:a=0\/∃ i j,S i j/\0<(j:Int)-i-2*e/\((j:Int)-i-2*e)*b=a*(f j-f i)
def dG (e:Int) (f:Nat->Int) (S:Nat->Nat->Prop) (a b:Int):Prop :=
 (a=1/\b=0/\∀ i j,¬ S i j) \/
 (1<=a/\1<=b/\Int.gcd a b=1/\(∀ i j,S i j->a*(f j-f i)<=((j:Int)-i+2*e)*b)/\∃ i j,S i j/\a*(f j-f i)=((j:Int)-i+2*e)*b)
def aY (e:Int) (f:Nat->Int) (S:Nat->Nat->Prop):Prop :=
 ∀ i j i' j',S i j->S i' j'->((j:Int)-i-2*e)*(f j'-f i')<=((j':Int)-i'+2*e)*(f j-f i)
theorem mR (p q r s:Int):p*q*(r*s)=p*r*(q*s):=by rw [qaG,<-Int.mul_assoc q r s,qaa q r,qaG r q s,<-Int.mul_assoc]
variable {b a d:Int}
theorem MQ (h:Int.gcd a b=1) (hd:b ∣ a*d):b ∣ d:=by
 have h1:b.natAbs.Coprime a.natAbs:=by show Nat.gcd b.natAbs a.natAbs=1;rw [Nat.gcd_comm];exact h
 have h2:b.natAbs ∣ a.natAbs*d.natAbs:=by rw [<-Int.natAbs_mul];exact Int.natAbs_dvd_natAbs.2 hd
 exact Int.natAbs_dvd_natAbs.1 (h1.dvd_of_dvd_mul_left h2)
variable {c:Int}
theorem Y5 (a0:0<=a) (c0:0<=c) (b1:1<=b) (d1:1<=d) (h:Int.gcd a b=1) (k:Int.gcd c d=1) (e:a*d=c*b):a=c/\b=d:=by
 have hb:b ∣ d:=MQ h ⟨c,by rw [e,qaa]⟩
 have hd:d ∣ b:=MQ k ⟨a,by rw [<-e,qaa]⟩
 have Y6:b=d:=Int.dvd_antisymm ω ω hb hd;subst Y6;exact ⟨Int.eq_of_mul_eq_mul_right ω e,rfl⟩
variable {S T:Nat->Nat->Prop}
theorem MR (p:qI f S) (h:bM e f S a b) (k:bM e f T c d) (sub:∀ i j,S i j->T i j):a*d<=c*b:=by
 have hb:=h.b1;have hd:=k.b1;have hc:=k.a0;rcases h.att with h0 | ⟨i,j,s,m0,m1⟩
 ·subst h0
  have:0<=c*b:=qas hc ω
  omega
 ·have D:=p.pos i j s
  have k1:=k.bound i j (sub i j s);have e1:(a*d)*(f j-f i)=((j:Int)-i-2*e)*d*b:=by rw [qal,<-m1,qal]
  have e2:((j:Int)-i-2*e)*d*b<=c*(f j-f i)*b:=qae k1 ω;have e3:c*(f j-f i)*b=(c*b)*(f j-f i):=qal _ _ _;exact qaX (by rw [e1,<-e3];exact e2) D
theorem bM.one (p:qI f S) (h:bM e f S a b) (k:bM e f S c d):a=c/\b=d :=
 Y5 h.a0 k.a0 h.b1 k.b1 h.low k.low (Int.le_antisymm (MR p h k fun _ _ s=>s) (MR p k h fun _ _ s=>s))
theorem MU (he:0<=e) (p:qI f S) (h:bM e f S a b) (k:dG e f S c d):¬ fN c d a b↔aY e f S:=by
 have hb:=h.b1;have ha:=h.a0;constructor
 ·intro hn i j i' j' s s'
  have D:=p.pos i j s;have D':=p.pos i' j' s';have M':0<=(j':Int)-i'+2*e:=by have:=p.lt i' j' s';omega
  have R:0<=((j':Int)-i'+2*e)*(f j-f i):=qas M' ω;by_cases m0:(j:Int)-i-2*e<=0
  ·have:((j:Int)-i-2*e)*(f j'-f i')<=0:=by
    have:=qae m0 (show 0<=f j'-f i' by omega)
    omega
   omega
  ·rcases k with ⟨_,_,no⟩ | ⟨c1,d1,_,kb,_⟩
   ·exact absurd s (no i j)
   ·have hle:a*d<=c*b:=by
     rcases Int.lt_or_le (c*b) (a*d) with q | q
     ·exact absurd (.inr ⟨ω,ω,q⟩) hn
     ·exact q
    have h1:=h.bound i j s;have k1:=kb i' j' s';have s1:((j:Int)-i-2*e)*b*((f j'-f i')*d)<=a*(f j-f i)*((f j'-f i')*d):=qae h1 (qas ω ω);have s2:a*d*((f j-f i)*(f j'-f i'))<=c*b*((f j-f i)*(f j'-f i')):=qae hle (qas ω ω);have s3:c*(f j'-f i')*((f j-f i)*b)<=((j':Int)-i'+2*e)*d*((f j-f i)*b):=qae k1 (qas ω ω);have t1:((j:Int)-i-2*e)*b*((f j'-f i')*d)=((j:Int)-i-2*e)*(f j'-f i')*(b*d):=mR _ _ _ _;have t2:a*(f j-f i)*((f j'-f i')*d)=a*d*((f j-f i)*(f j'-f i')):=(by rw [qaa (f j'-f i') d,mR]);have t3:c*b*((f j-f i)*(f j'-f i'))=c*(f j'-f i')*((f j-f i)*b):=(by rw [qaa (f j-f i) (f j'-f i'),mR,qaa b]);have t4:((j':Int)-i'+2*e)*d*((f j-f i)*b)=((j':Int)-i'+2*e)*(f j-f i)*(b*d):=(by rw [mR,qaa d b]);have fin:((j:Int)-i-2*e)*(f j'-f i')*(b*d)<=((j':Int)-i'+2*e)*(f j-f i)*(b*d):=(by rw [<-t1,<-t4];refine Int.le_trans s1 ?_;rw [t2];refine Int.le_trans s2 ?_;rw [t3];exact s3);exact qaX fin (Int.mul_pos ω ω)
 ·intro hF hB
  rcases hB with ⟨_,q⟩ | ⟨_,_,q⟩
  ·omega
  ·rcases k with ⟨rfl,rfl,_⟩ | ⟨c1,d1,_,_,i',j',s',k1⟩
   ·omega
   ·rcases h.att with h0 | ⟨i,j,s,_,h1⟩
    ·subst h0
     have:0<=c*b:=qas ω ω
     omega
    ·have D:=p.pos i j s
     have D':=p.pos i' j' s';have h2:=hF i j i' j' s s';have s1:((j:Int)-i-2*e)*(f j'-f i')*(b*d)<=((j':Int)-i'+2*e)*(f j-f i)*(b*d):=qae h2 (qas ω ω);rw [mR,h1,qaa b d,mR ((j':Int)-i'+2*e),<-k1] at s1;have t1:a*(f j-f i)*((f j'-f i')*d)=a*d*((f j-f i)*(f j'-f i')):=(by rw [qaa (f j'-f i') d,mR]);have t2:c*(f j'-f i')*((f j-f i)*b)=c*b*((f j-f i)*(f j'-f i')):=(by rw [qaa (f j-f i) b,mR,qaa (f j'-f i')]);rw [t1,t2] at s1;have:=qaX s1 (Int.mul_pos D D');omega
def sM (S:Nat->Nat->Prop) (p q:Nat) (i j:Nat):Prop:=S i j\/(i=p/\j=q)
variable {p q:Nat}
theorem bM.skip (h:bM e f S a b) (hD:0<f q-f p) (m0:(q:Int)-p-2*e<=0):bM e f (sM S p q) a b:=by
 have hb:=h.b1;have ha:=h.a0;refine ⟨h.a0,h.b1,h.low,fun i j s=>?_,?_⟩
 ·rcases s with s | ⟨rfl,rfl⟩
  ·exact h.bound i j s
  ·have h1:=qae m0 (show 0<=b by omega)
   have h2:0<=a*(f j-f i):=qas ha ω;omega
 ·rcases h.att with h0 | ⟨i,j,s,r⟩
  ·exact .inl h0
  ·exact .inr ⟨i,j,.inl s,r⟩
theorem bM.keep {g:Int} (h:bM e f S a b) (g0:0<g) (d1:1<=d) (ec:c*g=(q:Int)-p-2*e) (ed:d*g=f q-f p) (hn:¬ fN a b c d):bM e f (sM S p q) a b:=by
 have hb:=h.b1;have ha:=h.a0;have hle:c*b<=a*d:=by
  rcases Int.lt_or_le (a*d) (c*b) with r | r
  ·exact absurd (.inr ⟨ω,ω,r⟩) hn
  ·exact r
 refine ⟨h.a0,h.b1,h.low,fun i j s=>?_,?_⟩
 ·rcases s with s | ⟨rfl,rfl⟩
  ·exact h.bound i j s
  ·rw [<-ec,<-ed,qal,<-Int.mul_assoc]
   exact qae hle ω
 ·rcases h.att with h0 | ⟨i,j,s,r⟩
  ·exact .inl h0
  ·exact .inr ⟨i,j,.inl s,r⟩
theorem bM.take {g:Int} (ps:qI f S) (h:bM e f S a b) (g0:0<g) (c1:1<=c) (d1:1<=d) (hg:Int.gcd c d=1) (ec:c*g=(q:Int)-p-2*e) (ed:d*g=f q-f p) (hB:fN a b c d):bM e f (sM S p q) c d:=by
 have hb:=h.b1;have ha:=h.a0;have hle:a*d<=c*b:=by rcases hB with ⟨_,r⟩ | ⟨_,_,r⟩<;>omega
 refine ⟨ω,d1,hg,fun i j s=>?_,.inr ⟨p,q,.inr ⟨rfl,rfl⟩,by rw [<-ec];exact Int.mul_pos ω g0,by rw [<-ec,<-ed,qal,<-Int.mul_assoc]⟩⟩
 rcases s with s | ⟨rfl,rfl⟩
 ·have h1:=h.bound i j s
  have D:=ps.pos i j s;have s1:((j:Int)-i-2*e)*b*d<=a*(f j-f i)*d:=qae h1 ω;have s2:a*d*(f j-f i)<=c*b*(f j-f i):=qae hle ω;have t1:a*(f j-f i)*d=a*d*(f j-f i):=qal _ _ _;have t2:c*b*(f j-f i)=c*(f j-f i)*b:=qal _ _ _;have t3:((j:Int)-i-2*e)*b*d=((j:Int)-i-2*e)*d*b:=qal _ _ _;rw [t3,t1] at s1;rw [t2] at s2;exact qaX (Int.le_trans s1 s2) ω
 ·rw [<-ec,<-ed,qal,<-Int.mul_assoc]
  exact qaH _
theorem dG.keep {g:Int} (h:dG e f S a b) (g0:0<g) (c1:1<=c) (d1:1<=d) (ec:c*g=(q:Int)-p+2*e) (ed:d*g=f q-f p) (hn:¬ fN c d a b):dG e f (sM S p q) a b:=by
 rcases h with ⟨rfl,rfl,_⟩ | ⟨a1,b1,hg,hb,i,j,s,r⟩
 ·exact absurd (.inl ⟨ω,rfl⟩) hn
 ·have hle:a*d<=c*b:=by
   rcases Int.lt_or_le (c*b) (a*d) with r | r
   ·exact absurd (.inr ⟨ω,ω,r⟩) hn
   ·exact r
  refine .inr ⟨a1,b1,hg,fun i j s=>?_,i,j,.inl s,r⟩
  rcases s with s | ⟨rfl,rfl⟩
  ·exact hb i j s
  ·rw [<-ec,<-ed,qal,<-Int.mul_assoc]
   exact qae hle ω
theorem dG.take {g:Int} (ps:qI f S) (h:dG e f S a b) (g0:0<g) (c1:1<=c) (d1:1<=d) (hg:Int.gcd c d=1) (ec:c*g=(q:Int)-p+2*e) (ed:d*g=f q-f p) (hB:fN c d a b):dG e f (sM S p q) c d:=by
 refine .inr ⟨c1,d1,hg,fun i j s=>?_,p,q,.inr ⟨rfl,rfl⟩,by rw [<-ec,<-ed,qal,<-Int.mul_assoc]⟩
 rcases s with s | ⟨rfl,rfl⟩
 ·rcases h with ⟨_,_,no⟩ | ⟨a1,b1,_,hb,_⟩
  ·exact absurd s (no i j)
  ·have hle:c*b<=a*d:=(by rcases hB with ⟨_,r⟩ | ⟨_,_,r⟩<;>omega);have h1:=hb i j s;have D:=ps.pos i j s;have s1:a*(f j-f i)*d<=((j:Int)-i+2*e)*b*d:=qae h1 ω;have s2:c*b*(f j-f i)<=a*d*(f j-f i):=qae hle ω;have t1:a*(f j-f i)*d=a*d*(f j-f i):=qal _ _ _;have t2:c*b*(f j-f i)=c*(f j-f i)*b:=qal _ _ _;have t3:((j:Int)-i+2*e)*b*d=((j:Int)-i+2*e)*d*b:=qal _ _ _;rw [t1,t3] at s1;rw [t2] at s2;exact qaX (Int.le_trans s2 s1) ω
 ·rw [<-ec,<-ed,qal,<-Int.mul_assoc]
  exact qaH _
def aC (n:Nat) (i j:Nat):Prop:=i<j/\j<n
def aG (f:Nat->Int) (n:Nat) (x:Int) (i:Nat):Int:=if i=n then x else f i
theorem eF (f:Nat->Int) (n:Nat) (x:Int):aG f n x n=x:=Ym rfl
variable {x:Int} {i:Nat}
theorem bJ (h:i<n):aG f n x i=f i:=Yl ω
theorem uZ (u:Up f n):qI f (aC n) :=
 ⟨fun i j s=>s.1,fun i j s=>by have:=u.lt s.1 s.2;omega⟩
theorem Fh (u:Up f n) (h:0<n->f (n-1)<x):Up (aG f n x) (n+1):=by
 intro j hj;by_cases e:j+1=n
 ·rw [e,eF,bJ ω]
  have:=h ω
  rw [show n-1=j by omega] at this
  exact this
 ·rw [bJ ω,bJ ω]
  exact u j ω
theorem bM.congr {g:Nat->Int} (h:bM e f S a b) (st:∀ i j,S i j↔T i j) (q:∀ i j,S i j->f j-f i=g j-g i):bM e g T a b :=
 ⟨h.a0,h.b1,h.low,fun i j s=>by rw [<-q i j ((st i j).2 s)];exact h.bound i j ((st i j).2 s),by
  rcases h.att with h0 | ⟨i,j,s,m,r⟩
  ·exact .inl h0
  ·exact .inr ⟨i,j,(st i j).1 s,m,by rw [<-q i j s];exact r⟩⟩
theorem dG.congr {g:Nat->Int} (h:dG e f S a b) (st:∀ i j,S i j↔T i j) (q:∀ i j,S i j->f j-f i=g j-g i):dG e g T a b:=by
 rcases h with ⟨h1,h2,no⟩ | ⟨a1,b1,hg,hb,i,j,s,r⟩
 ·exact .inl ⟨h1,h2,fun i j s=>no i j ((st i j).2 s)⟩
 ·exact .inr ⟨a1,b1,hg,fun i j s=>by rw [<-q i j ((st i j).2 s)];exact hb i j ((st i j).2 s),i,j,(st i j).1 s,by rw [<-q i j s];exact r⟩
theorem aY.congr {g:Nat->Int} (h:aY e f S) (st:∀ i j,T i j->S i j) (q:∀ i j,T i j->f j-f i=g j-g i):aY e g T :=
 fun i j i' j' s s'=>by rw [<-q i j s,<-q i' j' s'];exact h i j i' j' (st i j s) (st i' j' s')
def gM (n i:Nat) (p q:Nat):Prop:=(p<q/\q<n)\/(p<i/\q=n)
theorem MW (n:Nat) (p q:Nat):aC n p q↔gM n 0 p q:=by unfold aC gM;omega
theorem ph (n i:Nat) (p q:Nat):sM (gM n i) i n p q↔gM n (i+1) p q:=by unfold sM gM;omega
theorem MZ (n:Nat) (p q:Nat):gM n n p q↔aC (n+1) p q:=by unfold aC gM;omega
theorem Ay (u:Up f (n+1)) (hi:i<=n):qI f (gM n i) :=
 ⟨fun p q s=>by unfold gM at s;omega,fun p q s=>by
  have h1:p<q/\q<n+1:=by unfold gM at s;omega
  have:=u.lt h1.1 h1.2;omega⟩
def Fi (e:Int) (n:Nat) (f:Nat->Int) (x:Int) (ok:Bool) (err:Int):Prop :=
 (0<n/\x<=f (n-1)/\ok=false/\err=40)\/(¬ (0<n/\x<=f (n-1))/\err=0/\(ok=true↔aY e (aG f n x) (aC (n+1))))
theorem Az (he:0<=e) (u:Up f n) (hn:(n:Int)<=2*e+1):aY e f (aC n):=by
 intro i j i' j' s s';have p:=uZ u;have D:=p.pos i j s;have D':=p.pos i' j' s';have h1:(j:Int)-i-2*e<=0:=by have:=s.2;omega
 have h2:0<=(j':Int)-i'+2*e:=by have:=s'.1;omega
 have h3:=qae h1 (show 0<=f j'-f i' by omega)
 have h4:0<=((j':Int)-i'+2*e)*(f j-f i):=qas h2 ω;omega
theorem Y7 (e:Int) (f:Nat->Int) (hn:n<2):bM e f (aC n) 0 1 :=
 ⟨ω,ω,γ,fun i j s=>by have:=s.1;have:=s.2;omega,.inl rfl⟩
theorem Y8 (e:Int) (f:Nat->Int) (hn:n<2):dG e f (aC n) 1 0 :=
 .inl ⟨rfl,rfl,fun i j s=>by have:=s.1;have:=s.2;omega⟩
def AG (e:Int) (f:Nat->Int) (n:Nat) (a b:Int):Prop:=∀ i j,i<n->j<n->((i:Int)-j-2*e)*b<=a*(f i-f j)
theorem Y9 (he:0<=e) (b1:1<=b) (h1:∀ i j,aC n i j->((j:Int)-i-2*e)*b<=a*(f j-f i)) (h2:∀ i j,aC n i j->a*(f j-f i)<=((j:Int)-i+2*e)*b):AG e f n a b:=by
 intro i j hi hj;rcases Nat.lt_trichotomy i j with q | q | q
 ·have:=h2 i j ⟨q,hj⟩
  have e1:((i:Int)-j-2*e)*b=-(((j:Int)-i+2*e)*b):=by rw [<-Int.neg_mul];congr 1;omega
  have e2:a*(f i-f j)=-(a*(f j-f i)):=by rw [<-Int.mul_neg];congr 1;omega
  rw [e1,e2];omega
 ·subst q
  have:((i:Int)-i-2*e)*b<=0*b:=qae ω ω
  have e2:a*(f i-f i)=0:=by rw [Int.sub_self,Int.mul_zero]
  rw [e2];omega
 ·exact h1 j i ⟨q,hi⟩
theorem M3 {m:Nat} (h:aY e f (aC n)) (hm:m<=n):aY e f (aC m) :=
 h.congr (fun i j s=>⟨s.1,by have:=s.2;omega⟩) (fun _ _ _=>rfl)
def Y' (a b c d:Int):Prop:=b=0\/c < -2305843009213693952\/2305843009213693952<c\/2305843009213693952<a*d/b
def M4 (e:Int) (f:Nat->Int) (n:Nat) (a b c:Int):Prop:=∀ i,i<n->¬ Y' a b c (f i-f 0)/\(i:Int)-e<=a*(f i-f 0)/b+c/\a*(f i-f 0)/b+c<=(i:Int)+e
def Za (eps:Int) (f:Nat->Int) (n:Nat) (a b c:Int):Prop:=(2<=eps/\eps<=64)/\0<n/\Up f n/\M4 (eps-1) f n a b c
structure oa (e:Int) (f:Nat->Int) (n:Nat) (a b c:Int):Prop where
 ge:∀ i,i<n->(i:Int)-e<=a*(f i-f 0)/b+c
 att:∃ i,i<n/\(i:Int)-e=a*(f i-f 0)/b+c
theorem oa.one {c':Int} (h:oa e f n a b c) (k:oa e f n a b c'):c=c':=by obtain ⟨i,hi,ei⟩:=h.att;obtain ⟨j,hj,ej⟩:=k.att;have:=h.ge j hj;have:=k.ge i hi;omega
def eG (eps:Int) (f:Nat->Int) (n:Nat) (a b c err:Int):Prop :=
 (¬ (2<=eps/\eps<=64)/\a=0/\b=0/\c=0/\err=1) \/
 ((2<=eps/\eps<=64)/\¬ (0<n/\Up f n)/\a=0/\b=0/\c=0/\err=50) \/
 ((2<=eps/\eps<=64)/\(0<n/\Up f n)/\¬ aY (eps-1) f (aC n)/\a=0/\b=0/\c=0/\err=51) \/
 ((2<=eps/\eps<=64)/\(0<n/\Up f n)/\aY (eps-1) f (aC n)/\bM (eps-1) f (aC n) a b/\oa (eps-1) f n a b c/\err=0)
variable {eps:Int}
theorem eG.one {err a' b' c' M8:Int} (h:eG eps f n a b c err) (k:eG eps f n a' b' c' M8):(a=a'/\b=b'/\c=c')/\err=M8:=by
 rcases h with ⟨h1,rfl,rfl,rfl,rfl⟩ | ⟨h1,h2,rfl,rfl,rfl,rfl⟩ | ⟨h1,h2,h3,rfl,rfl,rfl,rfl⟩ | ⟨h1,h2,h3,h4,h5,rfl⟩
 ·rcases k with ⟨k1,rfl,rfl,rfl,rfl⟩ | ⟨k1,_⟩ | ⟨k1,_⟩ | ⟨k1,_⟩
  ·exact ⟨⟨rfl,rfl,rfl⟩,rfl⟩
  all_goals exact absurd k1 h1
 ·rcases k with ⟨k1,_⟩ | ⟨_,k2,rfl,rfl,rfl,rfl⟩ | ⟨_,k2,_⟩ | ⟨_,k2,_⟩
  ·exact absurd h1 k1
  ·exact ⟨⟨rfl,rfl,rfl⟩,rfl⟩
  all_goals exact absurd k2 h2
 ·rcases k with ⟨k1,_⟩ | ⟨_,k2,_⟩ | ⟨_,k2,k3,rfl,rfl,rfl,rfl⟩ | ⟨_,k2,k3,_⟩
  ·exact absurd h1 k1
  ·exact absurd h2 k2
  ·exact ⟨⟨rfl,rfl,rfl⟩,rfl⟩
  ·exact absurd k3 h3
 ·rcases k with ⟨k1,_⟩ | ⟨_,k2,_⟩ | ⟨_,k2,k3,_⟩ | ⟨_,k2,k3,k4,k5,rfl⟩
  ·exact absurd h1 k1
  ·exact absurd h2 k2
  ·exact absurd h3 k3
  ·obtain ⟨rfl,rfl⟩:=h4.one (uZ h2.2) k4
   exact ⟨⟨rfl,rfl,h5.one k5⟩,rfl⟩
variable {y:Int}
theorem Zb {k:Int} (b1:1<=b) (h:k*b<=x-y):k<=x/b-y/b:=by
 have hx:=Int.emod_add_mul_ediv x b;have hy:=Int.emod_add_mul_ediv y b;have rx:=qaN x (show b≠0 by omega)
 have rx':=qaO x (show 0<b by omega)
 have ry:=qaN y (show b≠0 by omega)
 have ry':=qaO y (show 0<b by omega)
 have key:(k-1)*b<(x/b-y/b)*b:=by
  have e1:(k-1)*b=k*b-b:=by rw [Int.sub_mul,Int.one_mul]
  have e2:(x/b-y/b)*b=b*(x/b)-b*(y/b):=by rw [Int.sub_mul,qaa,qaa (y/b)]
  omega
 have:=Int.lt_of_mul_lt_mul_right key ω
 omega
theorem Zc (he:0<=e) (b1:1<=b) (h:AG e f n a b) (B:oa e f n a b c):∀ i,i<n->(i:Int)-e<=a*(f i-f 0)/b+c/\a*(f i-f 0)/b+c<=(i:Int)+e:=by
 intro i hi;refine ⟨B.ge i hi,?_⟩;obtain ⟨j,hj,ej⟩:=B.att;have k:=h j i hj hi;have e1:a*(f j-f i)=a*(f j-f 0)-a*(f i-f 0):=by rw [<-Int.mul_sub];congr 1;omega
 rw [e1] at k;have:=Zb b1 k;omega
theorem xB (he:0<=e) (u:Up f n) (h:bM e f (aC n) a b) (hF:aY e f (aC n)) (hi:i<n):0<=a*(f i-f 0)/b/\a*(f i-f 0)/b<=(n:Int)+2*e:=by
 have b1:=h.b1;have d0:=u.le (Γ i) hi;refine ⟨qaY (qas h.a0 ω) ω,?_⟩;by_cases z:i=0
 ·subst z
  rw [Int.sub_self,Int.mul_zero,Int.zero_ediv];omega
 ·
  have p:=uZ u;have s:aC n 0 i:=⟨ω,hi⟩;have D:=p.pos 0 i s;have up:a*(f i-f 0)<=((i:Int)-(0:Nat)+2*e)*b:=by
   rcases h.att with q | ⟨i0,j0,s0,m0,r⟩
   ·rw [q,Int.zero_mul]
    exact qas ω ω
   ·have D0:=p.pos i0 j0 s0
    have k:=hF i0 j0 0 i s0 s;have k1:=qae k (show 0<=b by omega)
    rw [qal _ (f i-f 0) b,r,qal _ (f j0-f i0) b,qal a (f j0-f i0) (f i-f 0)] at k1;exact qaX k1 D0
  have:=Int.ediv_le_of_le_mul (show 0<b by omega) up
  omega
theorem M9 (k:2<=eps/\eps<=64) (u:Up f n) (n0:0<n) (hn:n<=100000000) (hF:aY (eps-1) f (aC n)) (h:bM (eps-1) f (aC n) a b) (nr:AG (eps-1) f n a b) (B:oa (eps-1) f n a b c):M4 (eps-1) f n a b c/\(-(eps-1)<=c/\c<=n):=by
 have b1:=h.b1;have Fj:=B.ge 0 n0;rw [Int.sub_self,Int.mul_zero,Int.zero_ediv] at Fj;obtain ⟨j,hj,ej⟩:=B.att;have sj:=xB ω u h hF hj;have hc:-(eps-1)<=c/\c<=n:=ω;refine ⟨fun i hi=>⟨fun q=>?_,Zc ω b1 nr B i hi⟩,hc⟩
 have si:=xB ω u h hF hi;rcases q with q | q | q | q<;>omega
theorem Na (he:0<=e) (u:Up f n) (h:bM e f (aC n) a b) (hF:aY e f (aC n)):AG e f n a b:=by
 have b1:=h.b1;have p:=uZ u;refine Y9 he b1 h.bound (fun i j s=>?_)
 rcases h.att with q | ⟨i0,j0,s0,m0,r⟩
 ·rw [q,Int.zero_mul]
  have:=s.1
  exact qas ω ω
 ·have D0:=p.pos i0 j0 s0
  have k:=hF i0 j0 i j s0 s;have k1:=qae k (show 0<=b by omega)
  rw [qal _ (f j-f i) b,r,qal _ (f j0-f i0) b,qal a (f j0-f i0) (f j-f i)] at k1;exact qaX k1 D0
structure Told (eps:Int) (f:Nat->Int) (n:Nat) (a b c:Int):Prop where
 e1:2<=eps
 e2:eps<=64
 n0:0<n
 up:Up f n
 fits:aY (eps-1) f (aC n)
 low:bM (eps-1) f (aC n) a b
 base:oa (eps-1) f n a b c
theorem eG.cases {err:Int} (h:eG eps f n a b c err):(¬ err=0/\a=0/\b=0/\c=0)\/(err=0/\Told eps f n a b c):=by
 rcases h with ⟨_,h1,h2,h3,rfl⟩ | ⟨_,_,h1,h2,h3,rfl⟩ | ⟨_,_,_,h1,h2,h3,rfl⟩ | ⟨k1,k2,k3,k4,k5,rfl⟩
 ·exact .inl ⟨γ,h1,h2,h3⟩
 ·exact .inl ⟨γ,h1,h2,h3⟩
 ·exact .inl ⟨γ,h1,h2,h3⟩
 ·exact .inr ⟨rfl,k1.1,k1.2,k2.1,k2.2,k3,k4,k5⟩
theorem Told.stays (h:Told eps f n a b c) (hn:n<=100000000):Za eps f n a b c/\(-(eps-1)<=c/\c<=n):=by
 have:=h.e1
 have s:=M9 ⟨h.e1,h.e2⟩ h.up h.n0 hn h.fits h.low (Na ω h.up h.low h.fits) h.base;exact ⟨⟨⟨h.e1,h.e2⟩,h.n0,h.up,s.1⟩,s.2⟩
def GW (W:World):Type:={ w':World // Gb W w' }
variable {o:Nat}
theorem GW.cell {b:Nat} (h:W.cell? (φ b o)=some v) (hb:b<W.heap.size):∀ g:GW W,g.1.cell? (φ b o)=some v :=
 fun g=>(g.2.cell b o hb).trans h
theorem GW.some (W:World):Nonempty (GW W):=⟨⟨W,Gb.refl W⟩⟩
variable {P:Program} {Q:Exit->Act->World->Prop}
theorem Zd {id:Nat} {a:Act} {l:List Oper} (hm:P.follows .mixedOrders=true) (hB:Region.lexB .any l.toArray=true)
  (h:wpQuiet P l.toArray (fun w'=>∃ g:GW w,w'=g.1) (fun a'=>∀ w',(∃ g:GW w,w'=g.1)->Q .normal a' w') l a):(Code.region id l.toArray true).wp P Q a w :=
 wp_region_quiet (C:=fun w'=>∃ g:GW w,w'=g.1) hm hB ⟨⟨_,(Gb.refl w).drew⟩,rfl⟩ (by simpa using h)
variable {args:Array Value}
theorem Ze {f:FuncId} {g:GW W}
  (h:Calls P f args g.1 fun e w'=>e=χ v/\Gb g.1 w'):Calls P f args g.1 fun e dW=>e=χ v/\∃ g':GW W,dW=g'.1 :=
 h.mono fun _ _ ⟨he,hm⟩=>⟨he,⟨_,g.2.trans hm⟩,rfl⟩
theorem Fk {f:FuncId} {g:GW W} {k:Nat}
  (h:Calls P f args g.1 fun e w'=>e=χ v/\Gk k g.1 w'):Calls P f args g.1 fun e dW=>e=χ v/\∃ g':GW W,dW=g'.1 :=
 Ze (h.mono fun _ _ ⟨he,hm⟩=>⟨he,hm.gb⟩)
theorem H2.drew {b:Nat} (h:H2 w b u v):H2 w.drew b u v:=⟨h.lt,h.c0,h.c1⟩
def GX (W:World):Type:={ w':World // Gw W w' }
theorem GX.cell {b:Nat} (h:W.cell? (φ b o)=some v) (hb:b<W.heap.size):∀ g:GX W,g.1.cell? (φ b o)=some v :=
 fun g=>(g.2.cell b o hb).trans h
theorem GX.gw (g:GX W):Gw W g.1:=g.2
theorem GX.some (W:World):Nonempty (GX W):=⟨⟨W,Gw.refl W⟩⟩
theorem od {id:Nat} {a:Act} {l:List Oper} (hm:P.follows .mixedOrders=true) (hB:Region.lexB .any l.toArray=true)
  (h:wpQuiet P l.toArray (fun w'=>∃ g:GX w,w'=g.1) (fun a'=>∀ w',(∃ g:GX w,w'=g.1)->Q .normal a' w') l a):(Code.region id l.toArray true).wp P Q a w :=
 wp_region_quiet (C:=fun w'=>∃ g:GX w,w'=g.1) hm hB ⟨⟨_,(Gw.refl w).drew⟩,rfl⟩ (by simpa using h)
theorem gO {f:FuncId} {g:GX W}
  (h:Calls P f args g.1 fun e w'=>e=χ v/\Gw g.1 w'):Calls P f args g.1 fun e dW=>e=χ v/\∃ g':GX W,dW=g'.1 :=
 h.mono fun _ _ ⟨he,hm⟩=>⟨he,⟨_,g.2.trans hm⟩,rfl⟩
theorem Fl (ao:Option Addr) (n c:Nat) (f:Nat->Int) (hn:n<4611686018427387904) (w:World) (h:KS w ao n f) :
  Calls prog 129 #[.slice ao n c] w fun e w'=>(∃ r:Bool,e=χ (.bool r)/\(r=true↔Up f n))/\Gw w w':=by
 go_enter func129,ntmps129;go_wp2_with fail;go_loopg [3] n (fun gg s3 wr=>∃ i:Nat,s3=By i/\1<=i/\(i<=n\/i=1)/\n-i<=gg/\ag (∀ j,j+1<i->f j<f (j+1))/\ag (Gw w wr))
 case atStart=>exact ⟨1,rfl,Yk _,.inr rfl,ω,fun j hj=>ω,Gw.refl w⟩
 case round =>
  obtain ⟨i,rfl,h1,h2,h3,H4,G⟩:=hrel;by_cases ar:i<n
  ·obtain ⟨b,off,rfl,hb,hc⟩:=(h.gw G.o).cells ω
   obtain ⟨m,hm⟩:∃ m:Nat,(i:Int)-1=m:=⟨i-1,ω⟩;have pj:m<n:=ω;have hw:=sJ m ω;have c1:=hc i ar;have c0:=hc m pj;clear hc;generalize iS:f i=y1 at c1;generalize iT:f m=y0 at c0;have Y:ag (f i=y1/\f m=y0/\i=m+1):=⟨iS,iT,ω⟩;clear iS iT h h2;by_cases hle:y1<=y0
   ·go_wp2_with fail
    go_quiet (fail);go_wp2_with fail
    go_ret
    obtain ⟨e1,e2,e3⟩:=Y.o;refine ⟨⟨false,rfl,⟨fun hh=>Bool.noConfusion hh,fun hu=>?_⟩⟩,G.o.drewN _⟩
    have:=hu m ω
    rw [<-e3,e1,e2] at this;omega
   ·go_wp2_with fail
    go_quiet (fail);go_wp2_with fail
    go_roundg (n-(m+2))
    case measure=>omega
    case rel =>
     obtain ⟨e1,e2,e3⟩:=Y.o;refine ⟨m+2,by go_num,ω,ω,Yk _,(show ag _ from fun j hj=>?_),(show ag _ from G.o.drewN _)⟩
     by_cases mT:j=m
     ·subst mT;rw [e2,<-e3,e1];omega
     ·exact H4.o j ω
  ·go_wp2_with fail
   go_ret
   exact ⟨⟨true,rfl,⟨fun _ j hj=>H4.o j ω,fun _=>rfl⟩⟩,G.o⟩
abbrev jB (a b d:Int):Prop:=b=0\/2305843009213693952<a*d/b
def Fm:Prop:=∀ (a b c d:Int),0<=a->a<18446744073709551616->0<=b->b<18446744073709551616->0<=d->d<18446744073709551616->∀ w:World,
  Calls prog 217 #[.agg #[BY a,BY b,By c],BY d] w fun ex w'=>ex=π #[By (if jB a b d then 0 else a*d/b),.bool (!decide (jB a b d))]/\Gw w w'
structure vd (w:World) (ao:Option Addr) (l:List (Int×Int×Int)):Prop where
 cells:0<l.length->∃ b off,ao=some (φ b off)/\b<w.heap.size/\∀ i x,l[i]?=some x->w.cell? (φ b (off+i*3))=some (By x.1)/\w.cell? (φ b (off+i*3+1))=some (BY x.2.1)/\w.cell? (φ b (off+i*3+2))=some (BY x.2.2)
 bd:∀ x∈l,(-9223372036854775808<=x.1/\x.1<9223372036854775808)/\(0<=x.2.1/\x.2.1<18446744073709551616)/\0<=x.2.2/\x.2.2<18446744073709551616
theorem vd.gw {ao:Option Addr} {l:List (Int×Int×Int)} (h:vd w ao l) (g:Gw w w'):vd w' ao l :=
 ⟨fun h0=>by
  obtain ⟨b,off,e,hb,hc⟩:=h.cells h0;exact ⟨b,off,e,Θ hb g.size,fun i x hx=>by
   obtain ⟨c0,c1,c2⟩:=hc i x hx;exact ⟨(g.cell _ _ hb).trans c0,(g.cell _ _ hb).trans c1,(g.cell _ _ hb).trans c2⟩⟩,h.bd⟩
def oh (n:Int):Int:=(if n<0 then -(n+1) else n)%8
theorem Zf (n:Int):0<=oh n/\oh n<8:=by unfold oh;omega
theorem Zg (n:Int) (h0:-9223372036854775808<=n) (h1:n<9223372036854775808) (w:World) :
  Calls prog 9 #[By n] w fun e w'=>e=χ (By (oh n))/\w'=w:=by
 by_cases c:n<0
 ·have t1:decide (n<0)=true:=by simpa using c
  have w1:IntKind.i64.wrap (n+1)=n+1:=by rw [Δ];omega
  have w2:IntKind.i64.wrap (-(n+1))=-(n+1):=by rw [Δ];omega
  have w4:Int.tmod (-(n+1)) 8=(-(n+1))%8:=Int.tmod_eq_emod_of_nonneg ω;have w6:IntKind.i64.wrap ((-(n+1))%8)=(-(n+1))%8:=by rw [Δ];omega
  have R:oh n=(-(n+1))%8:=by unfold oh;rw [Ym c]
  rw [R];clear R c;go_enter func9,ntmps9;go_wp2_with fail;go_ret;exact ⟨by first | rfl | (simp only [go_sem];rw [w4]) | rw [w4,w6] | simp [go_sem,w4,w6],rfl⟩
 ·have t1:decide (n<0)=false:=by simpa using c
  have w4:Int.tmod n 8=n%8:=Int.tmod_eq_emod_of_nonneg ω;have w6:IntKind.i64.wrap (n%8)=n%8:=by rw [Δ];omega
  have R:oh n=n%8:=by unfold oh;rw [Yl c]
  rw [R];clear R c;go_enter func9,ntmps9;go_wp2_with fail;go_ret;exact ⟨by first | rfl | (simp only [go_sem];rw [w4]) | rw [w4,w6] | simp [go_sem,w4,w6],rfl⟩
def sh (f:Nat->Int) (i k:Nat):Int:=f (i+k)
def dr (e:Int) (f:Nat->Int) (n:Nat):Nat->List Nat->Prop
 | i,[]=>i=n
 | i,j::l=>i<j/\j<=n/\aY e (sh f i) (aC (j-i))/\(j<n->¬ aY e (sh f i) (aC (j+1-i)))/\dr e f n j l
def qJ (eps:Int) (f:Nat->Int) (n:Nat) (l:List Nat) (err:Int):Prop :=
 (¬ (2<=eps/\eps<=64)/\l=[]/\err=1)\/((2<=eps/\eps<=64)/\¬ Up f n/\l=[]/\err=60)\/((2<=eps/\eps<=64)/\Up f n/\dr (eps-1) f n 0 l/\err=0)
theorem qK {j:Nat} (u:Up f n) (h:j<=n):Up (sh f i) (j-i):=fun k hk=>u (i+k) ω
theorem dr.len:∀ {i:Nat} {l:List Nat},dr e f n i l->i+l.length<=n:=by
 intro i l;induction l generalizing i with
 | nil=>intro h;have h':i=n:=h;simp;omega
 | cons j l ih =>
  rintro ⟨h1,h2,_,_,h5⟩;have:=ih h5;simp only [qak];omega
variable {l:List Nat}
theorem dr.nonempty (h:dr e f n i l) (hi:i<n):l≠[]:=by intro q;subst q;have h':i=n:=h;omega
def mU (i:Nat) (l:List Nat) (t:Nat):Nat:=match t with | 0=>i | t+1=>l.getD t 0
theorem dr.step:∀ {i:Nat} {l:List Nat},dr e f n i l->∀ t,t<l.length->mU i l t<l.getD t 0/\l.getD t 0<=n/\aY e (sh f (mU i l t)) (aC (l.getD t 0-mU i l t))/\(l.getD t 0<n->¬ aY e (sh f (mU i l t)) (aC (l.getD t 0+1-mU i l t)))/\dr e f n (l.getD t 0) (l.drop (t+1)):=by
 intro i l;induction l generalizing i with
 | nil=>intro _ t ht;simp at ht
 | cons j l ih =>
  rintro ⟨h1,h2,h3,h4,h5⟩ t ht;cases t with
  | zero=>exact ⟨h1,h2,h3,h4,h5⟩
  | succ t =>
   have:=ih h5 t (by simpa using ht)
   cases t with
   | zero=>exact this
   | succ t=>exact this
theorem dr.last (h:dr e f n i l) (t:Nat) (ht:t<l.length):l.getD t 0=n↔t+1=l.length:=by
 have s:=(h.step t ht).2.2.2.2;constructor
 ·intro q
  rw [q] at s;have:=s.len;simp at this;omega
 ·intro q
  have:l.drop (t+1)=[]:=by rw [q];simp
  rw [this] at s;exact s
theorem dr.few (he:0<=e) (u:Up f n) (h:dr e f n i l) (t:Nat) (ht:t<l.length) (hl:l.getD t 0<n):(2*e+1:Int)<=(l.getD t 0:Int)-mU i l t:=by
 obtain ⟨h1,h2,h3,h4,_⟩:=h.step t ht;by_cases q:((l.getD t 0+1-mU i l t:Nat):Int)<=2*e+1
 ·exact absurd (Az he (qK u ω) q) (h4 hl)
 ·omega
theorem dr.count (he:0<=e) (u:Up f n):∀ {i:Nat} {l:List Nat},dr e f n i l->i<n->((l.length:Int)-1)*(2*e+1)+1<=(n:Int)-i:=by
 intro i l;induction l generalizing i with
 | nil=>intro h hi;have h':i=n:=h;omega
 | cons j l ih =>
  intro h hi;by_cases hj:j<n
  ·have k:=h.few he u 0 ε hj
   have k':(2*e+1:Int)<=(j:Int)-i:=k;have:=ih h.2.2.2.2 hj;simp only [qak];have e1:(((l.length+1:Nat):Int)-1)*(2*e+1)=((l.length:Int)-1)*(2*e+1)+(2*e+1):=(by rw [show ((l.length+1:Nat):Int)-1=((l.length:Int)-1)+1 by omega,qaC,Int.one_mul]);omega
  ·have ej:j=n:=(by have:=h.2.1;omega);have h5:=h.2.2.2.2;rw [ej] at h5;have:l=[]:=by
    cases l with
    | nil=>rfl
    | cons a l=>have:=h5.1;have:=h5.2.1;omega
   subst this;simp;omega
variable {t:TypeId}
theorem ik {b:Nat} {vs:Array Value} (h:w.heap[b]?=some (.cells vs t (0,0))):(w.setCell (φ b o) u).heap[b]?=some (.cells (vs.setIfInBounds o u) t (0,0)):=by simp [World.setCell,Array.getElem?_modify,h]
abbrev fR (eps buf keys:Int):Prop:=(2<=eps/\eps<=64)/\(1<=buf/\buf<=4294967296)/\(1<=keys/\keys<=4294967296)/\2*keys+buf<=4294967296
def fO (eps buf keys:Int):Int:=if fR eps buf keys then 0 else 160
def jC (n:Int):Bool:=decide (1<=n)&&decide (n<=4294967296)
theorem AJ (n:Int) (w:World):Calls prog 68 #[By n] w fun e w'=>e=χ (.bool (jC n))/\w'=w:=by
 by_cases a:1<=n
 ·by_cases b:n<=4294967296
  ·have t1:decide (1<=n)=true:=(by simpa using a);have t2:decide (n<=4294967296)=true:=(by simpa using b);have R:jC n=true:=(by simp [jC,t1,t2]);rw [R];clear R;go_enter func68,ntmps68;go_wp2_with fail;go_ret;exact ⟨rfl,rfl⟩
  ·have t1:decide (1<=n)=true:=(by simpa using a);have t2:decide (n<=4294967296)=false:=(by simpa using b);have R:jC n=false:=(by simp [jC,t2]);rw [R];clear R;go_enter func68,ntmps68;go_wp2_with fail;go_ret;exact ⟨rfl,rfl⟩
 ·have t1:decide (1<=n)=false:=by simpa using a
  have R:jC n=false:=by simp [jC,t1]
  rw [R];clear R;go_enter func68,ntmps68;go_wp2_with fail;go_ret;exact ⟨rfl,rfl⟩
theorem Zh (eps buf keys:Int) (w:World):Calls prog 41 #[.agg #[By eps,By buf,By keys]] w fun e w'=>e=χ (By (fO eps buf keys))/\Gw w w':=by
 by_cases e1:eps<2
 ·have t1:decide (eps<2)=true:=by simpa using e1
  have R:fO eps buf keys=160:=Yl fun h=>by obtain ⟨⟨h1,h2⟩,⟨h3,h4⟩,⟨h5,h6⟩,h7⟩:=h;omega
  rw [R];clear R;clear e1;go_enter func41,ntmps41;go_wp2_with fail;go_ret;exact ⟨rfl,(Gw.refl w).alloc _ _⟩
 ·have t1:decide (eps<2)=false:=by simpa using e1
  by_cases e2:64<eps
  ·have t2:decide (64<eps)=true:=(by simpa using e2);have R:fO eps buf keys=160:=Yl fun h=>by obtain ⟨⟨h1,h2⟩,⟨h3,h4⟩,⟨h5,h6⟩,h7⟩:=h;omega
   rw [R];clear R;clear e1 e2;go_enter func41,ntmps41;go_wp2_with fail;go_ret;exact ⟨rfl,(Gw.refl w).alloc _ _⟩
  ·have t2:decide (64<eps)=false:=(by simpa using e2);by_cases e3:1<=buf/\buf<=4294967296
   ·have S1:∀ w:World,Calls prog 68 #[By buf] w fun e w'=>e=χ (.bool true)/\w'=w:=fun w=>by have:=AJ buf w;rwa [show jC buf=true by simp [jC,e3.1,e3.2]] at this
    by_cases e4:1<=keys/\keys<=4294967296
    ·have S2:∀ w:World,Calls prog 68 #[By keys] w fun e w'=>e=χ (.bool true)/\w'=w:=fun w=>by have:=AJ keys w;rwa [show jC keys=true by simp [jC,e4.1,e4.2]] at this
     have w1:IntKind.i64.wrap (2*keys)=2*keys:=(by rw [Δ];omega);have w2:IntKind.i64.wrap (2*keys+buf)=2*keys+buf:=(by rw [Δ];omega);by_cases e5:4294967296<2*keys+buf
     ·have t5:decide (4294967296<2*keys+buf)=true:=(by simpa using e5);have R:fO eps buf keys=160:=Yl fun h=>by obtain ⟨⟨h1,h2⟩,⟨h3,h4⟩,⟨h5,h6⟩,h7⟩:=h;omega
      rw [R];clear R;clear e1 e2 e3 e4 e5;go_enter func41,ntmps41;go_wp2_with fail;refine (S1 _).mono ?_;rintro e u ⟨rfl,hw⟩;have jD:=hw.symm;subst jD;clear hw;go_wp2_with fail;refine (S2 _).mono ?_;rintro e u ⟨rfl,hw⟩;have jD:=hw.symm;subst jD;clear hw;go_wp2_with fail;go_ret;exact ⟨rfl,(Gw.refl w).alloc _ _⟩
     ·have t5:decide (4294967296<2*keys+buf)=false:=(by simpa using e5);have R:fO eps buf keys=0:=Ym ⟨⟨ω,ω⟩,e3,e4,ω⟩;rw [R];clear R e1 e2 e3 e4 e5;go_enter func41,ntmps41;go_wp2_with fail;refine (S1 _).mono ?_;rintro e u ⟨rfl,hw⟩;have jD:=hw.symm;subst jD;clear hw;go_wp2_with fail;refine (S2 _).mono ?_;rintro e u ⟨rfl,hw⟩;have jD:=hw.symm;subst jD;clear hw;go_wp2_with fail;go_ret;exact ⟨rfl,(Gw.refl w).alloc _ _⟩
    ·have S2:∀ w:World,Calls prog 68 #[By keys] w fun e w'=>e=χ (.bool false)/\w'=w:=fun w=>by have:=AJ keys w;rwa [show jC keys=false by simp only [jC,Bool.and_eq_false_iff,decide_eq_false_iff_not];omega] at this
     have R:fO eps buf keys=160:=Yl fun h=>by obtain ⟨⟨h1,h2⟩,⟨h3,h4⟩,⟨h5,h6⟩,h7⟩:=h;omega
     rw [R];clear R;clear e1 e2 e3 e4;go_enter func41,ntmps41;go_wp2_with fail;refine (S1 _).mono ?_;rintro e u ⟨rfl,hw⟩;have jD:=hw.symm;subst jD;clear hw;go_wp2_with fail;refine (S2 _).mono ?_;rintro e u ⟨rfl,hw⟩;have jD:=hw.symm;subst jD;clear hw;go_wp2_with fail;go_ret;exact ⟨rfl,(Gw.refl w).alloc _ _⟩
   ·have S1:∀ w:World,Calls prog 68 #[By buf] w fun e w'=>e=χ (.bool false)/\w'=w:=fun w=>by have:=AJ buf w;rwa [show jC buf=false by simp only [jC,Bool.and_eq_false_iff,decide_eq_false_iff_not];omega] at this
    have R:fO eps buf keys=160:=Yl fun h=>by obtain ⟨⟨h1,h2⟩,⟨h3,h4⟩,⟨h5,h6⟩,h7⟩:=h;omega
    rw [R];clear R;clear e1 e2 e3;go_enter func41,ntmps41;go_wp2_with fail;refine (S1 _).mono ?_;rintro e u ⟨rfl,hw⟩;have jD:=hw.symm;subst jD;clear hw;go_wp2_with fail;go_ret;exact ⟨rfl,(Gw.refl w).alloc _ _⟩
theorem Zi (eps buf keys:Int) (w:World):Calls prog 19 #[.agg #[By eps,By buf,By keys]] w fun e w'=>e=χ (By (fO eps buf keys))/\Gw w w':=by
 by_cases e1:eps<2
 ·have Nb:decide (eps<2)=true:=by simpa using e1
  have R:fO eps buf keys=160:=Yl fun h=>by obtain ⟨⟨h1,h2⟩,⟨h3,h4⟩,⟨h5,h6⟩,h7⟩:=h;omega
  rw [R];clear R;clear e1;go_enter func19,ntmps19;go_wp2_with fail;go_ret;exact ⟨rfl,(Gw.refl w).alloc _ _⟩
 ·have Nb:decide (eps<2)=false:=by simpa using e1
  by_cases e2:64<eps
  ·have Zj:decide (64<eps)=true:=(by simpa using e2);have R:fO eps buf keys=160:=Yl fun h=>by obtain ⟨⟨h1,h2⟩,⟨h3,h4⟩,⟨h5,h6⟩,h7⟩:=h;omega
   rw [R];clear R;clear e1 e2;go_enter func19,ntmps19;go_wp2_with fail;go_ret;exact ⟨rfl,(Gw.refl w).alloc _ _⟩
  ·have Zj:decide (64<eps)=false:=(by simpa using e2);by_cases e3:buf<1
   ·have Zk:decide (buf<1)=true:=(by simpa using e3);have R:fO eps buf keys=160:=Yl fun h=>by obtain ⟨⟨h1,h2⟩,⟨h3,h4⟩,⟨h5,h6⟩,h7⟩:=h;omega
    rw [R];clear R;clear e1 e2 e3;go_enter func19,ntmps19;go_wp2_with fail;go_ret;exact ⟨rfl,(Gw.refl w).alloc _ _⟩
   ·have Zk:decide (buf<1)=false:=(by simpa using e3);by_cases e4:4294967296<buf
    ·have Zl:decide (4294967296<buf)=true:=(by simpa using e4);have R:fO eps buf keys=160:=Yl fun h=>by obtain ⟨⟨h1,h2⟩,⟨h3,h4⟩,⟨h5,h6⟩,h7⟩:=h;omega
     rw [R];clear R;clear e1 e2 e3 e4;go_enter func19,ntmps19;go_wp2_with fail;go_ret;exact ⟨rfl,(Gw.refl w).alloc _ _⟩
    ·have Zl:decide (4294967296<buf)=false:=(by simpa using e4);by_cases e5:keys<1
     ·have Zm:decide (keys<1)=true:=(by simpa using e5);have R:fO eps buf keys=160:=Yl fun h=>by obtain ⟨⟨h1,h2⟩,⟨h3,h4⟩,⟨h5,h6⟩,h7⟩:=h;omega
      rw [R];clear R;clear e1 e2 e3 e4 e5;go_enter func19,ntmps19;go_wp2_with fail;go_ret;exact ⟨rfl,(Gw.refl w).alloc _ _⟩
     ·have Zm:decide (keys<1)=false:=(by simpa using e5);by_cases e6:4294967296<keys
      ·have Zn:decide (4294967296<keys)=true:=(by simpa using e6);have R:fO eps buf keys=160:=Yl fun h=>by obtain ⟨⟨h1,h2⟩,⟨h3,h4⟩,⟨h5,h6⟩,h7⟩:=h;omega
       rw [R];clear R;clear e1 e2 e3 e4 e5 e6;go_enter func19,ntmps19;go_wp2_with fail;go_ret;exact ⟨rfl,(Gw.refl w).alloc _ _⟩
      ·have Zn:decide (4294967296<keys)=false:=(by simpa using e6);have w1:IntKind.i64.wrap (2*keys)=2*keys:=(by rw [Δ];omega);have w2:IntKind.i64.wrap (2*keys+buf)=2*keys+buf:=(by rw [Δ];omega);by_cases e7:4294967296<2*keys+buf
       ·have t7:decide (4294967296<2*keys+buf)=true:=(by simpa using e7);have R:fO eps buf keys=160:=Yl fun h=>by obtain ⟨⟨h1,h2⟩,⟨h3,h4⟩,⟨h5,h6⟩,h7⟩:=h;omega
        rw [R];clear R;clear e1 e2 e3 e4 e5 e6 e7;go_enter func19,ntmps19;go_wp2_with fail;go_ret;exact ⟨rfl,(Gw.refl w).alloc _ _⟩
       ·have t7:decide (4294967296<2*keys+buf)=false:=(by simpa using e7);have R:fO eps buf keys=0:=Ym ⟨⟨ω,ω⟩,⟨ω,ω⟩,⟨ω,ω⟩,ω⟩;rw [R];clear R e1 e2 e3 e4 e5 e6 e7;go_enter func19,ntmps19;go_wp2_with fail;go_ret;exact ⟨rfl,(Gw.refl w).alloc _ _⟩
theorem Zo (a1 a0 b1 b0:Int):(a1*4294967296+a0)*(b1*4294967296+b0)=a1*b1*18446744073709551616+(a1*b0+a0*b1)*4294967296+a0*b0:=by rw [qaC,Int.mul_add,Int.mul_add,mR a1 4294967296 b1 4294967296,qal a1 4294967296 b0,<-Int.mul_assoc a0 b1 4294967296,qaC];omega
theorem AM (hx:0<=x) (jE:x<4294967296) (hy:0<=y) (iB:y<4294967296):0<=x*y/\x*y<=18446744065119617025:=by refine ⟨qas hx hy,?_⟩;have h1:x*y<=4294967295*y:=qae ω hy;omega
theorem xC (h:0<=x):x.tdiv 4294967296=x/4294967296:=Int.tdiv_eq_ediv_of_nonneg h
theorem AO (h:0<=x):x.tmod 4294967296=x%4294967296:=Int.tmod_eq_emod_of_nonneg h
theorem wu (h:0<=x) (h':x<18446744073709551616):IntKind.u64.wrap x=x:=by rw [qao];omega
theorem Zp (a b x0 x1 y0 y1 qL xD xE xF t0 one t1 two t2 t3 t4 t5 t6 hi lo:Int)
  (r1:a.tmod 4294967296=x0) (r2:IntKind.u64.wrap (a.tdiv 4294967296)=x1) (r3:b.tmod 4294967296=y0) (r4:IntKind.u64.wrap (b.tdiv 4294967296)=y1)
  (r5:IntKind.u64.wrap (x0*y0)=qL) (r6:IntKind.u64.wrap (qL.tdiv 4294967296)=t0) (r7:IntKind.u64.wrap (x1*y0)=xD) (r8:IntKind.u64.wrap (xD+t0)=one)
  (r9:IntKind.u64.wrap (x0*y1)=xE) (xG:one.tmod 4294967296=t1) (r11:IntKind.u64.wrap (xE+t1)=two) (r12:IntKind.u64.wrap (x1*y1)=xF)
  (r13:IntKind.u64.wrap (one.tdiv 4294967296)=t2) (r14:IntKind.u64.wrap (xF+t2)=t3) (r15:IntKind.u64.wrap (two.tdiv 4294967296)=t4) (r16:IntKind.u64.wrap (t3+t4)=hi)
  (r17:IntKind.u64.wrap (two*4294967296)=t5) (r18:qL.tmod 4294967296=t6) (r19:IntKind.u64.wrap (t5+t6)=lo) (w:World) :
  Calls prog 182 #[BY a,BY b] w fun e w'=>e=π #[BY hi,BY lo]/\w'=w:=by
 go_enter func182,ntmps182;go_wp2;go_ret2;exact ⟨rfl,rfl⟩
theorem Nc (a b:Int) (a0:0<=a) (a1:a<18446744073709551616) (b0:0<=b) (b1:b<18446744073709551616) (w:World) :
  Calls prog 182 #[BY a,BY b] w fun e w'=>e=π #[BY (a*b/18446744073709551616),BY (a*b%18446744073709551616)]/\w'=w:=by
 obtain ⟨x0,Zq⟩:=qbr (a%4294967296);obtain ⟨x1,Zr⟩:=qbr (a/4294967296);obtain ⟨y0,iT⟩:=qbr (b%4294967296);obtain ⟨y1,iS⟩:=qbr (b/4294967296);have ea:a=x1*4294967296+x0:=ω;have eb:b=y1*4294967296+y0:=ω;have m:=Zo x1 x0 y1 y0;rw [<-ea,<-eb] at m;have Zs:=AM (x:=x0) (y:=y0) ω ω ω ω;have Fo:=AM (x:=x1) (y:=y0) ω ω ω ω;have Zt:=AM (x:=x0) (y:=y1) ω ω ω ω;have Fp:=AM (x:=x1) (y:=y1) ω ω ω ω;obtain ⟨qL,Nd⟩:=qbr (x0*y0);obtain ⟨xD,Nf⟩:=qbr (x1*y0);obtain ⟨xE,Ng⟩:=qbr (x0*y1);obtain ⟨xF,Nh⟩:=qbr (x1*y1);rw [Nd] at Zs m;rw [Nf] at Fo m;rw [Ng] at Zt m;rw [Nh] at Fp m;obtain ⟨one,Zu⟩:=qbr (xD+qL/4294967296);obtain ⟨two,Zv⟩:=qbr (xE+one%4294967296);generalize a*b=ab at m ⊢;refine Zp a b x0 x1 y0 y1 qL xD xE xF (qL/4294967296) one (one%4294967296) two (one/4294967296) (xF+one/4294967296) (two/4294967296) (two*4294967296%18446744073709551616) (qL%4294967296) _ _
  (by rw [AO a0];exact Zq) (by rw [xC a0,wu ω ω];exact Zr) (by rw [AO b0];exact iT) (by rw [xC b0,wu ω ω];exact iS)
  (by rw [Nd,wu ω ω]) (by rw [xC ω,wu ω ω]) (by rw [Nf,wu ω ω]) (by rw [Zu,wu ω ω])
  (by rw [Ng,wu ω ω]) (AO ω) (by rw [Zv,wu ω ω]) (by rw [Nh,wu ω ω])
  (by rw [xC ω,wu ω ω]) (by rw [wu ω ω]) (by rw [xC ω,wu ω ω]) (by rw [wu ω ω];omega)
  (by rw [qao]) (AO ω) (by rw [qao];omega) w
theorem xH (a b c d:Int) (a0:0<=a) (a1:a<18446744073709551616) (b0:0<=b) (b1:b<18446744073709551616) (c0:0<=c) (c1:c<18446744073709551616) (d0:0<=d) (d1:d<18446744073709551616) (w:World) :
  Calls prog 163 #[.agg #[BY a,BY b],.agg #[BY c,BY d]] w fun e w'=>(∃ r:Bool,e=χ (.bool r)/\(r=true↔fN a b c d))/\Gw w w':=by
 have hG:=((Gw.refl w).alloc #[BY a,BY b] 227).alloc #[BY c,BY d] 227;have GG:ag _:=hG;clear hG;by_cases hb:b=0
 ·subst hb
  go_enter func163,ntmps163;go_wp2_with fail;go_ret;exact ⟨⟨false,ε,by simp [fN]⟩,GG.o⟩
 ·have eQ:(b == 0)=false:=by simpa using hb
  by_cases hd:d=0
  ·subst hd
   go_enter func163,ntmps163;go_wp2_with fail;go_ret;exact ⟨⟨true,by simp [hb],by simp [fN,hb]⟩,GG.o⟩
  ·have Zw:(d == 0)=false:=(by simpa using hd);go_enter func163,ntmps163;go_wp2_with fail;refine (Nc a d a0 a1 d0 d1 _).mono ?_;rintro e w1 ⟨rfl,rfl⟩;go_wp2_with fail;refine (Nc c b c0 c1 b0 b1 _).mono ?_;rintro e w1 ⟨rfl,rfl⟩;obtain ⟨xh,Ni⟩:=qbr (a*d/18446744073709551616);obtain ⟨xl,sN⟩:=qbr (a*d%18446744073709551616);obtain ⟨yh,Nj⟩:=qbr (c*b/18446744073709551616);obtain ⟨yl,Nk⟩:=qbr (c*b%18446744073709551616);rw [Ni,sN,Nj,Nk];have K:ag (fN a b c d↔(xh<yh\/(xh=yh/\xl<yl))):=by
    show fN a b c d↔_;unfold fN;constructor
    ·intro hh
     rcases hh with ⟨_,q⟩ | ⟨_,_,q⟩
     ·exact absurd q hd
     ·omega
    ·intro hh
     exact .inr ⟨hb,hd,ω⟩
   clear Ni sN Nj Nk a0 a1 b0 b1 c0 c1 d0 d1;rcases Int.lt_trichotomy xh yh with q | q | q
   ·go_wp2_with fail
    go_ret
    exact ⟨⟨true,ε,by rw [K.o];simp [q]⟩,GG.o⟩
   ·subst q
    go_wp2_with fail;go_ret
    exact ⟨⟨decide (xl<yl),ε,by rw [K.o];simp⟩,GG.o⟩
   ·have q1:¬ xh<yh:=(by omega);have q2:(xh == yh)=false:=(by simp;omega);go_wp2_with fail;go_ret
    exact ⟨⟨false,by simp [q1],by rw [K.o];simp;omega⟩,GG.o⟩
structure ve (num den c d g:Int):Prop where
 g0:0<g
 ec:c*g=num
 ed:d*g=den
 low:Int.gcd c d=1
 c0:0<=c
 d1:1<=d
 cb:c<=num
 db:d<=den
theorem Zx (num den:Nat) (h0:0<den):ve num den ((num/num.gcd den:Nat):Int) ((den/num.gcd den:Nat):Int) (num.gcd den:Nat):=by
 have hg:0<num.gcd den:=Nat.gcd_pos_of_pos_right _ h0;have e1:num/num.gcd den*num.gcd den=num:=Nat.div_mul_cancel (Nat.gcd_dvd_left _ _);have e2:den/num.gcd den*num.gcd den=den:=Nat.div_mul_cancel (Nat.gcd_dvd_right _ _);refine ⟨ω,by rw [<-Int.natCast_mul,e1],by rw [<-Int.natCast_mul,e2],?_,Int.natCast_nonneg _,?_,by have:=Nat.div_le_self num (num.gcd den);omega,by have:=Nat.div_le_self den (num.gcd den);omega⟩
 ·have:=Nat.coprime_div_gcd_div_gcd (m:=num) (n:=den) hg
  exact this
 ·have:0<den/num.gcd den:=Nat.div_pos (Nat.le_of_dvd h0 (Nat.gcd_dvd_right _ _)) hg
  omega
theorem Zy (num den:Nat) (hn:num<18446744073709551616) (hd:den<18446744073709551616) (h0:0<den) (w:World) :
  Calls prog 162 #[BY num,BY den] w fun e w'=>e=χ (.agg #[BY ((num/num.gcd den:Nat):Int),BY ((den/num.gcd den:Nat):Int)])/\Gw w w':=by
 have hg:0<num.gcd den:=Nat.gcd_pos_of_pos_right _ h0;have h2:((num.gcd den:Int) == 0)=false:=by simp;omega
 have e1:(num:Int)/(num.gcd den:Nat)=((num/num.gcd den:Nat):Int):=(Int.natCast_ediv _ _).symm;have e2:(den:Int)/(num.gcd den:Nat)=((den/num.gcd den:Nat):Int):=(Int.natCast_ediv _ _).symm;have b1:num/num.gcd den<18446744073709551616:=Nat.lt_of_le_of_lt (Nat.div_le_self _ _) hn;have b2:den/num.gcd den<18446744073709551616:=Nat.lt_of_le_of_lt (Nat.div_le_self _ _) hd;generalize num/num.gcd den=a at *;generalize den/num.gcd den=b at *;generalize hG:num.gcd den=G at *;have Nl:ag _:=hG;clear hG;go_enter func162,ntmps162;go_wp2_with fail;go_loopg [5,6] den (fun gg p q wr=>∃ c d:Nat,p=BY c/\q=BY d/\c<18446744073709551616/\d<18446744073709551616/\d<=gg/\ag (Nat.gcd c d=G)/\wr=w.alloc (.cells #[BY 0,BY 0] 227))
 case atStart=>exact ⟨num,den,rfl,rfl,hn,hd,Yk _,Nl,rfl⟩
 case round =>
  obtain ⟨c,d,rfl,rfl,hc,Zw,hgk,Fq,rfl⟩:=hrel;by_cases h:d=0
  ·subst h
   obtain rfl:c=G:=by
    have:=Fq.o
    rw [Nat.gcd_zero_right] at this;exact this
   clear Fq Nl;go_wp2_with fail;go_region
   all_goals
    go_wp2_with fail;refine bodyPost_ret (v:=.agg #[BY a,BY b]) (by simp [results,results162,go_sem]) rfl ⟨rfl,((Gw.refl w).alloc _ _).drew⟩
  ·have h1:((d:Int) == 0)=false:=(by simp;omega);have e3:(c:Int)%(d:Int)=((c%d:Nat):Int):=(Int.natCast_emod _ _).symm;have ar:c%d<d:=Nat.mod_lt _ ω;go_wp2_with fail;go_roundg (c%d)
   case measure=>omega
   case rel =>
    refine ⟨d,c%d,rfl,?_,ω,ω,Yk _,?_,rfl⟩
    ·first | rfl | simp
    ·show Nat.gcd d (c%d)=G
     rw [<-Fq.o,Nat.gcd_comm c d,Nat.gcd_rec d c,Nat.gcd_comm]
theorem AP (num den:Int) (n0:0<=num) (hn:num<18446744073709551616) (d0:0<den) (hd:den<18446744073709551616) (w:World) :
  Calls prog 162 #[BY num,BY den] w fun e w'=>(∃ c d g,e=χ (.agg #[BY c,BY d])/\ve num den c d g)/\Gw w w':=by
 obtain ⟨a,rfl⟩:∃ a:Nat,num=a:=⟨num.toNat,ω⟩;obtain ⟨b,rfl⟩:∃ b:Nat,den=b:=⟨den.toNat,ω⟩;refine (Zy a b ω ω ω w).mono ?_;rintro e w' ⟨rfl,g⟩;exact ⟨⟨_,_,_,rfl,Zx a b ω⟩,g⟩
def Bx (w:World) (b:Nat) (t:TypeId) (u v:Value):Prop:=w.heap[b]?=some (.cells #[u,v] t (0,0))
theorem Bx.lt {b:Nat} (h:Bx w b t u v):b<w.heap.size:=(qab.1 h).1
theorem Bx.c0 {b:Nat} (h:Bx w b t u v):w.cell? (φ b 0)=some u:=by unfold Bx at h;simp [World.cell?,h]
theorem Bx.c1 {b:Nat} (h:Bx w b t u v):w.cell? (φ b 1)=some v:=by unfold Bx at h;simp [World.cell?,h]
theorem Bx.fz {b:Nat} (h:Bx w b t u v) (o:Nat):w.frozen? (φ b o)=false:=by unfold Bx at h;simp [World.frozen?,h]
theorem Bx.gw {b:Nat} (h:Bx w b t u v) (g:Gw w w'):Bx w' b t u v:=(g.below.block b h.lt).trans h
theorem Bx.new (w:World) (t:TypeId) (u v:Value):Bx (w.alloc (.cells #[u,v] t)) w.heap.size t u v:=Ω w _
theorem Bx.set {b:Nat} (h:Bx w b t u v) (u' v':Value):Bx ((w.setCell (φ b 0) u').setCell (φ b 1) v') b t u' v':=by unfold Bx at h ⊢;simp [World.setCell,Array.getElem?_modify,h]
theorem Bx.far {b:Nat} (h:Bx w b t u v) (x:Value) (hq:b≠q):Bx (w.setCell (φ q o) x) b t u v:=(qac _ _ _ _ hq).trans h
theorem Bx.alloc {b:Nat} (h:Bx w b t u v) (o:Obj):Bx (w.alloc o) b t u v:=(qap w o h.lt).trans h
theorem Bx.at {b b':Nat} (h:Bx w b t u v) (e:b=b'):Bx w b' t u v:=e▸h
structure RF (w:World) (p:Nat) (v:Value) (e:Int) (n:Nat) (f:Nat->Int) (a b c d:Int):Prop where
 blk:w.heap[p]?=some (.cells #[By (e+1),v,BY a,BY b,BY c,BY d] 229 (0,0))
 own:w.ownsRow 0 35 1 v n ((List.range n).map fun i=>Value.int .u64 (f i))
 ne:∀ q,v.ownBlock=some q->q≠p
 up:Up f n
 bd:∀ i,i<n->0<=f i/\f i<18446744073709551616
 low:bM e f (aC n) a b
 top:dG e f (aC n) c d
 fit:aY e f (aC n)
 e1:1<=e/\e<=63
 wd:(a<18446744073709551616/\b<18446744073709551616)/\(0<=c/\c<18446744073709551616)/\(0<=d/\d<18446744073709551616)
theorem RF.lt (h:RF w p v e n f a b c d):p<w.heap.size:=(qab.1 h.blk).1
theorem RF.cells (h:RF w p v e n f a b c d) :
  w.cell? (φ p 0)=some (By (e+1))/\w.cell? (φ p 1)=some v/\w.cell? (φ p 2)=some (BY a)/\w.cell? (φ p 3)=some (BY b)/\w.cell? (φ p 4)=some (BY c)/\w.cell? (φ p 5)=some (BY d):=by
 have:=h.blk
 refine ⟨?_,?_,?_,?_,?_,?_⟩<;>simp [World.cell?,this]
def dX (p:Nat) (v:Value) (q:Nat):Prop:=q=p\/v.ownBlock=some q
theorem RF.in (h:RF w p v e n f a b c d) (q:Nat) (hq:dX p v q):q<w.heap.size:=by
 rcases hq with rfl | hq
 ·exact h.lt
 ·exact (h.own.lt q hq).2
theorem RF.keep (h:RF w p v e n f a b c d) (k:∀ q,dX p v q->w'.heap[q]?=w.heap[q]?):RF w' p v e n f a b c d:=by
 refine ⟨(k p (.inl rfl)).trans h.blk,⟨h.own.1,?_⟩,h.ne,h.up,h.bd,h.low,h.top,h.fit,h.e1,h.wd⟩;rcases h.own.2 with q | ⟨g,cap,cur,rfl,hb,hh,r⟩
 ·exact .inl q
 ·exact .inr ⟨g,cap,cur,rfl,hb,(k g (.inr rfl)).trans hh,r⟩
theorem RF.gw (h:RF w p v e n f a b c d) (g:Gw w w'):RF w' p v e n f a b c d :=
 h.keep fun q hq=>g.below.block q (h.in q hq)
theorem RF.ks (h:RF w p v e n f a b c d):∃ ao cap,v=.slice ao n cap/\KS w ao n f:=by
 have ho:=h.own;rcases h.own.2 with ⟨rfl,rfl⟩ | ⟨g,cap,cur,rfl,_⟩
 ·exact ⟨none,0,rfl,⟨fun q=>ω,h.bd⟩⟩
 ·exact ⟨_,cap,rfl,⟨fun q=>⟨g,0,rfl,(ho.lt g rfl).2,fun i hi=>by rw [qai,ho.cellAt i ω];simp [hi]⟩,h.bd⟩⟩
theorem Zz (eps:Int) (h:¬ (2<=eps/\eps<=64)) (w:World) :
  Calls prog 145 #[By eps] w fun e w'=>e=π #[.pointer none,By 1]/\Gw w w':=by
 by_cases h1:eps<2
 ·go_enter func145,ntmps145
  go_wp2_with fail;go_ret2
  exact ⟨rfl,Gw.refl w⟩
 ·have h2:64<eps:=by omega
  go_enter func145,ntmps145;go_wp2_with fail;go_ret2;exact ⟨rfl,Gw.refl w⟩
theorem Nn (eps:Int) (h1:2<=eps) (h2:eps<=64) (w:World) :
  Calls prog 145 #[By eps] w fun e w'=>(∃ p,e=π #[IS p,By 0]/\w.heap.size<=p/\RF w' p (.slice none 0 0) (eps-1) 0 (fun _=>0) 0 1 1 0)/\Gw w w':=by
 have h3:¬ eps<2:=ω;have h4:¬ 64<eps:=ω;go_enter func145,ntmps145;go_wp2_with fail;go_ret2;refine ⟨⟨w.heap.size,rfl,Yk _,⟨?_,qaL _ _ _ _,(fun q hq=>by cases hq),(fun j hj=>ω),(fun i hi=>ω),Y7 _ _ γ,Y8 _ _ γ,(fun i j i' j' s=>by have:=s.2;omega),ω,ω⟩⟩,(Gw.refl w).alloc _ _⟩
 rw [Ω,show eps-1+1=eps by omega]
theorem ZA (h:RF w p v e n f a b c d) :
  Calls prog 164 #[IS p] w fun e w'=>e=χ (.agg #[BY a,BY b])/\Gw w w':=by
 obtain ⟨_,_,c2,c3,_⟩:=h.cells;have hl:=h.lt;clear h;go_enter func164,ntmps164;go_wp2_with fail;refine bodyPost_ret (v:=.agg #[BY a,BY b]) (by simp [results,results164,go_sem]) rfl ⟨rfl,(Gw.refl w).alloc _ _⟩
def ay (v:Int):Int:=(v/18446744073709551616+9223372036854775808)%18446744073709551616-9223372036854775808
def az (v:Int):Int:=v%18446744073709551616
theorem Np (v:Int):-9223372036854775808<=ay v/\ay v<9223372036854775808:=by unfold ay;omega
theorem sO (v:Int):0<=az v/\az v<18446744073709551616:=by unfold az;omega
def sv (v:Int):Int:=ay v*18446744073709551616+az v
theorem AQ (v:Int):sv v=(v+170141183460469231731687303715884105728)%340282366920938463463374607431768211456-170141183460469231731687303715884105728:=by unfold sv ay az;omega
theorem oi (v:Int) (h0:-170141183460469231731687303715884105728<=v) (h1:v<170141183460469231731687303715884105728):sv v=v:=by rw [AQ];omega
theorem ZB (a b:Int):IntKind.u64.wrap a*b%18446744073709551616=az (a*b):=by rw [qao];unfold az;exact (by rw [Int.mul_emod (a%18446744073709551616) b,Int.emod_emod_of_dvd a (Int.dvd_refl _),<-Int.mul_emod])
theorem ZC (a b:Int) (h0:-9223372036854775808<=a) (h1:a<9223372036854775808) (hn:a<0) :
  wrap64 (IntKind.u64.wrap (IntKind.u64.wrap a*b/18446744073709551616-b))=ay (a*b):=by
 have e:IntKind.u64.wrap a=a+18446744073709551616:=by rw [qao];omega
 rw [e,qaC,qao];generalize a*b=p;unfold wrap64 ay;omega
theorem ZD (a b:Int):wrap64 (a*b/18446744073709551616)=ay (a*b):=by unfold wrap64 ay;omega
def bN (a b:Int):Int:=if a<b then -1 else if a=b then 0 else 1
theorem ZE (x y:Int):(ay x=ay y/\az x=az y)↔sv x=sv y:=by
 unfold sv;have:=sO x;have:=sO y;constructor
 ·intro ⟨a,b⟩;rw [a,b]
 ·intro h;omega
theorem ZF (x y:Int):sv x<sv y↔(ay x<ay y\/(ay x=ay y/\az x<az y)):=by unfold sv;have:=sO x;have:=sO y;omega
def dg (x:Int) (i:Nat):Int:=x/65536^i%65536
def cr (x y:Int) (k:Nat):Int:=(x%65536^k+y%65536^k)/65536^k
theorem aA (x:Int) (i:Nat):0<=dg x i/\dg x i<65536:=by unfold dg;omega
theorem ZG (x:Int):az x%65536=dg x 0/\az x/65536%65536=dg x 1/\az x/65536/65536%65536=dg x 2/\az x/65536/65536/65536%65536=dg x 3:=by unfold dg az;omega
theorem ZH (x:Int):IntKind.u64.wrap (ay x)%65536=dg x 4/\IntKind.u64.wrap (ay x)/65536%65536=dg x 5/\IntKind.u64.wrap (ay x)/65536/65536%65536=dg x 6/\IntKind.u64.wrap (ay x)/65536/65536/65536%65536=dg x 7:=by rw [qao];unfold dg ay;omega
theorem ZI (x:Int):((dg x 3*65536+dg x 2)*65536+dg x 1)*65536+dg x 0=az x:=by unfold dg az;omega
theorem ZJ (x:Int):wrap64 (((dg x 7*65536+dg x 6)*65536+dg x 5)*65536+dg x 4)=ay x:=by unfold dg ay wrap64;omega
theorem pw (k:Nat):(0:Int)<65536^k:=Int.pow_pos γ
theorem div_add (x y P:Int) (hP:0<P):(x+y)/P=x/P+y/P+(x%P+y%P)/P:=by
 have e1:=qaP x P;have e2:=qaP y P;have e:x+y=(x%P+y%P)+(x/P+y/P)*P:=by rw [qaC,qaa (x/P),qaa (y/P)];omega
 rw [e,qbf _ _ ω];omega
theorem qM (x y:Int) (k:Nat):0<=cr x y k/\cr x y k<=1:=by unfold cr;have hP:=pw k;have a0:=qaN x (b:=65536^k) ω;have a1:=qaO x hP;have b0:=qaN y (b:=65536^k) ω;have b1:=qaO y hP;have h1:(x%65536^k+y%65536^k)/65536^k<2:=Int.ediv_lt_of_lt_mul hP ω;exact ⟨qaY ω ω,ω⟩
theorem ZK (x y:Int):cr x y 0=0:=by unfold cr;simp
theorem qN (x y:Int) (k:Nat):(dg x k+dg y k+cr x y k)%65536=dg (x+y) k:=by unfold dg cr;rw [div_add x y _ (pw k)];generalize x/65536^k=p;generalize y/65536^k=q;omega
theorem AR (x:Int) (k:Nat):x%65536^(k+1)=x%65536^k+65536^k*dg x k:=by
 unfold dg;rw [Int.pow_succ];have hP:=pw k;have e1:=qaP x (65536^k);have e2:=qaP x (65536^k*65536);have e3:=qaP (x/65536^k) 65536;have e4:x/65536^k/65536=x/(65536^k*65536):=Int.ediv_ediv_of_nonneg ω;rw [e4] at e3;have e5:65536^k*(x/65536^k)=65536^k*(65536*(x/(65536^k*65536))+x/65536^k%65536):=by rw [e3]
 rw [Int.mul_add,<-Int.mul_assoc] at e5;omega
theorem qO (x y:Int) (k:Nat):(dg x k+dg y k+cr x y k)/65536=cr x y (k+1):=by
 have hP:=pw k;rw [cr,cr,AR,AR,Int.pow_succ];have e:x%65536^k+65536^k*dg x k+(y%65536^k+65536^k*dg y k)=(x%65536^k+y%65536^k)+(dg x k+dg y k)*65536^k:=by rw [qaC,qaa (dg x k),qaa (dg y k)];omega
 rw [e,<-Int.ediv_ediv_of_nonneg ω,qbf _ _ ω];congr 1;omega
theorem qP (x:Int) (k:Nat):65535-dg x k=dg (-1-x) k:=by
 unfold dg;have hP:=pw k;have e1:=qaP x (65536^k);have a0:=qaN x (b:=65536^k) ω;have a1:=qaO x hP;have e:-1-x=(65536^k-1-x%65536^k)+(-1-x/65536^k)*65536^k:=by rw [Int.sub_mul,qaa (x/65536^k)];omega
 have e2:(65536^k-1-x%65536^k)/65536^k=0:=qbl ω ω;rw [e,qbf _ _ ω,e2];generalize x/65536^k=p;omega
def mc (a y:Int) (k:Nat):Int:=a*(y%65536^k)/65536^k
theorem qQ (a y:Int):mc a y 0=0:=by unfold mc;simp
theorem dM (a y:Int) (k:Nat) (a0:0<=a) (a1:a<65536):0<=mc a y k/\mc a y k<=65535:=by unfold mc;have hP:=pw k;have b0:=qaN y (b:=65536^k) ω;have b1:=qaO y hP;have m0:0<=a*(y%65536^k):=qas a0 b0;have m1:a*(y%65536^k)<=65535*(y%65536^k):=qae ω b0;have h1:a*(y%65536^k)/65536^k<65536:=Int.ediv_lt_of_lt_mul hP ω;exact ⟨qaY m0 ω,ω⟩
theorem cO (a d:Int) (a0:0<=a) (a1:a<65536) (d0:0<=d) (d1:d<65536):0<=a*d/\a*d<=4294836225:=by have m1:a*d<=65535*d:=qae ω d0;exact ⟨qas a0 d0,ω⟩
theorem ZL (a y:Int) (k:Nat):a*y/65536^k=mc a y k+a*(y/65536^k):=by
 unfold mc;have hP:=pw k;have e:=qaP y (65536^k);have e2:a*y=a*(y%65536^k)+a*(y/65536^k)*65536^k:=by
  have:a*y=a*(65536^k*(y/65536^k)+y%65536^k):=by rw [e]
  rw [this,Int.mul_add,qaa (65536^k),<-Int.mul_assoc];omega
 rw [e2,qbf _ _ ω]
theorem cP (a y:Int) (k:Nat):(a*dg y k+mc a y k)%65536=dg (a*y) k:=by
 unfold dg;rw [ZL];generalize mc a y k=c;generalize y/65536^k=q;have e:=qaP q 65536;have e2:a*q=a*(q%65536)+a*(q/65536)*65536:=by
  have:a*q=a*(65536*(q/65536)+q%65536):=by rw [e]
  rw [this,Int.mul_add,qaa 65536,<-Int.mul_assoc];omega
 omega
theorem cQ (a y:Int) (k:Nat):(a*dg y k+mc a y k)/65536=mc a y (k+1):=by
 have hP:=pw k;rw [mc,mc,AR,Int.pow_succ];have e:a*(y%65536^k+65536^k*dg y k)=a*(y%65536^k)+(a*dg y k)*65536^k:=by rw [Int.mul_add,qaa (65536^k),<-Int.mul_assoc]
 rw [e,<-Int.ediv_ediv_of_nonneg ω,qbf _ _ ω];congr 1;omega
theorem dN (z:Int) (i t:Nat) (h:t<i):dg (z*65536^i) t=0:=by
 unfold dg;obtain ⟨d,rfl⟩:∃ d,i=t+(d+1):=⟨i-t-1,ω⟩;rw [Int.pow_add,<-Int.mul_assoc,qaa (z*65536^t),qaa z,<-Int.mul_assoc,qaa (65536^(d+1)*65536^t)];rw [<-Int.mul_assoc,Int.mul_ediv_cancel _ (by have:=pw t;omega),Int.pow_succ,<-Int.mul_assoc]
 exact Int.mul_emod_left _ _
theorem cT (z:Int) (i k:Nat):dg (z*65536^i) (i+k)=dg z k:=by unfold dg;rw [Int.pow_add,qaa z,Int.mul_ediv_mul_of_pos _ _ (pw i)]
theorem Nq (z t:Int) (k:Nat) (h:k<8):dg (z+t*65536^8) k=dg z k:=by
 unfold dg;obtain ⟨d,hd⟩:∃ d,8=k+(d+1):=⟨8-k-1,ω⟩;have e:t*65536^8=(t*65536^d*65536)*65536^k:=by rw [hd,Int.pow_add,Int.pow_succ,qaa (65536^k),<-Int.mul_assoc,<-Int.mul_assoc]
 rw [e,qbf _ _ (by have:=pw k;omega)]
 omega
theorem qR (x y:Int) (k:Nat) (h:k<8):dg (x%65536^8*y) k=dg (x*y) k:=by
 have e:=qaP x (65536^8);have e2:x*y=x%65536^8*y+(x/65536^8*y)*65536^8:=by
  have:x*y=(65536^8*(x/65536^8)+x%65536^8)*y:=by rw [e]
  rw [this,qaC,qaa (65536^8),qaG,qaa (65536^8) y,<-Int.mul_assoc];omega
 rw [e2,Nq _ _ _ h]
theorem p2 (k:Nat):(0:Int)<2^k:=Int.pow_pos γ
theorem Fs (k:Nat):(65536:Int)^k=2^(16*k):=by rw [Int.pow_mul];rfl
theorem ZM (u:Int) (e:Nat):u/2^(e+1)=u/2^e/2:=by rw [Int.pow_succ,Int.ediv_ediv_of_nonneg (by have:=p2 e;omega)]
def qp (Q:Int) (t:Nat):Int:=Q/2^t*2^t
def rp (u d:Int) (t:Nat):Int:=u/2^t%d
def bt (u:Int) (e:Nat):Int:=u/2^e%2
theorem Ns (u:Int) (e:Nat):bt u e=0\/bt u e=1:=by unfold bt;omega
theorem Nt (u d:Int) (t:Nat) (hd:0<d):0<=rp u d t/\rp u d t<d :=
 ⟨qaN _ ω,qaO _ hd⟩
theorem ZO (u d:Int) (e:Nat) (hd:0<d) :
  (d<=2*rp u d (e+1)+bt u e->rp u d e=2*rp u d (e+1)+bt u e-d/\qp (u/d) e=qp (u/d) (e+1)+2^e) /\
  (2*rp u d (e+1)+bt u e<d->rp u d e=2*rp u d (e+1)+bt u e/\qp (u/d) e=qp (u/d) (e+1)):=by
 have hP:=p2 e;have hu:u/2^e=2*(u/2^(e+1))+bt u e:=by unfold bt;rw [ZM];omega
 have swap:∀ t,u/d/2^t=u/2^t/d:=fun t=>by rw [Int.ediv_ediv_of_nonneg ω,Int.ediv_ediv_of_nonneg (by have:=p2 t;omega),qaa]
 have eH:=Ns u e;obtain ⟨r0,r1⟩:=Nt u d (e+1) hd;have ep:=qaP (u/2^(e+1)) d;have er:u/2^(e+1)%d=rp u d (e+1):=rfl;rw [er] at ep;unfold qp;rw [swap,swap];generalize u/2^(e+1)/d=p at *;have ZP:(2:Int)^(e+1)=2^e*2:=Int.pow_succ _ _;have e0:rp u d e=u/2^e%d:=rfl;have xI:u/2^e=(2*rp u d (e+1)+bt u e)+(2*p)*d:=by rw [hu,qaG,qaa p d];omega
 rw [e0,xI,Int.add_mul_emod_self_right,qbf _ _ ω,ZP];generalize rp u d (e+1)=r at *;generalize bt u e=b at *;constructor
 ·intro h
  have m:(2*r+b)%d=2*r+b-d:=by
   have:2*r+b=(2*r+b-d)+1*d:=ω
   rw [this,Int.add_mul_emod_self_right,Int.emod_eq_of_lt ω ω];omega
  have q:(2*r+b)/d=1:=by
   have:2*r+b=(2*r+b-d)+1*d:=ω
   rw [this,qbf _ _ ω,qbl ω ω];omega
  refine ⟨m,?_⟩;rw [q,qaC,qaa (2^e) 2,<-Int.mul_assoc,qaa p 2];omega
 ·intro h
  refine ⟨Int.emod_eq_of_lt ω h,?_⟩;rw [qbl ω h,qaa (2^e) 2,<-Int.mul_assoc,qaa p 2];simp
theorem Ft (b:Nat) (h:b<16):b=0\/b=1\/b=2\/b=3\/b=4\/b=5\/b=6\/b=7\/b=8\/b=9\/b=10\/b=11\/b=12\/b=13\/b=14\/b=15:=ω
theorem ZQ (u:Int) (i b:Nat) (h:b<16):dg u i/2^b%2=bt u (16*i+b):=by
 unfold dg bt;rw [Fs,Int.pow_add,<-Int.ediv_ediv_of_nonneg (by have:=p2 (16*i);omega)]
 generalize u/2^(16*i)=v;rcases Ft b h with rfl | rfl | rfl | rfl | rfl | rfl | rfl | rfl | rfl | rfl | rfl | rfl | rfl | rfl | rfl | rfl<;>simp<;>omega
theorem ZS (Q:Int) (i b:Nat) (h:b<16) (k:Nat) :
  dg (qp Q (16*i+b+1)+2^(16*i+b)) k=if k=i then dg (qp Q (16*i+b+1)) i+2^b else dg (qp Q (16*i+b+1)) k:=by
 unfold qp;generalize Q/2^(16*i+b+1)=c;unfold dg;rw [Fs,Fs];have he:(2:Int)^(16*i+b+1)=2^(16*i+b)*2:=Int.pow_succ _ _;rcases Nat.lt_trichotomy k i with hk | hk | hk
 ·rw [Yl ω]
  obtain ⟨m,rfl⟩:∃ m,i=k+1+m:=⟨i-k-1,ω⟩;have hf:(2:Int)^(16*(k+1+m)+b)=(2^(16*m+b)*65536)*2^(16*k):=by rw [show 16*(k+1+m)+b=(16*m+b)+16+16*k by omega,Int.pow_add,Int.pow_add];rfl
  have h1:c*2^(16*(k+1+m)+b+1)=(c*2*2^(16*m+b)*65536)*2^(16*k):=by rw [he,hf];generalize (2:Int)^(16*m+b)=A;generalize (2:Int)^(16*k)=B;rw [<-Int.mul_assoc,<-Int.mul_assoc,<-Int.mul_assoc,qaG (c*A*65536),qaa B 2,<-Int.mul_assoc];congr 1;rw [qaG c 2,qaa 2 A,<-Int.mul_assoc,qaG (c*A),qaa 65536 2,<-Int.mul_assoc]
  rw [h1,hf,<-Int.add_mul,Int.mul_ediv_cancel _ (by have:=p2 (16*k);omega),Int.mul_ediv_cancel _ (by have:=p2 (16*k);omega)]
  omega
 ·subst hk
  rw [Ym rfl];have hf:(2:Int)^(16*k+b)=2^b*2^(16*k):=by rw [Nat.add_comm,Int.pow_add]
  have h1:c*2^(16*k+b+1)=(c*2*2^b)*2^(16*k):=by rw [he,hf,qaa (2^b*2^(16*k)) 2,<-Int.mul_assoc,<-Int.mul_assoc]
  rw [h1,hf,<-Int.add_mul,Int.mul_ediv_cancel _ (by have:=p2 (16*k);omega),Int.mul_ediv_cancel _ (by have:=p2 (16*k);omega)]
  rcases Ft b h with rfl | rfl | rfl | rfl | rfl | rfl | rfl | rfl | rfl | rfl | rfl | rfl | rfl | rfl | rfl | rfl<;>simp<;>omega
 ·rw [Yl ω]
  obtain ⟨m,hm⟩:∃ m,16*k=(16*i+b+1)+m:=⟨16*k-(16*i+b+1),ω⟩;have hE:=p2 (16*i+b);have hZ:(2:Int)^(16*i+b)/2^(16*i+b+1)=0:=qbl ω ω;rw [hm,Int.pow_add 2 (16*i+b+1) m,<-Int.ediv_ediv_of_nonneg (by have:=p2 (16*i+b+1);omega),<-Int.ediv_ediv_of_nonneg (by have:=p2 (16*i+b+1);omega),Int.add_comm,qbf _ _ (by have:=p2 (16*i+b+1);omega),
   hZ,Int.mul_ediv_cancel _ (by have:=p2 (16*i+b+1);omega),Int.zero_add]
theorem ZT (Q:Int) (h0:0<=Q) (h1:Q<2^128):qp Q 128=0:=by unfold qp;rw [qbl h0 h1];simp
theorem ZU (u d:Int) (h0:0<=u) (h1:u<2^128):rp u d 128=0:=by unfold rp;rw [qbl h0 h1];simp
theorem ZW (Q:Int):qp Q 0=Q:=by unfold qp;simp
theorem ZX (u d:Int):rp u d 0=u%d:=by unfold rp;simp
theorem Z' (b:Nat):(2:Int)^(b+1)/2=2^b:=by rw [Int.pow_succ];exact Int.mul_ediv_cancel _ γ
theorem aaa (b:Nat) (h:b<16):(2:Int)^b<=32768:=by rcases Ft b h with rfl | rfl | rfl | rfl | rfl | rfl | rfl | rfl | rfl | rfl | rfl | rfl | rfl | rfl | rfl | rfl<;>decide
theorem Nu {q r:Int} (r0:0<=r) (r1:r<b):(b*q+r)/b=q:=by rw [Int.add_comm,Int.add_mul_ediv_left _ _ ω,qbl r0 r1];omega
structure xJ (num den d whole rest x y one a two b:Int):Prop where
 w0:0<=whole
 r0:0<=rest
 r1:rest<den
 ew:num=den*whole+rest
 ex:x=rest/2*d
 ey:y=rest/2*d+rest%2*d
 x0:0<=x
 y0:0<=y
 e1:x=den*one+a
 e2:y=den*two+b
 a0:0<=a
 a1:a<den
 b0:0<=b
 b1:b<den
 o0:0<=one
 t0:0<=two
 lt:one+two<=d
 xs:x<340282366920938463463374607431768211456
variable {num den:Int}
theorem aab (n0:0<=num) (n1:num<18446744073709551616) (d0:0<den) (d1:den<18446744073709551616) (f0:0<=d) (f1:d<18446744073709551616) :
  xJ num den d (num/den) (num%den) (num%den/2*d) (num%den/2*d+num%den%2*d) (num%den/2*d/den) (num%den/2*d%den) ((num%den/2*d+num%den%2*d)/den) ((num%den/2*d+num%den%2*d)%den):=by
 have r0:=qaN num (show den≠0 by omega)
 have r1:=qaO num d0;generalize hr:num%den=r at r0 r1;have q1:0<=r/2*d:=qas ω f0;have q2:0<=r%2*d:=qas ω f0;have ee:r/2*d+(r/2*d+r%2*d)=r*d:=by rw [<-Int.add_mul,<-Int.add_mul];congr 1;omega
 have up:r*d<=den*d:=qae ω f0;have up2:r/2*d<=r*d:=qae ω f0;have dx:den*d<=18446744073709551616*d:=qae ω f0;have x1:=Int.emod_add_mul_ediv (r/2*d) den;have y1:=Int.emod_add_mul_ediv (r/2*d+r%2*d) den;have xa:=qaN (r/2*d) (show den≠0 by omega)
 have xb:=qaO (r/2*d) d0;have ya:=qaN (r/2*d+r%2*d) (show den≠0 by omega)
 have yb:=qaO (r/2*d+r%2*d) d0;refine ⟨qaY n0 ω,r0,r1,?_,rfl,rfl,q1,ω,ω,ω,xa,xb,ya,yb,qaY q1 ω,qaY ω ω,?_,ω⟩
 ·have:=Int.emod_add_mul_ediv num den
  omega
 ·have e3:den*(r/2*d/den+(r/2*d+r%2*d)/den)<=den*d:=by rw [Int.mul_add];omega
  exact Int.le_of_mul_le_mul_left e3 d0
variable {whole:Int}
theorem xJ.sum {rest one two:Int} (p:xJ num den d whole rest x y one a two b) (d0:0<den):num*d/den=whole*d+(if den-b<=a then one+two+1 else one+two):=by
 have e:num*d=den*(whole*d+(one+two))+(a+b):=by
  have h1:num*d=den*(whole*d)+rest*d:=by rw [p.ew,qaC,qaG]
  have h2:rest*d=x+y:=by rw [p.ex,p.ey,<-Int.add_mul,<-Int.add_mul];congr 1;omega
  have h3:=p.e1;have h4:=p.e2;rw [h1,h2,h3,h4,Int.mul_add,Int.mul_add];omega
 have a0:=p.a0;have a1:=p.a1;have b0:=p.b0;have b1:=p.b1;split
 ·rename_i h
  have e':num*d=den*(whole*d+(one+two+1))+(a+b-den):=by have q:den*(whole*d+(one+two+1))=den*(whole*d+(one+two))+den:=(by rw [<-Int.add_assoc (whole*d),Int.mul_add den _ 1,Int.mul_one]);omega
  rw [e',Nu ω ω]
 ·rename_i h
  rw [e,Nu ω ω]
theorem xJ.carry {rest one two:Int} (p:xJ num den d whole rest x y one a two b) (d0:0<den) (k:den-b<=a):one+two+1<=d:=by
 have h2:rest*d=x+y:=by rw [p.ex,p.ey,<-Int.add_mul,<-Int.add_mul];congr 1;omega
 have dn:0<=d:=by have:=p.o0;have:=p.t0;have:=p.lt;omega
 have h3:rest*d<=den*d:=qae (by have:=p.r1;omega) dn
 have h4:den*(one+two+1)<=den*d:=by have e1:=p.e1;have e2:=p.e2;rw [Int.mul_add,Int.mul_add,Int.mul_one];omega
 exact Int.le_of_mul_le_mul_left h4 d0
theorem Nv (w0:0<whole) (d0:0<=d):2305843009213693952/whole<d↔2305843009213693952<whole*d:=by rw [Int.ediv_lt_iff_lt_mul w0,qaa]
def aac:Prop:=∀ (a b c d:Int),0<=a->a<18446744073709551616->0<b->b<18446744073709551616->0<=d->d<18446744073709551616->∀ w:World,
  Calls prog 165 #[.agg #[BY a,BY b,By c],BY d] w fun ex w'=>ex=π #[By (if 2305843009213693952<a*d/b then 0 else a*d/b),.bool (!decide (2305843009213693952<a*d/b))]/\Gw w w'
theorem σ {p:Prop} (h:p:=by repeat (first | exact Gw.refl _ | refine Gw.drew ?_)):p:=h
theorem μ {p:Prop} (h:p:=by repeat (first | exact Gw.refl _ | exact ag.o (by assumption) | refine Gw.drew ?_ | refine Gw.alloc ?_ _ _)):p:=h
theorem ν {p:Prop} (h:p:=by repeat (first | exact Gw.refl _ | refine Gw.drew ?_ | refine Gw.alloc ?_ _ _)):p:=h
theorem ξ {p:Prop} (h:p:=by first | exact Gw.refl _ | exact (Gw.refl _).drew):p:=h
theorem τ {p:Prop} (h:p:=by repeat (first | exact Gw.refl _ | refine Gw.drew ?_ | refine Gw.drewN ?_ _)):p:=h
