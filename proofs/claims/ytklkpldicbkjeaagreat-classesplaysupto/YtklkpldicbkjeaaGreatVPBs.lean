/- What every walk here keeps: old memory as it was. -/
import Derived.Test.YtklkpldicbkjeaaGreatVA
import Derived.BigQuiet
import Derived.Deep.CondSized
import Derived.Deep.LoopGhost
import Derived.Deep.OwnRows
import Derived.Deep.QuietTactic
import Derived.Deep.RegionHeld3
import Derived.Deep.RegionWith
import Derived.Laws.CopyRow
import Derived.Laws.Pointers
import Derived.OwnWalk
import Derived.RowKit3
import Derived.StillTactics
import Derived.Test.YtklkpldicbkjeaaGreatRows
import Derived.WalkKit
import Derived.WalkLawsBesides
import Derived.WalkSpells
import Init
set_option linter.unusedVariables false
set_option maxHeartbeats 1000000
open Go.Proofs.Tryz
namespace Go.Proofs.YtklkpldicbkjeaaGreat
open Go.RowKit
structure Gb (w w':World):Prop where
 below:Below w.heap.size w w'
 frozen:∀ a,w'.frozen? a=w.frozen? a
theorem Gb.refl (w:World):Gb w w:=⟨Below.refl _ _,fun _=>rfl⟩
theorem Gb.trans {a b c:World} (h:Gb a b) (k:Gb b c):Gb a c :=
 ⟨h.below.trans (k.below.mono h.below.size),fun x=>(k.frozen x).trans (h.frozen x)⟩
theorem Gb.alloc {a w:World} (h:Gb a w) (c:Array Value) (t:TypeId):Gb a (w.alloc (.cells c t)) :=
 ⟨h.below.alloc h.below.size _,fun x=>(frozen?_alloc_cells _ _ _ x).trans (h.frozen x)⟩
theorem Gb.setCell {a w:World} (h:Gb a w) {p:Addr} (hp:a.heap.size<=p.block) (v:Value):Gb a (w.setCell p v) :=
 ⟨h.below.setCell hp v,fun x=>(World.frozen?_setCell _ _ _ _).trans (h.frozen x)⟩
theorem Gb.drew {a w:World} (h:Gb a w):Gb a w.drew:=⟨h.below.drew,h.frozen⟩
theorem Gb.cell {w w':World} (h:Gb w w') (b o:Nat) (hb:b<w.heap.size):w'.cell? ⟨b,o,none⟩=w.cell? ⟨b,o,none⟩:=h.below.cell (p:=⟨b,o,none⟩) hb
theorem Gb.size {w w':World} (h:Gb w w'):w.heap.size<=w'.heap.size:=h.below.size
theorem Gb.facts {W w':World} (h:Gb W w'):(∀ b o,b<W.heap.size->w'.cell? ⟨b,o,none⟩=W.cell? ⟨b,o,none⟩)/\(∀ a,w'.frozen? a=W.frozen? a) :=
 ⟨fun b o hb=>h.cell b o hb,h.frozen⟩
theorem dD (w:World) (b o:Nat) (h:w.heap.size<=b):w.frozen? ⟨b,o,none⟩=false:=by
 have e:w.heap[b]?=none:=by simp;omega
 simp [World.frozen?,e]
structure Gk (k:Nat) (w w':World):Prop where
 gb:Gb w w'
 grew:w'.heap.size=w.heap.size+k
theorem Gk.facts {k:Nat} {W w':World} (h:Gk k W w'):(∀ b o,b<W.heap.size->w'.cell? ⟨b,o,none⟩=W.cell? ⟨b,o,none⟩)/\(∀ a,w'.frozen? a=W.frozen? a)/\w'.heap.size=W.heap.size+k :=
 ⟨fun b o hb=>h.gb.cell b o hb,h.gb.frozen,h.grew⟩
structure H2 (w:World) (b:Nat) (u v:Value):Prop where
 lt:b<w.heap.size
 c0:w.cell? ⟨b,0,none⟩=some u
 c1:w.cell? ⟨b,1,none⟩=some v
theorem H2.gb {w w':World} {b:Nat} {u v:Value} (h:H2 w b u v) (g:Gb w w'):H2 w' b u v :=
 ⟨Nat.lt_of_lt_of_le h.lt g.size,(g.cell b 0 h.lt).trans h.c0,(g.cell b 1 h.lt).trans h.c1⟩
theorem H2.new (w:World) (u v:Value) (t:TypeId):H2 (w.alloc (.cells #[u,v] t)) w.heap.size u v :=
 ⟨by simp,by simp [go_sem],by simp [go_sem]⟩
theorem H2.at {w:World} {b:Nat} {u v:Value} (h:H2 w b u v) (b':Nat) (e:b=b'):H2 w b' u v:=e▸h
theorem H2.alloc {w:World} {b:Nat} {u v:Value} (h:H2 w b u v) (o:Obj):H2 (w.alloc o) b u v :=
 ⟨Nat.lt_of_lt_of_le h.lt (by simp),(World.cell?_alloc_past _ _ _ h.lt).trans h.c0,(World.cell?_alloc_past _ _ _ h.lt).trans h.c1⟩
theorem yw (n:Int):0<=IntKind.u64.wrap n/\IntKind.u64.wrap n<18446744073709551616:=by rw [IntKind.wrap_u64];omega
theorem Gb.drewN {a w:World} (h:Gb a w) (n:Nat):Gb a (w.drewN n):=⟨⟨h.below.os,h.below.tape,h.below.output,h.below.size,h.below.block⟩,h.frozen⟩
def Up (f:Nat->Int) (n:Nat):Prop:=∀ j,j+1<n->f j<f (j+1)
theorem Up.lt {f:Nat->Int} {n:Nat} (h:Up f n):∀ {a b:Nat},a<b->b<n->f a<f b:=by
 intro a b cO hb;induction b with
 | zero=>omega
 | succ b ih =>
  have h1:=h b hb;by_cases e:a=b
  ·subst e;exact h1
  ·have h2:=ih (by omega) (by omega)
   omega
theorem Up.le {f:Nat->Int} {n:Nat} (h:Up f n) {a b:Nat} (cO:a<=b) (hb:b<n):f a<=f b:=by
 by_cases e:a=b
 ·subst e;omega
 ·have:=h.lt (show a<b by omega) hb;omega
def dS (k v:Nat->Int) (g:Nat->Bool) (n:Nat) (e:Int):Prop :=
 (e=0/\Up k n/\∀ j,j<n->¬ (g j=true/\v j≠0)) \/
 (e=30/\∃ i,i+1<n/\Up k (i+1)/\(∀ j,j<i+1->¬ (g j=true/\v j≠0))/\k (i+1)<=k i) \/
 (e=31/\∃ i,i<n/\Up k (i+1)/\(∀ j,j<i->¬ (g j=true/\v j≠0))/\(g i=true/\v i≠0))
theorem dS.ok {k v:Nat->Int} {g:Nat->Bool} {n:Nat} (u:Up k n) (b:∀ j,j<n->¬ (g j=true/\v j≠0)):dS k v g n 0:=.inl ⟨rfl,u,b⟩
theorem dS.order {k v:Nat->Int} {g:Nat->Bool} {n:Nat} (i:Nat) (hi:i+1<n) (u:Up k (i+1)) (b:∀ j,j<i+1->¬ (g j=true/\v j≠0)) (d:k (i+1)<=k i):dS k v g n 30:=.inr (.inl ⟨rfl,i,hi,u,b,d⟩)
theorem dS.gone {k v:Nat->Int} {g:Nat->Bool} {n:Nat} (i:Nat) (hi:i<n) (u:Up k (i+1)) (b:∀ j,j<i->¬ (g j=true/\v j≠0)) (d:g i=true/\v i≠0):dS k v g n 31:=.inr (.inr ⟨rfl,i,hi,u,b,d⟩)
theorem dS.one {k v:Nat->Int} {g:Nat->Bool} {n:Nat} {e e':Int} (h:dS k v g n e) (h':dS k v g n e'):e=e':=by
 rcases h with ⟨e1,u,b⟩ | ⟨e1,i,hi,u,b,d⟩ | ⟨e1,i,hi,u,b,d⟩
 ·rcases h' with ⟨e2,u',b'⟩ | ⟨e2,i,hi,u',b',d⟩ | ⟨e2,i,hi,u',b',d⟩
  ·omega
  ·have:=u i hi;omega
  ·exact absurd d (b i hi)
 ·rcases h' with ⟨e2,u',b'⟩ | ⟨e2,j,hj,u',b',d'⟩ | ⟨e2,j,hj,u',b',d'⟩
  ·have:=u' i hi;omega
  ·omega
  ·rcases Nat.lt_or_ge j (i+1) with hh | hh
   ·exact absurd d' (b j hh)
   ·have:=u' i (by omega);omega
 ·rcases h' with ⟨e2,u',b'⟩ | ⟨e2,j,hj,u',b',d'⟩ | ⟨e2,j,hj,u',b',d'⟩
  ·exact absurd d (b' i hi)
  ·rcases Nat.lt_or_ge i (j+1) with hh | hh
   ·exact absurd d (b' i hh)
   ·have:=u j (by omega);omega
  ·omega
theorem dS.zero {k v:Nat->Int} {g:Nat->Bool} {n:Nat} {e:Int} (h:dS k v g n e):e=0↔(Up k n/\∀ j,j<n->¬ (g j=true/\v j≠0)):=by
 constructor
 ·intro e0
  rcases h with ⟨_,u,b⟩ | ⟨e1,_⟩ | ⟨e1,_⟩
  ·exact ⟨u,b⟩
  ·omega
  ·omega
 ·intro ⟨u,b⟩
  exact h.one (.ok u b)
def lv (g:Nat->Bool):Nat->Nat
 | 0=>0
 | n+1=>lv g n+(if g n=true then 0 else 1)
theorem WY (g:Nat->Bool) (n:Nat):lv g n<=n:=by
 induction n with
 | zero=>simp [lv]
 | succ n ih=>simp only [lv];split<;>omega
structure Gw (w w':World):Prop where
 below:Below w.heap.size w w'
theorem Gw.refl (w:World):Gw w w:=⟨Below.refl _ _⟩
theorem Gw.trans {a b c:World} (h:Gw a b) (k:Gw b c):Gw a c :=
 ⟨h.below.trans (k.below.mono h.below.size)⟩
theorem Gw.alloc {a w:World} (h:Gw a w) (c:Array Value) (t:TypeId):Gw a (w.alloc (.cells c t)) :=
 ⟨h.below.alloc h.below.size _⟩
theorem Gw.setCell {a w:World} (h:Gw a w) {p:Addr} (hp:a.heap.size<=p.block) (v:Value):Gw a (w.setCell p v) :=
 ⟨h.below.setCell hp v⟩
theorem Gw.drew {a w:World} (h:Gw a w):Gw a w.drew:=⟨h.below.drew⟩
theorem Gw.drewN {a w:World} (h:Gw a w) (n:Nat):Gw a (w.drewN n):=by
 obtain ⟨q1⟩:=h;exact ⟨q1.trans ⟨rfl,rfl,rfl,Nat.le_refl _,fun _ _=>rfl⟩⟩
theorem Gw.grown {a w w':World} {row:Option Nat} (h:Gw a w) (g:w.grownBy w' row) (hr:∀ k,row=some k->a.heap.size<=k):Gw a w' :=
 ⟨h.below.grown g h.below.size hr⟩
theorem Gw.cell {w w':World} (h:Gw w w') (b o:Nat) (hb:b<w.heap.size):w'.cell? ⟨b,o,none⟩=w.cell? ⟨b,o,none⟩:=h.below.cell (p:=⟨b,o,none⟩) hb
theorem Gw.size {w w':World} (h:Gw w w'):w.heap.size<=w'.heap.size:=h.below.size
theorem Gb.gw {w w':World} (h:Gb w w'):Gw w w':=⟨h.below⟩
structure KS (w:World) (ao:Option Addr) (n:Nat) (f:Nat->Int):Prop where
 cells:0<n->∃ b off,ao=some ⟨b,off,none⟩/\b<w.heap.size/\∀ i,i<n->w.cell? ⟨b,off+i,none⟩=some (.int .u64 (f i))
 bd:∀ i,i<n->0<=f i/\f i<18446744073709551616
theorem KS.gw {w w':World} {ao:Option Addr} {n:Nat} {f:Nat->Int} (h:KS w ao n f) (g:Gw w w'):KS w' ao n f :=
 ⟨fun hn=>by
  obtain ⟨b,off,e,hb,hc⟩:=h.cells hn;exact ⟨b,off,e,Nat.lt_of_lt_of_le hb g.size,fun i hi=>(g.cell b (off+i) hb).trans (hc i hi)⟩,h.bd⟩
theorem qm (m:Nat) (h:m<4611686018427387904):IntKind.i64.wrap (m:Int)=m:=by rw [IntKind.wrap_i64];omega
theorem WZ {w w':World} {b t n:Nat} {f:Nat->Value} (h:w.rowIs b t n f) (g:Gw w w'):w'.rowIs b t n f:=h.of_block (g.below.block _ h.lt)
theorem oF:(prog.info? 34).map (fun i=>(i.zero,i.size,i.bytes))=some (some (.int .u64 0),1,8):=by kernel_rfl
theorem sJ {P:Program} (w:World) {ops:Array Oper} {rest:List Oper} {o:Oper} {a:Act} {Q:Exit->Act->World->Prop} (oG:o.guard=none) (s x:Operand) (t:TypeId)
  (ho:o.op=.call { callee:=.builtin .append,args:=#[s,x],argTypes:=#[t,t] })
  (base:Nat) (e:TypeId) (i:TypeInfo) (z:Value) (size bytes:Nat) (ht:P.underlying t=some (.slice e)) (hi:P.info? e=some i) (hz:i.zero=some z)
  (nj:i.size=size) (aL:i.bytes=bytes) (nk:z.cells.size=size) (bZ:0<size)
  (v:Value) (n:Nat) (xs:List Value) (hs:a.eval s=v) (iP:w.ownsRow base e size v n xs)
  (ao:Option Addr) (m c:Nat) (news:List Value) (hx:a.eval x=.slice ao m c) (uz:ao=none->m=0/\c=0) (hl:news.length=m*size) (nu:∀ ad,ao=some ad->∀ j u,news[j]?=some u->w.cell? (ad.add j)=some u) (h1:∀ u∈news,u.oneCell'=true)
  (nA:n+m<=maxLen) (nB:(n+m)*bytes<=140737488355328) (nC:base<=w.heap.size)
  (h:∀ v' w',w'.ownsRow base e size v' (n+m) (xs++news)->w.grownBy w' v.ownBlock->(v'=.slice none 0 0↔v=.slice none 0 0/\m=0)->wpList P ops Q rest (a.put o.dst v') w'):wpList P ops Q (o::rest) a w:=by
 cases ao with
 | some ad=>exact wpList_append_own w oG s x t ho base e i z size bytes ht hi hz nj aL nk bZ v n xs hs iP ad m c news hx hl (nu ad rfl) h1 nA nB nC h
 | none =>
  obtain ⟨rfl,rfl⟩:=uz rfl;have hn:news=[]:=List.eq_nil_of_length_eq_zero (by simpa using hl)
  subst hn;refine wpList_plain oG fun K Xa=>?_
  have Xb:=run_append_owned_none (P:=P) w base t o.type e i size ht hi v n xs iP;unfold Oper.wp;simp [execOp,ho,resolve,invoke,builtin,hs,hx,Xb,Result.andThen];exact Xa _ _ (by simpa using h v w (by simpa using iP) (World.grownBy.refl _ _) (by simp))
theorem cS {w:World} {base e size n:Nat} {v:Value} {xs:List Value} (h:w.ownsRow base e size v n xs) (hv:¬ v=.slice none 0 0):∃ g cap,v=.slice (some ⟨g,0,none⟩) n cap/\base<=g/\n<=cap/\g<w.heap.size:=by
 rcases h.2 with ⟨e,_⟩ | ⟨g,cap,cur,rfl,hg,hh,uA,_⟩
 ·exact absurd e hv
 ·exact ⟨g,cap,rfl,hg,uA,(Array.getElem?_eq_some_iff.1 hh).1⟩
theorem uB {w:World} {base g n cap:Nat} {f:Nat->Int} {xs:List Value} {m:Nat} (h:w.ownsRow base 34 1 (.slice (some ⟨g,0,none⟩) m cap) m xs) (hn:n<=m) (hx:∀ i,i<n->xs[i]?=some (.int .u64 (f i))) (bd:∀ i,i<n->0<=f i/\f i<18446744073709551616):KS w (some ⟨g,0,none⟩) n f :=
 ⟨fun h0=>⟨g,0,rfl,(h.lt g rfl).2,fun i hi=>by rw [Nat.zero_add,h.cellAt i (by omega),hx i hi]⟩,bd⟩
theorem sK (w:World) (x:Int):∀ j u,[Value.int .u64 x][j]?=some u->(w.alloc (.cells #[.int .u64 x] 34)).cell? ((⟨w.heap.size,0,none⟩:Addr).add j)=some u:=by
 intro j u hu;cases j with
 | zero =>
  simp only [List.getElem?_cons_zero,Option.some.injEq] at hu;subst hu;simp [Addr.add,go_sem]
 | succ j=>simp at hu
def eO (a b c d:Int):Prop:=(b≠0/\d=0)\/(b≠0/\d≠0/\a*d<c*b)
structure oH (f:Nat->Int) (S:Nat->Nat->Prop):Prop where
 lt:∀ i j,S i j->i<j
 pos:∀ i j,S i j->0<f j-f i
structure bG (e:Int) (f:Nat->Int) (S:Nat->Nat->Prop) (a b:Int):Prop where
 a0:0<=a
 b1:1<=b
 low:Int.gcd a b=1
 bound:∀ i j,S i j->((j:Int)-i-2*e)*b<=a*(f j-f i)
 att:a=0\/∃ i j,S i j/\0<(j:Int)-i-2*e/\((j:Int)-i-2*e)*b=a*(f j-f i)
def de (e:Int) (f:Nat->Int) (S:Nat->Nat->Prop) (a b:Int):Prop :=
 (a=1/\b=0/\∀ i j,¬ S i j) \/
 (1<=a/\1<=b/\Int.gcd a b=1/\(∀ i j,S i j->a*(f j-f i)<=((j:Int)-i+2*e)*b)/\∃ i j,S i j/\a*(f j-f i)=((j:Int)-i+2*e)*b)
def aQ (e:Int) (f:Nat->Int) (S:Nat->Nat->Prop):Prop :=
 ∀ i j i' j',S i j->S i' j'->((j:Int)-i-2*e)*(f j'-f i')<=((j':Int)-i'+2*e)*(f j-f i)
theorem kO (p q r s:Int):p*q*(r*s)=p*r*(q*s):=by
 rw [Int.mul_assoc,<-Int.mul_assoc q r s,Int.mul_comm q r,Int.mul_assoc r q s,<-Int.mul_assoc]
theorem J8 {b a d:Int} (h:Int.gcd a b=1) (hd:b ∣ a*d):b ∣ d:=by
 have h1:b.natAbs.Coprime a.natAbs:=by
  show Nat.gcd b.natAbs a.natAbs=1;rw [Nat.gcd_comm];exact h
 have h2:b.natAbs ∣ a.natAbs*d.natAbs:=by
  rw [<-Int.natAbs_mul];exact Int.natAbs_dvd_natAbs.2 hd
 exact Int.natAbs_dvd_natAbs.1 (h1.dvd_of_dvd_mul_left h2)
theorem Xc {a b c d:Int} (a0:0<=a) (c0:0<=c) (b1:1<=b) (d1:1<=d) (h:Int.gcd a b=1) (k:Int.gcd c d=1) (e:a*d=c*b):a=c/\b=d:=by
 have hb:b ∣ d:=J8 h ⟨c,by rw [e,Int.mul_comm]⟩
 have hd:d ∣ b:=J8 k ⟨a,by rw [<-e,Int.mul_comm]⟩
 have Xd:b=d:=Int.dvd_antisymm (by omega) (by omega) hb hd
 subst Xd;exact ⟨Int.eq_of_mul_eq_mul_right (by omega) e,rfl⟩
theorem J9 {e:Int} {f:Nat->Int} {S T:Nat->Nat->Prop} {a b c d:Int} (p:oH f S) (h:bG e f S a b) (k:bG e f T c d) (sub:∀ i j,S i j->T i j):a*d<=c*b:=by
 have hb:=h.b1;have hd:=k.b1;have hc:=k.a0;rcases h.att with h0 | ⟨i,j,s,m0,m1⟩
 ·subst h0
  have:0<=c*b:=Int.mul_nonneg hc (by omega)
  omega
 ·have D:=p.pos i j s
  have k1:=k.bound i j (sub i j s);have e1:(a*d)*(f j-f i)=((j:Int)-i-2*e)*d*b:=by
   rw [Int.mul_right_comm,<-m1,Int.mul_right_comm]
  have e2:((j:Int)-i-2*e)*d*b<=c*(f j-f i)*b:=Int.mul_le_mul_of_nonneg_right k1 (by omega)
  have e3:c*(f j-f i)*b=(c*b)*(f j-f i):=Int.mul_right_comm _ _ _;exact Int.le_of_mul_le_mul_right (by rw [e1,<-e3];exact e2) D
theorem bG.one {e:Int} {f:Nat->Int} {S:Nat->Nat->Prop} {a b c d:Int} (p:oH f S) (h:bG e f S a b) (k:bG e f S c d):a=c/\b=d :=
 Xc h.a0 k.a0 h.b1 k.b1 h.low k.low (Int.le_antisymm (J9 p h k fun _ _ s=>s) (J9 p k h fun _ _ s=>s))
theorem J' {e:Int} {f:Nat->Int} {S:Nat->Nat->Prop} {a b c d:Int} (he:0<=e) (p:oH f S) (h:bG e f S a b) (k:de e f S c d):¬ eO c d a b↔aQ e f S:=by
 have hb:=h.b1;have ha:=h.a0;constructor
 ·intro hn i j i' j' s s'
  have D:=p.pos i j s;have D':=p.pos i' j' s';have M':0<=(j':Int)-i'+2*e:=by have:=p.lt i' j' s';omega
  have R:0<=((j':Int)-i'+2*e)*(f j-f i):=Int.mul_nonneg M' (by omega)
  by_cases m0:(j:Int)-i-2*e<=0
  ·have:((j:Int)-i-2*e)*(f j'-f i')<=0:=by
    have:=Int.mul_le_mul_of_nonneg_right m0 (show 0<=f j'-f i' by omega)
    omega
   omega
  ·rcases k with ⟨_,_,no⟩ | ⟨c1,d1,_,kb,_⟩
   ·exact absurd s (no i j)
   ·have hle:a*d<=c*b:=by
     rcases Int.lt_or_le (c*b) (a*d) with q | q
     ·exact absurd (.inr ⟨by omega,by omega,q⟩) hn
     ·exact q
    have h1:=h.bound i j s;have k1:=kb i' j' s';have s1:((j:Int)-i-2*e)*b*((f j'-f i')*d)<=a*(f j-f i)*((f j'-f i')*d):=Int.mul_le_mul_of_nonneg_right h1 (Int.mul_nonneg (by omega) (by omega))
    have s2:a*d*((f j-f i)*(f j'-f i'))<=c*b*((f j-f i)*(f j'-f i')):=Int.mul_le_mul_of_nonneg_right hle (Int.mul_nonneg (by omega) (by omega))
    have s3:c*(f j'-f i')*((f j-f i)*b)<=((j':Int)-i'+2*e)*d*((f j-f i)*b):=Int.mul_le_mul_of_nonneg_right k1 (Int.mul_nonneg (by omega) (by omega))
    have t1:((j:Int)-i-2*e)*b*((f j'-f i')*d)=((j:Int)-i-2*e)*(f j'-f i')*(b*d):=kO _ _ _ _;have t2:a*(f j-f i)*((f j'-f i')*d)=a*d*((f j-f i)*(f j'-f i')):=by
     rw [Int.mul_comm (f j'-f i') d,kO]
    have t3:c*b*((f j-f i)*(f j'-f i'))=c*(f j'-f i')*((f j-f i)*b):=by
     rw [Int.mul_comm (f j-f i) (f j'-f i'),kO,Int.mul_comm b]
    have t4:((j':Int)-i'+2*e)*d*((f j-f i)*b)=((j':Int)-i'+2*e)*(f j-f i)*(b*d):=by
     rw [kO,Int.mul_comm d b]
    have fin:((j:Int)-i-2*e)*(f j'-f i')*(b*d)<=((j':Int)-i'+2*e)*(f j-f i)*(b*d):=by
     rw [<-t1,<-t4];refine Int.le_trans s1 ?_;rw [t2];refine Int.le_trans s2 ?_;rw [t3];exact s3
    exact Int.le_of_mul_le_mul_right fin (Int.mul_pos (by omega) (by omega))
 ·intro hF hB
  rcases hB with ⟨_,q⟩ | ⟨_,_,q⟩
  ·omega
  ·rcases k with ⟨rfl,rfl,_⟩ | ⟨c1,d1,_,_,i',j',s',k1⟩
   ·omega
   ·rcases h.att with h0 | ⟨i,j,s,_,h1⟩
    ·subst h0
     have:0<=c*b:=Int.mul_nonneg (by omega) (by omega)
     omega
    ·have D:=p.pos i j s
     have D':=p.pos i' j' s';have h2:=hF i j i' j' s s';have s1:((j:Int)-i-2*e)*(f j'-f i')*(b*d)<=((j':Int)-i'+2*e)*(f j-f i)*(b*d):=Int.mul_le_mul_of_nonneg_right h2 (Int.mul_nonneg (by omega) (by omega))
     rw [kO,h1,Int.mul_comm b d,kO ((j':Int)-i'+2*e),<-k1] at s1;have t1:a*(f j-f i)*((f j'-f i')*d)=a*d*((f j-f i)*(f j'-f i')):=by
      rw [Int.mul_comm (f j'-f i') d,kO]
     have t2:c*(f j'-f i')*((f j-f i)*b)=c*b*((f j-f i)*(f j'-f i')):=by
      rw [Int.mul_comm (f j-f i) b,kO,Int.mul_comm (f j'-f i')]
     rw [t1,t2] at s1;have:=Int.le_of_mul_le_mul_right s1 (Int.mul_pos D D');omega
def qs (S:Nat->Nat->Prop) (p q:Nat) (i j:Nat):Prop:=S i j\/(i=p/\j=q)
theorem bG.skip {e:Int} {f:Nat->Int} {S:Nat->Nat->Prop} {a b:Int} {p q:Nat} (h:bG e f S a b) (hD:0<f q-f p) (m0:(q:Int)-p-2*e<=0):bG e f (qs S p q) a b:=by
 have hb:=h.b1;have ha:=h.a0;refine ⟨h.a0,h.b1,h.low,fun i j s=>?_,?_⟩
 ·rcases s with s | ⟨rfl,rfl⟩
  ·exact h.bound i j s
  ·have h1:=Int.mul_le_mul_of_nonneg_right m0 (show 0<=b by omega)
   have h2:0<=a*(f j-f i):=Int.mul_nonneg ha (by omega)
   omega
 ·rcases h.att with h0 | ⟨i,j,s,r⟩
  ·exact .inl h0
  ·exact .inr ⟨i,j,.inl s,r⟩
theorem bG.keep {e:Int} {f:Nat->Int} {S:Nat->Nat->Prop} {a b c d g:Int} {p q:Nat} (h:bG e f S a b) (g0:0<g) (d1:1<=d) (ec:c*g=(q:Int)-p-2*e) (ed:d*g=f q-f p) (hn:¬ eO a b c d):bG e f (qs S p q) a b:=by
 have hb:=h.b1;have ha:=h.a0;have hle:c*b<=a*d:=by
  rcases Int.lt_or_le (a*d) (c*b) with r | r
  ·exact absurd (.inr ⟨by omega,by omega,r⟩) hn
  ·exact r
 refine ⟨h.a0,h.b1,h.low,fun i j s=>?_,?_⟩
 ·rcases s with s | ⟨rfl,rfl⟩
  ·exact h.bound i j s
  ·rw [<-ec,<-ed,Int.mul_right_comm,<-Int.mul_assoc]
   exact Int.mul_le_mul_of_nonneg_right hle (by omega)
 ·rcases h.att with h0 | ⟨i,j,s,r⟩
  ·exact .inl h0
  ·exact .inr ⟨i,j,.inl s,r⟩
theorem bG.take {e:Int} {f:Nat->Int} {S:Nat->Nat->Prop} {a b c d g:Int} {p q:Nat} (ps:oH f S) (h:bG e f S a b) (g0:0<g) (c1:1<=c) (d1:1<=d) (hg:Int.gcd c d=1) (ec:c*g=(q:Int)-p-2*e) (ed:d*g=f q-f p) (hB:eO a b c d):bG e f (qs S p q) c d:=by
 have hb:=h.b1;have ha:=h.a0;have hle:a*d<=c*b:=by
  rcases hB with ⟨_,r⟩ | ⟨_,_,r⟩<;>omega
 refine ⟨by omega,d1,hg,fun i j s=>?_,.inr ⟨p,q,.inr ⟨rfl,rfl⟩,by rw [<-ec];exact Int.mul_pos (by omega) g0,by rw [<-ec,<-ed,Int.mul_right_comm,<-Int.mul_assoc]⟩⟩
 rcases s with s | ⟨rfl,rfl⟩
 ·have h1:=h.bound i j s
  have D:=ps.pos i j s;have s1:((j:Int)-i-2*e)*b*d<=a*(f j-f i)*d:=Int.mul_le_mul_of_nonneg_right h1 (by omega)
  have s2:a*d*(f j-f i)<=c*b*(f j-f i):=Int.mul_le_mul_of_nonneg_right hle (by omega)
  have t1:a*(f j-f i)*d=a*d*(f j-f i):=Int.mul_right_comm _ _ _;have t2:c*b*(f j-f i)=c*(f j-f i)*b:=Int.mul_right_comm _ _ _;have t3:((j:Int)-i-2*e)*b*d=((j:Int)-i-2*e)*d*b:=Int.mul_right_comm _ _ _;rw [t3,t1] at s1;rw [t2] at s2;exact Int.le_of_mul_le_mul_right (Int.le_trans s1 s2) (by omega)
 ·rw [<-ec,<-ed,Int.mul_right_comm,<-Int.mul_assoc]
  exact Int.le_refl _
theorem de.keep {e:Int} {f:Nat->Int} {S:Nat->Nat->Prop} {a b c d g:Int} {p q:Nat} (h:de e f S a b) (g0:0<g) (c1:1<=c) (d1:1<=d) (ec:c*g=(q:Int)-p+2*e) (ed:d*g=f q-f p) (hn:¬ eO c d a b):de e f (qs S p q) a b:=by
 rcases h with ⟨rfl,rfl,_⟩ | ⟨a1,b1,hg,hb,i,j,s,r⟩
 ·exact absurd (.inl ⟨by omega,rfl⟩) hn
 ·have hle:a*d<=c*b:=by
   rcases Int.lt_or_le (c*b) (a*d) with r | r
   ·exact absurd (.inr ⟨by omega,by omega,r⟩) hn
   ·exact r
  refine .inr ⟨a1,b1,hg,fun i j s=>?_,i,j,.inl s,r⟩
  rcases s with s | ⟨rfl,rfl⟩
  ·exact hb i j s
  ·rw [<-ec,<-ed,Int.mul_right_comm,<-Int.mul_assoc]
   exact Int.mul_le_mul_of_nonneg_right hle (by omega)
theorem de.take {e:Int} {f:Nat->Int} {S:Nat->Nat->Prop} {a b c d g:Int} {p q:Nat} (ps:oH f S) (h:de e f S a b) (g0:0<g) (c1:1<=c) (d1:1<=d) (hg:Int.gcd c d=1) (ec:c*g=(q:Int)-p+2*e) (ed:d*g=f q-f p) (hB:eO c d a b):de e f (qs S p q) c d:=by
 refine .inr ⟨c1,d1,hg,fun i j s=>?_,p,q,.inr ⟨rfl,rfl⟩,by rw [<-ec,<-ed,Int.mul_right_comm,<-Int.mul_assoc]⟩
 rcases s with s | ⟨rfl,rfl⟩
 ·rcases h with ⟨_,_,no⟩ | ⟨a1,b1,_,hb,_⟩
  ·exact absurd s (no i j)
  ·have hle:c*b<=a*d:=by
    rcases hB with ⟨_,r⟩ | ⟨_,_,r⟩<;>omega
   have h1:=hb i j s;have D:=ps.pos i j s;have s1:a*(f j-f i)*d<=((j:Int)-i+2*e)*b*d:=Int.mul_le_mul_of_nonneg_right h1 (by omega)
   have s2:c*b*(f j-f i)<=a*d*(f j-f i):=Int.mul_le_mul_of_nonneg_right hle (by omega)
   have t1:a*(f j-f i)*d=a*d*(f j-f i):=Int.mul_right_comm _ _ _;have t2:c*b*(f j-f i)=c*(f j-f i)*b:=Int.mul_right_comm _ _ _;have t3:((j:Int)-i+2*e)*b*d=((j:Int)-i+2*e)*d*b:=Int.mul_right_comm _ _ _;rw [t1,t3] at s1;rw [t2] at s2;exact Int.le_of_mul_le_mul_right (Int.le_trans s2 s1) (by omega)
 ·rw [<-ec,<-ed,Int.mul_right_comm,<-Int.mul_assoc]
  exact Int.le_refl _
def ay (n:Nat) (i j:Nat):Prop:=i<j/\j<n
def aC (f:Nat->Int) (n:Nat) (x:Int) (i:Nat):Int:=if i=n then x else f i
theorem dO (f:Nat->Int) (n:Nat) (x:Int):aC f n x n=x:=if_pos rfl
theorem bu {f:Nat->Int} {n:Nat} {x:Int} {i:Nat} (h:i<n):aC f n x i=f i:=if_neg (by omega)
theorem sL {f:Nat->Int} {n:Nat} (u:Up f n):oH f (ay n) :=
 ⟨fun i j s=>s.1,fun i j s=>by have:=u.lt s.1 s.2;omega⟩
theorem Cg {f:Nat->Int} {n:Nat} {x:Int} (u:Up f n) (h:0<n->f (n-1)<x):Up (aC f n x) (n+1):=by
 intro j hj;by_cases e:j+1=n
 ·rw [e,dO,bu (by omega)]
  have:=h (by omega)
  rw [show n-1=j by omega] at this
  exact this
 ·rw [bu (by omega),bu (by omega)]
  exact u j (by omega)
theorem bG.congr {e:Int} {f g:Nat->Int} {S T:Nat->Nat->Prop} {a b:Int} (h:bG e f S a b) (st:∀ i j,S i j↔T i j) (q:∀ i j,S i j->f j-f i=g j-g i):bG e g T a b :=
 ⟨h.a0,h.b1,h.low,fun i j s=>by rw [<-q i j ((st i j).2 s)];exact h.bound i j ((st i j).2 s),by
  rcases h.att with h0 | ⟨i,j,s,m,r⟩
  ·exact .inl h0
  ·exact .inr ⟨i,j,(st i j).1 s,m,by rw [<-q i j s];exact r⟩⟩
theorem de.congr {e:Int} {f g:Nat->Int} {S T:Nat->Nat->Prop} {a b:Int} (h:de e f S a b) (st:∀ i j,S i j↔T i j) (q:∀ i j,S i j->f j-f i=g j-g i):de e g T a b:=by
 rcases h with ⟨h1,h2,no⟩ | ⟨a1,b1,hg,hb,i,j,s,r⟩
 ·exact .inl ⟨h1,h2,fun i j s=>no i j ((st i j).2 s)⟩
 ·exact .inr ⟨a1,b1,hg,fun i j s=>by rw [<-q i j ((st i j).2 s)];exact hb i j ((st i j).2 s),i,j,(st i j).1 s,by rw [<-q i j s];exact r⟩
theorem aQ.congr {e:Int} {f g:Nat->Int} {S T:Nat->Nat->Prop} (h:aQ e f S) (st:∀ i j,T i j->S i j) (q:∀ i j,T i j->f j-f i=g j-g i):aQ e g T :=
 fun i j i' j' s s'=>by rw [<-q i j s,<-q i' j' s'];exact h i j i' j' (st i j s) (st i' j' s')
def fC (n i:Nat) (p q:Nat):Prop:=(p<q/\q<n)\/(p<i/\q=n)
theorem Ka (n:Nat) (p q:Nat):ay n p q↔fC n 0 p q:=by unfold ay fC;omega
theorem nD (n i:Nat) (p q:Nat):qs (fC n i) i n p q↔fC n (i+1) p q:=by unfold qs fC;omega
theorem Kb (n:Nat) (p q:Nat):fC n n p q↔ay (n+1) p q:=by unfold ay fC;omega
theorem yx {f:Nat->Int} {n i:Nat} (u:Up f (n+1)) (hi:i<=n):oH f (fC n i) :=
 ⟨fun p q s=>by unfold fC at s;omega,fun p q s=>by
  have h1:p<q/\q<n+1:=by unfold fC at s;omega
  have:=u.lt h1.1 h1.2;omega⟩
def Ch (e:Int) (n:Nat) (f:Nat->Int) (x:Int) (ok:Bool) (err:Int):Prop :=
 (0<n/\x<=f (n-1)/\ok=false/\err=40)\/(¬ (0<n/\x<=f (n-1))/\err=0/\(ok=true↔aQ e (aC f n x) (ay (n+1))))
theorem yy {e:Int} {f:Nat->Int} {n:Nat} (he:0<=e) (u:Up f n) (hn:(n:Int)<=2*e+1):aQ e f (ay n):=by
 intro i j i' j' s s';have p:=sL u;have D:=p.pos i j s;have D':=p.pos i' j' s';have h1:(j:Int)-i-2*e<=0:=by have:=s.2;omega
 have h2:0<=(j':Int)-i'+2*e:=by have:=s'.1;omega
 have h3:=Int.mul_le_mul_of_nonneg_right h1 (show 0<=f j'-f i' by omega)
 have h4:0<=((j':Int)-i'+2*e)*(f j-f i):=Int.mul_nonneg h2 (by omega)
 omega
theorem Xe (e:Int) (f:Nat->Int) {n:Nat} (hn:n<2):bG e f (ay n) 0 1 :=
 ⟨by omega,by omega,by decide,fun i j s=>by have:=s.1;have:=s.2;omega,.inl rfl⟩
theorem Xf (e:Int) (f:Nat->Int) {n:Nat} (hn:n<2):de e f (ay n) 1 0 :=
 .inl ⟨rfl,rfl,fun i j s=>by have:=s.1;have:=s.2;omega⟩
def yz (e:Int) (f:Nat->Int) (n:Nat) (a b:Int):Prop:=∀ i j,i<n->j<n->((i:Int)-j-2*e)*b<=a*(f i-f j)
theorem Xg {e:Int} {f:Nat->Int} {n:Nat} {a b:Int} (he:0<=e) (b1:1<=b) (h1:∀ i j,ay n i j->((j:Int)-i-2*e)*b<=a*(f j-f i)) (h2:∀ i j,ay n i j->a*(f j-f i)<=((j:Int)-i+2*e)*b):yz e f n a b:=by
 intro i j hi hj;rcases Nat.lt_trichotomy i j with q | q | q
 ·have:=h2 i j ⟨q,hj⟩
  have e1:((i:Int)-j-2*e)*b=-(((j:Int)-i+2*e)*b):=by rw [<-Int.neg_mul];congr 1;omega
  have e2:a*(f i-f j)=-(a*(f j-f i)):=by rw [<-Int.mul_neg];congr 1;omega
  rw [e1,e2];omega
 ·subst q
  have:((i:Int)-i-2*e)*b<=0*b:=Int.mul_le_mul_of_nonneg_right (by omega) (by omega)
  have e2:a*(f i-f i)=0:=by rw [Int.sub_self,Int.mul_zero]
  rw [e2];omega
 ·exact h1 j i ⟨q,hi⟩
theorem Kc {e:Int} {f:Nat->Int} {n m:Nat} (h:aQ e f (ay n)) (hm:m<=n):aQ e f (ay m) :=
 h.congr (fun i j s=>⟨s.1,by have:=s.2;omega⟩) (fun _ _ _=>rfl)
def Xh (a b c d:Int):Prop:=b=0\/c < -2305843009213693952\/2305843009213693952<c\/2305843009213693952<a*d/b
def Kd (e:Int) (f:Nat->Int) (n:Nat) (a b c:Int):Prop:=∀ i,i<n->¬ Xh a b c (f i-f 0)/\(i:Int)-e<=a*(f i-f 0)/b+c/\a*(f i-f 0)/b+c<=(i:Int)+e
def Xi (eps:Int) (f:Nat->Int) (n:Nat) (a b c:Int):Prop:=(2<=eps/\eps<=64)/\0<n/\Up f n/\Kd (eps-1) f n a b c
structure lW (e:Int) (f:Nat->Int) (n:Nat) (a b c:Int):Prop where
 ge:∀ i,i<n->(i:Int)-e<=a*(f i-f 0)/b+c
 att:∃ i,i<n/\(i:Int)-e=a*(f i-f 0)/b+c
theorem lW.one {e:Int} {f:Nat->Int} {n:Nat} {a b c c':Int} (h:lW e f n a b c) (k:lW e f n a b c'):c=c':=by
 obtain ⟨i,hi,ei⟩:=h.att;obtain ⟨j,hj,ej⟩:=k.att;have:=h.ge j hj;have:=k.ge i hi;omega
def dP (eps:Int) (f:Nat->Int) (n:Nat) (a b c err:Int):Prop :=
 (¬ (2<=eps/\eps<=64)/\a=0/\b=0/\c=0/\err=1) \/
 ((2<=eps/\eps<=64)/\¬ (0<n/\Up f n)/\a=0/\b=0/\c=0/\err=50) \/
 ((2<=eps/\eps<=64)/\(0<n/\Up f n)/\¬ aQ (eps-1) f (ay n)/\a=0/\b=0/\c=0/\err=51) \/
 ((2<=eps/\eps<=64)/\(0<n/\Up f n)/\aQ (eps-1) f (ay n)/\bG (eps-1) f (ay n) a b/\lW (eps-1) f n a b c/\err=0)
theorem dP.one {eps:Int} {f:Nat->Int} {n:Nat} {a b c err a' b' c' Ke:Int} (h:dP eps f n a b c err) (k:dP eps f n a' b' c' Ke):(a=a'/\b=b'/\c=c')/\err=Ke:=by
 rcases h with ⟨h1,rfl,rfl,rfl,rfl⟩ | ⟨h1,h2,rfl,rfl,rfl,rfl⟩ | ⟨h1,h2,h3,rfl,rfl,rfl,rfl⟩ | ⟨h1,h2,h3,h4,h5,rfl⟩
 ·rcases k with ⟨k1,rfl,rfl,rfl,rfl⟩ | ⟨k1,_⟩ | ⟨k1,_⟩ | ⟨k1,_⟩
  ·exact ⟨⟨rfl,rfl,rfl⟩,rfl⟩
  all_goals exact absurd k1 h1
 ·rcases k with ⟨k1,_⟩ | ⟨_,k2,rfl,rfl,rfl,rfl⟩ | ⟨_,k2,_⟩ | ⟨_,k2,_⟩
  ·exact absurd h1 k1
  ·exact ⟨⟨rfl,rfl,rfl⟩,rfl⟩
  all_goals exact absurd k2 h2
 ·rcases k with ⟨k1,_⟩ | ⟨_,k2,_⟩ | ⟨_,k2,k3,rfl,rfl,rfl,rfl⟩ | ⟨_,k2,k3,_⟩
  ·exact absurd h1 k1
  ·exact absurd h2 k2
  ·exact ⟨⟨rfl,rfl,rfl⟩,rfl⟩
  ·exact absurd k3 h3
 ·rcases k with ⟨k1,_⟩ | ⟨_,k2,_⟩ | ⟨_,k2,k3,_⟩ | ⟨_,k2,k3,k4,k5,rfl⟩
  ·exact absurd h1 k1
  ·exact absurd h2 k2
  ·exact absurd h3 k3
  ·obtain ⟨rfl,rfl⟩:=h4.one (sL h2.2) k4
   exact ⟨⟨rfl,rfl,h5.one k5⟩,rfl⟩
theorem Xj {x y b k:Int} (b1:1<=b) (h:k*b<=x-y):k<=x/b-y/b:=by
 have hx:=Int.emod_add_mul_ediv x b;have hy:=Int.emod_add_mul_ediv y b;have rx:=Int.emod_nonneg x (show b≠0 by omega)
 have rx':=Int.emod_lt_of_pos x (show 0<b by omega)
 have ry:=Int.emod_nonneg y (show b≠0 by omega)
 have ry':=Int.emod_lt_of_pos y (show 0<b by omega)
 have key:(k-1)*b<(x/b-y/b)*b:=by
  have e1:(k-1)*b=k*b-b:=by rw [Int.sub_mul,Int.one_mul]
  have e2:(x/b-y/b)*b=b*(x/b)-b*(y/b):=by rw [Int.sub_mul,Int.mul_comm,Int.mul_comm (y/b)]
  omega
 have:=Int.lt_of_mul_lt_mul_right key (by omega)
 omega
theorem Xk {e:Int} {f:Nat->Int} {n:Nat} {a b c:Int} (he:0<=e) (b1:1<=b) (h:yz e f n a b) (B:lW e f n a b c):∀ i,i<n->(i:Int)-e<=a*(f i-f 0)/b+c/\a*(f i-f 0)/b+c<=(i:Int)+e:=by
 intro i hi;refine ⟨B.ge i hi,?_⟩;obtain ⟨j,hj,ej⟩:=B.att;have k:=h j i hj hi;have e1:a*(f j-f i)=a*(f j-f 0)-a*(f i-f 0):=by rw [<-Int.mul_sub];congr 1;omega
 rw [e1] at k;have:=Xj b1 k;omega
theorem uC {e:Int} {f:Nat->Int} {n:Nat} {a b:Int} (he:0<=e) (u:Up f n) (h:bG e f (ay n) a b) (hF:aQ e f (ay n)) {i:Nat} (hi:i<n):0<=a*(f i-f 0)/b/\a*(f i-f 0)/b<=(n:Int)+2*e:=by
 have b1:=h.b1;have d0:=u.le (Nat.zero_le i) hi;refine ⟨Int.ediv_nonneg (Int.mul_nonneg h.a0 (by omega)) (by omega),?_⟩
 by_cases z:i=0
 ·subst z
  rw [Int.sub_self,Int.mul_zero,Int.zero_ediv];omega
 ·
  have p:=sL u;have s:ay n 0 i:=⟨by omega,hi⟩
  have D:=p.pos 0 i s;have up:a*(f i-f 0)<=((i:Int)-(0:Nat)+2*e)*b:=by
   rcases h.att with q | ⟨i0,j0,s0,m0,r⟩
   ·rw [q,Int.zero_mul]
    exact Int.mul_nonneg (by omega) (by omega)
   ·have D0:=p.pos i0 j0 s0
    have k:=hF i0 j0 0 i s0 s;have k1:=Int.mul_le_mul_of_nonneg_right k (show 0<=b by omega)
    rw [Int.mul_right_comm _ (f i-f 0) b,r,Int.mul_right_comm _ (f j0-f i0) b,Int.mul_right_comm a (f j0-f i0) (f i-f 0)] at k1;exact Int.le_of_mul_le_mul_right k1 D0
  have:=Int.ediv_le_of_le_mul (show 0<b by omega) up
  omega
theorem Kf {eps:Int} {f:Nat->Int} {n:Nat} {a b c:Int} (k:2<=eps/\eps<=64) (u:Up f n) (n0:0<n) (hn:n<=100000000) (hF:aQ (eps-1) f (ay n)) (h:bG (eps-1) f (ay n) a b) (nr:yz (eps-1) f n a b) (B:lW (eps-1) f n a b c):Kd (eps-1) f n a b c/\(-(eps-1)<=c/\c<=n):=by
 have b1:=h.b1;have Xl:=B.ge 0 n0;rw [Int.sub_self,Int.mul_zero,Int.zero_ediv] at Xl;obtain ⟨j,hj,ej⟩:=B.att;have sj:=uC (by omega) u h hF hj
 have hc:-(eps-1)<=c/\c<=n:=by omega
 refine ⟨fun i hi=>⟨fun q=>?_,Xk (by omega) b1 nr B i hi⟩,hc⟩
 have si:=uC (by omega) u h hF hi
 rcases q with q | q | q | q<;>omega
theorem Kg {e:Int} {f:Nat->Int} {n:Nat} {a b:Int} (he:0<=e) (u:Up f n) (h:bG e f (ay n) a b) (hF:aQ e f (ay n)):yz e f n a b:=by
 have b1:=h.b1;have p:=sL u;refine Xg he b1 h.bound (fun i j s=>?_)
 rcases h.att with q | ⟨i0,j0,s0,m0,r⟩
 ·rw [q,Int.zero_mul]
  have:=s.1
  exact Int.mul_nonneg (by omega) (by omega)
 ·have D0:=p.pos i0 j0 s0
  have k:=hF i0 j0 i j s0 s;have k1:=Int.mul_le_mul_of_nonneg_right k (show 0<=b by omega)
  rw [Int.mul_right_comm _ (f j-f i) b,r,Int.mul_right_comm _ (f j0-f i0) b,Int.mul_right_comm a (f j0-f i0) (f j-f i)] at k1;exact Int.le_of_mul_le_mul_right k1 D0
structure Told (eps:Int) (f:Nat->Int) (n:Nat) (a b c:Int):Prop where
 e1:2<=eps
 e2:eps<=64
 n0:0<n
 up:Up f n
 fits:aQ (eps-1) f (ay n)
 low:bG (eps-1) f (ay n) a b
 base:lW (eps-1) f n a b c
theorem dP.cases {eps:Int} {f:Nat->Int} {n:Nat} {a b c err:Int} (h:dP eps f n a b c err):(¬ err=0/\a=0/\b=0/\c=0)\/(err=0/\Told eps f n a b c):=by
 rcases h with ⟨_,h1,h2,h3,rfl⟩ | ⟨_,_,h1,h2,h3,rfl⟩ | ⟨_,_,_,h1,h2,h3,rfl⟩ | ⟨k1,k2,k3,k4,k5,rfl⟩
 ·exact .inl ⟨by decide,h1,h2,h3⟩
 ·exact .inl ⟨by decide,h1,h2,h3⟩
 ·exact .inl ⟨by decide,h1,h2,h3⟩
 ·exact .inr ⟨rfl,k1.1,k1.2,k2.1,k2.2,k3,k4,k5⟩
theorem Told.stays {eps:Int} {f:Nat->Int} {n:Nat} {a b c:Int} (h:Told eps f n a b c) (hn:n<=100000000):Xi eps f n a b c/\(-(eps-1)<=c/\c<=n):=by
 have:=h.e1
 have s:=Kf ⟨h.e1,h.e2⟩ h.up h.n0 hn h.fits h.low (Kg (by omega) h.up h.low h.fits) h.base
 exact ⟨⟨⟨h.e1,h.e2⟩,h.n0,h.up,s.1⟩,s.2⟩
def GW (W:World):Type:={ w':World // Gb W w' }
theorem GW.cell {W:World} {b o:Nat} {v:Value} (h:W.cell? ⟨b,o,none⟩=some v) (hb:b<W.heap.size):∀ g:GW W,g.1.cell? ⟨b,o,none⟩=some v :=
 fun g=>(g.2.cell b o hb).trans h
theorem GW.some (W:World):Nonempty (GW W):=⟨⟨W,Gb.refl W⟩⟩
theorem Xm {P:Program} {id:Nat} {Q:Exit->Act->World->Prop} {a:Act} {w:World} {l:List Oper} (hm:P.follows .mixedOrders=true) (hB:Region.lexB .any l.toArray=true)
  (h:wpQuiet P l.toArray (fun w'=>∃ g:GW w,w'=g.1) (fun a'=>∀ w',(∃ g:GW w,w'=g.1)->Q .normal a' w') l a):(Code.region id l.toArray true).wp P Q a w :=
 wp_region_quiet (C:=fun w'=>∃ g:GW w,w'=g.1) hm hB ⟨⟨_,(Gb.refl w).drew⟩,rfl⟩ (by simpa using h)
theorem Xn {P:Program} {f:FuncId} {args:Array Value} {W:World} {g:GW W} {v:Value}
  (h:Calls P f args g.1 fun e w'=>e=.returned v/\Gb g.1 w'):Calls P f args g.1 fun e dE=>e=.returned v/\∃ g':GW W,dE=g'.1 :=
 h.mono fun _ _ ⟨he,hm⟩=>⟨he,⟨_,g.2.trans hm⟩,rfl⟩
theorem Ci {P:Program} {f:FuncId} {args:Array Value} {W:World} {g:GW W} {v:Value} {k:Nat}
  (h:Calls P f args g.1 fun e w'=>e=.returned v/\Gk k g.1 w'):Calls P f args g.1 fun e dE=>e=.returned v/\∃ g':GW W,dE=g'.1 :=
 Xn (h.mono fun _ _ ⟨he,hm⟩=>⟨he,hm.gb⟩)
theorem H2.drew {w:World} {b:Nat} {u v:Value} (h:H2 w b u v):H2 w.drew b u v:=⟨h.lt,h.c0,h.c1⟩
def GX (W:World):Type:={ w':World // Gw W w' }
theorem GX.cell {W:World} {b o:Nat} {v:Value} (h:W.cell? ⟨b,o,none⟩=some v) (hb:b<W.heap.size):∀ g:GX W,g.1.cell? ⟨b,o,none⟩=some v :=
 fun g=>(g.2.cell b o hb).trans h
theorem GX.gw {W:World} (g:GX W):Gw W g.1:=g.2
theorem GX.some (W:World):Nonempty (GX W):=⟨⟨W,Gw.refl W⟩⟩
theorem fO {P:Program} {id:Nat} {Q:Exit->Act->World->Prop} {a:Act} {w:World} {l:List Oper} (hm:P.follows .mixedOrders=true) (hB:Region.lexB .any l.toArray=true)
  (h:wpQuiet P l.toArray (fun w'=>∃ g:GX w,w'=g.1) (fun a'=>∀ w',(∃ g:GX w,w'=g.1)->Q .normal a' w') l a):(Code.region id l.toArray true).wp P Q a w :=
 wp_region_quiet (C:=fun w'=>∃ g:GX w,w'=g.1) hm hB ⟨⟨_,(Gw.refl w).drew⟩,rfl⟩ (by simpa using h)
theorem dQ {P:Program} {f:FuncId} {args:Array Value} {W:World} {g:GX W} {v:Value}
  (h:Calls P f args g.1 fun e w'=>e=.returned v/\Gw g.1 w'):Calls P f args g.1 fun e dE=>e=.returned v/\∃ g':GX W,dE=g'.1 :=
 h.mono fun _ _ ⟨he,hm⟩=>⟨he,⟨_,g.2.trans hm⟩,rfl⟩
theorem Cj (ao:Option Addr) (n c:Nat) (f:Nat->Int) (hn:n<4611686018427387904) (w:World) (h:KS w ao n f) :
  Calls prog 85 #[.slice ao n c] w fun e w'=>(∃ r:Bool,e=.returned (.bool r)/\(r=true↔Up f n))/\Gw w w':=by
 go_enter func85,ntmps85;go_wp2_with fail;go_loopg [3] n (fun gg s3 wr=>∃ i:Nat,s3=.int .i64 i/\1<=i/\(i<=n\/i=1)/\n-i<=gg/\ag (∀ j,j+1<i->f j<f (j+1))/\ag (Gw w wr))
 case atStart=>exact ⟨1,rfl,Nat.le_refl _,.inr rfl,by omega,fun j hj=>by omega,Gw.refl w⟩
 case round =>
  obtain ⟨i,rfl,h1,h2,h3,H4,G⟩:=hrel;by_cases ak:i<n
  ·obtain ⟨b,off,rfl,hb,hc⟩:=(h.gw G.o).cells (by omega)
   obtain ⟨m,hm⟩:∃ m:Nat,(i:Int)-1=m:=⟨i-1,by omega⟩
   have nE:m<n:=by omega
   have hw:=qm m (by omega)
   have c1:=hc i ak;have c0:=hc m nE;clear hc;generalize gR:f i=y1 at c1;generalize gS:f m=y0 at c0;have Y:ag (f i=y1/\f m=y0/\i=m+1):=⟨gR,gS,by omega⟩
   clear gR gS h h2;by_cases hle:y1<=y0
   ·go_wp2_with fail
    go_quiet (fail);go_wp2_with fail
    go_ret
    obtain ⟨e1,e2,e3⟩:=Y.o;refine ⟨⟨false,rfl,⟨fun hh=>Bool.noConfusion hh,fun hu=>?_⟩⟩,G.o.drewN _⟩
    have:=hu m (by omega)
    rw [<-e3,e1,e2] at this;omega
   ·go_wp2_with fail
    go_quiet (fail);go_wp2_with fail
    go_roundg (n-(m+2))
    case measure=>omega
    case rel =>
     obtain ⟨e1,e2,e3⟩:=Y.o;refine ⟨m+2,by go_num,by omega,by omega,Nat.le_refl _,(show ag _ from fun j hj=>?_),(show ag _ from G.o.drewN _)⟩
     by_cases qt:j=m
     ·subst qt;rw [e2,<-e3,e1];omega
     ·exact H4.o j (by omega)
  ·go_wp2_with fail
   go_ret
   exact ⟨⟨true,rfl,⟨fun _ j hj=>H4.o j (by omega),fun _=>rfl⟩⟩,G.o⟩
abbrev iy (a b d:Int):Prop:=b=0\/2305843009213693952<a*d/b
def Ck:Prop:=∀ (a b c d:Int),0<=a->a<18446744073709551616->0<=b->b<18446744073709551616->0<=d->d<18446744073709551616->∀ w:World,
  Calls prog 159 #[.agg #[.int .u64 a,.int .u64 b,.int .i64 c],.int .u64 d] w fun ex w'=>ex=.returned (.tuple #[.int .i64 (if iy a b d then 0 else a*d/b),.bool (!decide (iy a b d))])/\Gw w w'
def Xo:Prop:=∀ (a b c d:Int),0<=a->a<18446744073709551616->0<b->b<18446744073709551616->0<=d->d<18446744073709551616->∀ w:World,
  Calls prog 127 #[.agg #[.int .u64 a,.int .u64 b,.int .i64 c],.int .u64 d] w fun ex w'=>ex=.returned (.tuple #[.int .i64 (if 2305843009213693952<a*d/b then 0 else a*d/b),.bool (!decide (2305843009213693952<a*d/b))])/\Gw w w'
def sh (f:Nat->Int) (i k:Nat):Int:=f (i+k)
def cT (e:Int) (f:Nat->Int) (n:Nat):Nat->List Nat->Prop
 | i,[]=>i=n
 | i,j::l=>i<j/\j<=n/\aQ e (sh f i) (ay (j-i))/\(j<n->¬ aQ e (sh f i) (ay (j+1-i)))/\cT e f n j l
def oI (eps:Int) (f:Nat->Int) (n:Nat) (l:List Nat) (err:Int):Prop :=
 (¬ (2<=eps/\eps<=64)/\l=[]/\err=1)\/((2<=eps/\eps<=64)/\¬ Up f n/\l=[]/\err=60)\/((2<=eps/\eps<=64)/\Up f n/\cT (eps-1) f n 0 l/\err=0)
theorem oJ {f:Nat->Int} {n i j:Nat} (u:Up f n) (h:j<=n):Up (sh f i) (j-i):=fun k hk=>u (i+k) (by omega)
theorem cT.len {e:Int} {f:Nat->Int} {n:Nat}:∀ {i:Nat} {l:List Nat},cT e f n i l->i+l.length<=n:=by
 intro i l;induction l generalizing i with
 | nil=>intro h;have h':i=n:=h;simp;omega
 | cons j l ih =>
  rintro ⟨h1,h2,_,_,h5⟩;have:=ih h5;simp only [List.length_cons];omega
theorem cT.nonempty {e:Int} {f:Nat->Int} {n i:Nat} {l:List Nat} (h:cT e f n i l) (hi:i<n):l≠[]:=by
 intro q;subst q;have h':i=n:=h;omega
def kP (i:Nat) (l:List Nat) (t:Nat):Nat:=match t with | 0=>i | t+1=>l.getD t 0
theorem cT.step {e:Int} {f:Nat->Int} {n:Nat}:∀ {i:Nat} {l:List Nat},cT e f n i l->∀ t,t<l.length->kP i l t<l.getD t 0/\l.getD t 0<=n/\aQ e (sh f (kP i l t)) (ay (l.getD t 0-kP i l t))/\(l.getD t 0<n->¬ aQ e (sh f (kP i l t)) (ay (l.getD t 0+1-kP i l t)))/\cT e f n (l.getD t 0) (l.drop (t+1)):=by
 intro i l;induction l generalizing i with
 | nil=>intro _ t ht;simp at ht
 | cons j l ih =>
  rintro ⟨h1,h2,h3,h4,h5⟩ t ht;cases t with
  | zero=>exact ⟨h1,h2,h3,h4,h5⟩
  | succ t =>
   have:=ih h5 t (by simpa using ht)
   cases t with
   | zero=>exact this
   | succ t=>exact this
theorem cT.last {e:Int} {f:Nat->Int} {n:Nat} {i:Nat} {l:List Nat} (h:cT e f n i l) (t:Nat) (ht:t<l.length):l.getD t 0=n↔t+1=l.length:=by
 have s:=(h.step t ht).2.2.2.2;constructor
 ·intro q
  rw [q] at s;have:=s.len;simp at this;omega
 ·intro q
  have:l.drop (t+1)=[]:=by rw [q];simp
  rw [this] at s;exact s
theorem cT.few {e:Int} {f:Nat->Int} {n:Nat} (he:0<=e) (u:Up f n) {i:Nat} {l:List Nat} (h:cT e f n i l) (t:Nat) (ht:t<l.length) (hl:l.getD t 0<n):(2*e+1:Int)<=(l.getD t 0:Int)-kP i l t:=by
 obtain ⟨h1,h2,h3,h4,_⟩:=h.step t ht;by_cases q:((l.getD t 0+1-kP i l t:Nat):Int)<=2*e+1
 ·exact absurd (yy he (oJ u (by omega)) q) (h4 hl)
 ·omega
theorem cT.count {e:Int} {f:Nat->Int} {n:Nat} (he:0<=e) (u:Up f n):∀ {i:Nat} {l:List Nat},cT e f n i l->i<n->((l.length:Int)-1)*(2*e+1)+1<=(n:Int)-i:=by
 intro i l;induction l generalizing i with
 | nil=>intro h hi;have h':i=n:=h;omega
 | cons j l ih =>
  intro h hi;by_cases hj:j<n
  ·have k:=h.few he u 0 (by simp) hj
   have k':(2*e+1:Int)<=(j:Int)-i:=k;have:=ih h.2.2.2.2 hj;simp only [List.length_cons];have e1:(((l.length+1:Nat):Int)-1)*(2*e+1)=((l.length:Int)-1)*(2*e+1)+(2*e+1):=by
    rw [show ((l.length+1:Nat):Int)-1=((l.length:Int)-1)+1 by omega,Int.add_mul,Int.one_mul]
   omega
  ·have ej:j=n:=by have:=h.2.1;omega
   have h5:=h.2.2.2.2;rw [ej] at h5;have:l=[]:=by
    cases l with
    | nil=>rfl
    | cons a l=>have:=h5.1;have:=h5.2.1;omega
   subst this;simp;omega
end Go.Proofs.YtklkpldicbkjeaaGreat
