/- What every walk here keeps: old memory as it was. -/
import Derived.BigQuiet
import Derived.Deep.LoopGhost
import Derived.Deep.OwnRows
import Derived.Deep.QuietTactic
import Derived.Deep.RegionHeld3
import Derived.Laws.CopyRow
import Derived.Laws.Pointers
import Derived.OwnWalk
import Derived.RowKit3
import Derived.StillTactics
import Derived.Test.YtemijdhemdhclaaGreatRows
import Derived.WalkKit
import Derived.WalkLawsBesides
import Derived.WalkSpells
import Init
set_option linter.unusedVariables false
set_option maxHeartbeats 2000000
set_option maxRecDepth 10000
open Go.Proofs.Tryz
namespace Go.Proofs.YtemijdhemdhclaaGreat
open Go.RowKit
structure Gb (w w':World):Prop where
 below:Below w.heap.size w w'
 frozen:∀ a,w'.frozen? a=w.frozen? a
theorem Gb.refl (w:World):Gb w w:=⟨Below.refl _ _,fun _=>rfl⟩
theorem Gb.trans {a b c:World} (h:Gb a b) (k:Gb b c):Gb a c :=
 ⟨h.below.trans (k.below.mono h.below.size),fun x=>(k.frozen x).trans (h.frozen x)⟩
theorem Gb.alloc {a w:World} (h:Gb a w) (c:Array Value) (t:TypeId):Gb a (w.alloc (.cells c t)) :=
 ⟨h.below.alloc h.below.size _,fun x=>(frozen?_alloc_cells _ _ _ x).trans (h.frozen x)⟩
theorem Gb.setCell {a w:World} (h:Gb a w) {p:Addr} (hp:a.heap.size<=p.block) (v:Value):Gb a (w.setCell p v) :=
 ⟨h.below.setCell hp v,fun x=>(World.frozen?_setCell _ _ _ _).trans (h.frozen x)⟩
theorem Gb.drew {a w:World} (h:Gb a w):Gb a w.drew:=⟨h.below.drew,h.frozen⟩
theorem Gb.cell {w w':World} (h:Gb w w') (b o:Nat) (hb:b<w.heap.size):w'.cell? ⟨b,o,none⟩=w.cell? ⟨b,o,none⟩:=h.below.cell (p:=⟨b,o,none⟩) hb
theorem Gb.size {w w':World} (h:Gb w w'):w.heap.size<=w'.heap.size:=h.below.size
theorem frozen?_new (w:World) (b o:Nat) (h:w.heap.size<=b):w.frozen? ⟨b,o,none⟩=false:=by
 have e:w.heap[b]?=none:=by simp;omega
 simp [World.frozen?,e]
structure Gk (k:Nat) (w w':World):Prop where
 gb:Gb w w'
 grew:w'.heap.size=w.heap.size+k
theorem Gk.facts {k:Nat} {W w':World} (h:Gk k W w'):(∀ b o,b<W.heap.size->w'.cell? ⟨b,o,none⟩=W.cell? ⟨b,o,none⟩)/\(∀ a,w'.frozen? a=W.frozen? a)/\w'.heap.size=W.heap.size+k :=
 ⟨fun b o hb=>h.gb.cell b o hb,h.gb.frozen,h.grew⟩
structure H2 (w:World) (b:Nat) (u v:Value):Prop where
 lt:b<w.heap.size
 c0:w.cell? ⟨b,0,none⟩=some u
 c1:w.cell? ⟨b,1,none⟩=some v
theorem u64w_bd (n:Int):0<=IntKind.u64.wrap n/\IntKind.u64.wrap n<18446744073709551616:=by rw [IntKind.wrap_u64];omega
theorem Gb.drewN {a w:World} (h:Gb a w) (n:Nat):Gb a (w.drewN n):=⟨⟨h.below.os,h.below.tape,h.below.output,h.below.size,h.below.block⟩,h.frozen⟩
def Up (f:Nat->Int) (n:Nat):Prop:=∀ j,j+1<n->f j<f (j+1)
theorem Up.lt {f:Nat->Int} {n:Nat} (h:Up f n):∀ {a b:Nat},a<b->b<n->f a<f b:=by
 intro a b hab hb;induction b with
 | zero=>omega
 | succ b ih =>
  have h1:=h b hb;by_cases e:a=b
  ·subst e;exact h1
  ·have h2:=ih (by omega) (by omega)
   omega
theorem Up.le {f:Nat->Int} {n:Nat} (h:Up f n) {a b:Nat} (hab:a<=b) (hb:b<n):f a<=f b:=by
 by_cases e:a=b
 ·subst e;omega
 ·have:=h.lt (show a<b by omega) hb;omega
def ChkR (k v:Nat->Int) (g:Nat->Bool) (n:Nat) (e:Int):Prop :=
 (e=0/\Up k n/\∀ j,j<n->¬ (g j=true/\v j≠0)) \/
 (e=30/\∃ i,i+1<n/\Up k (i+1)/\(∀ j,j<i+1->¬ (g j=true/\v j≠0))/\k (i+1)<=k i) \/
 (e=31/\∃ i,i<n/\Up k (i+1)/\(∀ j,j<i->¬ (g j=true/\v j≠0))/\(g i=true/\v i≠0))
theorem ChkR.ok {k v:Nat->Int} {g:Nat->Bool} {n:Nat} (u:Up k n) (b:∀ j,j<n->¬ (g j=true/\v j≠0)):ChkR k v g n 0:=.inl ⟨rfl,u,b⟩
theorem ChkR.order {k v:Nat->Int} {g:Nat->Bool} {n:Nat} (i:Nat) (hi:i+1<n) (u:Up k (i+1)) (b:∀ j,j<i+1->¬ (g j=true/\v j≠0)) (d:k (i+1)<=k i):ChkR k v g n 30:=.inr (.inl ⟨rfl,i,hi,u,b,d⟩)
theorem ChkR.gone {k v:Nat->Int} {g:Nat->Bool} {n:Nat} (i:Nat) (hi:i<n) (u:Up k (i+1)) (b:∀ j,j<i->¬ (g j=true/\v j≠0)) (d:g i=true/\v i≠0):ChkR k v g n 31:=.inr (.inr ⟨rfl,i,hi,u,b,d⟩)
theorem ChkR.one {k v:Nat->Int} {g:Nat->Bool} {n:Nat} {e e':Int} (h:ChkR k v g n e) (h':ChkR k v g n e'):e=e':=by
 rcases h with ⟨e1,u,b⟩ | ⟨e1,i,hi,u,b,d⟩ | ⟨e1,i,hi,u,b,d⟩
 ·rcases h' with ⟨e2,u',b'⟩ | ⟨e2,i,hi,u',b',d⟩ | ⟨e2,i,hi,u',b',d⟩
  ·omega
  ·have:=u i hi;omega
  ·exact absurd d (b i hi)
 ·rcases h' with ⟨e2,u',b'⟩ | ⟨e2,j,hj,u',b',d'⟩ | ⟨e2,j,hj,u',b',d'⟩
  ·have:=u' i hi;omega
  ·omega
  ·rcases Nat.lt_or_ge j (i+1) with hh | hh
   ·exact absurd d' (b j hh)
   ·have:=u' i (by omega);omega
 ·rcases h' with ⟨e2,u',b'⟩ | ⟨e2,j,hj,u',b',d'⟩ | ⟨e2,j,hj,u',b',d'⟩
  ·exact absurd d (b' i hi)
  ·rcases Nat.lt_or_ge i (j+1) with hh | hh
   ·exact absurd d (b' i hh)
   ·have:=u j (by omega);omega
  ·omega
theorem ChkR.zero {k v:Nat->Int} {g:Nat->Bool} {n:Nat} {e:Int} (h:ChkR k v g n e):e=0↔(Up k n/\∀ j,j<n->¬ (g j=true/\v j≠0)):=by
 constructor
 ·intro e0
  rcases h with ⟨_,u,b⟩ | ⟨e1,_⟩ | ⟨e1,_⟩
  ·exact ⟨u,b⟩
  ·omega
  ·omega
 ·intro ⟨u,b⟩
  exact h.one (.ok u b)
def lv (g:Nat->Bool):Nat->Nat
 | 0=>0
 | n+1=>lv g n+(if g n=true then 0 else 1)
structure Gw (w w':World):Prop where
 below:Below w.heap.size w w'
theorem Gw.refl (w:World):Gw w w:=⟨Below.refl _ _⟩
theorem Gw.trans {a b c:World} (h:Gw a b) (k:Gw b c):Gw a c :=
 ⟨h.below.trans (k.below.mono h.below.size)⟩
theorem Gw.alloc {a w:World} (h:Gw a w) (c:Array Value) (t:TypeId):Gw a (w.alloc (.cells c t)) :=
 ⟨h.below.alloc h.below.size _⟩
theorem Gw.setCell {a w:World} (h:Gw a w) {p:Addr} (hp:a.heap.size<=p.block) (v:Value):Gw a (w.setCell p v) :=
 ⟨h.below.setCell hp v⟩
theorem Gw.drew {a w:World} (h:Gw a w):Gw a w.drew:=⟨h.below.drew⟩
theorem Gw.drewN {a w:World} (h:Gw a w) (n:Nat):Gw a (w.drewN n):=by
 obtain ⟨q1⟩:=h;exact ⟨q1.trans ⟨rfl,rfl,rfl,Nat.le_refl _,fun _ _=>rfl⟩⟩
theorem Gw.grown {a w w':World} {row:Option Nat} (h:Gw a w) (g:w.grownBy w' row) (hr:∀ k,row=some k->a.heap.size<=k):Gw a w' :=
 ⟨h.below.grown g h.below.size hr⟩
theorem Gw.cell {w w':World} (h:Gw w w') (b o:Nat) (hb:b<w.heap.size):w'.cell? ⟨b,o,none⟩=w.cell? ⟨b,o,none⟩:=h.below.cell (p:=⟨b,o,none⟩) hb
theorem Gw.size {w w':World} (h:Gw w w'):w.heap.size<=w'.heap.size:=h.below.size
theorem Gb.gw {w w':World} (h:Gb w w'):Gw w w':=⟨h.below⟩
structure KS (w:World) (ao:Option Addr) (n:Nat) (f:Nat->Int):Prop where
 cells:0<n->∃ b off,ao=some ⟨b,off,none⟩/\b<w.heap.size/\∀ i,i<n->w.cell? ⟨b,off+i,none⟩=some (.int .u64 (f i))
 bd:∀ i,i<n->0<=f i/\f i<18446744073709551616
theorem KS.gw {w w':World} {ao:Option Addr} {n:Nat} {f:Nat->Int} (h:KS w ao n f) (g:Gw w w'):KS w' ao n f :=
 ⟨fun hn=>by
  obtain ⟨b,off,e,hb,hc⟩:=h.cells hn;exact ⟨b,off,e,Nat.lt_of_lt_of_le hb g.size,fun i hi=>(g.cell b (off+i) hb).trans (hc i hi)⟩,h.bd⟩
theorem wrap_nat (m:Nat) (h:m<4611686018427387904):IntKind.i64.wrap (m:Int)=m:=by rw [IntKind.wrap_i64];omega
theorem rowIs_gb {w w':World} {b t n:Nat} {f:Nat->Value} (h:w.rowIs b t n f) (g:Gw w w'):w'.rowIs b t n f:=h.of_block (g.below.block _ h.lt)
theorem info_k:(prog.info? 36).map (fun i=>(i.zero,i.size,i.bytes))=some (some (.int .u64 0),1,8):=by kernel_rfl
theorem wpList_append_src {P:Program} (w:World) {ops:Array Oper} {rest:List Oper} {o:Oper} {a:Act} {Q:Exit->Act->World->Prop} (hgd:o.guard=none) (s x:Operand) (t:TypeId)
  (ho:o.op=.call { callee:=.builtin .append,args:=#[s,x],argTypes:=#[t,t] })
  (base:Nat) (e:TypeId) (i:TypeInfo) (z:Value) (size bytes:Nat) (ht:P.underlying t=some (.slice e)) (hi:P.info? e=some i) (hz:i.zero=some z)
  (hsize:i.size=size) (hby:i.bytes=bytes) (hzs:z.cells.size=size) (hsz:0<size)
  (v:Value) (n:Nat) (xs:List Value) (hs:a.eval s=v) (hown:w.ownsRow base e size v n xs)
  (ao:Option Addr) (m c:Nat) (news:List Value) (hx:a.eval x=.slice ao m c) (hnone:ao=none->m=0/\c=0) (hl:news.length=m*size) (hnews:∀ ad,ao=some ad->∀ j u,news[j]?=some u->w.cell? (ad.add j)=some u) (h1:∀ u∈news,u.oneCell'=true)
  (h63:n+m<=maxLen) (hbytes:(n+m)*bytes<=140737488355328) (hbase:base<=w.heap.size)
  (h:∀ v' w',w'.ownsRow base e size v' (n+m) (xs++news)->w.grownBy w' v.ownBlock->(v'=.slice none 0 0↔v=.slice none 0 0/\m=0)->wpList P ops Q rest (a.put o.dst v') w'):wpList P ops Q (o::rest) a w:=by
 cases ao with
 | some ad=>exact wpList_append_own w hgd s x t ho base e i z size bytes ht hi hz hsize hby hzs hsz v n xs hs hown ad m c news hx hl (hnews ad rfl) h1 h63 hbytes hbase h
 | none =>
  obtain ⟨rfl,rfl⟩:=hnone rfl;have hn:news=[]:=List.eq_nil_of_length_eq_zero (by simpa using hl)
  subst hn;refine wpList_plain hgd fun K hK'=>?_
  have hrun:=run_append_owned_none (P:=P) w base t o.type e i size ht hi v n xs hown;unfold Oper.wp;simp [execOp,ho,resolve,invoke,builtin,hs,hx,hrun,Result.andThen];exact hK' _ _ (by simpa using h v w (by simpa using hown) (World.grownBy.refl _ _) (by simp))
theorem own_slice {w:World} {base e size n:Nat} {v:Value} {xs:List Value} (h:w.ownsRow base e size v n xs) (hv:¬ v=.slice none 0 0):∃ g cap,v=.slice (some ⟨g,0,none⟩) n cap/\base<=g/\n<=cap/\g<w.heap.size:=by
 rcases h.2 with ⟨e,_⟩ | ⟨g,cap,cur,rfl,hg,hh,hnc,_⟩
 ·exact absurd e hv
 ·exact ⟨g,cap,rfl,hg,hnc,(Array.getElem?_eq_some_iff.1 hh).1⟩
theorem ks_own {w:World} {base g n cap:Nat} {f:Nat->Int} {xs:List Value} {m:Nat} (h:w.ownsRow base 36 1 (.slice (some ⟨g,0,none⟩) m cap) m xs) (hn:n<=m) (hx:∀ i,i<n->xs[i]?=some (.int .u64 (f i))) (bd:∀ i,i<n->0<=f i/\f i<18446744073709551616):KS w (some ⟨g,0,none⟩) n f :=
 ⟨fun h0=>⟨g,0,rfl,(h.lt g rfl).2,fun i hi=>by rw [Nat.zero_add,h.cellAt i (by omega),hx i hi]⟩,bd⟩
def Blw (a b c d:Int):Prop:=(b≠0/\d=0)\/(b≠0/\d≠0/\a*d<c*b)
structure Pairs (f:Nat->Int) (S:Nat->Nat->Prop):Prop where
 lt:∀ i j,S i j->i<j
 pos:∀ i j,S i j->0<f j-f i
structure LowOn (e:Int) (f:Nat->Int) (S:Nat->Nat->Prop) (a b:Int):Prop where
 a0:0<=a
 b1:1<=b
 low:Int.gcd a b=1
 bound:∀ i j,S i j->((j:Int)-i-2*e)*b<=a*(f j-f i)
 att:a=0\/∃ i j,S i j/\0<(j:Int)-i-2*e/\((j:Int)-i-2*e)*b=a*(f j-f i)
def TopOn (e:Int) (f:Nat->Int) (S:Nat->Nat->Prop) (a b:Int):Prop :=
 (a=1/\b=0/\∀ i j,¬ S i j) \/
 (1<=a/\1<=b/\Int.gcd a b=1/\(∀ i j,S i j->a*(f j-f i)<=((j:Int)-i+2*e)*b)/\∃ i j,S i j/\a*(f j-f i)=((j:Int)-i+2*e)*b)
def FitsOn (e:Int) (f:Nat->Int) (S:Nat->Nat->Prop):Prop :=
 ∀ i j i' j',S i j->S i' j'->((j:Int)-i-2*e)*(f j'-f i')<=((j':Int)-i'+2*e)*(f j-f i)
theorem mul4 (p q r s:Int):p*q*(r*s)=p*r*(q*s):=by
 rw [Int.mul_assoc,<-Int.mul_assoc q r s,Int.mul_comm q r,Int.mul_assoc r q s,<-Int.mul_assoc]
theorem fits_iff {e:Int} {f:Nat->Int} {S:Nat->Nat->Prop} {a b c d:Int} (he:0<=e) (p:Pairs f S) (h:LowOn e f S a b) (k:TopOn e f S c d):¬ Blw c d a b↔FitsOn e f S:=by
 have hb:=h.b1;have ha:=h.a0;constructor
 ·intro hn i j i' j' s s'
  have D:=p.pos i j s;have D':=p.pos i' j' s';have M':0<=(j':Int)-i'+2*e:=by have:=p.lt i' j' s';omega
  have R:0<=((j':Int)-i'+2*e)*(f j-f i):=Int.mul_nonneg M' (by omega)
  by_cases m0:(j:Int)-i-2*e<=0
  ·have:((j:Int)-i-2*e)*(f j'-f i')<=0:=by
    have:=Int.mul_le_mul_of_nonneg_right m0 (show 0<=f j'-f i' by omega)
    omega
   omega
  ·rcases k with ⟨_,_,no⟩ | ⟨c1,d1,_,kb,_⟩
   ·exact absurd s (no i j)
   ·have hle:a*d<=c*b:=by
     rcases Int.lt_or_le (c*b) (a*d) with q | q
     ·exact absurd (.inr ⟨by omega,by omega,q⟩) hn
     ·exact q
    have h1:=h.bound i j s;have k1:=kb i' j' s';have s1:((j:Int)-i-2*e)*b*((f j'-f i')*d)<=a*(f j-f i)*((f j'-f i')*d):=Int.mul_le_mul_of_nonneg_right h1 (Int.mul_nonneg (by omega) (by omega))
    have s2:a*d*((f j-f i)*(f j'-f i'))<=c*b*((f j-f i)*(f j'-f i')):=Int.mul_le_mul_of_nonneg_right hle (Int.mul_nonneg (by omega) (by omega))
    have s3:c*(f j'-f i')*((f j-f i)*b)<=((j':Int)-i'+2*e)*d*((f j-f i)*b):=Int.mul_le_mul_of_nonneg_right k1 (Int.mul_nonneg (by omega) (by omega))
    have t1:((j:Int)-i-2*e)*b*((f j'-f i')*d)=((j:Int)-i-2*e)*(f j'-f i')*(b*d):=mul4 _ _ _ _;have t2:a*(f j-f i)*((f j'-f i')*d)=a*d*((f j-f i)*(f j'-f i')):=by
     rw [Int.mul_comm (f j'-f i') d,mul4]
    have t3:c*b*((f j-f i)*(f j'-f i'))=c*(f j'-f i')*((f j-f i)*b):=by
     rw [Int.mul_comm (f j-f i) (f j'-f i'),mul4,Int.mul_comm b]
    have t4:((j':Int)-i'+2*e)*d*((f j-f i)*b)=((j':Int)-i'+2*e)*(f j-f i)*(b*d):=by
     rw [mul4,Int.mul_comm d b]
    have fin:((j:Int)-i-2*e)*(f j'-f i')*(b*d)<=((j':Int)-i'+2*e)*(f j-f i)*(b*d):=by
     rw [<-t1,<-t4];refine Int.le_trans s1 ?_;rw [t2];refine Int.le_trans s2 ?_;rw [t3];exact s3
    exact Int.le_of_mul_le_mul_right fin (Int.mul_pos (by omega) (by omega))
 ·intro hF hB
  rcases hB with ⟨_,q⟩ | ⟨_,_,q⟩
  ·omega
  ·rcases k with ⟨rfl,rfl,_⟩ | ⟨c1,d1,_,_,i',j',s',k1⟩
   ·omega
   ·rcases h.att with h0 | ⟨i,j,s,_,h1⟩
    ·subst h0
     have:0<=c*b:=Int.mul_nonneg (by omega) (by omega)
     omega
    ·have D:=p.pos i j s
     have D':=p.pos i' j' s';have h2:=hF i j i' j' s s';have s1:((j:Int)-i-2*e)*(f j'-f i')*(b*d)<=((j':Int)-i'+2*e)*(f j-f i)*(b*d):=Int.mul_le_mul_of_nonneg_right h2 (Int.mul_nonneg (by omega) (by omega))
     rw [mul4,h1,Int.mul_comm b d,mul4 ((j':Int)-i'+2*e),<-k1] at s1;have t1:a*(f j-f i)*((f j'-f i')*d)=a*d*((f j-f i)*(f j'-f i')):=by
      rw [Int.mul_comm (f j'-f i') d,mul4]
     have t2:c*(f j'-f i')*((f j-f i)*b)=c*b*((f j-f i)*(f j'-f i')):=by
      rw [Int.mul_comm (f j-f i) b,mul4,Int.mul_comm (f j'-f i')]
     rw [t1,t2] at s1;have:=Int.le_of_mul_le_mul_right s1 (Int.mul_pos D D');omega
def Prs (n:Nat) (i j:Nat):Prop:=i<j/\j<n
def upd (f:Nat->Int) (n:Nat) (x:Int) (i:Nat):Int:=if i=n then x else f i
theorem upd_at (f:Nat->Int) (n:Nat) (x:Int):upd f n x n=x:=if_pos rfl
theorem upd_lo {f:Nat->Int} {n:Nat} {x:Int} {i:Nat} (h:i<n):upd f n x i=f i:=if_neg (by omega)
theorem prs_pairs {f:Nat->Int} {n:Nat} (u:Up f n):Pairs f (Prs n) :=
 ⟨fun i j s=>s.1,fun i j s=>by have:=u.lt s.1 s.2;omega⟩
theorem up_upd {f:Nat->Int} {n:Nat} {x:Int} (u:Up f n) (h:0<n->f (n-1)<x):Up (upd f n x) (n+1):=by
 intro j hj;by_cases e:j+1=n
 ·rw [e,upd_at,upd_lo (by omega)]
  have:=h (by omega)
  rw [show n-1=j by omega] at this
  exact this
 ·rw [upd_lo (by omega),upd_lo (by omega)]
  exact u j (by omega)
theorem FitsOn.congr {e:Int} {f g:Nat->Int} {S T:Nat->Nat->Prop} (h:FitsOn e f S) (st:∀ i j,T i j->S i j) (q:∀ i j,T i j->f j-f i=g j-g i):FitsOn e g T :=
 fun i j i' j' s s'=>by rw [<-q i j s,<-q i' j' s'];exact h i j i' j' (st i j s) (st i' j' s')
def AddR (e:Int) (n:Nat) (f:Nat->Int) (x:Int) (ok:Bool) (err:Int):Prop :=
 (0<n/\x<=f (n-1)/\ok=false/\err=40)\/(¬ (0<n/\x<=f (n-1))/\err=0/\(ok=true↔FitsOn e (upd f n x) (Prs (n+1))))
theorem few_fit {e:Int} {f:Nat->Int} {n:Nat} (he:0<=e) (u:Up f n) (hn:(n:Int)<=2*e+1):FitsOn e f (Prs n):=by
 intro i j i' j' s s';have p:=prs_pairs u;have D:=p.pos i j s;have D':=p.pos i' j' s';have h1:(j:Int)-i-2*e<=0:=by have:=s.2;omega
 have h2:0<=(j':Int)-i'+2*e:=by have:=s'.1;omega
 have h3:=Int.mul_le_mul_of_nonneg_right h1 (show 0<=f j'-f i' by omega)
 have h4:0<=((j':Int)-i'+2*e)*(f j-f i):=Int.mul_nonneg h2 (by omega)
 omega
def NearR (e:Int) (f:Nat->Int) (n:Nat) (a b:Int):Prop:=∀ i j,i<n->j<n->((i:Int)-j-2*e)*b<=a*(f i-f j)
theorem near_mk {e:Int} {f:Nat->Int} {n:Nat} {a b:Int} (he:0<=e) (b1:1<=b) (h1:∀ i j,Prs n i j->((j:Int)-i-2*e)*b<=a*(f j-f i)) (h2:∀ i j,Prs n i j->a*(f j-f i)<=((j:Int)-i+2*e)*b):NearR e f n a b:=by
 intro i j hi hj;rcases Nat.lt_trichotomy i j with q | q | q
 ·have:=h2 i j ⟨q,hj⟩
  have e1:((i:Int)-j-2*e)*b=-(((j:Int)-i+2*e)*b):=by rw [<-Int.neg_mul];congr 1;omega
  have e2:a*(f i-f j)=-(a*(f j-f i)):=by rw [<-Int.mul_neg];congr 1;omega
  rw [e1,e2];omega
 ·subst q
  have:((i:Int)-i-2*e)*b<=0*b:=Int.mul_le_mul_of_nonneg_right (by omega) (by omega)
  have e2:a*(f i-f i)=0:=by rw [Int.sub_self,Int.mul_zero]
  rw [e2];omega
 ·exact h1 j i ⟨q,hi⟩
def AtBad (a b c d:Int):Prop:=b=0\/c < -2305843009213693952\/2305843009213693952<c\/2305843009213693952<a*d/b
def Stays (e:Int) (f:Nat->Int) (n:Nat) (a b c:Int):Prop:=∀ i,i<n->¬ AtBad a b c (f i-f 0)/\(i:Int)-e<=a*(f i-f 0)/b+c/\a*(f i-f 0)/b+c<=(i:Int)+e
def FitR (eps:Int) (f:Nat->Int) (n:Nat) (a b c:Int):Prop:=(2<=eps/\eps<=64)/\0<n/\Up f n/\Stays (eps-1) f n a b c
structure BaseR (e:Int) (f:Nat->Int) (n:Nat) (a b c:Int):Prop where
 ge:∀ i,i<n->(i:Int)-e<=a*(f i-f 0)/b+c
 att:∃ i,i<n/\(i:Int)-e=a*(f i-f 0)/b+c
def OfR (eps:Int) (f:Nat->Int) (n:Nat) (a b c err:Int):Prop :=
 (¬ (2<=eps/\eps<=64)/\a=0/\b=0/\c=0/\err=1) \/
 ((2<=eps/\eps<=64)/\¬ (0<n/\Up f n)/\a=0/\b=0/\c=0/\err=50) \/
 ((2<=eps/\eps<=64)/\(0<n/\Up f n)/\¬ FitsOn (eps-1) f (Prs n)/\a=0/\b=0/\c=0/\err=51) \/
 ((2<=eps/\eps<=64)/\(0<n/\Up f n)/\FitsOn (eps-1) f (Prs n)/\LowOn (eps-1) f (Prs n) a b/\BaseR (eps-1) f n a b c/\err=0)
theorem floor_apart {x y b k:Int} (b1:1<=b) (h:k*b<=x-y):k<=x/b-y/b:=by
 have hx:=Int.emod_add_mul_ediv x b;have hy:=Int.emod_add_mul_ediv y b;have rx:=Int.emod_nonneg x (show b≠0 by omega)
 have rx':=Int.emod_lt_of_pos x (show 0<b by omega)
 have ry:=Int.emod_nonneg y (show b≠0 by omega)
 have ry':=Int.emod_lt_of_pos y (show 0<b by omega)
 have key:(k-1)*b<(x/b-y/b)*b:=by
  have e1:(k-1)*b=k*b-b:=by rw [Int.sub_mul,Int.one_mul]
  have e2:(x/b-y/b)*b=b*(x/b)-b*(y/b):=by rw [Int.sub_mul,Int.mul_comm,Int.mul_comm (y/b)]
  omega
 have:=Int.lt_of_mul_lt_mul_right key (by omega)
 omega
theorem near_stays {e:Int} {f:Nat->Int} {n:Nat} {a b c:Int} (he:0<=e) (b1:1<=b) (h:NearR e f n a b) (B:BaseR e f n a b c):∀ i,i<n->(i:Int)-e<=a*(f i-f 0)/b+c/\a*(f i-f 0)/b+c<=(i:Int)+e:=by
 intro i hi;refine ⟨B.ge i hi,?_⟩;obtain ⟨j,hj,ej⟩:=B.att;have k:=h j i hj hi;have e1:a*(f j-f i)=a*(f j-f 0)-a*(f i-f 0):=by rw [<-Int.mul_sub];congr 1;omega
 rw [e1] at k;have:=floor_apart b1 k;omega
theorem line_small {e:Int} {f:Nat->Int} {n:Nat} {a b:Int} (he:0<=e) (u:Up f n) (h:LowOn e f (Prs n) a b) (hF:FitsOn e f (Prs n)) {i:Nat} (hi:i<n):0<=a*(f i-f 0)/b/\a*(f i-f 0)/b<=(n:Int)+2*e:=by
 have b1:=h.b1;have d0:=u.le (Nat.zero_le i) hi;refine ⟨Int.ediv_nonneg (Int.mul_nonneg h.a0 (by omega)) (by omega),?_⟩
 by_cases z:i=0
 ·subst z
  rw [Int.sub_self,Int.mul_zero,Int.zero_ediv];omega
 ·
  have p:=prs_pairs u;have s:Prs n 0 i:=⟨by omega,hi⟩
  have D:=p.pos 0 i s;have up:a*(f i-f 0)<=((i:Int)-(0:Nat)+2*e)*b:=by
   rcases h.att with q | ⟨i0,j0,s0,m0,r⟩
   ·rw [q,Int.zero_mul]
    exact Int.mul_nonneg (by omega) (by omega)
   ·have D0:=p.pos i0 j0 s0
    have k:=hF i0 j0 0 i s0 s;have k1:=Int.mul_le_mul_of_nonneg_right k (show 0<=b by omega)
    rw [Int.mul_right_comm _ (f i-f 0) b,r,Int.mul_right_comm _ (f j0-f i0) b,Int.mul_right_comm a (f j0-f i0) (f i-f 0)] at k1;exact Int.le_of_mul_le_mul_right k1 D0
  have:=Int.ediv_le_of_le_mul (show 0<b by omega) up
  omega
theorem of_stays {eps:Int} {f:Nat->Int} {n:Nat} {a b c:Int} (k:2<=eps/\eps<=64) (u:Up f n) (n0:0<n) (hn:n<=100000000) (hF:FitsOn (eps-1) f (Prs n)) (h:LowOn (eps-1) f (Prs n) a b) (nr:NearR (eps-1) f n a b) (B:BaseR (eps-1) f n a b c):Stays (eps-1) f n a b c/\(-(eps-1)<=c/\c<=n):=by
 have b1:=h.b1;have hc0:=B.ge 0 n0;rw [Int.sub_self,Int.mul_zero,Int.zero_ediv] at hc0;obtain ⟨j,hj,ej⟩:=B.att;have sj:=line_small (by omega) u h hF hj
 have hc:-(eps-1)<=c/\c<=n:=by omega
 refine ⟨fun i hi=>⟨fun q=>?_,near_stays (by omega) b1 nr B i hi⟩,hc⟩
 have si:=line_small (by omega) u h hF hi
 rcases q with q | q | q | q<;>omega
theorem near_of {e:Int} {f:Nat->Int} {n:Nat} {a b:Int} (he:0<=e) (u:Up f n) (h:LowOn e f (Prs n) a b) (hF:FitsOn e f (Prs n)):NearR e f n a b:=by
 have b1:=h.b1;have p:=prs_pairs u;refine near_mk he b1 h.bound (fun i j s=>?_)
 rcases h.att with q | ⟨i0,j0,s0,m0,r⟩
 ·rw [q,Int.zero_mul]
  have:=s.1
  exact Int.mul_nonneg (by omega) (by omega)
 ·have D0:=p.pos i0 j0 s0
  have k:=hF i0 j0 i j s0 s;have k1:=Int.mul_le_mul_of_nonneg_right k (show 0<=b by omega)
  rw [Int.mul_right_comm _ (f j-f i) b,r,Int.mul_right_comm _ (f j0-f i0) b,Int.mul_right_comm a (f j0-f i0) (f j-f i)] at k1;exact Int.le_of_mul_le_mul_right k1 D0
structure Told (eps:Int) (f:Nat->Int) (n:Nat) (a b c:Int):Prop where
 e1:2<=eps
 e2:eps<=64
 n0:0<n
 up:Up f n
 fits:FitsOn (eps-1) f (Prs n)
 low:LowOn (eps-1) f (Prs n) a b
 base:BaseR (eps-1) f n a b c
theorem OfR.cases {eps:Int} {f:Nat->Int} {n:Nat} {a b c err:Int} (h:OfR eps f n a b c err):(¬ err=0/\a=0/\b=0/\c=0)\/(err=0/\Told eps f n a b c):=by
 rcases h with ⟨_,h1,h2,h3,rfl⟩ | ⟨_,_,h1,h2,h3,rfl⟩ | ⟨_,_,_,h1,h2,h3,rfl⟩ | ⟨k1,k2,k3,k4,k5,rfl⟩
 ·exact .inl ⟨by decide,h1,h2,h3⟩
 ·exact .inl ⟨by decide,h1,h2,h3⟩
 ·exact .inl ⟨by decide,h1,h2,h3⟩
 ·exact .inr ⟨rfl,k1.1,k1.2,k2.1,k2.2,k3,k4,k5⟩
theorem Told.stays {eps:Int} {f:Nat->Int} {n:Nat} {a b c:Int} (h:Told eps f n a b c) (hn:n<=100000000):FitR eps f n a b c/\(-(eps-1)<=c/\c<=n):=by
 have:=h.e1
 have s:=of_stays ⟨h.e1,h.e2⟩ h.up h.n0 hn h.fits h.low (near_of (by omega) h.up h.low h.fits) h.base
 exact ⟨⟨⟨h.e1,h.e2⟩,h.n0,h.up,s.1⟩,s.2⟩
def GW (W:World):Type:={ w':World // Gb W w' }
theorem GW.cell {W:World} {b o:Nat} {v:Value} (h:W.cell? ⟨b,o,none⟩=some v) (hb:b<W.heap.size):∀ g:GW W,g.1.cell? ⟨b,o,none⟩=some v :=
 fun g=>(g.2.cell b o hb).trans h
theorem GW.some (W:World):Nonempty (GW W):=⟨⟨W,Gb.refl W⟩⟩
theorem wp_region_grow {P:Program} {id:Nat} {Q:Exit->Act->World->Prop} {a:Act} {w:World} {l:List Oper} (hm:P.follows .mixedOrders=true) (hB:Region.lexB .any l.toArray=true)
  (h:wpQuiet P l.toArray (fun w'=>∃ g:GW w,w'=g.1) (fun a'=>∀ w',(∃ g:GW w,w'=g.1)->Q .normal a' w') l a):(Code.region id l.toArray true).wp P Q a w :=
 wp_region_quiet (C:=fun w'=>∃ g:GW w,w'=g.1) hm hB ⟨⟨_,(Gb.refl w).drew⟩,rfl⟩ (by simpa using h)
theorem grow_of {P:Program} {f:FuncId} {args:Array Value} {W:World} {g:GW W} {v:Value}
  (h:Calls P f args g.1 fun e w'=>e=.returned v/\Gb g.1 w'):Calls P f args g.1 fun e w''=>e=.returned v/\∃ g':GW W,w''=g'.1 :=
 h.mono fun _ _ ⟨he,hm⟩=>⟨he,⟨_,g.2.trans hm⟩,rfl⟩
theorem grow_ofk {P:Program} {f:FuncId} {args:Array Value} {W:World} {g:GW W} {v:Value} {k:Nat}
  (h:Calls P f args g.1 fun e w'=>e=.returned v/\Gk k g.1 w'):Calls P f args g.1 fun e w''=>e=.returned v/\∃ g':GW W,w''=g'.1 :=
 grow_of (h.mono fun _ _ ⟨he,hm⟩=>⟨he,hm.gb⟩)
def GX (W:World):Type:={ w':World // Gw W w' }
theorem GX.cell {W:World} {b o:Nat} {v:Value} (h:W.cell? ⟨b,o,none⟩=some v) (hb:b<W.heap.size):∀ g:GX W,g.1.cell? ⟨b,o,none⟩=some v :=
 fun g=>(g.2.cell b o hb).trans h
theorem GX.gw {W:World} (g:GX W):Gw W g.1:=g.2
theorem GX.some (W:World):Nonempty (GX W):=⟨⟨W,Gw.refl W⟩⟩
theorem wp_region_growx {P:Program} {id:Nat} {Q:Exit->Act->World->Prop} {a:Act} {w:World} {l:List Oper} (hm:P.follows .mixedOrders=true) (hB:Region.lexB .any l.toArray=true)
  (h:wpQuiet P l.toArray (fun w'=>∃ g:GX w,w'=g.1) (fun a'=>∀ w',(∃ g:GX w,w'=g.1)->Q .normal a' w') l a):(Code.region id l.toArray true).wp P Q a w :=
 wp_region_quiet (C:=fun w'=>∃ g:GX w,w'=g.1) hm hB ⟨⟨_,(Gw.refl w).drew⟩,rfl⟩ (by simpa using h)
theorem growx_of {P:Program} {f:FuncId} {args:Array Value} {W:World} {g:GX W} {v:Value}
  (h:Calls P f args g.1 fun e w'=>e=.returned v/\Gw g.1 w'):Calls P f args g.1 fun e w''=>e=.returned v/\∃ g':GX W,w''=g'.1 :=
 h.mono fun _ _ ⟨he,hm⟩=>⟨he,⟨_,g.2.trans hm⟩,rfl⟩
abbrev ClimbBad (a b d:Int):Prop:=b=0\/2305843009213693952<a*d/b
def ClimbC:Prop:=∀ (a b c d:Int),0<=a->a<18446744073709551616->0<=b->b<18446744073709551616->0<=d->d<18446744073709551616->∀ w:World,
  Calls prog 161 #[.agg #[.int .u64 a,.int .u64 b,.int .i64 c],.int .u64 d] w fun ex w'=>ex=.returned (.tuple #[.int .i64 (if ClimbBad a b d then 0 else a*d/b),.bool (!decide (ClimbBad a b d))])/\Gw w w'
def Bx (w:World) (b:Nat) (t:TypeId) (u v:Value):Prop:=w.heap[b]?=some (.cells #[u,v] t (0,0))
theorem Bx.lt {w:World} {b:Nat} {t:TypeId} {u v:Value} (h:Bx w b t u v):b<w.heap.size:=(Array.getElem?_eq_some_iff.1 h).1
theorem Bx.c0 {w:World} {b:Nat} {t:TypeId} {u v:Value} (h:Bx w b t u v):w.cell? ⟨b,0,none⟩=some u:=by unfold Bx at h;simp [World.cell?,h]
theorem Bx.c1 {w:World} {b:Nat} {t:TypeId} {u v:Value} (h:Bx w b t u v):w.cell? ⟨b,1,none⟩=some v:=by unfold Bx at h;simp [World.cell?,h]
theorem Bx.fz {w:World} {b:Nat} {t:TypeId} {u v:Value} (h:Bx w b t u v) (o:Nat):w.frozen? ⟨b,o,none⟩=false:=by unfold Bx at h;simp [World.frozen?,h]
theorem Bx.gw {w w':World} {b:Nat} {t:TypeId} {u v:Value} (h:Bx w b t u v) (g:Gw w w'):Bx w' b t u v:=(g.below.block b h.lt).trans h
theorem Bx.new (w:World) (t:TypeId) (u v:Value):Bx (w.alloc (.cells #[u,v] t)) w.heap.size t u v:=heap_alloc_new w _
theorem Bx.set {w:World} {b:Nat} {t:TypeId} {u v:Value} (h:Bx w b t u v) (u' v':Value):Bx ((w.setCell ⟨b,0,none⟩ u').setCell ⟨b,1,none⟩ v') b t u' v':=by
 unfold Bx at h ⊢;simp [World.setCell,Array.getElem?_modify,h]
theorem Bx.far {w:World} {b:Nat} {t:TypeId} {u v:Value} (h:Bx w b t u v) {q o:Nat} (x:Value) (hq:b≠q):Bx (w.setCell ⟨q,o,none⟩ x) b t u v:=(Go.Deep.blk_setCell_other _ _ _ _ hq).trans h
theorem Bx.alloc {w:World} {b:Nat} {t:TypeId} {u v:Value} (h:Bx w b t u v) (o:Obj):Bx (w.alloc o) b t u v:=(heap_alloc_old w o h.lt).trans h
theorem Bx.at {w:World} {b b':Nat} {t:TypeId} {u v:Value} (h:Bx w b t u v) (e:b=b'):Bx w b' t u v:=e▸h
structure OTL (w:World) (ao:Option Addr) (l:List (Int×Int×Int)):Prop where
 cells:0<l.length->∃ b off,ao=some ⟨b,off,none⟩/\b<w.heap.size/\∀ i x,l[i]?=some x->w.cell? ⟨b,off+i*3,none⟩=some (.int .i64 x.1)/\w.cell? ⟨b,off+i*3+1,none⟩=some (.int .u64 x.2.1)/\w.cell? ⟨b,off+i*3+2,none⟩=some (.int .u64 x.2.2)
 bd:∀ x∈l,(-9223372036854775808<=x.1/\x.1<9223372036854775808)/\(0<=x.2.1/\x.2.1<18446744073709551616)/\0<=x.2.2/\x.2.2<18446744073709551616
theorem OTL.gw {w w':World} {ao:Option Addr} {l:List (Int×Int×Int)} (h:OTL w ao l) (g:Gw w w'):OTL w' ao l :=
 ⟨fun h0=>by
  obtain ⟨b,off,e,hb,hc⟩:=h.cells h0;exact ⟨b,off,e,Nat.lt_of_lt_of_le hb g.size,fun i x hx=>by
   obtain ⟨c0,c1,c2⟩:=hc i x hx;exact ⟨(g.cell _ _ hb).trans c0,(g.cell _ _ hb).trans c1,(g.cell _ _ hb).trans c2⟩⟩,h.bd⟩
def kindV (n:Int):Int:=(if n<0 then -(n+1) else n)%8
theorem kind16 (n:Int) (h0:-9223372036854775808<=n) (h1:n<9223372036854775808) (w:World) :
  Calls prog 14 #[.int .i64 n] w fun e w'=>e=.returned (.int .i64 (kindV n))/\w'=w:=by
 by_cases c:n<0
 ·have t1:decide (n<0)=true:=by simpa using c
  have w1:IntKind.i64.wrap (n+1)=n+1:=by rw [IntKind.wrap_i64];omega
  have w2:IntKind.i64.wrap (-(n+1))=-(n+1):=by rw [IntKind.wrap_i64];omega
  have w4:Int.tmod (-(n+1)) 8=(-(n+1))%8:=Int.tmod_eq_emod_of_nonneg (by omega)
  have w6:IntKind.i64.wrap ((-(n+1))%8)=(-(n+1))%8:=by rw [IntKind.wrap_i64];omega
  have R:kindV n=(-(n+1))%8:=by unfold kindV;rw [if_pos c]
  rw [R];clear R c;go_enter func14,ntmps14;go_wp2_with fail;go_ret;exact ⟨by first | rfl | (simp only [go_sem];rw [w4]) | rw [w4,w6] | simp [go_sem,w4,w6],rfl⟩
 ·have t1:decide (n<0)=false:=by simpa using c
  have w4:Int.tmod n 8=n%8:=Int.tmod_eq_emod_of_nonneg (by omega)
  have w6:IntKind.i64.wrap (n%8)=n%8:=by rw [IntKind.wrap_i64];omega
  have R:kindV n=n%8:=by unfold kindV;rw [if_neg c]
  rw [R];clear R c;go_enter func14,ntmps14;go_wp2_with fail;go_ret;exact ⟨by first | rfl | (simp only [go_sem];rw [w4]) | rw [w4,w6] | simp [go_sem,w4,w6],rfl⟩
def hiv (v:Int):Int:=(v/18446744073709551616+9223372036854775808)%18446744073709551616-9223372036854775808
def lov (v:Int):Int:=v%18446744073709551616
theorem hiv_bd (v:Int):-9223372036854775808<=hiv v/\hiv v<9223372036854775808:=by
 unfold hiv;omega
theorem lov_bd (v:Int):0<=lov v/\lov v<18446744073709551616:=by
 unfold lov;omega
def sv (v:Int):Int:=hiv v*18446744073709551616+lov v
theorem sv_eq (v:Int):sv v=(v+170141183460469231731687303715884105728)%340282366920938463463374607431768211456-170141183460469231731687303715884105728:=by
 unfold sv hiv lov;omega
theorem sv_of (v:Int) (h0:-170141183460469231731687303715884105728<=v) (h1:v<170141183460469231731687303715884105728):sv v=v:=by
 rw [sv_eq];omega
theorem times_lo (a b:Int):IntKind.u64.wrap a*b%18446744073709551616=lov (a*b):=by
 rw [IntKind.wrap_u64];unfold lov;exact (by rw [Int.mul_emod (a%18446744073709551616) b,Int.emod_emod_of_dvd a (Int.dvd_refl _),<-Int.mul_emod])
theorem times_hi (a b:Int) (h0:-9223372036854775808<=a) (h1:a<9223372036854775808) (hn:a<0) :
  wrap64 (IntKind.u64.wrap (IntKind.u64.wrap a*b/18446744073709551616-b))=hiv (a*b):=by
 have e:IntKind.u64.wrap a=a+18446744073709551616:=by rw [IntKind.wrap_u64];omega
 rw [e,Int.add_mul,IntKind.wrap_u64];generalize a*b=p;unfold wrap64 hiv;omega
theorem times_hi' (a b:Int):wrap64 (a*b/18446744073709551616)=hiv (a*b):=by
 unfold wrap64 hiv;omega
def cmpi (a b:Int):Int:=if a<b then -1 else if a=b then 0 else 1
theorem sv_inj (x y:Int):(hiv x=hiv y/\lov x=lov y)↔sv x=sv y:=by
 unfold sv;have:=lov_bd x;have:=lov_bd y;constructor
 ·intro ⟨a,b⟩;rw [a,b]
 ·intro h;omega
theorem sv_lt (x y:Int):sv x<sv y↔(hiv x<hiv y\/(hiv x=hiv y/\lov x<lov y)):=by
 unfold sv;have:=lov_bd x;have:=lov_bd y;omega
def dg (x:Int) (i:Nat):Int:=x/65536^i%65536
def cr (x y:Int) (k:Nat):Int:=(x%65536^k+y%65536^k)/65536^k
theorem pw (k:Nat):(0:Int)<65536^k:=Int.pow_pos (by decide)
def mc (a y:Int) (k:Nat):Int:=a*(y%65536^k)/65536^k
theorem p2 (k:Nat):(0:Int)<2^k:=Int.pow_pos (by decide)
def qp (Q:Int) (t:Nat):Int:=Q/2^t*2^t
def rp (u d:Int) (t:Nat):Int:=u/2^t%d
def bt (u:Int) (e:Nat):Int:=u/2^e%2
def sh (f:Nat->Int) (i k:Nat):Int:=f (i+k)
def EndsAt (e:Int) (f:Nat->Int) (n:Nat):Nat->List Nat->Prop
 | i,[]=>i=n
 | i,j::l=>i<j/\j<=n/\FitsOn e (sh f i) (Prs (j-i))/\(j<n->¬ FitsOn e (sh f i) (Prs (j+1-i)))/\EndsAt e f n j l
def EndsR (eps:Int) (f:Nat->Int) (n:Nat) (l:List Nat) (err:Int):Prop :=
 (¬ (2<=eps/\eps<=64)/\l=[]/\err=1)\/((2<=eps/\eps<=64)/\¬ Up f n/\l=[]/\err=60)\/((2<=eps/\eps<=64)/\Up f n/\EndsAt (eps-1) f n 0 l/\err=0)
theorem sh_up {f:Nat->Int} {n i j:Nat} (u:Up f n) (h:j<=n):Up (sh f i) (j-i):=fun k hk=>u (i+k) (by omega)
theorem EndsAt.len {e:Int} {f:Nat->Int} {n:Nat}:∀ {i:Nat} {l:List Nat},EndsAt e f n i l->i+l.length<=n:=by
 intro i l;induction l generalizing i with
 | nil=>intro h;have h':i=n:=h;simp;omega
 | cons j l ih =>
  rintro ⟨h1,h2,_,_,h5⟩;have:=ih h5;simp only [List.length_cons];omega
theorem EndsAt.nonempty {e:Int} {f:Nat->Int} {n i:Nat} {l:List Nat} (h:EndsAt e f n i l) (hi:i<n):l≠[]:=by
 intro q;subst q;have h':i=n:=h;omega
def starts (i:Nat) (l:List Nat) (t:Nat):Nat:=match t with | 0=>i | t+1=>l.getD t 0
theorem EndsAt.step {e:Int} {f:Nat->Int} {n:Nat}:∀ {i:Nat} {l:List Nat},EndsAt e f n i l->∀ t,t<l.length->starts i l t<l.getD t 0/\l.getD t 0<=n/\FitsOn e (sh f (starts i l t)) (Prs (l.getD t 0-starts i l t))/\(l.getD t 0<n->¬ FitsOn e (sh f (starts i l t)) (Prs (l.getD t 0+1-starts i l t)))/\EndsAt e f n (l.getD t 0) (l.drop (t+1)):=by
 intro i l;induction l generalizing i with
 | nil=>intro _ t ht;simp at ht
 | cons j l ih =>
  rintro ⟨h1,h2,h3,h4,h5⟩ t ht;cases t with
  | zero=>exact ⟨h1,h2,h3,h4,h5⟩
  | succ t =>
   have:=ih h5 t (by simpa using ht)
   cases t with
   | zero=>exact this
   | succ t=>exact this
theorem EndsAt.last {e:Int} {f:Nat->Int} {n:Nat} {i:Nat} {l:List Nat} (h:EndsAt e f n i l) (t:Nat) (ht:t<l.length):l.getD t 0=n↔t+1=l.length:=by
 have s:=(h.step t ht).2.2.2.2;constructor
 ·intro q
  rw [q] at s;have:=s.len;simp at this;omega
 ·intro q
  have:l.drop (t+1)=[]:=by rw [q];simp
  rw [this] at s;exact s
theorem EndsAt.few {e:Int} {f:Nat->Int} {n:Nat} (he:0<=e) (u:Up f n) {i:Nat} {l:List Nat} (h:EndsAt e f n i l) (t:Nat) (ht:t<l.length) (hl:l.getD t 0<n):(2*e+1:Int)<=(l.getD t 0:Int)-starts i l t:=by
 obtain ⟨h1,h2,h3,h4,_⟩:=h.step t ht;by_cases q:((l.getD t 0+1-starts i l t:Nat):Int)<=2*e+1
 ·exact absurd (few_fit he (sh_up u (by omega)) q) (h4 hl)
 ·omega
theorem EndsAt.count {e:Int} {f:Nat->Int} {n:Nat} (he:0<=e) (u:Up f n):∀ {i:Nat} {l:List Nat},EndsAt e f n i l->i<n->((l.length:Int)-1)*(2*e+1)+1<=(n:Int)-i:=by
 intro i l;induction l generalizing i with
 | nil=>intro h hi;have h':i=n:=h;omega
 | cons j l ih =>
  intro h hi;by_cases hj:j<n
  ·have k:=h.few he u 0 (by simp) hj
   have k':(2*e+1:Int)<=(j:Int)-i:=k;have:=ih h.2.2.2.2 hj;simp only [List.length_cons];have e1:(((l.length+1:Nat):Int)-1)*(2*e+1)=((l.length:Int)-1)*(2*e+1)+(2*e+1):=by
    rw [show ((l.length+1:Nat):Int)-1=((l.length:Int)-1)+1 by omega,Int.add_mul,Int.one_mul]
   omega
  ·have ej:j=n:=by have:=h.2.1;omega
   have h5:=h.2.2.2.2;rw [ej] at h5;have:l=[]:=by
    cases l with
    | nil=>rfl
    | cons a l=>have:=h5.1;have:=h5.2.1;omega
   subst this;simp;omega
theorem blk_set16 {w:World} {b o:Nat} {vs:Array Value} {t:TypeId} (h:w.heap[b]?=some (.cells vs t (0,0))) {u:Value}:(w.setCell ⟨b,o,none⟩ u).heap[b]?=some (.cells (vs.setIfInBounds o u) t (0,0)):=by simp [World.setCell,Array.getElem?_modify,h]
abbrev CfgOk (eps buf keys:Int):Prop:=(2<=eps/\eps<=64)/\(1<=buf/\buf<=4294967296)/\(1<=keys/\keys<=4294967296)/\2*keys+buf<=4294967296
def cfgE (eps buf keys:Int):Int:=if CfgOk eps buf keys then 0 else 160
def sizeB (n:Int):Bool:=decide (1<=n)&&decide (n<=4294967296)
theorem isSize16 (n:Int) (w:World):Calls prog 28 #[.int .i64 n] w fun e w'=>e=.returned (.bool (sizeB n))/\w'=w:=by
 by_cases a:1<=n
 ·by_cases b:n<=4294967296
  ·have t1:decide (1<=n)=true:=by simpa using a
   have t2:decide (n<=4294967296)=true:=by simpa using b
   have R:sizeB n=true:=by simp [sizeB,t1,t2]
   rw [R];clear R;go_enter func28,ntmps28;go_wp2_with fail;go_ret;exact ⟨rfl,rfl⟩
  ·have t1:decide (1<=n)=true:=by simpa using a
   have t2:decide (n<=4294967296)=false:=by simpa using b
   have R:sizeB n=false:=by simp [sizeB,t2]
   rw [R];clear R;go_enter func28,ntmps28;go_wp2_with fail;go_ret;exact ⟨rfl,rfl⟩
 ·have t1:decide (1<=n)=false:=by simpa using a
  have R:sizeB n=false:=by simp [sizeB,t1]
  rw [R];clear R;go_enter func28,ntmps28;go_wp2_with fail;go_ret;exact ⟨rfl,rfl⟩
theorem check16 (eps buf keys:Int) (w:World):Calls prog 9 #[.agg #[.int .i64 eps,.int .i64 buf,.int .i64 keys]] w fun e w'=>e=.returned (.int .i64 (cfgE eps buf keys))/\Gw w w':=by
 by_cases e1:eps<2
 ·have t1:decide (eps<2)=true:=by simpa using e1
  have R:cfgE eps buf keys=160:=if_neg fun h=>by obtain ⟨⟨h1,h2⟩,⟨h3,h4⟩,⟨h5,h6⟩,h7⟩:=h;omega
  rw [R];clear R;clear e1;go_enter func9,ntmps9;go_wp2_with fail;go_ret;exact ⟨rfl,(Gw.refl w).alloc _ _⟩
 ·have t1:decide (eps<2)=false:=by simpa using e1
  by_cases e2:64<eps
  ·have t2:decide (64<eps)=true:=by simpa using e2
   have R:cfgE eps buf keys=160:=if_neg fun h=>by obtain ⟨⟨h1,h2⟩,⟨h3,h4⟩,⟨h5,h6⟩,h7⟩:=h;omega
   rw [R];clear R;clear e1 e2;go_enter func9,ntmps9;go_wp2_with fail;go_ret;exact ⟨rfl,(Gw.refl w).alloc _ _⟩
  ·have t2:decide (64<eps)=false:=by simpa using e2
   by_cases e3:1<=buf/\buf<=4294967296
   ·have S1:∀ w:World,Calls prog 28 #[.int .i64 buf] w fun e w'=>e=.returned (.bool true)/\w'=w:=fun w=>by have:=isSize16 buf w;rwa [show sizeB buf=true by simp [sizeB,e3.1,e3.2]] at this
    by_cases e4:1<=keys/\keys<=4294967296
    ·have S2:∀ w:World,Calls prog 28 #[.int .i64 keys] w fun e w'=>e=.returned (.bool true)/\w'=w:=fun w=>by have:=isSize16 keys w;rwa [show sizeB keys=true by simp [sizeB,e4.1,e4.2]] at this
     have w1:IntKind.i64.wrap (2*keys)=2*keys:=by rw [IntKind.wrap_i64];omega
     have w2:IntKind.i64.wrap (2*keys+buf)=2*keys+buf:=by rw [IntKind.wrap_i64];omega
     by_cases e5:4294967296<2*keys+buf
     ·have t5:decide (4294967296<2*keys+buf)=true:=by simpa using e5
      have R:cfgE eps buf keys=160:=if_neg fun h=>by obtain ⟨⟨h1,h2⟩,⟨h3,h4⟩,⟨h5,h6⟩,h7⟩:=h;omega
      rw [R];clear R;clear e1 e2 e3 e4 e5;go_enter func9,ntmps9;go_wp2_with fail;refine (S1 _).mono ?_;rintro e u ⟨rfl,hw⟩;have hw2:=hw.symm;subst hw2;clear hw;go_wp2_with fail;refine (S2 _).mono ?_;rintro e u ⟨rfl,hw⟩;have hw2:=hw.symm;subst hw2;clear hw;go_wp2_with fail;go_ret;exact ⟨rfl,(Gw.refl w).alloc _ _⟩
     ·have t5:decide (4294967296<2*keys+buf)=false:=by simpa using e5
      have R:cfgE eps buf keys=0:=if_pos ⟨⟨by omega,by omega⟩,e3,e4,by omega⟩
      rw [R];clear R e1 e2 e3 e4 e5;go_enter func9,ntmps9;go_wp2_with fail;refine (S1 _).mono ?_;rintro e u ⟨rfl,hw⟩;have hw2:=hw.symm;subst hw2;clear hw;go_wp2_with fail;refine (S2 _).mono ?_;rintro e u ⟨rfl,hw⟩;have hw2:=hw.symm;subst hw2;clear hw;go_wp2_with fail;go_ret;exact ⟨rfl,(Gw.refl w).alloc _ _⟩
    ·have S2:∀ w:World,Calls prog 28 #[.int .i64 keys] w fun e w'=>e=.returned (.bool false)/\w'=w:=fun w=>by have:=isSize16 keys w;rwa [show sizeB keys=false by simp only [sizeB,Bool.and_eq_false_iff,decide_eq_false_iff_not];omega] at this
     have R:cfgE eps buf keys=160:=if_neg fun h=>by obtain ⟨⟨h1,h2⟩,⟨h3,h4⟩,⟨h5,h6⟩,h7⟩:=h;omega
     rw [R];clear R;clear e1 e2 e3 e4;go_enter func9,ntmps9;go_wp2_with fail;refine (S1 _).mono ?_;rintro e u ⟨rfl,hw⟩;have hw2:=hw.symm;subst hw2;clear hw;go_wp2_with fail;refine (S2 _).mono ?_;rintro e u ⟨rfl,hw⟩;have hw2:=hw.symm;subst hw2;clear hw;go_wp2_with fail;go_ret;exact ⟨rfl,(Gw.refl w).alloc _ _⟩
   ·have S1:∀ w:World,Calls prog 28 #[.int .i64 buf] w fun e w'=>e=.returned (.bool false)/\w'=w:=fun w=>by have:=isSize16 buf w;rwa [show sizeB buf=false by simp only [sizeB,Bool.and_eq_false_iff,decide_eq_false_iff_not];omega] at this
    have R:cfgE eps buf keys=160:=if_neg fun h=>by obtain ⟨⟨h1,h2⟩,⟨h3,h4⟩,⟨h5,h6⟩,h7⟩:=h;omega
    rw [R];clear R;clear e1 e2 e3;go_enter func9,ntmps9;go_wp2_with fail;refine (S1 _).mono ?_;rintro e u ⟨rfl,hw⟩;have hw2:=hw.symm;subst hw2;clear hw;go_wp2_with fail;go_ret;exact ⟨rfl,(Gw.refl w).alloc _ _⟩
theorem rcheck16 (eps buf keys:Int) (w:World):Calls prog 10 #[.agg #[.int .i64 eps,.int .i64 buf,.int .i64 keys]] w fun e w'=>e=.returned (.int .i64 (cfgE eps buf keys))/\Gw w w':=by
 by_cases e1:eps<2
 ·have te1:decide (eps<2)=true:=by simpa using e1
  have R:cfgE eps buf keys=160:=if_neg fun h=>by obtain ⟨⟨h1,h2⟩,⟨h3,h4⟩,⟨h5,h6⟩,h7⟩:=h;omega
  rw [R];clear R;clear e1;go_enter func10,ntmps10;go_wp2_with fail;go_ret;exact ⟨rfl,(Gw.refl w).alloc _ _⟩
 ·have te1:decide (eps<2)=false:=by simpa using e1
  by_cases e2:64<eps
  ·have te2:decide (64<eps)=true:=by simpa using e2
   have R:cfgE eps buf keys=160:=if_neg fun h=>by obtain ⟨⟨h1,h2⟩,⟨h3,h4⟩,⟨h5,h6⟩,h7⟩:=h;omega
   rw [R];clear R;clear e1 e2;go_enter func10,ntmps10;go_wp2_with fail;go_ret;exact ⟨rfl,(Gw.refl w).alloc _ _⟩
  ·have te2:decide (64<eps)=false:=by simpa using e2
   by_cases e3:buf<1
   ·have te3:decide (buf<1)=true:=by simpa using e3
    have R:cfgE eps buf keys=160:=if_neg fun h=>by obtain ⟨⟨h1,h2⟩,⟨h3,h4⟩,⟨h5,h6⟩,h7⟩:=h;omega
    rw [R];clear R;clear e1 e2 e3;go_enter func10,ntmps10;go_wp2_with fail;go_ret;exact ⟨rfl,(Gw.refl w).alloc _ _⟩
   ·have te3:decide (buf<1)=false:=by simpa using e3
    by_cases e4:4294967296<buf
    ·have te4:decide (4294967296<buf)=true:=by simpa using e4
     have R:cfgE eps buf keys=160:=if_neg fun h=>by obtain ⟨⟨h1,h2⟩,⟨h3,h4⟩,⟨h5,h6⟩,h7⟩:=h;omega
     rw [R];clear R;clear e1 e2 e3 e4;go_enter func10,ntmps10;go_wp2_with fail;go_ret;exact ⟨rfl,(Gw.refl w).alloc _ _⟩
    ·have te4:decide (4294967296<buf)=false:=by simpa using e4
     by_cases e5:keys<1
     ·have te5:decide (keys<1)=true:=by simpa using e5
      have R:cfgE eps buf keys=160:=if_neg fun h=>by obtain ⟨⟨h1,h2⟩,⟨h3,h4⟩,⟨h5,h6⟩,h7⟩:=h;omega
      rw [R];clear R;clear e1 e2 e3 e4 e5;go_enter func10,ntmps10;go_wp2_with fail;go_ret;exact ⟨rfl,(Gw.refl w).alloc _ _⟩
     ·have te5:decide (keys<1)=false:=by simpa using e5
      by_cases e6:4294967296<keys
      ·have te6:decide (4294967296<keys)=true:=by simpa using e6
       have R:cfgE eps buf keys=160:=if_neg fun h=>by obtain ⟨⟨h1,h2⟩,⟨h3,h4⟩,⟨h5,h6⟩,h7⟩:=h;omega
       rw [R];clear R;clear e1 e2 e3 e4 e5 e6;go_enter func10,ntmps10;go_wp2_with fail;go_ret;exact ⟨rfl,(Gw.refl w).alloc _ _⟩
      ·have te6:decide (4294967296<keys)=false:=by simpa using e6
       have w1:IntKind.i64.wrap (2*keys)=2*keys:=by rw [IntKind.wrap_i64];omega
       have w2:IntKind.i64.wrap (2*keys+buf)=2*keys+buf:=by rw [IntKind.wrap_i64];omega
       by_cases e7:4294967296<2*keys+buf
       ·have t7:decide (4294967296<2*keys+buf)=true:=by simpa using e7
        have R:cfgE eps buf keys=160:=if_neg fun h=>by obtain ⟨⟨h1,h2⟩,⟨h3,h4⟩,⟨h5,h6⟩,h7⟩:=h;omega
        rw [R];clear R;clear e1 e2 e3 e4 e5 e6 e7;go_enter func10,ntmps10;go_wp2_with fail;go_ret;exact ⟨rfl,(Gw.refl w).alloc _ _⟩
       ·have t7:decide (4294967296<2*keys+buf)=false:=by simpa using e7
        have R:cfgE eps buf keys=0:=if_pos ⟨⟨by omega,by omega⟩,⟨by omega,by omega⟩,⟨by omega,by omega⟩,by omega⟩
        rw [R];clear R e1 e2 e3 e4 e5 e6 e7;go_enter func10,ntmps10;go_wp2_with fail;go_ret;exact ⟨rfl,(Gw.refl w).alloc _ _⟩
end Go.Proofs.YtemijdhemdhclaaGreat
