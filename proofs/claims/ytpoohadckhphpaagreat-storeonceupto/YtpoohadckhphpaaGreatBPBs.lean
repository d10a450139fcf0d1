/- What every walk here keeps: old memory as it was. -/
import Derived.BigQuiet
import Derived.Deep.LoopGhost
import Derived.Deep.OwnRows
import Derived.Deep.QuietTactic
import Derived.Deep.RegionHeld3
import Derived.Laws.CopyRow
import Derived.Laws.Pointers
import Derived.OwnWalk
import Derived.RowKit3
import Derived.StillTactics
import Derived.Test.YtpoohadckhphpaaGreatRows
import Derived.WalkKit
import Derived.WalkLawsBesides
import Derived.WalkSpells
import Init
set_option linter.unusedVariables false
set_option maxHeartbeats 2000000
set_option maxRecDepth 10000
open Go.Proofs.Tryz
namespace Go.Proofs.YtpoohadckhphpaaGreat
open Go.RowKit
structure Gb (w w':World):Prop where
 below:Below w.heap.size w w'
 frozen:∀ a,w'.frozen? a=w.frozen? a
theorem frozen?_new (w:World) (b o:Nat) (h:w.heap.size<=b):w.frozen? ⟨b,o,none⟩=false:=by
 have e:w.heap[b]?=none:=by simp;omega
 simp [World.frozen?,e]
structure H2 (w:World) (b:Nat) (u v:Value):Prop where
 lt:b<w.heap.size
 c0:w.cell? ⟨b,0,none⟩=some u
 c1:w.cell? ⟨b,1,none⟩=some v
def Up (f:Nat->Int) (n:Nat):Prop:=∀ j,j+1<n->f j<f (j+1)
theorem Up.lt {f:Nat->Int} {n:Nat} (h:Up f n):∀ {a b:Nat},a<b->b<n->f a<f b:=by
 intro a b hab hb;induction b with
 | zero=>omega
 | succ b ih =>
  have h1:=h b hb;by_cases e:a=b
  ·subst e;exact h1
  ·have h2:=ih (by omega) (by omega)
   omega
theorem Up.le {f:Nat->Int} {n:Nat} (h:Up f n) {a b:Nat} (hab:a<=b) (hb:b<n):f a<=f b:=by
 by_cases e:a=b
 ·subst e;omega
 ·have:=h.lt (show a<b by omega) hb;omega
def ChkR (k v:Nat->Int) (g:Nat->Bool) (n:Nat) (e:Int):Prop :=
 (e=0/\Up k n/\∀ j,j<n->¬ (g j=true/\v j≠0)) \/
 (e=30/\∃ i,i+1<n/\Up k (i+1)/\(∀ j,j<i+1->¬ (g j=true/\v j≠0))/\k (i+1)<=k i) \/
 (e=31/\∃ i,i<n/\Up k (i+1)/\(∀ j,j<i->¬ (g j=true/\v j≠0))/\(g i=true/\v i≠0))
theorem ChkR.ok {k v:Nat->Int} {g:Nat->Bool} {n:Nat} (u:Up k n) (b:∀ j,j<n->¬ (g j=true/\v j≠0)):ChkR k v g n 0:=.inl ⟨rfl,u,b⟩
theorem ChkR.order {k v:Nat->Int} {g:Nat->Bool} {n:Nat} (i:Nat) (hi:i+1<n) (u:Up k (i+1)) (b:∀ j,j<i+1->¬ (g j=true/\v j≠0)) (d:k (i+1)<=k i):ChkR k v g n 30:=.inr (.inl ⟨rfl,i,hi,u,b,d⟩)
theorem ChkR.gone {k v:Nat->Int} {g:Nat->Bool} {n:Nat} (i:Nat) (hi:i<n) (u:Up k (i+1)) (b:∀ j,j<i->¬ (g j=true/\v j≠0)) (d:g i=true/\v i≠0):ChkR k v g n 31:=.inr (.inr ⟨rfl,i,hi,u,b,d⟩)
theorem ChkR.one {k v:Nat->Int} {g:Nat->Bool} {n:Nat} {e e':Int} (h:ChkR k v g n e) (h':ChkR k v g n e'):e=e':=by
 rcases h with ⟨e1,u,b⟩ | ⟨e1,i,hi,u,b,d⟩ | ⟨e1,i,hi,u,b,d⟩
 ·rcases h' with ⟨e2,u',b'⟩ | ⟨e2,i,hi,u',b',d⟩ | ⟨e2,i,hi,u',b',d⟩
  ·omega
  ·have:=u i hi;omega
  ·exact absurd d (b i hi)
 ·rcases h' with ⟨e2,u',b'⟩ | ⟨e2,j,hj,u',b',d'⟩ | ⟨e2,j,hj,u',b',d'⟩
  ·have:=u' i hi;omega
  ·omega
  ·rcases Nat.lt_or_ge j (i+1) with hh | hh
   ·exact absurd d' (b j hh)
   ·have:=u' i (by omega);omega
 ·rcases h' with ⟨e2,u',b'⟩ | ⟨e2,j,hj,u',b',d'⟩ | ⟨e2,j,hj,u',b',d'⟩
  ·exact absurd d (b' i hi)
  ·rcases Nat.lt_or_ge i (j+1) with hh | hh
   ·exact absurd d (b' i hh)
   ·have:=u j (by omega);omega
  ·omega
theorem ChkR.zero {k v:Nat->Int} {g:Nat->Bool} {n:Nat} {e:Int} (h:ChkR k v g n e):e=0↔(Up k n/\∀ j,j<n->¬ (g j=true/\v j≠0)):=by
 constructor
 ·intro e0
  rcases h with ⟨_,u,b⟩ | ⟨e1,_⟩ | ⟨e1,_⟩
  ·exact ⟨u,b⟩
  ·omega
  ·omega
 ·intro ⟨u,b⟩
  exact h.one (.ok u b)
def lv (g:Nat->Bool):Nat->Nat
 | 0=>0
 | n+1=>lv g n+(if g n=true then 0 else 1)
theorem lv_le (g:Nat->Bool) (n:Nat):lv g n<=n:=by
 induction n with
 | zero=>simp [lv]
 | succ n ih=>simp only [lv];split<;>omega
structure Gw (w w':World):Prop where
 below:Below w.heap.size w w'
theorem Gw.refl (w:World):Gw w w:=⟨Below.refl _ _⟩
theorem Gw.trans {a b c:World} (h:Gw a b) (k:Gw b c):Gw a c :=
 ⟨h.below.trans (k.below.mono h.below.size)⟩
theorem Gw.alloc {a w:World} (h:Gw a w) (c:Array Value) (t:TypeId):Gw a (w.alloc (.cells c t)) :=
 ⟨h.below.alloc h.below.size _⟩
theorem Gw.setCell {a w:World} (h:Gw a w) {p:Addr} (hp:a.heap.size<=p.block) (v:Value):Gw a (w.setCell p v) :=
 ⟨h.below.setCell hp v⟩
theorem Gw.drew {a w:World} (h:Gw a w):Gw a w.drew:=⟨h.below.drew⟩
theorem Gw.drewN {a w:World} (h:Gw a w) (n:Nat):Gw a (w.drewN n):=by
 obtain ⟨q1⟩:=h;exact ⟨q1.trans ⟨rfl,rfl,rfl,Nat.le_refl _,fun _ _=>rfl⟩⟩
theorem Gw.grown {a w w':World} {row:Option Nat} (h:Gw a w) (g:w.grownBy w' row) (hr:∀ k,row=some k->a.heap.size<=k):Gw a w' :=
 ⟨h.below.grown g h.below.size hr⟩
theorem Gw.cell {w w':World} (h:Gw w w') (b o:Nat) (hb:b<w.heap.size):w'.cell? ⟨b,o,none⟩=w.cell? ⟨b,o,none⟩:=h.below.cell (p:=⟨b,o,none⟩) hb
theorem Gw.size {w w':World} (h:Gw w w'):w.heap.size<=w'.heap.size:=h.below.size
structure KS (w:World) (ao:Option Addr) (n:Nat) (f:Nat->Int):Prop where
 cells:0<n->∃ b off,ao=some ⟨b,off,none⟩/\b<w.heap.size/\∀ i,i<n->w.cell? ⟨b,off+i,none⟩=some (.int .u64 (f i))
 bd:∀ i,i<n->0<=f i/\f i<18446744073709551616
theorem KS.gw {w w':World} {ao:Option Addr} {n:Nat} {f:Nat->Int} (h:KS w ao n f) (g:Gw w w'):KS w' ao n f :=
 ⟨fun hn=>by
  obtain ⟨b,off,e,hb,hc⟩:=h.cells hn;exact ⟨b,off,e,Nat.lt_of_lt_of_le hb g.size,fun i hi=>(g.cell b (off+i) hb).trans (hc i hi)⟩,h.bd⟩
theorem wrap_nat (m:Nat) (h:m<4611686018427387904):IntKind.i64.wrap (m:Int)=m:=by rw [IntKind.wrap_i64];omega
theorem rowIs_gb {w w':World} {b t n:Nat} {f:Nat->Value} (h:w.rowIs b t n f) (g:Gw w w'):w'.rowIs b t n f:=h.of_block (g.below.block _ h.lt)
theorem info_k:(prog.info? 37).map (fun i=>(i.zero,i.size,i.bytes))=some (some (.int .u64 0),1,8):=by kernel_rfl
theorem wpList_append_src {P:Program} (w:World) {ops:Array Oper} {rest:List Oper} {o:Oper} {a:Act} {Q:Exit->Act->World->Prop} (hgd:o.guard=none) (s x:Operand) (t:TypeId)
  (ho:o.op=.call { callee:=.builtin .append,args:=#[s,x],argTypes:=#[t,t] })
  (base:Nat) (e:TypeId) (i:TypeInfo) (z:Value) (size bytes:Nat) (ht:P.underlying t=some (.slice e)) (hi:P.info? e=some i) (hz:i.zero=some z)
  (hsize:i.size=size) (hby:i.bytes=bytes) (hzs:z.cells.size=size) (hsz:0<size)
  (v:Value) (n:Nat) (xs:List Value) (hs:a.eval s=v) (hown:w.ownsRow base e size v n xs)
  (ao:Option Addr) (m c:Nat) (news:List Value) (hx:a.eval x=.slice ao m c) (hnone:ao=none->m=0/\c=0) (hl:news.length=m*size) (hnews:∀ ad,ao=some ad->∀ j u,news[j]?=some u->w.cell? (ad.add j)=some u) (h1:∀ u∈news,u.oneCell'=true)
  (h63:n+m<=maxLen) (hbytes:(n+m)*bytes<=140737488355328) (hbase:base<=w.heap.size)
  (h:∀ v' w',w'.ownsRow base e size v' (n+m) (xs++news)->w.grownBy w' v.ownBlock->(v'=.slice none 0 0↔v=.slice none 0 0/\m=0)->wpList P ops Q rest (a.put o.dst v') w'):wpList P ops Q (o::rest) a w:=by
 cases ao with
 | some ad=>exact wpList_append_own w hgd s x t ho base e i z size bytes ht hi hz hsize hby hzs hsz v n xs hs hown ad m c news hx hl (hnews ad rfl) h1 h63 hbytes hbase h
 | none =>
  obtain ⟨rfl,rfl⟩:=hnone rfl;have hn:news=[]:=List.eq_nil_of_length_eq_zero (by simpa using hl)
  subst hn;refine wpList_plain hgd fun K hK'=>?_
  have hrun:=run_append_owned_none (P:=P) w base t o.type e i size ht hi v n xs hown;unfold Oper.wp;simp [execOp,ho,resolve,invoke,builtin,hs,hx,hrun,Result.andThen];exact hK' _ _ (by simpa using h v w (by simpa using hown) (World.grownBy.refl _ _) (by simp))
theorem own_slice {w:World} {base e size n:Nat} {v:Value} {xs:List Value} (h:w.ownsRow base e size v n xs) (hv:¬ v=.slice none 0 0):∃ g cap,v=.slice (some ⟨g,0,none⟩) n cap/\base<=g/\n<=cap/\g<w.heap.size:=by
 rcases h.2 with ⟨e,_⟩ | ⟨g,cap,cur,rfl,hg,hh,hnc,_⟩
 ·exact absurd e hv
 ·exact ⟨g,cap,rfl,hg,hnc,(Array.getElem?_eq_some_iff.1 hh).1⟩
theorem ks_own {w:World} {base g n cap:Nat} {f:Nat->Int} {xs:List Value} {m:Nat} (h:w.ownsRow base 37 1 (.slice (some ⟨g,0,none⟩) m cap) m xs) (hn:n<=m) (hx:∀ i,i<n->xs[i]?=some (.int .u64 (f i))) (bd:∀ i,i<n->0<=f i/\f i<18446744073709551616):KS w (some ⟨g,0,none⟩) n f :=
 ⟨fun h0=>⟨g,0,rfl,(h.lt g rfl).2,fun i hi=>by rw [Nat.zero_add,h.cellAt i (by omega),hx i hi]⟩,bd⟩
theorem new_one (w:World) (x:Int):∀ j u,[Value.int .u64 x][j]?=some u->(w.alloc (.cells #[.int .u64 x] 37)).cell? ((⟨w.heap.size,0,none⟩:Addr).add j)=some u:=by
 intro j u hu;cases j with
 | zero =>
  simp only [List.getElem?_cons_zero,Option.some.injEq] at hu;subst hu;simp [Addr.add,go_sem]
 | succ j=>simp at hu
structure LowOn (e:Int) (f:Nat->Int) (S:Nat->Nat->Prop) (a b:Int):Prop where
 a0:0<=a
 b1:1<=b
 low:Int.gcd a b=1
 bound:∀ i j,S i j->((j:Int)-i-2*e)*b<=a*(f j-f i)
 att:a=0\/∃ i j,S i j/\0<(j:Int)-i-2*e/\((j:Int)-i-2*e)*b=a*(f j-f i)
def FitsOn (e:Int) (f:Nat->Int) (S:Nat->Nat->Prop):Prop :=
 ∀ i j i' j',S i j->S i' j'->((j:Int)-i-2*e)*(f j'-f i')<=((j':Int)-i'+2*e)*(f j-f i)
def Prs (n:Nat) (i j:Nat):Prop:=i<j/\j<n
structure BaseR (e:Int) (f:Nat->Int) (n:Nat) (a b c:Int):Prop where
 ge:∀ i,i<n->(i:Int)-e<=a*(f i-f 0)/b+c
 att:∃ i,i<n/\(i:Int)-e=a*(f i-f 0)/b+c
def OfR (eps:Int) (f:Nat->Int) (n:Nat) (a b c err:Int):Prop :=
 (¬ (2<=eps/\eps<=64)/\a=0/\b=0/\c=0/\err=1) \/
 ((2<=eps/\eps<=64)/\¬ (0<n/\Up f n)/\a=0/\b=0/\c=0/\err=50) \/
 ((2<=eps/\eps<=64)/\(0<n/\Up f n)/\¬ FitsOn (eps-1) f (Prs n)/\a=0/\b=0/\c=0/\err=51) \/
 ((2<=eps/\eps<=64)/\(0<n/\Up f n)/\FitsOn (eps-1) f (Prs n)/\LowOn (eps-1) f (Prs n) a b/\BaseR (eps-1) f n a b c/\err=0)
def GW (W:World):Type:={ w':World // Gb W w' }
def GX (W:World):Type:={ w':World // Gw W w' }
theorem GX.cell {W:World} {b o:Nat} {v:Value} (h:W.cell? ⟨b,o,none⟩=some v) (hb:b<W.heap.size):∀ g:GX W,g.1.cell? ⟨b,o,none⟩=some v :=
 fun g=>(g.2.cell b o hb).trans h
theorem GX.gw {W:World} (g:GX W):Gw W g.1:=g.2
theorem GX.some (W:World):Nonempty (GX W):=⟨⟨W,Gw.refl W⟩⟩
theorem wp_region_growx {P:Program} {id:Nat} {Q:Exit->Act->World->Prop} {a:Act} {w:World} {l:List Oper} (hm:P.follows .mixedOrders=true) (hB:Region.lexB .any l.toArray=true)
  (h:wpQuiet P l.toArray (fun w'=>∃ g:GX w,w'=g.1) (fun a'=>∀ w',(∃ g:GX w,w'=g.1)->Q .normal a' w') l a):(Code.region id l.toArray true).wp P Q a w :=
 wp_region_quiet (C:=fun w'=>∃ g:GX w,w'=g.1) hm hB ⟨⟨_,(Gw.refl w).drew⟩,rfl⟩ (by simpa using h)
theorem growx_of {P:Program} {f:FuncId} {args:Array Value} {W:World} {g:GX W} {v:Value}
  (h:Calls P f args g.1 fun e w'=>e=.returned v/\Gw g.1 w'):Calls P f args g.1 fun e w''=>e=.returned v/\∃ g':GX W,w''=g'.1 :=
 h.mono fun _ _ ⟨he,hm⟩=>⟨he,⟨_,g.2.trans hm⟩,rfl⟩
theorem rrising_any (ao:Option Addr) (n c:Nat) (f:Nat->Int) (hn:n<4611686018427387904) (w:World) (h:KS w ao n f) :
  Calls prog 132 #[.slice ao n c] w fun e w'=>(∃ r:Bool,e=.returned (.bool r)/\(r=true↔Up f n))/\Gw w w':=by
 go_enter func132,ntmps132;go_wp2_with fail;go_loopg [3] n (fun gg s3 wr=>∃ i:Nat,s3=.int .i64 i/\1<=i/\(i<=n\/i=1)/\n-i<=gg/\Aside (∀ j,j+1<i->f j<f (j+1))/\Aside (Gw w wr))
 case atStart=>exact ⟨1,rfl,Nat.le_refl _,.inr rfl,by omega,fun j hj=>by omega,Gw.refl w⟩
 case round =>
  obtain ⟨i,rfl,h1,h2,h3,H4,G⟩:=hrel;by_cases hlt:i<n
  ·obtain ⟨b,off,rfl,hb,hc⟩:=(h.gw G.out).cells (by omega)
   obtain ⟨m,hm⟩:∃ m:Nat,(i:Int)-1=m:=⟨i-1,by omega⟩
   have hmn:m<n:=by omega
   have hw:=wrap_nat m (by omega)
   have c1:=hc i hlt;have c0:=hc m hmn;clear hc;generalize hy1:f i=y1 at c1;generalize hy0:f m=y0 at c0;have Y:Aside (f i=y1/\f m=y0/\i=m+1):=⟨hy1,hy0,by omega⟩
   clear hy1 hy0 h h2;by_cases hle:y1<=y0
   ·go_wp2_with fail
    go_quiet (fail);go_wp2_with fail
    go_ret
    obtain ⟨e1,e2,e3⟩:=Y.out;refine ⟨⟨false,rfl,⟨fun hh=>Bool.noConfusion hh,fun hu=>?_⟩⟩,G.out.drewN _⟩
    have:=hu m (by omega)
    rw [<-e3,e1,e2] at this;omega
   ·go_wp2_with fail
    go_quiet (fail);go_wp2_with fail
    go_roundg (n-(m+2))
    case measure=>omega
    case rel =>
     obtain ⟨e1,e2,e3⟩:=Y.out;refine ⟨m+2,by go_num,by omega,by omega,Nat.le_refl _,(show Aside _ from fun j hj=>?_),(show Aside _ from G.out.drewN _)⟩
     by_cases hj':j=m
     ·subst hj';rw [e2,<-e3,e1];omega
     ·exact H4.out j (by omega)
  ·go_wp2_with fail
   go_ret
   exact ⟨⟨true,rfl,⟨fun _ j hj=>H4.out j (by omega),fun _=>rfl⟩⟩,G.out⟩
def sh (f:Nat->Int) (i k:Nat):Int:=f (i+k)
theorem sh_up {f:Nat->Int} {n i j:Nat} (u:Up f n) (h:j<=n):Up (sh f i) (j-i):=fun k hk=>u (i+k) (by omega)
def numR (f:Nat->Int) (o:Nat):Nat->Int
 | 0=>0
 | k+1=>numR f o k*256+f (o+k)
def byt (n:Int) (i:Nat):Int:=n/256^i%256
theorem numR_bd {f:Nat->Int} {o:Nat}:∀ {k:Nat},(∀ i,i<k->0<=f (o+i)/\f (o+i)<256)->0<=numR f o k/\numR f o k<256^k:=by
 intro k;induction k with
 | zero=>intro _;exact ⟨Int.le_refl _,by show (0:Int)<256^0;rw [Int.pow_zero];decide⟩
 | succ k ih =>
  intro h;obtain ⟨a,b⟩:=ih fun i hi=>h i (by omega)
  obtain ⟨c,d⟩:=h k (by omega)
  have e:(256:Int)^(k+1)=256^k*256:=Int.pow_succ _ _;show 0<=numR f o k*256+f (o+k)/\numR f o k*256+f (o+k)<256^(k+1);rw [e];omega
theorem numR_congr {f g:Nat->Int} {o o':Nat}:∀ {k:Nat},(∀ i,i<k->f (o+i)=g (o'+i))->numR f o k=numR g o' k:=by
 intro k;induction k with
 | zero=>intro _;rfl
 | succ k ih =>
  intro h;show numR f o k*256+f (o+k)=numR g o' k*256+g (o'+k);rw [ih fun i hi=>h i (by omega),h k (by omega)]
def hiv (v:Int):Int:=(v/18446744073709551616+9223372036854775808)%18446744073709551616-9223372036854775808
def lov (v:Int):Int:=v%18446744073709551616
def sv (v:Int):Int:=hiv v*18446744073709551616+lov v
def cr (x y:Int) (k:Nat):Int:=(x%65536^k+y%65536^k)/65536^k
theorem pw (k:Nat):(0:Int)<65536^k:=Int.pow_pos (by decide)
def mc (a y:Int) (k:Nat):Int:=a*(y%65536^k)/65536^k
theorem p2 (k:Nat):(0:Int)<2^k:=Int.pow_pos (by decide)
def qp (Q:Int) (t:Nat):Int:=Q/2^t*2^t
def rp (u d:Int) (t:Nat):Int:=u/2^t%d
def bt (u:Int) (e:Nat):Int:=u/2^e%2
theorem blk_set16 {w:World} {b o:Nat} {vs:Array Value} {t:TypeId} (h:w.heap[b]?=some (.cells vs t (0,0))) {u:Value}:(w.setCell ⟨b,o,none⟩ u).heap[b]?=some (.cells (vs.setIfInBounds o u) t (0,0)):=by simp [World.setCell,Array.getElem?_modify,h]
abbrev CfgOk (eps buf keys:Int):Prop:=(2<=eps/\eps<=64)/\(1<=buf/\buf<=4294967296)/\(1<=keys/\keys<=4294967296)/\2*keys+buf<=4294967296
def cfgE (eps buf keys:Int):Int:=if CfgOk eps buf keys then 0 else 160
def sizeB (n:Int):Bool:=decide (1<=n)&&decide (n<=4294967296)
theorem isSize16 (n:Int) (w:World):Calls prog 72 #[.int .i64 n] w fun e w'=>e=.returned (.bool (sizeB n))/\w'=w:=by
 by_cases a:1<=n
 ·by_cases b:n<=4294967296
  ·have t1:decide (1<=n)=true:=by simpa using a
   have t2:decide (n<=4294967296)=true:=by simpa using b
   have R:sizeB n=true:=by simp [sizeB,t1,t2]
   rw [R];clear R;go_enter func72,ntmps72;go_wp2_with fail;go_ret;exact ⟨rfl,rfl⟩
  ·have t1:decide (1<=n)=true:=by simpa using a
   have t2:decide (n<=4294967296)=false:=by simpa using b
   have R:sizeB n=false:=by simp [sizeB,t2]
   rw [R];clear R;go_enter func72,ntmps72;go_wp2_with fail;go_ret;exact ⟨rfl,rfl⟩
 ·have t1:decide (1<=n)=false:=by simpa using a
  have R:sizeB n=false:=by simp [sizeB,t1]
  rw [R];clear R;go_enter func72,ntmps72;go_wp2_with fail;go_ret;exact ⟨rfl,rfl⟩
theorem check16 (eps buf keys:Int) (w:World):Calls prog 41 #[.agg #[.int .i64 eps,.int .i64 buf,.int .i64 keys]] w fun e w'=>e=.returned (.int .i64 (cfgE eps buf keys))/\Gw w w':=by
 by_cases e1:eps<2
 ·have t1:decide (eps<2)=true:=by simpa using e1
  have R:cfgE eps buf keys=160:=if_neg fun h=>by obtain ⟨⟨h1,h2⟩,⟨h3,h4⟩,⟨h5,h6⟩,h7⟩:=h;omega
  rw [R];clear R;clear e1;go_enter func41,ntmps41;go_wp2_with fail;go_ret;exact ⟨rfl,(Gw.refl w).alloc _ _⟩
 ·have t1:decide (eps<2)=false:=by simpa using e1
  by_cases e2:64<eps
  ·have t2:decide (64<eps)=true:=by simpa using e2
   have R:cfgE eps buf keys=160:=if_neg fun h=>by obtain ⟨⟨h1,h2⟩,⟨h3,h4⟩,⟨h5,h6⟩,h7⟩:=h;omega
   rw [R];clear R;clear e1 e2;go_enter func41,ntmps41;go_wp2_with fail;go_ret;exact ⟨rfl,(Gw.refl w).alloc _ _⟩
  ·have t2:decide (64<eps)=false:=by simpa using e2
   by_cases e3:1<=buf/\buf<=4294967296
   ·have S1:∀ w:World,Calls prog 72 #[.int .i64 buf] w fun e w'=>e=.returned (.bool true)/\w'=w:=fun w=>by have:=isSize16 buf w;rwa [show sizeB buf=true by simp [sizeB,e3.1,e3.2]] at this
    by_cases e4:1<=keys/\keys<=4294967296
    ·have S2:∀ w:World,Calls prog 72 #[.int .i64 keys] w fun e w'=>e=.returned (.bool true)/\w'=w:=fun w=>by have:=isSize16 keys w;rwa [show sizeB keys=true by simp [sizeB,e4.1,e4.2]] at this
     have w1:IntKind.i64.wrap (2*keys)=2*keys:=by rw [IntKind.wrap_i64];omega
     have w2:IntKind.i64.wrap (2*keys+buf)=2*keys+buf:=by rw [IntKind.wrap_i64];omega
     by_cases e5:4294967296<2*keys+buf
     ·have t5:decide (4294967296<2*keys+buf)=true:=by simpa using e5
      have R:cfgE eps buf keys=160:=if_neg fun h=>by obtain ⟨⟨h1,h2⟩,⟨h3,h4⟩,⟨h5,h6⟩,h7⟩:=h;omega
      rw [R];clear R;clear e1 e2 e3 e4 e5;go_enter func41,ntmps41;go_wp2_with fail;refine (S1 _).mono ?_;rintro e u ⟨rfl,hw⟩;have hw2:=hw.symm;subst hw2;clear hw;go_wp2_with fail;refine (S2 _).mono ?_;rintro e u ⟨rfl,hw⟩;have hw2:=hw.symm;subst hw2;clear hw;go_wp2_with fail;go_ret;exact ⟨rfl,(Gw.refl w).alloc _ _⟩
     ·have t5:decide (4294967296<2*keys+buf)=false:=by simpa using e5
      have R:cfgE eps buf keys=0:=if_pos ⟨⟨by omega,by omega⟩,e3,e4,by omega⟩
      rw [R];clear R e1 e2 e3 e4 e5;go_enter func41,ntmps41;go_wp2_with fail;refine (S1 _).mono ?_;rintro e u ⟨rfl,hw⟩;have hw2:=hw.symm;subst hw2;clear hw;go_wp2_with fail;refine (S2 _).mono ?_;rintro e u ⟨rfl,hw⟩;have hw2:=hw.symm;subst hw2;clear hw;go_wp2_with fail;go_ret;exact ⟨rfl,(Gw.refl w).alloc _ _⟩
    ·have S2:∀ w:World,Calls prog 72 #[.int .i64 keys] w fun e w'=>e=.returned (.bool false)/\w'=w:=fun w=>by have:=isSize16 keys w;rwa [show sizeB keys=false by simp only [sizeB,Bool.and_eq_false_iff,decide_eq_false_iff_not];omega] at this
     have R:cfgE eps buf keys=160:=if_neg fun h=>by obtain ⟨⟨h1,h2⟩,⟨h3,h4⟩,⟨h5,h6⟩,h7⟩:=h;omega
     rw [R];clear R;clear e1 e2 e3 e4;go_enter func41,ntmps41;go_wp2_with fail;refine (S1 _).mono ?_;rintro e u ⟨rfl,hw⟩;have hw2:=hw.symm;subst hw2;clear hw;go_wp2_with fail;refine (S2 _).mono ?_;rintro e u ⟨rfl,hw⟩;have hw2:=hw.symm;subst hw2;clear hw;go_wp2_with fail;go_ret;exact ⟨rfl,(Gw.refl w).alloc _ _⟩
   ·have S1:∀ w:World,Calls prog 72 #[.int .i64 buf] w fun e w'=>e=.returned (.bool false)/\w'=w:=fun w=>by have:=isSize16 buf w;rwa [show sizeB buf=false by simp only [sizeB,Bool.and_eq_false_iff,decide_eq_false_iff_not];omega] at this
    have R:cfgE eps buf keys=160:=if_neg fun h=>by obtain ⟨⟨h1,h2⟩,⟨h3,h4⟩,⟨h5,h6⟩,h7⟩:=h;omega
    rw [R];clear R;clear e1 e2 e3;go_enter func41,ntmps41;go_wp2_with fail;refine (S1 _).mono ?_;rintro e u ⟨rfl,hw⟩;have hw2:=hw.symm;subst hw2;clear hw;go_wp2_with fail;go_ret;exact ⟨rfl,(Gw.refl w).alloc _ _⟩
theorem rcheck16 (eps buf keys:Int) (w:World):Calls prog 89 #[.agg #[.int .i64 eps,.int .i64 buf,.int .i64 keys]] w fun e w'=>e=.returned (.int .i64 (cfgE eps buf keys))/\Gw w w':=by
 by_cases e1:eps<2
 ·have te1:decide (eps<2)=true:=by simpa using e1
  have R:cfgE eps buf keys=160:=if_neg fun h=>by obtain ⟨⟨h1,h2⟩,⟨h3,h4⟩,⟨h5,h6⟩,h7⟩:=h;omega
  rw [R];clear R;clear e1;go_enter func89,ntmps89;go_wp2_with fail;go_ret;exact ⟨rfl,(Gw.refl w).alloc _ _⟩
 ·have te1:decide (eps<2)=false:=by simpa using e1
  by_cases e2:64<eps
  ·have te2:decide (64<eps)=true:=by simpa using e2
   have R:cfgE eps buf keys=160:=if_neg fun h=>by obtain ⟨⟨h1,h2⟩,⟨h3,h4⟩,⟨h5,h6⟩,h7⟩:=h;omega
   rw [R];clear R;clear e1 e2;go_enter func89,ntmps89;go_wp2_with fail;go_ret;exact ⟨rfl,(Gw.refl w).alloc _ _⟩
  ·have te2:decide (64<eps)=false:=by simpa using e2
   by_cases e3:buf<1
   ·have te3:decide (buf<1)=true:=by simpa using e3
    have R:cfgE eps buf keys=160:=if_neg fun h=>by obtain ⟨⟨h1,h2⟩,⟨h3,h4⟩,⟨h5,h6⟩,h7⟩:=h;omega
    rw [R];clear R;clear e1 e2 e3;go_enter func89,ntmps89;go_wp2_with fail;go_ret;exact ⟨rfl,(Gw.refl w).alloc _ _⟩
   ·have te3:decide (buf<1)=false:=by simpa using e3
    by_cases e4:4294967296<buf
    ·have te4:decide (4294967296<buf)=true:=by simpa using e4
     have R:cfgE eps buf keys=160:=if_neg fun h=>by obtain ⟨⟨h1,h2⟩,⟨h3,h4⟩,⟨h5,h6⟩,h7⟩:=h;omega
     rw [R];clear R;clear e1 e2 e3 e4;go_enter func89,ntmps89;go_wp2_with fail;go_ret;exact ⟨rfl,(Gw.refl w).alloc _ _⟩
    ·have te4:decide (4294967296<buf)=false:=by simpa using e4
     by_cases e5:keys<1
     ·have te5:decide (keys<1)=true:=by simpa using e5
      have R:cfgE eps buf keys=160:=if_neg fun h=>by obtain ⟨⟨h1,h2⟩,⟨h3,h4⟩,⟨h5,h6⟩,h7⟩:=h;omega
      rw [R];clear R;clear e1 e2 e3 e4 e5;go_enter func89,ntmps89;go_wp2_with fail;go_ret;exact ⟨rfl,(Gw.refl w).alloc _ _⟩
     ·have te5:decide (keys<1)=false:=by simpa using e5
      by_cases e6:4294967296<keys
      ·have te6:decide (4294967296<keys)=true:=by simpa using e6
       have R:cfgE eps buf keys=160:=if_neg fun h=>by obtain ⟨⟨h1,h2⟩,⟨h3,h4⟩,⟨h5,h6⟩,h7⟩:=h;omega
       rw [R];clear R;clear e1 e2 e3 e4 e5 e6;go_enter func89,ntmps89;go_wp2_with fail;go_ret;exact ⟨rfl,(Gw.refl w).alloc _ _⟩
      ·have te6:decide (4294967296<keys)=false:=by simpa using e6
       have w1:IntKind.i64.wrap (2*keys)=2*keys:=by rw [IntKind.wrap_i64];omega
       have w2:IntKind.i64.wrap (2*keys+buf)=2*keys+buf:=by rw [IntKind.wrap_i64];omega
       by_cases e7:4294967296<2*keys+buf
       ·have t7:decide (4294967296<2*keys+buf)=true:=by simpa using e7
        have R:cfgE eps buf keys=160:=if_neg fun h=>by obtain ⟨⟨h1,h2⟩,⟨h3,h4⟩,⟨h5,h6⟩,h7⟩:=h;omega
        rw [R];clear R;clear e1 e2 e3 e4 e5 e6 e7;go_enter func89,ntmps89;go_wp2_with fail;go_ret;exact ⟨rfl,(Gw.refl w).alloc _ _⟩
       ·have t7:decide (4294967296<2*keys+buf)=false:=by simpa using e7
        have R:cfgE eps buf keys=0:=if_pos ⟨⟨by omega,by omega⟩,⟨by omega,by omega⟩,⟨by omega,by omega⟩,by omega⟩
        rw [R];clear R e1 e2 e3 e4 e5 e6 e7;go_enter func89,ntmps89;go_wp2_with fail;go_ret;exact ⟨rfl,(Gw.refl w).alloc _ _⟩
end Go.Proofs.YtpoohadckhphpaaGreat
