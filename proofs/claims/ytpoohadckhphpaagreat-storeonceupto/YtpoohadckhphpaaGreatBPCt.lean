/- Chains of points that bend one way, in plain words: which point a new one touches, and what the chain is when it is laid down. -/
import Derived.Shelf.Bits.Mul64
import Derived.Shelf.Small.Bits
import Derived.Shelf.Strconv.Itoa0
import Derived.Test.YtpoohadckhphpaaGreatProg
import Derived.Test.YtpoohadckhphpaaGreatBPBs
set_option linter.unusedVariables false
namespace Go.Proofs.YtpoohadckhphpaaGreat
structure Chn (X g:Nat->Int) (n m:Nat) (c:Nat->Nat):Prop where
 pos:0<m
 first:c 0=0
 last:c (m-1)+1=n
 up:∀ i,i+1<m->c i<c (i+1)
 abv:∀ i j,i+1<m->j<n->(g (c (i+1))-g (c i))*(X j-X (c i))<=(g j-g (c i))*(X (c (i+1))-X (c i))
structure LowU (e:Int) (f:Nat->Int) (S:Nat->Nat->Prop) (a b:Int):Prop where
 a0:0<=a
 b1:1<=b
 bound:∀ i j,S i j->((j:Int)-i-2*e)*b<=a*(f j-f i)
 att:a=0\/∃ i j,S i j/\0<(j:Int)-i-2*e/\((j:Int)-i-2*e)*b=a*(f j-f i)
def TopU (e:Int) (f:Nat->Int) (S:Nat->Nat->Prop) (a b:Int):Prop :=
 (a=1/\b=0/\∀ i j,¬ S i j) \/
 (1<=a/\1<=b/\(∀ i j,S i j->a*(f j-f i)<=((j:Int)-i+2*e)*b)/\∃ i j,S i j/\a*(f j-f i)=((j:Int)-i+2*e)*b)
open Go.RowKit Go.Shelf
open Go.RowKit
structure PS (w:World) (g m:Nat) (X Y:Nat->Int):Prop where
 lt:g<w.heap.size
 x:∀ i,i<m->w.cell? ⟨g,i*2,none⟩=some (.int .u64 (X i))
 y:∀ i,i<m->w.cell? ⟨g,i*2+1,none⟩=some (.int .i64 (Y i))
structure Two (w W:World) (a0 a1 b0 b1:Value):Prop where
 gw:Gw w W
 a0:W.cell? ⟨w.heap.size,0,none⟩=some a0
 a1:W.cell? ⟨w.heap.size,1,none⟩=some a1
 b0:W.cell? ⟨w.heap.size+1,0,none⟩=some b0
 b1:W.cell? ⟨w.heap.size+1,1,none⟩=some b1
 size:W.heap.size=w.heap.size+2
structure CH (w:World) (p o g m cap:Nat) (s h:Int) (f:Nat->Int) (n:Nat) (c:Nat->Nat):Prop where
 lp:p<w.heap.size
 c0:w.cell? ⟨p,o,none⟩=some (.int .i64 s)
 c1:w.cell? ⟨p,o+1,none⟩=some (.slice (some ⟨g,0,none⟩) m cap)
 ps:PS w g m (fun i=>f (c i)) (fun i=>(c i:Int)+h)
 ch:Chn f (fun j=>s*(j:Int)) n m c
structure KB (f:Nat->Int) (n:Nat):Prop where
 up:Up f n
 bd:∀ i,i<n->0<=f i/\f i<18446744073709551616
 len:n<=3000001
end Go.Proofs.YtpoohadckhphpaaGreat
