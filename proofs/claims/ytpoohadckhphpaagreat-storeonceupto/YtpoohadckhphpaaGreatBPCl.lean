/- lay: a point more, and those that it can't touch any more gone. -/
import Derived.Deep.AppendLies
import Derived.Deep.CondSized
import Derived.Deep.RegionLaw
import Derived.Test.YtpoohadckhphpaaGreatBR4Add
import Derived.Test.YtpoohadckhphpaaGreatBPY1
import Derived.Test.YtpoohadckhphpaaGreatBPCt
set_option linter.unusedVariables false
namespace Go.Proofs.YtpoohadckhphpaaGreat
open Go.RowKit
def Blk (w:World) (p:Nat) (B:Array Value) (t:TypeId):Prop:=w.heap[p]?=some (.cells B t (0,0))
def pcells (f:Nat->Int) (c:Nat->Nat) (h:Int):Nat->List Value
 | 0=>[]
 | m+1=>pcells f c h m++[.int .u64 (f (c m)),.int .i64 ((c m:Int)+h)]
def PL (e:Int) (f:Nat->Int) (n:Nat) (x xa ya:Int):Prop:=∃ t,t<n/\xa=f t/\ya=(t:Int)+e/\∀ j,j<n->((n:Int)-j-2*e)*(x-f t)<=((n:Int)-t-2*e)*(x-f j)
def PT (e:Int) (f:Nat->Int) (n:Nat) (x xa ya:Int):Prop:=∃ t,t<n/\xa=f t/\ya=(t:Int)-e/\∀ j,j<n->((n:Int)-t+2*e)*(x-f j)<=((n:Int)-j+2*e)*(x-f t)
def fcells (e:Int) (n:Nat) (lr lf mr mf:Int) (v0 v1:Value):Array Value:=#[.int .i64 e,.int .i64 n,.int .i64 lr,.int .u64 lf,.int .i64 mr,.int .u64 mf,.int .i64 (-1),v0,.int .i64 1,v1]
structure SB (lr lf mr mf:Int):Prop where
 l0:0<=lr
 l1:lr<=10000000
 l2:0<=lf
 l3:lf<18446744073709551616
 m0:0<=mr
 m1:mr<=10000000
 m2:0<=mf
 m3:mf<18446744073709551616
structure FT (w:World) (p:Nat) (v0 v1:Value) (e:Int) (n:Nat) (f:Nat->Int) (lr lf mr mf:Int) (m0 m1:Nat) (c0 c1:Nat->Nat):Prop where
 blk:Blk w p (fcells e n lr lf mr mf v0 v1) 277
 own0:w.ownsRow 0 292 2 v0 m0 (pcells f c0 (-e) m0)
 own1:w.ownsRow 0 292 2 v1 m1 (pcells f c1 e m1)
 ne0:∀ q,v0.ownBlock=some q->q≠p
 ne1:∀ q,v1.ownBlock=some q->q≠p
 ne:∀ q,v0.ownBlock=some q->v1.ownBlock=some q->False
 z:n=0->v0=.slice none 0 0/\v1=.slice none 0 0
 ch0:0<n->Chn f (fun j=>-1*(j:Int)) n m0 c0
 ch1:0<n->Chn f (fun j=>1*(j:Int)) n m1 c1
 up:Up f n
 bd:∀ i,i<n->0<=f i/\f i<18446744073709551616
 low:LowU e f (Prs n) lr lf
 top:TopU e f (Prs n) mr mf
 fit:FitsOn e f (Prs n)
 e1:1<=e/\e<=63
 sb:SB lr lf mr mf
structure LS (w:World) (ao:Option Addr) (l:List Nat):Prop where
 cells:0<l.length->∃ b off,ao=some ⟨b,off,none⟩/\b<w.heap.size/\∀ i,i<l.length->w.cell? ⟨b,off+i,none⟩=some (.int .i64 ((l.getD i 0:Nat):Int))
end Go.Proofs.YtpoohadckhphpaaGreat
